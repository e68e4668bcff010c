/- LAYER 6's walks: readPart. · LAYER 6's walks: parse, Parse. -/
import Derived.Test.YtllgkofibkobnaaDoorR11
namespace Go.Proofs.YtllgkofibkobnaaDoor
open Go.ChangeShapes Go.WideShapes Go.ChangeAt Go.RowKit

theorem isMark_c (p : Int) (b : Bool) (h0 : 0 ≤ p) (h1 : p < 128) (hb : decide (0 ≤ Lib.indexByte [44, 40, 41] p.toNat.toUInt8) = b) (w : World) :
    Calls Tryd.prog 56 #[.string ⟨#[44, 40, 41]⟩, .int .i32 p] w fun e w' => e = .returned (.bool b) ∧ w' = w := by
  rw [← hb]
  exact Any.strings_ContainsRune_ascii Tryd.lays151 ⟨#[44, 40, 41]⟩ p w h0 h1
/-- A mark. -/
theorem readMark_yes {p : UInt8} {l r : List UInt8} (hp : p ∈ ([44, 40, 41] : List UInt8)) (h : Asm.trimB l = p :: r) (b : Nat) (w : World) :
    Calls Tryd.prog 44 #[.pointer (some ⟨b, 0, none⟩), .int .i32 p.toNat, .string (bs l)] w fun e w' => e = .returned (.tuple #[.string (bs r), .bool true, .bool true]) ∧ Bw w w' := by
  have hT := trimBlanks_c l w
  rw [h] at hT
  have hC := fun w => CutPrefix_yes (l := p :: r) (c := p) rfl w
  rw [List.tail_cons] at hC
  simp only [List.mem_cons, List.not_mem_nil, or_false] at hp
  rcases hp with rfl | rfl | rfl
  · have hM := isMark_c 44 true (by decide) (by decide) (by decide) w
    go_enter Tryd.func44, Tryd.ntmps44
    go_wp2_with (first
      | (go_at_call 56; refine hM.mono ?_; rintro e w' ⟨rfl, rfl⟩)
      | (go_at_call 36; refine hT.mono ?_; rintro e w1 ⟨rfl, hb1⟩)
      | (go_at_call 59; refine (hC _).mono ?_; rintro e w' ⟨rfl, rfl⟩))
    go_returns
    exact ⟨rfl, hb1⟩
  · have hM := isMark_c 40 true (by decide) (by decide) (by decide) w
    go_enter Tryd.func44, Tryd.ntmps44
    go_wp2_with (first
      | (go_at_call 56; refine hM.mono ?_; rintro e w' ⟨rfl, rfl⟩)
      | (go_at_call 36; refine hT.mono ?_; rintro e w1 ⟨rfl, hb1⟩)
      | (go_at_call 59; refine (hC _).mono ?_; rintro e w' ⟨rfl, rfl⟩))
    go_returns
    exact ⟨rfl, hb1⟩
  · have hM := isMark_c 41 true (by decide) (by decide) (by decide) w
    go_enter Tryd.func44, Tryd.ntmps44
    go_wp2_with (first
      | (go_at_call 56; refine hM.mono ?_; rintro e w' ⟨rfl, rfl⟩)
      | (go_at_call 36; refine hT.mono ?_; rintro e w1 ⟨rfl, hb1⟩)
      | (go_at_call 59; refine (hC _).mono ?_; rintro e w' ⟨rfl, rfl⟩))
    go_returns
    exact ⟨rfl, hb1⟩
theorem readMark_no {p : UInt8} {l : List UInt8} (hp : p ∈ ([44, 40, 41] : List UInt8)) (h : (Asm.trimB l).head? ≠ some p) (b : Nat) (w : World) :
    Calls Tryd.prog 44 #[.pointer (some ⟨b, 0, none⟩), .int .i32 p.toNat, .string (bs l)] w fun e w' => e = .returned (.tuple #[.string (bs (Asm.trimB l)), .bool false, .bool true]) ∧ Bw w w' := by
  have hT := trimBlanks_c l w
  have hC := fun w => CutPrefix_no (l := Asm.trimB l) (c := p) h w
  clear h
  simp only [List.mem_cons, List.not_mem_nil, or_false] at hp
  rcases hp with rfl | rfl | rfl
  · have hM := isMark_c 44 true (by decide) (by decide) (by decide) w
    go_enter Tryd.func44, Tryd.ntmps44
    go_wp2_with (first
      | (go_at_call 56; refine hM.mono ?_; rintro e w' ⟨rfl, rfl⟩)
      | (go_at_call 36; refine hT.mono ?_; rintro e w1 ⟨rfl, hb1⟩)
      | (go_at_call 59; refine (hC _).mono ?_; rintro e w' ⟨rfl, rfl⟩))
    go_returns
    exact ⟨rfl, hb1⟩
  · have hM := isMark_c 40 true (by decide) (by decide) (by decide) w
    go_enter Tryd.func44, Tryd.ntmps44
    go_wp2_with (first
      | (go_at_call 56; refine hM.mono ?_; rintro e w' ⟨rfl, rfl⟩)
      | (go_at_call 36; refine hT.mono ?_; rintro e w1 ⟨rfl, hb1⟩)
      | (go_at_call 59; refine (hC _).mono ?_; rintro e w' ⟨rfl, rfl⟩))
    go_returns
    exact ⟨rfl, hb1⟩
  · have hM := isMark_c 41 true (by decide) (by decide) (by decide) w
    go_enter Tryd.func44, Tryd.ntmps44
    go_wp2_with (first
      | (go_at_call 56; refine hM.mono ?_; rintro e w' ⟨rfl, rfl⟩)
      | (go_at_call 36; refine hT.mono ?_; rintro e w1 ⟨rfl, hb1⟩)
      | (go_at_call 59; refine (hC _).mono ?_; rintro e w' ⟨rfl, rfl⟩))
    go_returns
    exact ⟨rfl, hb1⟩
theorem Asm.word_len (l : List UInt8) : (Asm.word l).length + (Asm.rest l).length ≤ l.length := by
  have h1 := congrArg List.length (Asm.word_rest l)
  have h2 := congrArg List.length (List.takeWhile_append_dropWhile (p := Asm.bl) (l := l))
  rw [List.length_append] at h1 h2
  have : (Asm.trimB l).length = (l.dropWhile Asm.bl).length := rfl
  omega
/-- A register. -/
theorem readReg_100 {l : List UInt8} (hl : l.length < 4294967281) (b : Nat) (i : Rv.Ins) (w : World) (hi : IW w b i) :
    Calls Tryd.prog 44 #[.pointer (some ⟨b, 0, none⟩), .int .i32 100, .string (bs l)] w fun e w' => e = .returned (.tuple #[.string (bs (Asm.rest l)), .bool (Asm.regOk (Asm.word l)), .bool true]) ∧ IW w' b ⟨i.op, Asm.reg (Asm.word l), i.rs1, i.rs2, i.imm⟩ ∧ Bx b w w' := by
  have hM := isMark_c 100 false (by decide) (by decide) (by decide) w
  have hC := cutWord_c l w hl
  have hR := fun w => registerOf_c (Asm.word l) w (by have := Asm.word_len l; omega)
  generalize Asm.reg (Asm.word l) = R at *
  generalize Asm.regOk (Asm.word l) = k at *
  go_enter Tryd.func44, Tryd.ntmps44
  go_wp2_with (first
    | (go_at_call 56; refine hM.mono ?_; rintro e w' ⟨rfl, rfl⟩)
    | (go_at_call 34; refine hC.mono ?_; rintro e w1 ⟨rfl, hb1⟩)
    | (go_at_call 62; refine (hR _).mono ?_; rintro e w2 ⟨rfl, hb2⟩; obtain ⟨⟨c0, c1, c2, c3, c4⟩, fz⟩ := hi.bw (hb1.trans hb2)))
  go_returns
  exact ⟨rfl, IW.rd ⟨⟨c0, c1, c2, c3, c4⟩, fz⟩ R, ((hb1.trans hb2).bx b).set _ _⟩
/-- A register. -/
theorem readReg_115 {l : List UInt8} (hl : l.length < 4294967281) (b : Nat) (i : Rv.Ins) (w : World) (hi : IW w b i) :
    Calls Tryd.prog 44 #[.pointer (some ⟨b, 0, none⟩), .int .i32 115, .string (bs l)] w fun e w' => e = .returned (.tuple #[.string (bs (Asm.rest l)), .bool (Asm.regOk (Asm.word l)), .bool true]) ∧ IW w' b ⟨i.op, i.rd, Asm.reg (Asm.word l), i.rs2, i.imm⟩ ∧ Bx b w w' := by
  have hM := isMark_c 115 false (by decide) (by decide) (by decide) w
  have hC := cutWord_c l w hl
  have hR := fun w => registerOf_c (Asm.word l) w (by have := Asm.word_len l; omega)
  generalize Asm.reg (Asm.word l) = R at *
  generalize Asm.regOk (Asm.word l) = k at *
  go_enter Tryd.func44, Tryd.ntmps44
  go_wp2_with (first
    | (go_at_call 56; refine hM.mono ?_; rintro e w' ⟨rfl, rfl⟩)
    | (go_at_call 34; refine hC.mono ?_; rintro e w1 ⟨rfl, hb1⟩)
    | (go_at_call 62; refine (hR _).mono ?_; rintro e w2 ⟨rfl, hb2⟩; obtain ⟨⟨c0, c1, c2, c3, c4⟩, fz⟩ := hi.bw (hb1.trans hb2)))
  go_returns
  exact ⟨rfl, IW.rs1 ⟨⟨c0, c1, c2, c3, c4⟩, fz⟩ R, ((hb1.trans hb2).bx b).set _ _⟩
/-- A register. -/
theorem readReg_116 {l : List UInt8} (hl : l.length < 4294967281) (b : Nat) (i : Rv.Ins) (w : World) (hi : IW w b i) :
    Calls Tryd.prog 44 #[.pointer (some ⟨b, 0, none⟩), .int .i32 116, .string (bs l)] w fun e w' => e = .returned (.tuple #[.string (bs (Asm.rest l)), .bool (Asm.regOk (Asm.word l)), .bool true]) ∧ IW w' b ⟨i.op, i.rd, i.rs1, Asm.reg (Asm.word l), i.imm⟩ ∧ Bx b w w' := by
  have hM := isMark_c 116 false (by decide) (by decide) (by decide) w
  have hC := cutWord_c l w hl
  have hR := fun w => registerOf_c (Asm.word l) w (by have := Asm.word_len l; omega)
  generalize Asm.reg (Asm.word l) = R at *
  generalize Asm.regOk (Asm.word l) = k at *
  go_enter Tryd.func44, Tryd.ntmps44
  go_wp2_with (first
    | (go_at_call 56; refine hM.mono ?_; rintro e w' ⟨rfl, rfl⟩)
    | (go_at_call 34; refine hC.mono ?_; rintro e w1 ⟨rfl, hb1⟩)
    | (go_at_call 62; refine (hR _).mono ?_; rintro e w2 ⟨rfl, hb2⟩; obtain ⟨⟨c0, c1, c2, c3, c4⟩, fz⟩ := hi.bw (hb1.trans hb2)))
  go_returns
  exact ⟨rfl, IW.rs2 ⟨⟨c0, c1, c2, c3, c4⟩, fz⟩ R, ((hb1.trans hb2).bx b).set _ _⟩
theorem Asm.ret_sbb {s t : ByteArray} {a b c d : Bool} (h : s = t) (h2 : a = b) (h3 : c = d) : Ending.returned (.tuple #[.string s, .bool a, .bool c]) = .returned (.tuple #[.string t, .bool b, .bool d]) := by rw [h, h2, h3]
theorem Asm.wrap_eq (n : Int) : wrap32 n = Asm.w32 n := by unfold Asm.w32; first | rfl | (unfold wrap32; omega)
/-- A number. -/
theorem readNum_105 {l : List UInt8} (hl : l.length < 4294967281) (b : Nat) (i : Rv.Ins) (w : World) (hi : IW w b i) :
    Calls Tryd.prog 44 #[.pointer (some ⟨b, 0, none⟩), .int .i32 105, .string (bs l)] w fun e w' => e = .returned (.tuple #[.string (bs (Asm.rest l)), .bool (Asm.numOk (Asm.word l)), .bool (decide (Asm.w32 (Asm.num (Asm.word l)) = Asm.num (Asm.word l)))]) ∧ IW w' b ⟨i.op, i.rd, i.rs1, i.rs2, Asm.w32 (Asm.num (Asm.word l))⟩ ∧ Bx b w w' := by
  have hM := isMark_c 105 false (by decide) (by decide) (by decide) w
  have hC := cutWord_c l w hl
  have hR := fun w => numberOf_c (Asm.word l) w (by have := Asm.word_len l; omega)
  obtain ⟨n0, n1⟩ := Asm.num_bd (Asm.word l)
  generalize Asm.num (Asm.word l) = R at *
  generalize Asm.numOk (Asm.word l) = k at *
  go_enter Tryd.func44, Tryd.ntmps44
  go_wp2_with (first
    | (go_at_call 56; refine hM.mono ?_; rintro e w' ⟨rfl, rfl⟩)
    | (go_at_call 34; refine hC.mono ?_; rintro e w1 ⟨rfl, hb1⟩)
    | (go_at_call 35; refine (hR _).mono ?_; rintro e w2 ⟨rfl, hb2⟩; obtain ⟨⟨c0, c1, c2, c3, c4⟩, fz⟩ := hi.bw (hb1.trans hb2)))
  go_region
  go_wp2
  go_returns
  have hI := IW.imm (i := i) ⟨⟨c0, c1, c2, c3, c4⟩, fz⟩ (wrap32 R)
  rw [Asm.wrap_eq] at hI
  have hw : (wrap64 (wrap32 R) == R) = decide (Asm.w32 R = R) := by
    have := Asm.w32_bd R
    rw [Asm.wrap_eq, show wrap64 (Asm.w32 R) = Asm.w32 R by unfold wrap64; omega]
    rw [Bool.eq_iff_iff]; simp
  refine ⟨Asm.ret_sbb rfl rfl hw, ?_, ?_⟩
  · rw [Asm.wrap_eq]; exact hI.drew
  · exact (((hb1.trans hb2).bx b).set _ _).drew
/-- A number. -/
theorem readNum_117 {l : List UInt8} (hl : l.length < 4294967281) (b : Nat) (i : Rv.Ins) (w : World) (hi : IW w b i) :
    Calls Tryd.prog 44 #[.pointer (some ⟨b, 0, none⟩), .int .i32 117, .string (bs l)] w fun e w' => e = .returned (.tuple #[.string (bs (Asm.rest l)), .bool (Asm.numOk (Asm.word l)), .bool (decide (Asm.num (Asm.word l) / 1048576 = 0))]) ∧ IW w' b ⟨i.op, i.rd, i.rs1, i.rs2, Asm.w32 (Asm.num (Asm.word l) * 4096)⟩ ∧ Bx b w w' := by
  have hM := isMark_c 117 false (by decide) (by decide) (by decide) w
  have hC := cutWord_c l w hl
  have hR := fun w => numberOf_c (Asm.word l) w (by have := Asm.word_len l; omega)
  obtain ⟨n0, n1⟩ := Asm.num_bd (Asm.word l)
  generalize Asm.num (Asm.word l) = R at *
  generalize Asm.numOk (Asm.word l) = k at *
  go_enter Tryd.func44, Tryd.ntmps44
  go_wp2_with (first
    | (go_at_call 56; refine hM.mono ?_; rintro e w' ⟨rfl, rfl⟩)
    | (go_at_call 34; refine hC.mono ?_; rintro e w1 ⟨rfl, hb1⟩)
    | (go_at_call 35; refine (hR _).mono ?_; rintro e w2 ⟨rfl, hb2⟩; obtain ⟨⟨c0, c1, c2, c3, c4⟩, fz⟩ := hi.bw (hb1.trans hb2)))
  go_returns
  refine ⟨rfl, ?_, ((hb1.trans hb2).bx b).set _ _⟩
  have := IW.imm (i := i) ⟨⟨c0, c1, c2, c3, c4⟩, fz⟩ (wrap32 (R * 4096))
  rw [Asm.wrap_eq] at this ⊢
  exact this

/-- A word that is such a part. -/
theorem readPart_some {p : UInt8} {l : List UInt8} {i j : Rv.Ins} {h : Bool} (hp : p ∈ ([100, 115, 116, 105, 117] : List UInt8)) (hs : Asm.part p (Asm.word l) i = some (j, h)) (hl : l.length < 4294967281) (b : Nat) (w : World) (hi : IW w b i) :
    Calls Tryd.prog 44 #[.pointer (some ⟨b, 0, none⟩), .int .i32 p.toNat, .string (bs l)] w fun e w' => e = .returned (.tuple #[.string (bs (Asm.rest l)), .bool true, .bool h]) ∧ IW w' b j ∧ Bx b w w' := by
  simp only [List.mem_cons, List.not_mem_nil, or_false] at hp
  rcases hp with rfl | rfl | rfl | rfl | rfl
  · have := readReg_100 hl b i w hi
    by_cases hk : Asm.regOk (Asm.word l) = true
    · simp [Asm.part, hk] at hs
      obtain ⟨rfl, rfl⟩ := hs
      rw [hk] at this; exact this
    · simp [Asm.part, hk] at hs
  · have := readReg_115 hl b i w hi
    by_cases hk : Asm.regOk (Asm.word l) = true
    · simp [Asm.part, hk] at hs
      obtain ⟨rfl, rfl⟩ := hs
      rw [hk] at this; exact this
    · simp [Asm.part, hk] at hs
  · have := readReg_116 hl b i w hi
    by_cases hk : Asm.regOk (Asm.word l) = true
    · simp [Asm.part, hk] at hs
      obtain ⟨rfl, rfl⟩ := hs
      rw [hk] at this; exact this
    · simp [Asm.part, hk] at hs
  · have := readNum_105 hl b i w hi
    by_cases hk : Asm.numOk (Asm.word l) = true
    · simp [Asm.part, hk] at hs
      obtain ⟨rfl, rfl⟩ := hs
      rw [hk] at this; exact this
    · simp [Asm.part, hk] at hs
  · have := readNum_117 hl b i w hi
    by_cases hk : Asm.numOk (Asm.word l) = true
    · simp [Asm.part, hk] at hs
      obtain ⟨rfl, rfl⟩ := hs
      rw [hk] at this; exact this
    · simp [Asm.part, hk] at hs
/-- A word that is none. -/
theorem readPart_none {p : UInt8} {l : List UInt8} {i : Rv.Ins} (hp : p ∈ ([100, 115, 116, 105, 117] : List UInt8)) (hs : Asm.part p (Asm.word l) i = none) (hl : l.length < 4294967281) (b : Nat) (w : World) (hi : IW w b i) :
    Calls Tryd.prog 44 #[.pointer (some ⟨b, 0, none⟩), .int .i32 p.toNat, .string (bs l)] w fun e w' => ∃ s h, e = .returned (.tuple #[.string s, .bool false, .bool h]) ∧ Bx b w w' := by
  simp only [List.mem_cons, List.not_mem_nil, or_false] at hp
  rcases hp with rfl | rfl | rfl | rfl | rfl
  · refine (readReg_100 hl b i w hi).mono ?_
    rintro e w' ⟨rfl, -, hb⟩
    by_cases hk : Asm.regOk (Asm.word l) = true
    · simp [Asm.part, hk] at hs
    · rw [show Asm.regOk (Asm.word l) = false by simpa using hk]; exact ⟨_, _, rfl, hb⟩
  · refine (readReg_115 hl b i w hi).mono ?_
    rintro e w' ⟨rfl, -, hb⟩
    by_cases hk : Asm.regOk (Asm.word l) = true
    · simp [Asm.part, hk] at hs
    · rw [show Asm.regOk (Asm.word l) = false by simpa using hk]; exact ⟨_, _, rfl, hb⟩
  · refine (readReg_116 hl b i w hi).mono ?_
    rintro e w' ⟨rfl, -, hb⟩
    by_cases hk : Asm.regOk (Asm.word l) = true
    · simp [Asm.part, hk] at hs
    · rw [show Asm.regOk (Asm.word l) = false by simpa using hk]; exact ⟨_, _, rfl, hb⟩
  · refine (readNum_105 hl b i w hi).mono ?_
    rintro e w' ⟨rfl, -, hb⟩
    by_cases hk : Asm.numOk (Asm.word l) = true
    · simp [Asm.part, hk] at hs
    · rw [show Asm.numOk (Asm.word l) = false by simpa using hk]; exact ⟨_, _, rfl, hb⟩
  · refine (readNum_117 hl b i w hi).mono ?_
    rintro e w' ⟨rfl, -, hb⟩
    by_cases hk : Asm.numOk (Asm.word l) = true
    · simp [Asm.part, hk] at hs
    · rw [show Asm.numOk (Asm.word l) = false by simpa using hk]; exact ⟨_, _, rfl, hb⟩
end Go.Proofs.YtllgkofibkobnaaDoor
namespace Go.Proofs.YtllgkofibkobnaaDoor
open Go.ChangeShapes Go.WideShapes Go.ChangeAt Go.RowKit

theorem IW.bx {w w' : World} {b c : Nat} {i : Rv.Ins} (h : IW w b i) (g : Bx c w w') (hbc : b ≠ c) : IW w' b i := by
  obtain ⟨⟨c0, c1, c2, c3, c4⟩, fz⟩ := h
  have hb : b < w.heap.size := by
    apply Decidable.byContradiction
    intro hn
    have : w.heap[b]? = none := by simp; omega
    simp [World.cell?, this] at c0
  have hk := g.block b hb hbc
  have hc : ∀ o, w'.cell? ⟨b, o, none⟩ = w.cell? ⟨b, o, none⟩ := fun o => by simp [World.cell?, hk]
  exact ⟨⟨(hc 0).trans c0, (hc 1).trans c1, (hc 2).trans c2, (hc 3).trans c3, (hc 4).trans c4⟩, fun o => (World.frozen?_of_block (w := w) hk).trans (fz o)⟩
theorem IW.new (w : World) (i : Rv.Ins) (T : TypeId) : IW (w.alloc (.cells #[.int .i64 i.op, .int .i64 i.rd, .int .i64 i.rs1, .int .i64 i.rs2, .int .i32 i.imm] T)) w.heap.size i := by
  refine ⟨IBox.new w i T, fun o => ?_⟩
  simp [World.frozen?, World.alloc, -World.alloc_eq]
/-- The word of what was read. -/
def Asm.wrd (x : Rv.Ins × Int) : Int := if x.2 = 0 then Rv.enc x.1 else 0
theorem Asm.part_imm {p : UInt8} {t : List UInt8} {i j : Rv.Ins} {h : Bool} (hs : Asm.part p t i = some (j, h)) (hm : -2147483648 ≤ i.imm ∧ i.imm < 2147483648) : -2147483648 ≤ j.imm ∧ j.imm < 2147483648 := by
  unfold Asm.part at hs
  (repeat' split at hs) <;> simp at hs <;> obtain ⟨rfl, rfl⟩ := hs <;> first | exact hm | exact Asm.w32_bd _
theorem Bw.set5 {a w : World} (h : Bw a w) (v0 v1 v2 v3 v4 : Value) : Bw a (((((w.setCell ⟨a.heap.size, 0, none⟩ v0).setCell ⟨a.heap.size, 1, none⟩ v1).setCell ⟨a.heap.size, 2, none⟩ v2).setCell ⟨a.heap.size, 3, none⟩ v3).setCell ⟨a.heap.size, 4, none⟩ v4) :=
  ((((h.setCell (Nat.le_refl _) _).setCell (Nat.le_refl _) _).setCell (Nat.le_refl _) _).setCell (Nat.le_refl _) _).setCell (Nat.le_refl _) _
theorem Asm.ret_p {i j : Rv.Ins} {a b c d : Int} (h : i = j) (h2 : a = b) (h3 : c = d) : Ending.returned (.tuple #[Rv.iv i, .int .u32 a, .int .i64 c]) = .returned (.tuple #[Rv.iv j, .int .u32 b, .int .i64 d]) := by rw [h, h2, h3]
theorem Asm.behind_none {op : Nat} {ts : List (List UInt8)} (h : Asm.parts (Asm.shape op) ts ⟨op, 0, 0, 0, 0⟩ true = none) : Asm.behind op ts = (Asm.zero, 7) := by rw [Asm.behind, h]
theorem Asm.behind_some {op : Nat} {ts : List (List UInt8)} {i : Rv.Ins} {f : Bool} (h : Asm.parts (Asm.shape op) ts ⟨op, 0, 0, 0, 0⟩ true = some (i, f)) : Asm.behind op ts = Asm.fine i f := by rw [Asm.behind, h]
set_option maxHeartbeats 2000000 in
set_option maxRecDepth 100000 in
theorem parse_c (l : List UInt8) (w : World) (hl : l.length < 4294967281) (ht : Tabs w) (hn : NTab w) :
    Calls Tryd.prog 19 #[.string (bs l)] w fun e w' => e = .returned (.tuple #[Rv.iv (Asm.parse (Asm.tok l)).1, .int .u32 (Asm.wrd (Asm.parse (Asm.tok l))), .int .i64 (Asm.parse (Asm.tok l)).2]) ∧ Bw w w' := by
  have hb0 := (Bw.refl w).alloc (.cells #[.int .i64 0, .int .i64 0, .int .i64 0, .int .i64 0, .int .i32 0] 29)
  have hz0 : IW (w.alloc (.cells #[.int .i64 0, .int .i64 0, .int .i64 0, .int .i64 0, .int .i32 0] 29)) w.heap.size Asm.zero := IW.new w Asm.zero 29
  have hC := cutWord_c l (w.alloc (.cells #[.int .i64 0, .int .i64 0, .int .i64 0, .int .i64 0, .int .i32 0] 29)) hl
  rw [Asm.parse_cut]
  have hwl := Asm.word_len l
  have hop := Asm.opOf_bd (Asm.word l)
  have hO := fun w h => nameOp_c (Asm.word l) w h
  generalize Asm.opOf (Asm.word l) = op at *
  generalize Asm.word l = wd at *
  generalize Asm.rest l = rs at *
  by_cases h0 : op = 0
  · subst h0
    rw [if_pos rfl]
    go_enter Tryd.func19, Tryd.ntmps19
    go_wp2_with (go_at_call 34; refine hC.mono ?_; rintro e w1 ⟨rfl, hb1⟩; obtain ⟨⟨r0, r1, r2, r3, r4⟩, rz⟩ := hz0.bw hb1)
    refine (hO w1 (hn.bw (hb0.trans hb1))).mono ?_
    rintro e w' ⟨rfl, rfl⟩
    go_wp2_with fail
    refine bodyPost_ret (by simp [results, Tryd.results19, go_sem, r0, r1, r2, r3, r4]; try rfl) rfl ?_
    exact ⟨rfl, (hb0.trans hb1).set5 _ _ _ _ _⟩
  · rw [if_neg h0]
    have h0b : ((op : Int) == 0) = false := by simp; omega
    have hSh := shape_c (op : Int)
    obtain ⟨hp6, hpm⟩ := Asm.shape_b (op : Int)
    have HPm : Hid _ := hpm
    have HN : Hid _ := fun h => Asm.behind_none (op := op) (ts := Asm.tok rs) h
    have HS : Hid _ := fun i f h => Asm.behind_some (op := op) (ts := Asm.tok rs) (i := i) (f := f) h
    generalize Asm.behind op (Asm.tok rs) = R at *
    generalize hM : Asm.parts (Asm.shape op) (Asm.tok rs) ⟨op, 0, 0, 0, 0⟩ true = M at *
    have HM : Hid _ := hM
    generalize Asm.shape (op : Int) = P at *
    clear hpm hM
    have hib := fun w1 => IW.new w1 ⟨op, 0, 0, 0, 0⟩ 29
    go_enter Tryd.func19, Tryd.ntmps19
    go_wp2_with (go_at_call 34; refine hC.mono ?_; rintro e w1 ⟨rfl, hb1⟩)
    refine (hO w1 (hn.bw (hb0.trans hb1))).mono ?_
    rintro e w' ⟨rfl, rfl⟩
    have hib := hib w'
    have hbC := (hb0.trans hb1).alloc (.cells #[.int .i64 op, .int .i64 0, .int .i64 0, .int .i64 0, .int .i32 0] 29)
    have hzC := (hz0.bw hb1).bw ((Bw.refl w').alloc (.cells #[.int .i64 op, .int .i64 0, .int .i64 0, .int .i64 0, .int .i32 0] 29))
    have hsz1 : w.heap.size < w'.heap.size := by have := hb1.size; simp at this; omega
    go_wp2_with fail
    refine (hSh _).mono ?_
    rintro e wC ⟨rfl, hwC⟩
    rw [← hwC] at hib hbC hzC
    have hszC : wC.heap.size = w'.heap.size + 1 := by rw [hwC]; simp
    clear hwC hSh hO hC hz0 hb0
    go_wp2_with fail
    go_loopg [6, 9] P.length (fun g r f wr => ∃ j : Nat, ∃ rj : List UInt8, ∃ ij : Rv.Ins, ∃ fj : Bool, j + g = P.length ∧ r = .string (bs rj) ∧ f = .bool fj ∧ rj.length ≤ l.length ∧ (-2147483648 ≤ ij.imm ∧ ij.imm < 2147483648) ∧ Asm.parts (P.drop j) (Asm.tok rj) ij fj = M ∧ IW wr w'.heap.size ij ∧ IW wr w.heap.size Asm.zero ∧ Bw w wr ∧ wr.heap[w'.heap.size + 1]? = some (.stringIter (bs P) j))
    case atStart =>
      have hC2 : Bw wC (wC.iter (bs P) 0) := (Bw.refl wC).alloc _
      exact ⟨0, rs, ⟨op, 0, 0, 0, 0⟩, true, by omega, rfl, rfl, by omega, ⟨by show (-2147483648 : Int) ≤ 0; decide, by show (0 : Int) < 2147483648; decide⟩, HM, hib.bw hC2, hzC.bw hC2, hbC.trans hC2, by rw [← hszC]; simp [World.iter, World.alloc, -World.alloc_eq]⟩
    case round =>
      obtain ⟨j, rj, ij, fj, hj, rfl, rfl, hrl, hmm, hpar, hi, hz, hbw, hit⟩ := hrel
      clear hbC hzC hib HM
      cases gk with
      | zero =>
        obtain rfl : j = P.length := by omega
        have hnx := fun ty => Lib.run_next_end_at (P := Tryd.prog) wr (w'.heap.size + 1) (bs P) P.length ty hit (by rw [bs_size]; omega)
        rw [List.drop_length, Asm.parts_end] at hpar
        have hT := trimBlanks_c rj wr
        by_cases hte : Asm.trimB rj = []
        · rw [if_pos ((Asm.tok_empty rj).2 hte)] at hpar
          have HR : Hid _ := HS ij fj hpar.symm
          rw [hte] at hT
          clear hte hpar HN HS
          by_cases hg : Rv.good ij
          · have hE := fun w h => Encode_good ij w h hmm hg
            have hf : Asm.fine ij fj = if fj then (ij, 0) else (Asm.zero, 1) := by simp [Asm.fine, (Asm.goodB_iff ij).2 hg]
            rw [hf] at HR
            unfold Rv.iv at hE
            clear hf hg
            cases fj
            · have HR2 : Hid (R = (Asm.zero, 1)) := HR
              clear HR
              go_wp2_with (first
                | (go_at_call 36; refine hT.mono ?_; rintro e w2 ⟨rfl, hb2⟩; obtain ⟨⟨i0, i1, i2, i3, i4⟩, iz⟩ := hi.bw hb2)
                | (go_at_call 20; refine (hE _ (ht.bw (hbw.trans hb2))).mono ?_; rintro e w3 ⟨rfl, g3⟩; obtain ⟨⟨r0, r1, r2, r3, r4⟩, rz⟩ := hz.bw (hb2.gr g3)))
              refine bodyPost_ret (by simp [results, Tryd.results19, go_sem, r0, r1, r2, r3, r4]; try rfl) rfl ?_
              exact ⟨by rw [show R = _ from HR2]; rfl, ((hbw.trans hb2).gr g3).set5 _ _ _ _ _⟩
            · have HR2 : Hid (R = (ij, 0)) := HR
              clear HR
              go_wp2_with (first
                | (go_at_call 36; refine hT.mono ?_; rintro e w2 ⟨rfl, hb2⟩; obtain ⟨⟨i0, i1, i2, i3, i4⟩, iz⟩ := hi.bw hb2)
                | (go_at_call 20; refine (hE _ (ht.bw (hbw.trans hb2))).mono ?_; rintro e w3 ⟨rfl, g3⟩; obtain ⟨⟨r0, r1, r2, r3, r4⟩, rz⟩ := hz.bw (hb2.gr g3); obtain ⟨⟨i0, i1, i2, i3, i4⟩, iz⟩ := hi.bw (hb2.gr g3)))
              refine bodyPost_ret (by simp [results, Tryd.results19, go_sem, r0, r1, r2, r3, r4]; try rfl) rfl ?_
              exact ⟨by rw [show R = _ from HR2]; rfl, ((hbw.trans hb2).gr g3).set5 _ _ _ _ _⟩
          · have hE := fun w h => Encode_bad ij w h hmm hg
            have hf : Asm.fine ij fj = (Asm.zero, 1) := by
              have : Asm.goodB ij = false := by cases h : Asm.goodB ij; rfl; exact absurd ((Asm.goodB_iff ij).1 h) hg
              simp [Asm.fine, this]
            rw [hf] at HR
            have HR2 : Hid (R = (Asm.zero, 1)) := HR
            unfold Rv.iv at hE
            clear hf hg HR
            go_wp2_with (first
              | (go_at_call 36; refine hT.mono ?_; rintro e w2 ⟨rfl, hb2⟩; obtain ⟨⟨i0, i1, i2, i3, i4⟩, iz⟩ := hi.bw hb2)
              | (go_at_call 20; refine (hE _ (ht.bw (hbw.trans hb2))).mono ?_; rintro e w3 ⟨rfl, g3⟩; obtain ⟨⟨r0, r1, r2, r3, r4⟩, rz⟩ := hz.bw (hb2.gr g3)))
            refine bodyPost_ret (by simp [results, Tryd.results19, go_sem, r0, r1, r2, r3, r4]; try rfl) rfl ?_
            exact ⟨by rw [show R = _ from HR2]; rfl, ((hbw.trans hb2).gr g3).set5 _ _ _ _ _⟩
        · rw [if_neg (fun h => hte ((Asm.tok_empty rj).1 h))] at hpar
          have HR2 : Hid (R = (Asm.zero, 7)) := HN hpar.symm
          have hem : (Asm.trimB rj).isEmpty = false := by simpa using hte
          clear hte hpar HN HS
          go_wp2_with (go_at_call 36; refine hT.mono ?_; rintro e w2 ⟨rfl, hb2⟩; obtain ⟨⟨r0, r1, r2, r3, r4⟩, rz⟩ := hz.bw hb2)
          refine bodyPost_ret (by simp [results, Tryd.results19, go_sem, r0, r1, r2, r3, r4]; try rfl) rfl ?_
          exact ⟨by rw [show R = _ from HR2]; rfl, (hbw.trans hb2).set5 _ _ _ _ _⟩
      | succ g =>
        obtain ⟨p, hp⟩ : ∃ p, P[j]? = some p := ⟨P[j], by simp⟩
        have hbm := HPm p (List.mem_of_getElem? hp)
        have hcls : (p ∈ ([44, 40, 41] : List UInt8) ∧ Asm.mk p = true) ∨ (p ∈ ([100, 115, 116, 105, 117] : List UInt8) ∧ Asm.mk p = false) := by
          simp only [List.mem_cons, List.not_mem_nil, or_false] at hbm
          rcases hbm with rfl | rfl | rfl | rfl | rfl | rfl | rfl | rfl <;> decide
        have h128 : p.toNat < 128 := by simp only [List.mem_cons, List.not_mem_nil, or_false] at hbm; rcases hbm with rfl | rfl | rfl | rfl | rfl | rfl | rfl | rfl <;> decide
        have hlt : j < (bs P).size := by rw [bs_size]; omega
        have hgb := bs_get P j p hp hlt
        have hnx := fun ty => Lib.run_next_ascii_at (P := Tryd.prog) wr (w'.heap.size + 1) (bs P) j ty hit hlt (by rw [hgb]; exact h128)
        rw [hgb] at hnx
        have hit2 := Lib.iterAt_heap wr (w'.heap.size + 1) (bs P) j (j + 1) hit
        have hbw2 := hbw.iterAt (k := w'.heap.size + 1) (by omega) (bs P) (j + 1)
        have hxk : Bx (w'.heap.size + 1) wr (wr.iterAt (w'.heap.size + 1) (bs P) (j + 1)) := ⟨rfl, rfl, rfl, by rw [Lib.iterAt_size]; exact Nat.le_refl _, fun q _ hq => Lib.iterAt_other wr _ q (bs P) (j + 1) hq⟩
        have hi2 := hi.bx hxk (by omega)
        have hz2 := hz.bx hxk (by omega)
        have hdr : P.drop j = p :: P.drop (j + 1) := by
          have hjl : j < P.length := by omega
          rw [List.drop_eq_getElem_cons hjl]
          rw [List.getElem?_eq_getElem hjl] at hp
          rw [Option.some.inj hp]
        rw [hdr] at hpar
        clear hdr hgb hit hbw hxk hi hz hbm hp
        generalize wr.iterAt (w'.heap.size + 1) (bs P) (j + 1) = w2 at *
        rcases hcls with ⟨hcl, hmk⟩ | ⟨hcl, hmk⟩
        · by_cases hh : (Asm.trimB rj).head? = some p
          · obtain ⟨r, hr⟩ : ∃ r, Asm.trimB rj = p :: r := by
              cases ht2 : Asm.trimB rj with
              | nil => rw [ht2] at hh; simp at hh
              | cons x xs => rw [ht2] at hh; simp at hh; subst hh; exact ⟨xs, rfl⟩
            have hrd := readMark_yes hcl hr w'.heap.size w2
            rw [Asm.parts_mark _ _ _ _ _ hmk hr] at hpar
            have hrl2 : r.length ≤ rj.length := by
              have h1 := congrArg List.length hr
              have h2 := congrArg List.length (List.takeWhile_append_dropWhile (p := Asm.bl) (l := rj))
              rw [List.length_append] at h2
              have : (Asm.trimB rj).length = (rj.dropWhile Asm.bl).length := rfl
              simp at h1; omega
            have HP : Hid _ := hpar
            clear hpar hh hr
            cases fj
            all_goals
              go_wp2_with (go_at_call 44; refine hrd.mono ?_; rintro e w3 ⟨rfl, hb3⟩)
              go_roundg g
              case measure => omega
              case rel => exact ⟨j + 1, r, ij, _, by omega, rfl, rfl, by omega, hmm, HP, hi2.bw hb3, hz2.bw hb3, hbw2.trans hb3, hb3.it hit2⟩
          · have hrd := readMark_no hcl hh w'.heap.size w2
            rw [Asm.parts_nomark _ _ _ _ hmk hh] at hpar
            have HR2 : Hid (R = (Asm.zero, 7)) := HN hpar.symm
            clear hpar hh HN HS
            go_wp2_with (go_at_call 44; refine hrd.mono ?_; rintro e w3 ⟨rfl, hb3⟩; obtain ⟨⟨r0, r1, r2, r3, r4⟩, rz⟩ := hz2.bw hb3)
            refine bodyPost_ret (by simp [results, Tryd.results19, go_sem, r0, r1, r2, r3, r4]; try rfl) rfl ?_
            exact ⟨by rw [show R = _ from HR2]; rfl, (hbw2.trans hb3).set5 _ _ _ _ _⟩
        · rw [Asm.parts_word _ _ _ _ hmk] at hpar
          cases hpp : Asm.part p (Asm.word rj) ij with
          | none =>
            have hrd := readPart_none hcl hpp (by omega) w'.heap.size w2 hi2
            rw [hpp] at hpar
            have HR2 : Hid (R = (Asm.zero, 7)) := HN (by rw [← hpar]; rfl)
            clear hpar hpp HN HS
            go_wp2_with (go_at_call 44; refine hrd.mono ?_; rintro e w3 ⟨s3, h3, rfl, hx3⟩; obtain ⟨⟨r0, r1, r2, r3, r4⟩, rz⟩ := hz2.bx hx3 (by omega))
            refine bodyPost_ret (by simp [results, Tryd.results19, go_sem, r0, r1, r2, r3, r4]; try rfl) rfl ?_
            exact ⟨by rw [show R = _ from HR2]; rfl, (Bx.bw hbw2 hx3 (by omega)).set5 _ _ _ _ _⟩
          | some x =>
            obtain ⟨i', h'⟩ := x
            have hrd := readPart_some hcl hpp (by omega) w'.heap.size w2 hi2
            have hmm2 := Asm.part_imm hpp hmm
            rw [hpp] at hpar
            have HP : Hid (Asm.parts (P.drop (j + 1)) (Asm.tok (Asm.rest rj)) i' (fj && h') = M) := hpar
            have hrl2 := Asm.word_len rj
            clear hpar hpp
            cases fj
            all_goals
              go_wp2_with (go_at_call 44; refine hrd.mono ?_; rintro e w3 ⟨rfl, hi3, hx3⟩)
              go_roundg g
              case measure => omega
              case rel => exact ⟨j + 1, Asm.rest rj, i', _, by omega, rfl, rfl, by omega, hmm2, HP, hi3, hz2.bx hx3 (by omega), Bx.bw hbw2 hx3 (by omega), hx3.it (by omega) hit2⟩
end Go.Proofs.YtllgkofibkobnaaDoor
