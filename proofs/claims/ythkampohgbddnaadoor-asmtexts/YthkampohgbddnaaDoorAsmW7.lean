/- LAYER 6's walks: readPart. -/
import Derived.Test.YthkampohgbddnaaDoorAsmW6
namespace Go.Proofs.YthkampohgbddnaaDoor
open Go.ChangeShapes Go.WideShapes Go.ChangeAt Go.RowKit

theorem isMark_c (p : Int) (b : Bool) (h0 : 0 ≤ p) (h1 : p < 128) (hb : decide (0 ≤ Lib.indexByte [44, 40, 41] p.toNat.toUInt8) = b) (w : World) :
    Calls Tryd.prog 74 #[.string ⟨#[44, 40, 41]⟩, .int .i32 p] w fun e w' => e = .returned (.bool b) ∧ w' = w := by
  rw [← hb]
  exact Any.strings_ContainsRune_ascii Tryd.lays151 ⟨#[44, 40, 41]⟩ p w h0 h1
/-- A mark. -/
theorem readMark_yes {p : UInt8} {l r : List UInt8} (hp : p ∈ ([44, 40, 41] : List UInt8)) (h : Asm.trimB l = p :: r) (b : Nat) (w : World) :
    Calls Tryd.prog 65 #[.pointer (some ⟨b, 0, none⟩), .int .i32 p.toNat, .string (bs l)] w fun e w' => e = .returned (.tuple #[.string (bs r), .bool true, .bool true]) ∧ Bw w w' := by
  have hT := trimBlanks_c l w
  rw [h] at hT
  have hC := fun w => CutPrefix_yes (l := p :: r) (c := p) rfl w
  rw [List.tail_cons] at hC
  simp only [List.mem_cons, List.not_mem_nil, or_false] at hp
  rcases hp with rfl | rfl | rfl
  · have hM := isMark_c 44 true (by decide) (by decide) (by decide) w
    go_enter Tryd.func65, Tryd.ntmps65
    go_wp2_with (first
      | (go_at_call 74; refine hM.mono ?_; rintro e w' ⟨rfl, rfl⟩)
      | (go_at_call 55; refine hT.mono ?_; rintro e w1 ⟨rfl, hb1⟩)
      | (go_at_call 77; refine (hC _).mono ?_; rintro e w' ⟨rfl, rfl⟩))
    go_returns
    exact ⟨rfl, hb1⟩
  · have hM := isMark_c 40 true (by decide) (by decide) (by decide) w
    go_enter Tryd.func65, Tryd.ntmps65
    go_wp2_with (first
      | (go_at_call 74; refine hM.mono ?_; rintro e w' ⟨rfl, rfl⟩)
      | (go_at_call 55; refine hT.mono ?_; rintro e w1 ⟨rfl, hb1⟩)
      | (go_at_call 77; refine (hC _).mono ?_; rintro e w' ⟨rfl, rfl⟩))
    go_returns
    exact ⟨rfl, hb1⟩
  · have hM := isMark_c 41 true (by decide) (by decide) (by decide) w
    go_enter Tryd.func65, Tryd.ntmps65
    go_wp2_with (first
      | (go_at_call 74; refine hM.mono ?_; rintro e w' ⟨rfl, rfl⟩)
      | (go_at_call 55; refine hT.mono ?_; rintro e w1 ⟨rfl, hb1⟩)
      | (go_at_call 77; refine (hC _).mono ?_; rintro e w' ⟨rfl, rfl⟩))
    go_returns
    exact ⟨rfl, hb1⟩
theorem readMark_no {p : UInt8} {l : List UInt8} (hp : p ∈ ([44, 40, 41] : List UInt8)) (h : (Asm.trimB l).head? ≠ some p) (b : Nat) (w : World) :
    Calls Tryd.prog 65 #[.pointer (some ⟨b, 0, none⟩), .int .i32 p.toNat, .string (bs l)] w fun e w' => e = .returned (.tuple #[.string (bs (Asm.trimB l)), .bool false, .bool true]) ∧ Bw w w' := by
  have hT := trimBlanks_c l w
  have hC := fun w => CutPrefix_no (l := Asm.trimB l) (c := p) h w
  clear h
  simp only [List.mem_cons, List.not_mem_nil, or_false] at hp
  rcases hp with rfl | rfl | rfl
  · have hM := isMark_c 44 true (by decide) (by decide) (by decide) w
    go_enter Tryd.func65, Tryd.ntmps65
    go_wp2_with (first
      | (go_at_call 74; refine hM.mono ?_; rintro e w' ⟨rfl, rfl⟩)
      | (go_at_call 55; refine hT.mono ?_; rintro e w1 ⟨rfl, hb1⟩)
      | (go_at_call 77; refine (hC _).mono ?_; rintro e w' ⟨rfl, rfl⟩))
    go_returns
    exact ⟨rfl, hb1⟩
  · have hM := isMark_c 40 true (by decide) (by decide) (by decide) w
    go_enter Tryd.func65, Tryd.ntmps65
    go_wp2_with (first
      | (go_at_call 74; refine hM.mono ?_; rintro e w' ⟨rfl, rfl⟩)
      | (go_at_call 55; refine hT.mono ?_; rintro e w1 ⟨rfl, hb1⟩)
      | (go_at_call 77; refine (hC _).mono ?_; rintro e w' ⟨rfl, rfl⟩))
    go_returns
    exact ⟨rfl, hb1⟩
  · have hM := isMark_c 41 true (by decide) (by decide) (by decide) w
    go_enter Tryd.func65, Tryd.ntmps65
    go_wp2_with (first
      | (go_at_call 74; refine hM.mono ?_; rintro e w' ⟨rfl, rfl⟩)
      | (go_at_call 55; refine hT.mono ?_; rintro e w1 ⟨rfl, hb1⟩)
      | (go_at_call 77; refine (hC _).mono ?_; rintro e w' ⟨rfl, rfl⟩))
    go_returns
    exact ⟨rfl, hb1⟩
theorem Asm.word_len (l : List UInt8) : (Asm.word l).length + (Asm.rest l).length ≤ l.length := by
  have h1 := congrArg List.length (Asm.word_rest l)
  have h2 := congrArg List.length (List.takeWhile_append_dropWhile (p := Asm.bl) (l := l))
  rw [List.length_append] at h1 h2
  have : (Asm.trimB l).length = (l.dropWhile Asm.bl).length := rfl
  omega
/-- A register. -/
theorem readReg_100 {l : List UInt8} (hl : l.length < 4294967281) (b : Nat) (i : Rv.Ins) (w : World) (hi : IW w b i) :
    Calls Tryd.prog 65 #[.pointer (some ⟨b, 0, none⟩), .int .i32 100, .string (bs l)] w fun e w' => e = .returned (.tuple #[.string (bs (Asm.rest l)), .bool (Asm.regOk (Asm.word l)), .bool true]) ∧ IW w' b ⟨i.op, Asm.reg (Asm.word l), i.rs1, i.rs2, i.imm⟩ ∧ Bx b w w' := by
  have hM := isMark_c 100 false (by decide) (by decide) (by decide) w
  have hC := cutWord_c l w hl
  have hR := fun w => registerOf_c (Asm.word l) w (by have := Asm.word_len l; omega)
  generalize Asm.reg (Asm.word l) = R at *
  generalize Asm.regOk (Asm.word l) = k at *
  go_enter Tryd.func65, Tryd.ntmps65
  go_wp2_with (first
    | (go_at_call 74; refine hM.mono ?_; rintro e w' ⟨rfl, rfl⟩)
    | (go_at_call 53; refine hC.mono ?_; rintro e w1 ⟨rfl, hb1⟩)
    | (go_at_call 85; refine (hR _).mono ?_; rintro e w2 ⟨rfl, hb2⟩; obtain ⟨⟨c0, c1, c2, c3, c4⟩, fz⟩ := hi.bw (hb1.trans hb2)))
  go_returns
  exact ⟨rfl, IW.rd ⟨⟨c0, c1, c2, c3, c4⟩, fz⟩ R, ((hb1.trans hb2).bx b).set _ _⟩
/-- A register. -/
theorem readReg_115 {l : List UInt8} (hl : l.length < 4294967281) (b : Nat) (i : Rv.Ins) (w : World) (hi : IW w b i) :
    Calls Tryd.prog 65 #[.pointer (some ⟨b, 0, none⟩), .int .i32 115, .string (bs l)] w fun e w' => e = .returned (.tuple #[.string (bs (Asm.rest l)), .bool (Asm.regOk (Asm.word l)), .bool true]) ∧ IW w' b ⟨i.op, i.rd, Asm.reg (Asm.word l), i.rs2, i.imm⟩ ∧ Bx b w w' := by
  have hM := isMark_c 115 false (by decide) (by decide) (by decide) w
  have hC := cutWord_c l w hl
  have hR := fun w => registerOf_c (Asm.word l) w (by have := Asm.word_len l; omega)
  generalize Asm.reg (Asm.word l) = R at *
  generalize Asm.regOk (Asm.word l) = k at *
  go_enter Tryd.func65, Tryd.ntmps65
  go_wp2_with (first
    | (go_at_call 74; refine hM.mono ?_; rintro e w' ⟨rfl, rfl⟩)
    | (go_at_call 53; refine hC.mono ?_; rintro e w1 ⟨rfl, hb1⟩)
    | (go_at_call 85; refine (hR _).mono ?_; rintro e w2 ⟨rfl, hb2⟩; obtain ⟨⟨c0, c1, c2, c3, c4⟩, fz⟩ := hi.bw (hb1.trans hb2)))
  go_returns
  exact ⟨rfl, IW.rs1 ⟨⟨c0, c1, c2, c3, c4⟩, fz⟩ R, ((hb1.trans hb2).bx b).set _ _⟩
/-- A register. -/
theorem readReg_116 {l : List UInt8} (hl : l.length < 4294967281) (b : Nat) (i : Rv.Ins) (w : World) (hi : IW w b i) :
    Calls Tryd.prog 65 #[.pointer (some ⟨b, 0, none⟩), .int .i32 116, .string (bs l)] w fun e w' => e = .returned (.tuple #[.string (bs (Asm.rest l)), .bool (Asm.regOk (Asm.word l)), .bool true]) ∧ IW w' b ⟨i.op, i.rd, i.rs1, Asm.reg (Asm.word l), i.imm⟩ ∧ Bx b w w' := by
  have hM := isMark_c 116 false (by decide) (by decide) (by decide) w
  have hC := cutWord_c l w hl
  have hR := fun w => registerOf_c (Asm.word l) w (by have := Asm.word_len l; omega)
  generalize Asm.reg (Asm.word l) = R at *
  generalize Asm.regOk (Asm.word l) = k at *
  go_enter Tryd.func65, Tryd.ntmps65
  go_wp2_with (first
    | (go_at_call 74; refine hM.mono ?_; rintro e w' ⟨rfl, rfl⟩)
    | (go_at_call 53; refine hC.mono ?_; rintro e w1 ⟨rfl, hb1⟩)
    | (go_at_call 85; refine (hR _).mono ?_; rintro e w2 ⟨rfl, hb2⟩; obtain ⟨⟨c0, c1, c2, c3, c4⟩, fz⟩ := hi.bw (hb1.trans hb2)))
  go_returns
  exact ⟨rfl, IW.rs2 ⟨⟨c0, c1, c2, c3, c4⟩, fz⟩ R, ((hb1.trans hb2).bx b).set _ _⟩
theorem Asm.ret_sbb {s t : ByteArray} {a b c d : Bool} (h : s = t) (h2 : a = b) (h3 : c = d) : Ending.returned (.tuple #[.string s, .bool a, .bool c]) = .returned (.tuple #[.string t, .bool b, .bool d]) := by rw [h, h2, h3]
theorem Asm.wrap_eq (n : Int) : wrap32 n = Asm.w32 n := by unfold Asm.w32; first | rfl | (unfold wrap32; omega)
/-- A number. -/
theorem readNum_105 {l : List UInt8} (hl : l.length < 4294967281) (b : Nat) (i : Rv.Ins) (w : World) (hi : IW w b i) :
    Calls Tryd.prog 65 #[.pointer (some ⟨b, 0, none⟩), .int .i32 105, .string (bs l)] w fun e w' => e = .returned (.tuple #[.string (bs (Asm.rest l)), .bool (Asm.numOk (Asm.word l)), .bool (decide (Asm.w32 (Asm.num (Asm.word l)) = Asm.num (Asm.word l)))]) ∧ IW w' b ⟨i.op, i.rd, i.rs1, i.rs2, Asm.w32 (Asm.num (Asm.word l))⟩ ∧ Bx b w w' := by
  have hM := isMark_c 105 false (by decide) (by decide) (by decide) w
  have hC := cutWord_c l w hl
  have hR := fun w => numberOf_c (Asm.word l) w (by have := Asm.word_len l; omega)
  obtain ⟨n0, n1⟩ := Asm.num_bd (Asm.word l)
  generalize Asm.num (Asm.word l) = R at *
  generalize Asm.numOk (Asm.word l) = k at *
  go_enter Tryd.func65, Tryd.ntmps65
  go_wp2_with (first
    | (go_at_call 74; refine hM.mono ?_; rintro e w' ⟨rfl, rfl⟩)
    | (go_at_call 53; refine hC.mono ?_; rintro e w1 ⟨rfl, hb1⟩)
    | (go_at_call 54; refine (hR _).mono ?_; rintro e w2 ⟨rfl, hb2⟩; obtain ⟨⟨c0, c1, c2, c3, c4⟩, fz⟩ := hi.bw (hb1.trans hb2)))
  go_region
  go_wp2
  go_returns
  have hI := IW.imm (i := i) ⟨⟨c0, c1, c2, c3, c4⟩, fz⟩ (wrap32 R)
  rw [Asm.wrap_eq] at hI
  have hw : (wrap64 (wrap32 R) == R) = decide (Asm.w32 R = R) := by
    have := Asm.w32_bd R
    rw [Asm.wrap_eq, show wrap64 (Asm.w32 R) = Asm.w32 R by unfold wrap64; omega]
    rw [Bool.eq_iff_iff]; simp
  refine ⟨Asm.ret_sbb rfl rfl hw, ?_, ?_⟩
  · rw [Asm.wrap_eq]; exact hI.drew
  · exact (((hb1.trans hb2).bx b).set _ _).drew
/-- A number. -/
theorem readNum_117 {l : List UInt8} (hl : l.length < 4294967281) (b : Nat) (i : Rv.Ins) (w : World) (hi : IW w b i) :
    Calls Tryd.prog 65 #[.pointer (some ⟨b, 0, none⟩), .int .i32 117, .string (bs l)] w fun e w' => e = .returned (.tuple #[.string (bs (Asm.rest l)), .bool (Asm.numOk (Asm.word l)), .bool (decide (Asm.num (Asm.word l) / 1048576 = 0))]) ∧ IW w' b ⟨i.op, i.rd, i.rs1, i.rs2, Asm.w32 (Asm.num (Asm.word l) * 4096)⟩ ∧ Bx b w w' := by
  have hM := isMark_c 117 false (by decide) (by decide) (by decide) w
  have hC := cutWord_c l w hl
  have hR := fun w => numberOf_c (Asm.word l) w (by have := Asm.word_len l; omega)
  obtain ⟨n0, n1⟩ := Asm.num_bd (Asm.word l)
  generalize Asm.num (Asm.word l) = R at *
  generalize Asm.numOk (Asm.word l) = k at *
  go_enter Tryd.func65, Tryd.ntmps65
  go_wp2_with (first
    | (go_at_call 74; refine hM.mono ?_; rintro e w' ⟨rfl, rfl⟩)
    | (go_at_call 53; refine hC.mono ?_; rintro e w1 ⟨rfl, hb1⟩)
    | (go_at_call 54; refine (hR _).mono ?_; rintro e w2 ⟨rfl, hb2⟩; obtain ⟨⟨c0, c1, c2, c3, c4⟩, fz⟩ := hi.bw (hb1.trans hb2)))
  go_returns
  refine ⟨rfl, ?_, ((hb1.trans hb2).bx b).set _ _⟩
  have := IW.imm (i := i) ⟨⟨c0, c1, c2, c3, c4⟩, fz⟩ (wrap32 (R * 4096))
  rw [Asm.wrap_eq] at this ⊢
  exact this

/-- A word that is such a part. -/
theorem readPart_some {p : UInt8} {l : List UInt8} {i j : Rv.Ins} {h : Bool} (hp : p ∈ ([100, 115, 116, 105, 117] : List UInt8)) (hs : Asm.part p (Asm.word l) i = some (j, h)) (hl : l.length < 4294967281) (b : Nat) (w : World) (hi : IW w b i) :
    Calls Tryd.prog 65 #[.pointer (some ⟨b, 0, none⟩), .int .i32 p.toNat, .string (bs l)] w fun e w' => e = .returned (.tuple #[.string (bs (Asm.rest l)), .bool true, .bool h]) ∧ IW w' b j ∧ Bx b w w' := by
  simp only [List.mem_cons, List.not_mem_nil, or_false] at hp
  rcases hp with rfl | rfl | rfl | rfl | rfl
  · have := readReg_100 hl b i w hi
    by_cases hk : Asm.regOk (Asm.word l) = true
    · simp [Asm.part, hk] at hs
      obtain ⟨rfl, rfl⟩ := hs
      rw [hk] at this; exact this
    · simp [Asm.part, hk] at hs
  · have := readReg_115 hl b i w hi
    by_cases hk : Asm.regOk (Asm.word l) = true
    · simp [Asm.part, hk] at hs
      obtain ⟨rfl, rfl⟩ := hs
      rw [hk] at this; exact this
    · simp [Asm.part, hk] at hs
  · have := readReg_116 hl b i w hi
    by_cases hk : Asm.regOk (Asm.word l) = true
    · simp [Asm.part, hk] at hs
      obtain ⟨rfl, rfl⟩ := hs
      rw [hk] at this; exact this
    · simp [Asm.part, hk] at hs
  · have := readNum_105 hl b i w hi
    by_cases hk : Asm.numOk (Asm.word l) = true
    · simp [Asm.part, hk] at hs
      obtain ⟨rfl, rfl⟩ := hs
      rw [hk] at this; exact this
    · simp [Asm.part, hk] at hs
  · have := readNum_117 hl b i w hi
    by_cases hk : Asm.numOk (Asm.word l) = true
    · simp [Asm.part, hk] at hs
      obtain ⟨rfl, rfl⟩ := hs
      rw [hk] at this; exact this
    · simp [Asm.part, hk] at hs
/-- A word that is none. -/
theorem readPart_none {p : UInt8} {l : List UInt8} {i : Rv.Ins} (hp : p ∈ ([100, 115, 116, 105, 117] : List UInt8)) (hs : Asm.part p (Asm.word l) i = none) (hl : l.length < 4294967281) (b : Nat) (w : World) (hi : IW w b i) :
    Calls Tryd.prog 65 #[.pointer (some ⟨b, 0, none⟩), .int .i32 p.toNat, .string (bs l)] w fun e w' => ∃ s h, e = .returned (.tuple #[.string s, .bool false, .bool h]) ∧ Bx b w w' := by
  simp only [List.mem_cons, List.not_mem_nil, or_false] at hp
  rcases hp with rfl | rfl | rfl | rfl | rfl
  · refine (readReg_100 hl b i w hi).mono ?_
    rintro e w' ⟨rfl, -, hb⟩
    by_cases hk : Asm.regOk (Asm.word l) = true
    · simp [Asm.part, hk] at hs
    · rw [show Asm.regOk (Asm.word l) = false by simpa using hk]; exact ⟨_, _, rfl, hb⟩
  · refine (readReg_115 hl b i w hi).mono ?_
    rintro e w' ⟨rfl, -, hb⟩
    by_cases hk : Asm.regOk (Asm.word l) = true
    · simp [Asm.part, hk] at hs
    · rw [show Asm.regOk (Asm.word l) = false by simpa using hk]; exact ⟨_, _, rfl, hb⟩
  · refine (readReg_116 hl b i w hi).mono ?_
    rintro e w' ⟨rfl, -, hb⟩
    by_cases hk : Asm.regOk (Asm.word l) = true
    · simp [Asm.part, hk] at hs
    · rw [show Asm.regOk (Asm.word l) = false by simpa using hk]; exact ⟨_, _, rfl, hb⟩
  · refine (readNum_105 hl b i w hi).mono ?_
    rintro e w' ⟨rfl, -, hb⟩
    by_cases hk : Asm.numOk (Asm.word l) = true
    · simp [Asm.part, hk] at hs
    · rw [show Asm.numOk (Asm.word l) = false by simpa using hk]; exact ⟨_, _, rfl, hb⟩
  · refine (readNum_117 hl b i w hi).mono ?_
    rintro e w' ⟨rfl, -, hb⟩
    by_cases hk : Asm.numOk (Asm.word l) = true
    · simp [Asm.part, hk] at hs
    · rw [show Asm.numOk (Asm.word l) = false by simpa using hk]; exact ⟨_, _, rfl, hb⟩
end Go.Proofs.YthkampohgbddnaaDoor
