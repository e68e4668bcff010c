/- LAYER 6's walks: partText, Text. · LAYER 6's walks: Text. · LAYER 6's walks: opOf; readPart. -/
import Derived.Test.YtllgkofibkobnaaDoorR10
namespace Go.Proofs.YtllgkofibkobnaaDoor
open Go.ChangeShapes Go.WideShapes Go.ChangeAt Go.RowKit

/-- The library's table of powers of ten. -/
def PTab (w : World) : Prop := Lib.TabIs Tryd.prog w "internal/strconv.uint64pow10" .u64 Lib.pow10Tab
theorem PTab.bw {w w' : World} (h : PTab w) (g : Bw w w') : PTab w' := by
  unfold PTab Lib.TabIs World.var? at h ⊢
  cases hg : Tryd.prog.globalNamed "internal/strconv.uint64pow10" with
  | none => simp [hg] at h
  | some x =>
    simp only [hg, Option.bind_some] at h ⊢
    have hlt : x < w.heap.size := by
      rcases Nat.lt_or_ge x w.heap.size with h' | h'
      · exact h'
      · simp [Array.getElem?_eq_none h'] at h
    rw [Below.block g x hlt]
    exact h
theorem Itoa_c (n : Int) (h0 : -9223372036854775808 ≤ n) (h1 : n ≤ 9223372036854775807) (w : World) (hp : PTab w) :
    Calls Tryd.prog 48 #[.int .i64 n] w fun e w' => e = .returned (.string (bs (Lib.itoa n))) ∧ Bw w w' := by
  refine (Any.strconv_Itoa Tryd.laysM171 n h0 h1 w hp).mono ?_
  rintro e w' ⟨rfl, k, os, rfl⟩
  refine ⟨rfl, rfl, rfl, rfl, ?_, ?_⟩
  · show w.heap.size ≤ (w.heap ++ os).size
    simp
  · intro j hj
    show (w.heap ++ os)[j]? = w.heap[j]?
    rw [Array.getElem?_append_left hj]
theorem Asm.ret_s {a b : ByteArray} (h : a = b) : Ending.returned (.string a) = .returned (.string b) := by rw [h]
theorem Asm.x_app (l : List UInt8) : (⟨#[120]⟩ : ByteArray) ++ bs l = bs (120 :: l) := by
  apply ByteArray.ext
  simp [bs]
theorem partText_c (i : Rv.Ins) (p : UInt8) (w : World) (hp : PTab w) (hr : Rv.reg i.rd ∧ Rv.reg i.rs1 ∧ Rv.reg i.rs2) (hm : -2147483648 ≤ i.imm ∧ i.imm < 2147483648) (hpp : p ∈ ([100, 115, 116, 105, 117, 44, 40, 41] : List UInt8)) :
    Calls Tryd.prog 23 #[Rv.iv i, .int .i32 p.toNat] w fun e w' => e = .returned (.string (bs (Asm.ptext i p))) ∧ Bw w w' := by
  obtain ⟨⟨d0, d1⟩, ⟨s0, s1⟩, ⟨t0, t1⟩⟩ := hr
  obtain ⟨m0, m1⟩ := hm
  have hp2 : ∀ o, PTab (w.alloc o) := fun o => hp.bw ((Bw.refl w).alloc o)
  have hbx : ∀ o, Bw w (w.alloc o) := fun o => (Bw.refl w).alloc o
  unfold Rv.iv
  simp only [List.mem_cons, List.not_mem_nil, or_false] at hpp
  rcases hpp with rfl | rfl | rfl | rfl | rfl | rfl | rfl | rfl
  · have hln := Asm.itoa_len (n := i.rd) (by omega) (by omega)
    have hc := fun o => Itoa_c i.rd (by omega) (by omega) (w.alloc o) (hp2 o)
    go_enter Tryd.func23, Tryd.ntmps23
    go_wp2_with (go_at_call 48; refine (hc _).mono ?_; rintro e w' ⟨rfl, hb⟩)
    go_returns
    exact ⟨Asm.ret_s (Asm.x_app _), (hbx _).trans hb⟩
  · have hln := Asm.itoa_len (n := i.rs1) (by omega) (by omega)
    have hc := fun o => Itoa_c i.rs1 (by omega) (by omega) (w.alloc o) (hp2 o)
    go_enter Tryd.func23, Tryd.ntmps23
    go_wp2_with (go_at_call 48; refine (hc _).mono ?_; rintro e w' ⟨rfl, hb⟩)
    go_returns
    exact ⟨Asm.ret_s (Asm.x_app _), (hbx _).trans hb⟩
  · have hln := Asm.itoa_len (n := i.rs2) (by omega) (by omega)
    have hc := fun o => Itoa_c i.rs2 (by omega) (by omega) (w.alloc o) (hp2 o)
    go_enter Tryd.func23, Tryd.ntmps23
    go_wp2_with (go_at_call 48; refine (hc _).mono ?_; rintro e w' ⟨rfl, hb⟩)
    go_returns
    exact ⟨Asm.ret_s (Asm.x_app _), (hbx _).trans hb⟩
  · have hc := fun o => Itoa_c i.imm (by omega) (by omega) (w.alloc o) (hp2 o)
    go_enter Tryd.func23, Tryd.ntmps23
    go_wp2_with (go_at_call 48; refine (hc _).mono ?_; rintro e w' ⟨rfl, hb⟩)
    go_returns
    exact ⟨rfl, (hbx _).trans hb⟩
  · have hc := fun o => Itoa_c (i.imm % 4294967296 / 4096) (by omega) (by omega) (w.alloc o) (hp2 o)
    go_enter Tryd.func23, Tryd.ntmps23
    go_wp2_with (go_at_call 48; refine (hc _).mono ?_; rintro e w' ⟨rfl, hb⟩)
    go_returns
    exact ⟨rfl, (hbx _).trans hb⟩
  · go_enter Tryd.func23, Tryd.ntmps23
    go_wp2
    go_returns
    exact ⟨rfl, hbx _⟩
  · go_enter Tryd.func23, Tryd.ntmps23
    go_wp2
    go_returns
    exact ⟨rfl, hbx _⟩
  · go_enter Tryd.func23, Tryd.ntmps23
    go_wp2
    go_returns
    exact ⟨rfl, hbx _⟩
end Go.Proofs.YtllgkofibkobnaaDoor
namespace Go.Proofs.YtllgkofibkobnaaDoor
open Go.ChangeShapes Go.WideShapes Go.ChangeAt Go.RowKit

theorem Tabs.bw {w w' : World} (h : Tabs w) (g : Bw w w') : Tabs w' :=
  ⟨fun i hi => g.keep (h.wo i hi), fun i hi => g.keep (h.br i hi), fun i hi => g.keep (h.ld i hi), fun i hi => g.keep (h.st i hi), fun i hi => g.keep (h.im i hi), fun i hi => g.keep (h.rg i hi)⟩
theorem NTab.bw {w w' : World} (h : NTab w) (g : Bw w w') : NTab w' := fun i hi => g.keep (h i hi)
/-- An instruction's block. -/
structure IBox (w : World) (b : Nat) (i : Rv.Ins) : Prop where
  c0 : w.cell? ⟨b, 0, none⟩ = some (.int .i64 i.op)
  c1 : w.cell? ⟨b, 1, none⟩ = some (.int .i64 i.rd)
  c2 : w.cell? ⟨b, 2, none⟩ = some (.int .i64 i.rs1)
  c3 : w.cell? ⟨b, 3, none⟩ = some (.int .i64 i.rs2)
  c4 : w.cell? ⟨b, 4, none⟩ = some (.int .i32 i.imm)
theorem IBox.bw {w w' : World} {b : Nat} {i : Rv.Ins} (h : IBox w b i) (g : Bw w w') : IBox w' b i := ⟨g.keep h.c0, g.keep h.c1, g.keep h.c2, g.keep h.c3, g.keep h.c4⟩
theorem IBox.new (w : World) (i : Rv.Ins) (T : TypeId) : IBox (w.alloc (.cells #[.int .i64 i.op, .int .i64 i.rd, .int .i64 i.rs1, .int .i64 i.rs2, .int .i32 i.imm] T)) w.heap.size i := by
  constructor <;> simp [World.cell?, World.alloc, -World.alloc_eq]
theorem Asm.name_eq {i : Rv.Ins} (h : 1 ≤ i.op ∧ i.op ≤ 49) : Rv.name i.op = bs (Rv.nmT.getD i.op.toNat []) := by unfold Rv.name; rw [if_pos h]; rfl
theorem Asm.shape_b (op : Int) : (Asm.shape op).length ≤ 6 ∧ ∀ p ∈ Asm.shape op, p ∈ ([100, 115, 116, 105, 117, 44, 40, 41] : List UInt8) := by
  rcases Asm.shape_all op with ⟨h, e⟩ | ⟨⟨h, h2⟩, e⟩ | ⟨⟨h, h2⟩, e⟩ | ⟨⟨h, h2⟩, e⟩ | ⟨⟨h, h2⟩, e⟩ | ⟨⟨h, h2⟩, e⟩ | ⟨⟨h, h2⟩, e⟩ | ⟨⟨h, h2⟩, e⟩ | ⟨h, e⟩ <;> (rw [e]; decide)

theorem bs_app (a b : List UInt8) : bs a ++ bs b = bs (a ++ b) := by
  apply ByteArray.ext
  simp [bs]
theorem Asm.ptext_len (i : Rv.Ins) (p : UInt8) (hr : Rv.reg i.rd ∧ Rv.reg i.rs1 ∧ Rv.reg i.rs2) (hm : -2147483648 ≤ i.imm ∧ i.imm < 2147483648) : (Asm.ptext i p).length ≤ 12 := by
  obtain ⟨⟨d0, d1⟩, ⟨s0, s1⟩, ⟨t0, t1⟩⟩ := hr
  have h1 := Asm.itoa_len (n := i.rd) (by omega) (by omega)
  have h2 := Asm.itoa_len (n := i.rs1) (by omega) (by omega)
  have h3 := Asm.itoa_len (n := i.rs2) (by omega) (by omega)
  have h4 := Asm.itoa_len (n := i.imm) (by omega) (by omega)
  have h5 := Asm.itoa_len (n := i.imm % 4294967296 / 4096) (by omega) (by omega)
  unfold Asm.ptext
  (repeat' split) <;> simp <;> omega
theorem Asm.ptexts_snoc (i : Rv.Ins) (P : List UInt8) (j : Nat) (b : UInt8) (h : P[j]? = some b) : Asm.ptexts i (P.take (j + 1)) = Asm.ptexts i (P.take j) ++ Asm.ptext i b := by
  rw [Asm.all_take h]; simp [Asm.ptexts]
theorem Asm.ptexts_len (i : Rv.Ins) (P : List UInt8) (hr : Rv.reg i.rd ∧ Rv.reg i.rs1 ∧ Rv.reg i.rs2) (hm : -2147483648 ≤ i.imm ∧ i.imm < 2147483648) : (Asm.ptexts i P).length ≤ 12 * P.length := by
  induction P with
  | nil => simp [Asm.ptexts]
  | cons b t ih =>
    have := Asm.ptext_len i b hr hm
    simp [Asm.ptexts] at ih ⊢
    omega
set_option maxRecDepth 100000 in
theorem Text_bad (i : Rv.Ins) (w : World) (ht : Tabs w) (hm : -2147483648 ≤ i.imm ∧ i.imm < 2147483648) (h : ¬ Rv.good i) :
    Calls Tryd.prog 8 #[Rv.iv i] w fun e w' => e = .returned (.string (bs [])) ∧ Bw w w' := by
  have hc := fun o => Encode_bad i (w.alloc o) (ht.bw ((Bw.refl w).alloc o)) hm h
  unfold Rv.iv at hc ⊢
  go_enter Tryd.func8, Tryd.ntmps8
  go_wp2_with (go_at_call 20; refine (hc _).mono ?_; rintro e w' ⟨rfl, g⟩)
  go_returns
  exact ⟨rfl, ((Bw.refl w).alloc _).gr g⟩
set_option maxRecDepth 100000 in
theorem Text_good (i : Rv.Ins) (w : World) (ht : Tabs w) (hn : NTab w) (hp : PTab w) (hm : -2147483648 ≤ i.imm ∧ i.imm < 2147483648) (h : Rv.good i) :
    Calls Tryd.prog 8 #[Rv.iv i] w fun e w' => e = .returned (.string (bs (Asm.gtext i))) ∧ Bw w w' := by
  have hc := fun o => Encode_good i (w.alloc o) (ht.bw ((Bw.refl w).alloc o)) hm h
  have hib := IBox.new w i 29
  have hb0 := (Bw.refl w).alloc (.cells #[.int .i64 i.op, .int .i64 i.rd, .int .i64 i.rs1, .int .i64 i.rs2, .int .i32 i.imm] 29)
  have hreg : Rv.reg i.rd ∧ Rv.reg i.rs1 ∧ Rv.reg i.rs2 := ⟨h.2.1, h.2.2.1, h.2.2.2.1⟩
  have hNm := fun w1 h => Name_c i.op w1 h
  rw [Asm.name_eq h.1] at hNm
  have hnl := (Asm.nm_ne i.op.toNat (by have := h.1; omega) (by have := h.1; omega)).2
  have hSh := shape_c i.op
  have hsb := Asm.shape_b i.op
  have HG : Hid (Asm.gtext i = Rv.nmT.getD i.op.toNat [] ++ ((if Asm.shape i.op = [] then [] else [32]) ++ Asm.ptexts i (Asm.shape i.op))) := rfl
  clear h
  generalize Asm.gtext i = G at *
  generalize Asm.shape i.op = P at *
  generalize Rv.nmT.getD i.op.toNat [] = nm at *
  obtain ⟨hp6, hpm⟩ := hsb
  have HPm : Hid _ := hpm
  clear hpm
  have hpt := fun p w hp => partText_c i p w hp hreg hm
  unfold Rv.iv at hc hpt ⊢
  have hP : (P = [] ∧ P.isEmpty = true) ∨ (P ≠ [] ∧ P.isEmpty = false) := by cases P <;> simp
  obtain ⟨pre, hpre⟩ : ∃ pre, pre = nm ++ (if P = [] then [] else [32]) := ⟨_, rfl⟩
  have hG : G = pre ++ Asm.ptexts i P := by rw [hpre]; show G = _; rw [show G = _ from HG]; simp
  have hpl : pre.length ≤ 8 := by rw [hpre]; split <;> simp <;> omega
  have hsz := bs_size P
  have HPre : Hid _ := hpre
  have HGG : Hid _ := hG
  clear hpre hG HG
  rcases hP with ⟨hP, he⟩ | ⟨hP, he⟩
  · have HP : Hid _ := hP
    clear hP
    go_enter Tryd.func8, Tryd.ntmps8
    go_wp2_with (go_at_call 20; refine (hc _).mono ?_; rintro e w1 ⟨rfl, g⟩; have hb1 := hb0.gr g; obtain ⟨i0, i1, i2, i3, i4⟩ := hib.bw g.bw)
    refine (hNm w1 (hn.bw hb1)).mono ?_
    rintro e w' ⟨rfl, rfl⟩
    go_wp2_with (go_at_call 22; refine (hSh _).mono ?_; rintro e w' ⟨rfl, rfl⟩)
    have hst : Hid (bs nm = bs (pre ++ Asm.ptexts i (P.take 0))) := by show bs nm = _; congr 1; rw [show pre = _ from HPre, if_pos (show P = [] from HP)]; simp [Asm.ptexts]
    have hib1 : IBox w' w.heap.size i := ⟨i0, i1, i2, i3, i4⟩
    clear i0 i1 i2 i3 i4 hNm hSh hc hib hb0 g
    go_loopg [5] P.length (fun g t wr => ∃ j : Nat, j + g = P.length ∧ t = .string (bs (pre ++ Asm.ptexts i (P.take j))) ∧ Bw w' wr ∧ wr.heap[w'.heap.size]? = some (.stringIter (bs P) j))
    case atStart => exact ⟨0, by omega, congrArg Value.string hst, (Bw.refl _).alloc _, by simp [World.alloc, World.iter, -World.alloc_eq]⟩
    case round =>
      obtain ⟨j, hj, rfl, hbw, hit⟩ := hrel
      cases gk with
      | zero =>
        obtain rfl : j = P.length := by omega
        have hnx := fun ty => Lib.run_next_end_at (P := Tryd.prog) wr w'.heap.size (bs P) P.length ty hit (by rw [bs_size]; omega)
        rw [List.take_length]
        go_wp2
        go_returns
        exact ⟨Asm.ret_s (congrArg bs (show G = _ from HGG).symm), hb1.trans hbw⟩
      | succ g =>
        obtain ⟨b, hb⟩ : ∃ b, P[j]? = some b := ⟨P[j], by simp⟩
        have hbm := HPm b (List.mem_of_getElem? hb)
        have h128 : b.toNat < 128 := by simp at hbm; rcases hbm with rfl | rfl | rfl | rfl | rfl | rfl | rfl | rfl <;> decide
        have hlt : j < (bs P).size := by rw [bs_size]; omega
        have hgb := bs_get P j b hb hlt
        have hnx := fun ty => Lib.run_next_ascii_at (P := Tryd.prog) wr w'.heap.size (bs P) j ty hit hlt (by rw [hgb]; exact h128)
        rw [hgb] at hnx
        have hit2 := Lib.iterAt_heap wr w'.heap.size (bs P) j (j + 1) hit
        have hbw2 := hbw.iterAt (Nat.le_refl _) (bs P) (j + 1)
        generalize wr.iterAt w'.heap.size (bs P) (j + 1) = w2 at *
        obtain ⟨i0, i1, i2, i3, i4⟩ := hib1.bw hbw2
        have hpc := hpt b w2 (hp.bw (hb1.trans hbw2)) hbm
        have hl2 := Asm.ptext_len i b hreg hm
        have hl1 := Asm.ptexts_len i (P.take j) hreg hm
        rw [List.length_take] at hl1
        have HN : Hid _ := Asm.ptexts_snoc i P j b hb
        have hl3 : (pre ++ Asm.ptexts i (P.take j)).length ≤ 80 := by rw [List.length_append]; omega
        have HT : Hid (pre ++ Asm.ptexts i (P.take (j + 1)) = (pre ++ Asm.ptexts i (P.take j)) ++ Asm.ptext i b) := by show _ = _; rw [show _ = _ from HN]; simp
        generalize pre ++ Asm.ptexts i (P.take j) = T at *
        generalize Asm.ptext i b = X at *
        clear hl1 hgb hbw hit hib1 HN hb
        go_wp2_with (go_at_call 23; refine hpc.mono ?_; rintro e w3 ⟨rfl, hb3⟩)
        go_roundg g
        case measure => omega
        case rel => exact ⟨j + 1, by omega, by rw [show _ = _ from HT]; exact congrArg Value.string (bs_app T X), hbw2.trans hb3, hb3.it hit2⟩
  · have HP : Hid _ := hP
    clear hP
    go_enter Tryd.func8, Tryd.ntmps8
    go_wp2_with (go_at_call 20; refine (hc _).mono ?_; rintro e w1 ⟨rfl, g⟩; have hb1 := hb0.gr g; obtain ⟨i0, i1, i2, i3, i4⟩ := hib.bw g.bw)
    refine (hNm w1 (hn.bw hb1)).mono ?_
    rintro e w' ⟨rfl, rfl⟩
    go_wp2_with (go_at_call 22; refine (hSh _).mono ?_; rintro e w' ⟨rfl, rfl⟩)
    have hst : Hid (bs nm ++ ⟨#[32]⟩ = bs (pre ++ Asm.ptexts i (P.take 0))) := by show bs nm ++ bs [32] = _; rw [bs_app]; congr 1; rw [show pre = _ from HPre, if_neg (show P ≠ [] from HP)]; simp [Asm.ptexts]
    have hib1 : IBox w' w.heap.size i := ⟨i0, i1, i2, i3, i4⟩
    clear i0 i1 i2 i3 i4 hNm hSh hc hib hb0 g
    go_loopg [5] P.length (fun g t wr => ∃ j : Nat, j + g = P.length ∧ t = .string (bs (pre ++ Asm.ptexts i (P.take j))) ∧ Bw w' wr ∧ wr.heap[w'.heap.size]? = some (.stringIter (bs P) j))
    case atStart => exact ⟨0, by omega, congrArg Value.string hst, (Bw.refl _).alloc _, by simp [World.alloc, World.iter, -World.alloc_eq]⟩
    case round =>
      obtain ⟨j, hj, rfl, hbw, hit⟩ := hrel
      cases gk with
      | zero =>
        obtain rfl : j = P.length := by omega
        have hnx := fun ty => Lib.run_next_end_at (P := Tryd.prog) wr w'.heap.size (bs P) P.length ty hit (by rw [bs_size]; omega)
        rw [List.take_length]
        go_wp2
        go_returns
        exact ⟨Asm.ret_s (congrArg bs (show G = _ from HGG).symm), hb1.trans hbw⟩
      | succ g =>
        obtain ⟨b, hb⟩ : ∃ b, P[j]? = some b := ⟨P[j], by simp⟩
        have hbm := HPm b (List.mem_of_getElem? hb)
        have h128 : b.toNat < 128 := by simp at hbm; rcases hbm with rfl | rfl | rfl | rfl | rfl | rfl | rfl | rfl <;> decide
        have hlt : j < (bs P).size := by rw [bs_size]; omega
        have hgb := bs_get P j b hb hlt
        have hnx := fun ty => Lib.run_next_ascii_at (P := Tryd.prog) wr w'.heap.size (bs P) j ty hit hlt (by rw [hgb]; exact h128)
        rw [hgb] at hnx
        have hit2 := Lib.iterAt_heap wr w'.heap.size (bs P) j (j + 1) hit
        have hbw2 := hbw.iterAt (Nat.le_refl _) (bs P) (j + 1)
        generalize wr.iterAt w'.heap.size (bs P) (j + 1) = w2 at *
        obtain ⟨i0, i1, i2, i3, i4⟩ := hib1.bw hbw2
        have hpc := hpt b w2 (hp.bw (hb1.trans hbw2)) hbm
        have hl2 := Asm.ptext_len i b hreg hm
        have hl1 := Asm.ptexts_len i (P.take j) hreg hm
        rw [List.length_take] at hl1
        have HN : Hid _ := Asm.ptexts_snoc i P j b hb
        have hl3 : (pre ++ Asm.ptexts i (P.take j)).length ≤ 80 := by rw [List.length_append]; omega
        have HT : Hid (pre ++ Asm.ptexts i (P.take (j + 1)) = (pre ++ Asm.ptexts i (P.take j)) ++ Asm.ptext i b) := by show _ = _; rw [show _ = _ from HN]; simp
        generalize pre ++ Asm.ptexts i (P.take j) = T at *
        generalize Asm.ptext i b = X at *
        clear hl1 hgb hbw hit hib1 HN hb
        go_wp2_with (go_at_call 23; refine hpc.mono ?_; rintro e w3 ⟨rfl, hb3⟩)
        go_roundg g
        case measure => omega
        case rel => exact ⟨j + 1, by omega, by rw [show _ = _ from HT]; exact congrArg Value.string (bs_app T X), hbw2.trans hb3, hb3.it hit2⟩
end Go.Proofs.YtllgkofibkobnaaDoor
namespace Go.Proofs.YtllgkofibkobnaaDoor
open Go.ChangeShapes Go.WideShapes Go.ChangeAt Go.RowKit

theorem Asm.name_at {j : Nat} (h0 : 0 < j) (h1 : j < 50) : Rv.name (j : Int) = bs (Rv.nmT.getD j []) := by unfold Rv.name; rw [if_pos (by omega), Int.toNat_natCast]; rfl
theorem Asm.ret_i {a b : Int} (h : a = b) : Ending.returned (.int .i64 a) = .returned (.int .i64 b) := by rw [h]
theorem nameOp_c (l : List UInt8) (w : World) (hn : NTab w) :
    Calls Tryd.prog 43 #[.string (bs l)] w fun e w' => e = .returned (.int .i64 (Asm.opOf l)) ∧ w' = w := by
  go_enter Tryd.func43, Tryd.ntmps43
  go_wp2_with fail
  go_loopw [3] (fun s wr => wr = w ∧ ∃ j : Nat, s = .int .i64 j ∧ 1 ≤ j ∧ j ≤ 50 ∧ ∀ k, 0 < k → k < j → Rv.nmT.getD k [] ≠ l) (fun s _ => 50 - (intOf s).toNat)
  case atStart => exact ⟨rfl, 1, rfl, by omega, by omega, fun k h0 h1 => by omega⟩
  case round =>
    obtain ⟨rfl, j, rfl, j0, j1, hno⟩ := hrel
    have HN : Hid _ := hno
    clear hno
    by_cases e : j = 50
    · subst e
      have hnm : Rv.name ((50 : Nat) : Int) = ⟨#[]⟩ := rfl
      have hN := Name_c ((50 : Nat) : Int) wr hn
      rw [hnm] at hN
      clear hnm
      go_wp2_with (go_at_call 21; refine hN.mono ?_; rintro e w' ⟨rfl, rfl⟩)
      go_ret
      exact ⟨Asm.ret_i (by rw [Asm.opOf_none (fun k h0 h1 => HN k h0 h1)]; rfl), rfl⟩
    · have hN := Name_c (j : Int) wr hn
      rw [Asm.name_at (by omega) (by omega)] at hN
      have hne := (Asm.nm_ne j (by omega) (by omega)).1
      have hemp : (Rv.nmT.getD j []).isEmpty = false := by simpa using hne
      have HA : Hid _ := Asm.opOf_at (k := j) (n := l) (by omega) (by omega)
      generalize hE : Rv.nmT.getD j [] = nm at *
      have HE : Hid _ := hE
      clear hE
      clear hne
      have j2 : (j : Int) < 50 := by omega
      by_cases hq : nm = l
      · subst hq
        have HA2 : Hid (Asm.opOf nm = j) := HA rfl
        clear HA
        have hb : (nm == nm) = true := by simp
        go_wp2_with (go_at_call 21; refine hN.mono ?_; rintro e w' ⟨rfl, rfl⟩)
        go_ret
        exact ⟨Asm.ret_i (by rw [show _ = _ from HA2]), rfl⟩
      · have hb : (nm == l) = false := by simpa using hq
        have HQ : Hid _ := hq
        clear hq
        go_wp2_with (go_at_call 21; refine hN.mono ?_; rintro e w' ⟨rfl, rfl⟩)
        refine ⟨⟨trivial, j + 1, by simp, by omega, by omega, fun k h0 h1 => ?_⟩, by simp [intOf]; omega⟩
        by_cases hkj : k = j
        · subst hkj; rw [show _ = _ from HE]; exact HQ
        · exact HN k h0 (by omega)

/-- Behind a call that may write block b alone. -/
structure Bx (b : Nat) (w w' : World) : Prop where
  os : w'.os = w.os
  tape : w'.tape = w.tape
  output : w'.output = w.output
  size : w.heap.size ≤ w'.heap.size
  block : ∀ k, k < w.heap.size → k ≠ b → w'.heap[k]? = w.heap[k]?
theorem Bw.bx {w w' : World} (h : Bw w w') (b : Nat) : Bx b w w' := ⟨h.os, h.tape, h.output, h.size, fun k hk _ => h.block k hk⟩
theorem Bx.trans {b : Nat} {u v w : World} (h : Bx b u v) (k : Bx b v w) : Bx b u w :=
  ⟨k.os.trans h.os, k.tape.trans h.tape, k.output.trans h.output, Nat.le_trans h.size k.size, fun i hi hb => (k.block i (Nat.lt_of_lt_of_le hi h.size) hb).trans (h.block i hi hb)⟩
theorem Bx.drew {b : Nat} {u v : World} (h : Bx b u v) : Bx b u v.drew := ⟨h.os, h.tape, h.output, h.size, h.block⟩
theorem Bx.set {b : Nat} {u v : World} (h : Bx b u v) (o : Nat) (x : Value) : Bx b u (v.setCell ⟨b, o, none⟩ x) :=
  ⟨h.os, h.tape, h.output, by simpa using h.size, fun k hk hb => by
    have := h.block k hk hb
    rw [← this]
    exact Below.heap_setCell v ⟨b, o, none⟩ x k hb⟩
/-- From a world whose end lies below b on, all that was there stands. -/
theorem Bx.bw {a u v : World} {b : Nat} (h0 : Bw a u) (h : Bx b u v) (hb : a.heap.size ≤ b) : Bw a v :=
  ⟨h.os.trans h0.os, h.tape.trans h0.tape, h.output.trans h0.output, Nat.le_trans h0.size h.size, fun k hk => (h.block k (Nat.lt_of_lt_of_le hk h0.size) (by omega)).trans (h0.block k hk)⟩
theorem Bx.it {b : Nat} {w w' : World} (h : Bx b w w') {k : Nat} {s : ByteArray} {pos : Nat} (hkb : k ≠ b) (hk : w.heap[k]? = some (.stringIter s pos)) : w'.heap[k]? = some (.stringIter s pos) := by
  have hlt : k < w.heap.size := (Array.getElem?_eq_some_iff.1 hk).1
  rw [h.block k hlt hkb]; exact hk
/-- An instruction's block, which may be written. -/
structure IW (w : World) (b : Nat) (i : Rv.Ins) : Prop where
  box : IBox w b i
  fz : ∀ o : Nat, w.frozen? ⟨b, o, none⟩ = false
theorem IW.bw {w w' : World} {b : Nat} {i : Rv.Ins} (h : IW w b i) (g : Bw w w') : IW w' b i := by
  refine ⟨h.box.bw g, fun o => ?_⟩
  have hb : b < w.heap.size := by
    apply Decidable.byContradiction
    intro hn
    have : w.heap[b]? = none := by simp; omega
    have h0 := h.box.c0
    simp [World.cell?, this] at h0
  rw [Below.frozen g (p := ⟨b, o, none⟩) hb]; exact h.fz o
theorem IW.drew {w : World} {b : Nat} {i : Rv.Ins} (h : IW w b i) : IW w.drew b i := h.bw (Bw.refl w).drew
theorem IW.rd {w : World} {b : Nat} {i : Rv.Ins} (h : IW w b i) (r : Int) : IW (w.setCell ⟨b, 1, none⟩ (.int .i64 r)) b ⟨i.op, r, i.rs1, i.rs2, i.imm⟩ := by
  obtain ⟨⟨c0, c1, c2, c3, c4⟩, fz⟩ := h
  refine ⟨⟨?_, ?_, ?_, ?_, ?_⟩, fun o => by simp [fz]⟩ <;> simp [go_sem, c0, c1, c2, c3, c4]
theorem IW.rs1 {w : World} {b : Nat} {i : Rv.Ins} (h : IW w b i) (r : Int) : IW (w.setCell ⟨b, 2, none⟩ (.int .i64 r)) b ⟨i.op, i.rd, r, i.rs2, i.imm⟩ := by
  obtain ⟨⟨c0, c1, c2, c3, c4⟩, fz⟩ := h
  refine ⟨⟨?_, ?_, ?_, ?_, ?_⟩, fun o => by simp [fz]⟩ <;> simp [go_sem, c0, c1, c2, c3, c4]
theorem IW.rs2 {w : World} {b : Nat} {i : Rv.Ins} (h : IW w b i) (r : Int) : IW (w.setCell ⟨b, 3, none⟩ (.int .i64 r)) b ⟨i.op, i.rd, i.rs1, r, i.imm⟩ := by
  obtain ⟨⟨c0, c1, c2, c3, c4⟩, fz⟩ := h
  refine ⟨⟨?_, ?_, ?_, ?_, ?_⟩, fun o => by simp [fz]⟩ <;> simp [go_sem, c0, c1, c2, c3, c4]
theorem IW.imm {w : World} {b : Nat} {i : Rv.Ins} (h : IW w b i) (r : Int) : IW (w.setCell ⟨b, 4, none⟩ (.int .i32 r)) b ⟨i.op, i.rd, i.rs1, i.rs2, r⟩ := by
  obtain ⟨⟨c0, c1, c2, c3, c4⟩, fz⟩ := h
  refine ⟨⟨?_, ?_, ?_, ?_, ?_⟩, fun o => by simp [fz]⟩ <;> simp [go_sem, c0, c1, c2, c3, c4]
end Go.Proofs.YtllgkofibkobnaaDoor
