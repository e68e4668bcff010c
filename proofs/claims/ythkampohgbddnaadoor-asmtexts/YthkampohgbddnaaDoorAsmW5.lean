/- LAYER 6's walks: Text. -/
import Derived.Test.YthkampohgbddnaaDoorAsmW4
namespace Go.Proofs.YthkampohgbddnaaDoor
open Go.ChangeShapes Go.WideShapes Go.ChangeAt Go.RowKit

theorem Tabs.bw {w w' : World} (h : Tabs w) (g : Bw w w') : Tabs w' :=
  ⟨fun i hi => g.keep (h.wo i hi), fun i hi => g.keep (h.br i hi), fun i hi => g.keep (h.ld i hi), fun i hi => g.keep (h.st i hi), fun i hi => g.keep (h.im i hi), fun i hi => g.keep (h.rg i hi)⟩
theorem NTab.bw {w w' : World} (h : NTab w) (g : Bw w w') : NTab w' := fun i hi => g.keep (h i hi)
/-- An instruction's block. -/
structure IBox (w : World) (b : Nat) (i : Rv.Ins) : Prop where
  c0 : w.cell? ⟨b, 0, none⟩ = some (.int .i64 i.op)
  c1 : w.cell? ⟨b, 1, none⟩ = some (.int .i64 i.rd)
  c2 : w.cell? ⟨b, 2, none⟩ = some (.int .i64 i.rs1)
  c3 : w.cell? ⟨b, 3, none⟩ = some (.int .i64 i.rs2)
  c4 : w.cell? ⟨b, 4, none⟩ = some (.int .i32 i.imm)
theorem IBox.bw {w w' : World} {b : Nat} {i : Rv.Ins} (h : IBox w b i) (g : Bw w w') : IBox w' b i := ⟨g.keep h.c0, g.keep h.c1, g.keep h.c2, g.keep h.c3, g.keep h.c4⟩
theorem IBox.new (w : World) (i : Rv.Ins) (T : TypeId) : IBox (w.alloc (.cells #[.int .i64 i.op, .int .i64 i.rd, .int .i64 i.rs1, .int .i64 i.rs2, .int .i32 i.imm] T)) w.heap.size i := by
  constructor <;> simp [World.cell?, World.alloc, -World.alloc_eq]
theorem Asm.name_eq {i : Rv.Ins} (h : 1 ≤ i.op ∧ i.op ≤ 49) : Rv.name i.op = bs (Rv.nmT.getD i.op.toNat []) := by unfold Rv.name; rw [if_pos h]; rfl
theorem Asm.shape_b (op : Int) : (Asm.shape op).length ≤ 6 ∧ ∀ p ∈ Asm.shape op, p ∈ ([100, 115, 116, 105, 117, 44, 40, 41] : List UInt8) := by
  rcases Asm.shape_all op with ⟨h, e⟩ | ⟨⟨h, h2⟩, e⟩ | ⟨⟨h, h2⟩, e⟩ | ⟨⟨h, h2⟩, e⟩ | ⟨⟨h, h2⟩, e⟩ | ⟨⟨h, h2⟩, e⟩ | ⟨⟨h, h2⟩, e⟩ | ⟨⟨h, h2⟩, e⟩ | ⟨h, e⟩ <;> (rw [e]; decide)

theorem bs_app (a b : List UInt8) : bs a ++ bs b = bs (a ++ b) := by
  apply ByteArray.ext
  simp [bs]
theorem Asm.ptext_len (i : Rv.Ins) (p : UInt8) (hr : Rv.reg i.rd ∧ Rv.reg i.rs1 ∧ Rv.reg i.rs2) (hm : -2147483648 ≤ i.imm ∧ i.imm < 2147483648) : (Asm.ptext i p).length ≤ 12 := by
  obtain ⟨⟨d0, d1⟩, ⟨s0, s1⟩, ⟨t0, t1⟩⟩ := hr
  have h1 := Asm.itoa_len (n := i.rd) (by omega) (by omega)
  have h2 := Asm.itoa_len (n := i.rs1) (by omega) (by omega)
  have h3 := Asm.itoa_len (n := i.rs2) (by omega) (by omega)
  have h4 := Asm.itoa_len (n := i.imm) (by omega) (by omega)
  have h5 := Asm.itoa_len (n := i.imm % 4294967296 / 4096) (by omega) (by omega)
  unfold Asm.ptext
  (repeat' split) <;> simp <;> omega
theorem Asm.ptexts_snoc (i : Rv.Ins) (P : List UInt8) (j : Nat) (b : UInt8) (h : P[j]? = some b) : Asm.ptexts i (P.take (j + 1)) = Asm.ptexts i (P.take j) ++ Asm.ptext i b := by
  rw [Asm.all_take h]; simp [Asm.ptexts]
theorem Asm.ptexts_len (i : Rv.Ins) (P : List UInt8) (hr : Rv.reg i.rd ∧ Rv.reg i.rs1 ∧ Rv.reg i.rs2) (hm : -2147483648 ≤ i.imm ∧ i.imm < 2147483648) : (Asm.ptexts i P).length ≤ 12 * P.length := by
  induction P with
  | nil => simp [Asm.ptexts]
  | cons b t ih =>
    have := Asm.ptext_len i b hr hm
    simp [Asm.ptexts] at ih ⊢
    omega
set_option maxRecDepth 100000 in
theorem Text_bad (i : Rv.Ins) (w : World) (ht : Tabs w) (hm : -2147483648 ≤ i.imm ∧ i.imm < 2147483648) (h : ¬ Rv.good i) :
    Calls Tryd.prog 10 #[Rv.iv i] w fun e w' => e = .returned (.string (bs [])) ∧ Bw w w' := by
  have hc := fun o => Encode_bad i (w.alloc o) (ht.bw ((Bw.refl w).alloc o)) hm h
  unfold Rv.iv at hc ⊢
  go_enter Tryd.func10, Tryd.ntmps10
  go_wp2_with (go_at_call 15; refine (hc _).mono ?_; rintro e w' ⟨rfl, g⟩)
  go_returns
  exact ⟨rfl, ((Bw.refl w).alloc _).gr g⟩
set_option maxRecDepth 100000 in
theorem Text_good (i : Rv.Ins) (w : World) (ht : Tabs w) (hn : NTab w) (hp : PTab w) (hm : -2147483648 ≤ i.imm ∧ i.imm < 2147483648) (h : Rv.good i) :
    Calls Tryd.prog 10 #[Rv.iv i] w fun e w' => e = .returned (.string (bs (Asm.gtext i))) ∧ Bw w w' := by
  have hc := fun o => Encode_good i (w.alloc o) (ht.bw ((Bw.refl w).alloc o)) hm h
  have hib := IBox.new w i 23
  have hb0 := (Bw.refl w).alloc (.cells #[.int .i64 i.op, .int .i64 i.rd, .int .i64 i.rs1, .int .i64 i.rs2, .int .i32 i.imm] 23)
  have hreg : Rv.reg i.rd ∧ Rv.reg i.rs1 ∧ Rv.reg i.rs2 := ⟨h.2.1, h.2.2.1, h.2.2.2.1⟩
  have hNm := fun w1 h => Name_c i.op w1 h
  rw [Asm.name_eq h.1] at hNm
  have hnl := (Asm.nm_ne i.op.toNat (by have := h.1; omega) (by have := h.1; omega)).2
  have hSh := shape_c i.op
  have hsb := Asm.shape_b i.op
  have HG : Hid (Asm.gtext i = Rv.nmT.getD i.op.toNat [] ++ ((if Asm.shape i.op = [] then [] else [32]) ++ Asm.ptexts i (Asm.shape i.op))) := rfl
  clear h
  generalize Asm.gtext i = G at *
  generalize Asm.shape i.op = P at *
  generalize Rv.nmT.getD i.op.toNat [] = nm at *
  obtain ⟨hp6, hpm⟩ := hsb
  have HPm : Hid _ := hpm
  clear hpm
  have hpt := fun p w hp => partText_c i p w hp hreg hm
  unfold Rv.iv at hc hpt ⊢
  have hP : (P = [] ∧ P.isEmpty = true) ∨ (P ≠ [] ∧ P.isEmpty = false) := by cases P <;> simp
  obtain ⟨pre, hpre⟩ : ∃ pre, pre = nm ++ (if P = [] then [] else [32]) := ⟨_, rfl⟩
  have hG : G = pre ++ Asm.ptexts i P := by rw [hpre]; show G = _; rw [show G = _ from HG]; simp
  have hpl : pre.length ≤ 8 := by rw [hpre]; split <;> simp <;> omega
  have hsz := bs_size P
  have HPre : Hid _ := hpre
  have HGG : Hid _ := hG
  clear hpre hG HG
  rcases hP with ⟨hP, he⟩ | ⟨hP, he⟩
  · have HP : Hid _ := hP
    clear hP
    go_enter Tryd.func10, Tryd.ntmps10
    go_wp2_with (go_at_call 15; refine (hc _).mono ?_; rintro e w1 ⟨rfl, g⟩; have hb1 := hb0.gr g; obtain ⟨i0, i1, i2, i3, i4⟩ := hib.bw g.bw)
    refine (hNm w1 (hn.bw hb1)).mono ?_
    rintro e w' ⟨rfl, rfl⟩
    go_wp2_with (go_at_call 18; refine (hSh _).mono ?_; rintro e w' ⟨rfl, rfl⟩)
    have hst : Hid (bs nm = bs (pre ++ Asm.ptexts i (P.take 0))) := by show bs nm = _; congr 1; rw [show pre = _ from HPre, if_pos (show P = [] from HP)]; simp [Asm.ptexts]
    have hib1 : IBox w' w.heap.size i := ⟨i0, i1, i2, i3, i4⟩
    clear i0 i1 i2 i3 i4 hNm hSh hc hib hb0 g
    go_loopg [5] P.length (fun g t wr => ∃ j : Nat, j + g = P.length ∧ t = .string (bs (pre ++ Asm.ptexts i (P.take j))) ∧ Bw w' wr ∧ wr.heap[w'.heap.size]? = some (.stringIter (bs P) j))
    case atStart => exact ⟨0, by omega, congrArg Value.string hst, (Bw.refl _).alloc _, by simp [World.alloc, World.iter, -World.alloc_eq]⟩
    case round =>
      obtain ⟨j, hj, rfl, hbw, hit⟩ := hrel
      cases gk with
      | zero =>
        obtain rfl : j = P.length := by omega
        have hnx := fun ty => Lib.run_next_end_at (P := Tryd.prog) wr w'.heap.size (bs P) P.length ty hit (by rw [bs_size]; omega)
        rw [List.take_length]
        go_wp2
        go_returns
        exact ⟨Asm.ret_s (congrArg bs (show G = _ from HGG).symm), hb1.trans hbw⟩
      | succ g =>
        obtain ⟨b, hb⟩ : ∃ b, P[j]? = some b := ⟨P[j], by simp⟩
        have hbm := HPm b (List.mem_of_getElem? hb)
        have h128 : b.toNat < 128 := by simp at hbm; rcases hbm with rfl | rfl | rfl | rfl | rfl | rfl | rfl | rfl <;> decide
        have hlt : j < (bs P).size := by rw [bs_size]; omega
        have hgb := bs_get P j b hb hlt
        have hnx := fun ty => Lib.run_next_ascii_at (P := Tryd.prog) wr w'.heap.size (bs P) j ty hit hlt (by rw [hgb]; exact h128)
        rw [hgb] at hnx
        have hit2 := Lib.iterAt_heap wr w'.heap.size (bs P) j (j + 1) hit
        have hbw2 := hbw.iterAt (Nat.le_refl _) (bs P) (j + 1)
        generalize wr.iterAt w'.heap.size (bs P) (j + 1) = w2 at *
        obtain ⟨i0, i1, i2, i3, i4⟩ := hib1.bw hbw2
        have hpc := hpt b w2 (hp.bw (hb1.trans hbw2)) hbm
        have hl2 := Asm.ptext_len i b hreg hm
        have hl1 := Asm.ptexts_len i (P.take j) hreg hm
        rw [List.length_take] at hl1
        have HN : Hid _ := Asm.ptexts_snoc i P j b hb
        have hl3 : (pre ++ Asm.ptexts i (P.take j)).length ≤ 80 := by rw [List.length_append]; omega
        have HT : Hid (pre ++ Asm.ptexts i (P.take (j + 1)) = (pre ++ Asm.ptexts i (P.take j)) ++ Asm.ptext i b) := by show _ = _; rw [show _ = _ from HN]; simp
        generalize pre ++ Asm.ptexts i (P.take j) = T at *
        generalize Asm.ptext i b = X at *
        clear hl1 hgb hbw hit hib1 HN hb
        go_wp2_with (go_at_call 19; refine hpc.mono ?_; rintro e w3 ⟨rfl, hb3⟩)
        go_roundg g
        case measure => omega
        case rel => exact ⟨j + 1, by omega, by rw [show _ = _ from HT]; exact congrArg Value.string (bs_app T X), hbw2.trans hb3, hb3.it hit2⟩
  · have HP : Hid _ := hP
    clear hP
    go_enter Tryd.func10, Tryd.ntmps10
    go_wp2_with (go_at_call 15; refine (hc _).mono ?_; rintro e w1 ⟨rfl, g⟩; have hb1 := hb0.gr g; obtain ⟨i0, i1, i2, i3, i4⟩ := hib.bw g.bw)
    refine (hNm w1 (hn.bw hb1)).mono ?_
    rintro e w' ⟨rfl, rfl⟩
    go_wp2_with (go_at_call 18; refine (hSh _).mono ?_; rintro e w' ⟨rfl, rfl⟩)
    have hst : Hid (bs nm ++ ⟨#[32]⟩ = bs (pre ++ Asm.ptexts i (P.take 0))) := by show bs nm ++ bs [32] = _; rw [bs_app]; congr 1; rw [show pre = _ from HPre, if_neg (show P ≠ [] from HP)]; simp [Asm.ptexts]
    have hib1 : IBox w' w.heap.size i := ⟨i0, i1, i2, i3, i4⟩
    clear i0 i1 i2 i3 i4 hNm hSh hc hib hb0 g
    go_loopg [5] P.length (fun g t wr => ∃ j : Nat, j + g = P.length ∧ t = .string (bs (pre ++ Asm.ptexts i (P.take j))) ∧ Bw w' wr ∧ wr.heap[w'.heap.size]? = some (.stringIter (bs P) j))
    case atStart => exact ⟨0, by omega, congrArg Value.string hst, (Bw.refl _).alloc _, by simp [World.alloc, World.iter, -World.alloc_eq]⟩
    case round =>
      obtain ⟨j, hj, rfl, hbw, hit⟩ := hrel
      cases gk with
      | zero =>
        obtain rfl : j = P.length := by omega
        have hnx := fun ty => Lib.run_next_end_at (P := Tryd.prog) wr w'.heap.size (bs P) P.length ty hit (by rw [bs_size]; omega)
        rw [List.take_length]
        go_wp2
        go_returns
        exact ⟨Asm.ret_s (congrArg bs (show G = _ from HGG).symm), hb1.trans hbw⟩
      | succ g =>
        obtain ⟨b, hb⟩ : ∃ b, P[j]? = some b := ⟨P[j], by simp⟩
        have hbm := HPm b (List.mem_of_getElem? hb)
        have h128 : b.toNat < 128 := by simp at hbm; rcases hbm with rfl | rfl | rfl | rfl | rfl | rfl | rfl | rfl <;> decide
        have hlt : j < (bs P).size := by rw [bs_size]; omega
        have hgb := bs_get P j b hb hlt
        have hnx := fun ty => Lib.run_next_ascii_at (P := Tryd.prog) wr w'.heap.size (bs P) j ty hit hlt (by rw [hgb]; exact h128)
        rw [hgb] at hnx
        have hit2 := Lib.iterAt_heap wr w'.heap.size (bs P) j (j + 1) hit
        have hbw2 := hbw.iterAt (Nat.le_refl _) (bs P) (j + 1)
        generalize wr.iterAt w'.heap.size (bs P) (j + 1) = w2 at *
        obtain ⟨i0, i1, i2, i3, i4⟩ := hib1.bw hbw2
        have hpc := hpt b w2 (hp.bw (hb1.trans hbw2)) hbm
        have hl2 := Asm.ptext_len i b hreg hm
        have hl1 := Asm.ptexts_len i (P.take j) hreg hm
        rw [List.length_take] at hl1
        have HN : Hid _ := Asm.ptexts_snoc i P j b hb
        have hl3 : (pre ++ Asm.ptexts i (P.take j)).length ≤ 80 := by rw [List.length_append]; omega
        have HT : Hid (pre ++ Asm.ptexts i (P.take (j + 1)) = (pre ++ Asm.ptexts i (P.take j)) ++ Asm.ptext i b) := by show _ = _; rw [show _ = _ from HN]; simp
        generalize pre ++ Asm.ptexts i (P.take j) = T at *
        generalize Asm.ptext i b = X at *
        clear hl1 hgb hbw hit hib1 HN hb
        go_wp2_with (go_at_call 19; refine hpc.mono ?_; rintro e w3 ⟨rfl, hb3⟩)
        go_roundg g
        case measure => omega
        case rel => exact ⟨j + 1, by omega, by rw [show _ = _ from HT]; exact congrArg Value.string (bs_app T X), hbw2.trans hb3, hb3.it hit2⟩
end Go.Proofs.YthkampohgbddnaaDoor
