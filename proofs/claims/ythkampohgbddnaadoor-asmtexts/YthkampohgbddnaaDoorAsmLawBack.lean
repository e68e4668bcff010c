/- LAYER 6's law AsmBack. -/
import Derived.Test.YthkampohgbddnaaDoorAsmLaws
namespace Go.Proofs.YthkampohgbddnaaDoor
open Go.ChangeShapes Go.WideShapes Go.ChangeAt Go.RowKit

theorem Asm.gtext_len {i : Rv.Ins} (h : Rv.good i) (hm : -2147483648 ≤ i.imm ∧ i.imm < 2147483648) : (Asm.gtext i).length ≤ 80 := by
  have h1 := (Asm.nm_ne i.op.toNat (by have := h.1; omega) (by have := h.1; omega)).2
  have h2 := Asm.ptexts_len i (Asm.shape i.op) ⟨h.2.1, h.2.2.1, h.2.2.2.1⟩ hm
  have h3 := (Asm.shape_b i.op).1
  unfold Asm.gtext
  generalize Rv.nmT.getD i.op.toNat [] = nm at *
  rw [List.length_append, List.length_append]
  split
  · simp; omega
  · simp; omega
theorem Rv.eqlInsT (i : Rv.Ins) (w : World) : (binOp .eql 23 (.agg #[.int .i64 i.op, .int .i64 i.rd, .int .i64 i.rs1, .int .i64 i.rs2, .int .i32 i.imm]) (.agg #[.int .i64 i.op, .int .i64 i.rd, .int .i64 i.rs1, .int .i64 i.rs2, .int .i32 i.imm])).run Tryd.prog w = .ok (.bool true) w := by
  rw [run_eql_struct, Rv.eqlIns]; simp [Result.andThen]
theorem AsmBack_w (i : Rv.Ins) (hm : -2147483648 ≤ i.imm ∧ i.imm < 2147483648) (w : World) (ha : All6 w) :
    Calls Tryd.prog 5 #[Rv.iv i] w fun e w' => e = .returned (.bool true) ∧ Bw w w' := by
  have hib := IBox.new w i 23
  have hb0 := (Bw.refl w).alloc (.cells #[.int .i64 i.op, .int .i64 i.rd, .int .i64 i.rs1, .int .i64 i.rs2, .int .i32 i.imm] 23)
  by_cases hg : Rv.good i
  · have hE := fun w h => Encode_good i w (All6.t h) hm hg
    have hT := fun w h => Text_good i w (All6.t h) h.n h.p hm hg
    have hP := fun w h => Parse_c (Asm.gtext i) w (by have := Asm.gtext_len hg hm; omega) (All6.t h) h.n
    rw [Asm.parse_gtext hg hm] at hP
    have hq := Rv.eqlInsT i
    unfold Rv.iv at *
    go_enter Tryd.func5, Tryd.ntmps5
    go_wp2_with fail
    refine (awake6_c _ (ha.bw hb0)).mono ?_
    rintro e w1 ⟨rfl, hb1⟩
    obtain ⟨i0, i1, i2, i3, i4⟩ := hib.bw hb1
    replace hb1 := hb0.trans hb1
    go_wp2_with fail
    refine (hE _ (ha.bw hb1)).mono ?_
    rintro e w2 ⟨rfl, g2⟩
    have hb2 := hb1.gr g2
    obtain ⟨j0, j1, j2, j3, j4⟩ := (show IBox w1 w.heap.size i from ⟨i0, i1, i2, i3, i4⟩).bw g2.bw
    clear i0 i1 i2 i3 i4
    go_wp2_with fail
    refine (hT _ (ha.bw hb2)).mono ?_
    rintro e w3 ⟨rfl, hb3⟩
    obtain ⟨i0, i1, i2, i3, i4⟩ := (show IBox w2 w.heap.size i from ⟨j0, j1, j2, j3, j4⟩).bw hb3
    clear j0 j1 j2 j3 j4
    replace hb3 := hb2.trans hb3
    go_wp2_with fail
    refine (hP _ (ha.bw hb3)).mono ?_
    rintro e w4 ⟨rfl, hb4⟩
    have q := fun o => (show IBox w3 w.heap.size i from ⟨i0, i1, i2, i3, i4⟩).bw (hb4.alloc o)
    have r0 := fun o => (q o).c0
    have r1 := fun o => (q o).c1
    have r2 := fun o => (q o).c2
    have r3 := fun o => (q o).c3
    have r4 := fun o => (q o).c4
    replace hb4 := hb3.trans hb4
    clear i0 i1 i2 i3 i4 q
    go_wp2_with fail
    go_ret
    exact ⟨rfl, hb4.alloc _⟩
  · have hE := fun w h => Encode_bad i w (All6.t h) hm hg
    have hT := fun w h => Text_bad i w (All6.t h) hm hg
    have hP := fun w h => Parse_c [] w (by decide) (All6.t h) h.n
    have hp : Asm.parse (Asm.tok []) = (Asm.zero, 7) := rfl
    rw [hp] at hP
    unfold Rv.iv Asm.zero at *
    dsimp only at hP
    go_enter Tryd.func5, Tryd.ntmps5
    go_wp2_with fail
    refine (awake6_c _ (ha.bw hb0)).mono ?_
    rintro e w1 ⟨rfl, hb1⟩
    obtain ⟨i0, i1, i2, i3, i4⟩ := hib.bw hb1
    replace hb1 := hb0.trans hb1
    go_wp2_with fail
    refine (hE _ (ha.bw hb1)).mono ?_
    rintro e w2 ⟨rfl, g2⟩
    have hb2 := hb1.gr g2
    obtain ⟨j0, j1, j2, j3, j4⟩ := (show IBox w1 w.heap.size i from ⟨i0, i1, i2, i3, i4⟩).bw g2.bw
    clear i0 i1 i2 i3 i4
    go_wp2_with fail
    refine (hT _ (ha.bw hb2)).mono ?_
    rintro e w3 ⟨rfl, hb3⟩
    obtain ⟨i0, i1, i2, i3, i4⟩ := (show IBox w2 w.heap.size i from ⟨j0, j1, j2, j3, j4⟩).bw hb3
    clear j0 j1 j2 j3 j4
    replace hb3 := hb2.trans hb3
    go_wp2_with fail
    refine (hP _ (ha.bw hb3)).mono ?_
    rintro e w4 ⟨rfl, hb4⟩
    have q := fun o => (show IBox w3 w.heap.size i from ⟨i0, i1, i2, i3, i4⟩).bw (hb4.alloc o)
    have r0 := fun o => (q o).c0
    have r1 := fun o => (q o).c1
    have r2 := fun o => (q o).c2
    have r3 := fun o => (q o).c3
    have r4 := fun o => (q o).c4
    replace hb4 := hb3.trans hb4
    clear i0 i1 i2 i3 i4 q
    go_wp2_with fail
    refine (hT _ (ha.bw (hb4.alloc _))).mono ?_
    rintro e w5 ⟨rfl, hb5⟩
    go_wp2_with fail
    go_ret
    exact ⟨rfl, (hb4.alloc _).trans hb5⟩
end Go.Proofs.YthkampohgbddnaaDoor
