/- THE WALKS OF LAYER 3: Copy. -/
import Derived.Test.YtlnfgdbondmglaaMemCopyR
namespace Go.Proofs.Ytlnfgdbondmglaa
open Go.ChangeShapes Go.WideShapes Go.ChangeAt Go.RowKit
set_option linter.unusedSimpArgs false
set_option linter.unusedVariables false

section
variable {w : World} {mb : Nat} {F : Nat → Prop} {N : Nat} {S : MS} {L : Lay}
theorem OwnL.five (h : OwnL w mb F N S L) {K : Nat} (hK : ∀ wx, Gr w wx → (Builtin.len_ #[61] 3 #[.map (some L.bp)]).run Try.prog wx = .ok (.int .i64 K) wx) {wx : World} (g : Gr w wx) :
    wx.cell? ⟨mb, 0, none⟩ = some (.int .i64 S.budget) ∧ wx.cell? ⟨mb, 1, none⟩ = some L.v ∧ wx.cell? ⟨mb, 2, none⟩ = some (.map (some L.bp)) ∧ wx.cell? ⟨mb, 3, none⟩ = some (.map (some L.bg)) ∧ (Builtin.len_ #[61] 3 #[.map (some L.bp)]).run Try.prog wx = .ok (.int .i64 K) wx :=
  ⟨(h.gr g).c0, (h.gr g).c1, (h.gr g).c2, (h.gr g).c3, hK wx g⟩
theorem PMap.len {b n : Nat} {f : Int → Option Nat} (h : PMap w b n f) : ∃ K : Nat, ∀ wx, Gr w wx → (Builtin.len_ #[61] 3 #[.map (some b)]).run Try.prog wx = .ok (.int .i64 K) wx := by
  have hlt := h.lt
  obtain ⟨D, hD, r⟩ := h
  exact ⟨_, fun wx g => (ownsMap_congr hD (g.b.block b hlt)).len Try.underlying61 _⟩

set_option maxRecDepth 100000 in
set_option maxHeartbeats 2000000 in
theorem Copy_c (h : OwnL w mb F N S L) (hN : N ≤ maxLen) :
    Calls Try.prog 32 #[.pointer (some ⟨mb, 0, none⟩)] w fun e w' => ∃ nb, e = .returned (.pointer (some ⟨nb, 0, none⟩)) ∧ Gr w w' ∧ Own w' nb (fun i => w.heap.size ≤ i ∧ i < w'.heap.size) N S := by
  obtain ⟨ep, cp, op⟩ := h.pm.isMapObj
  obtain ⟨eg, cg, og⟩ := h.gm.isMapObj
  have hbud := h.ok.budget
  have hlen : S.th.length ≤ 4096 := by have := h.ok.len; omega
  obtain ⟨K, hK⟩ := h.pm.len
  have hmm : ∀ wx, (Instr.makeMap 61 (some (.int .i64 (K : Int)))).run Try.prog wx = .ok (.map (some wx.heap.size)) (wx.alloc (.map #[] 0)) := fun wx => by
    simp [Instr.makeMap, run_underlying Try.underlying61, asInt, go_sem, Result.andThen]
  have h1 := Gr.refl w
  have hgm := h.gm
  go_enter Try.func32, Try.ntmps32
  go_wp2_with fail
  go_cut [3] from 7 to 28 (fun s3 wx => ∃ nb v bp bg, s3 = .pointer (some ⟨nb, 0, none⟩) ∧ CR w S N nb v bp bg wx)
  case first =>
    go_region_held3 (fun wx => wx.cell? ⟨mb, 0, none⟩ = some (.int .i64 S.budget) ∧ wx.cell? ⟨mb, 1, none⟩ = some L.v ∧ wx.cell? ⟨mb, 2, none⟩ = some (.map (some L.bp)) ∧ wx.cell? ⟨mb, 3, none⟩ = some (.map (some L.bg)) ∧ (Builtin.len_ #[61] 3 #[.map (some L.bp)]).run Try.prog wx = .ok (.int .i64 K) wx)
      ((refine h.five hK ?_; (repeat' (first | exact h1 | (with_reducible exact Gr.refl _) | (with_reducible refine Gr.allocMap ?_ _ _) | (with_reducible refine Gr.alloc ?_ _ _) | (with_reducible refine Gr.drew ?_) | (with_reducible refine Gr.trans ?_ gA)))))
      (first
      | (go_at_call 56; refine (Clone_c (th := S.th) (row_congr h.row (fun g hg => Below.block (B := w.heap.size) (w := w) (Gr.b (by (repeat' (first | exact h1 | (with_reducible exact Gr.refl _) | (with_reducible refine Gr.allocMap ?_ _ _) | (with_reducible refine Gr.alloc ?_ _ _) | (with_reducible refine Gr.drew ?_) | (with_reducible refine Gr.trans ?_ gA))))) g (h.lt _ (h.Fv g hg)))) hlen).mono ?_; rintro e wA ⟨vA, rfl, rowA, gA, blkA⟩; obtain ⟨qA, capA, rfl⟩ := row_shape rowA)
      | (go_at_call 57; refine (mapsClone_c (es := eg) (c := cg) ((Below.block (B := w.heap.size) (w := w) (Gr.b (by (repeat' (first | exact h1 | (with_reducible exact Gr.refl _) | (with_reducible refine Gr.allocMap ?_ _ _) | (with_reducible refine Gr.alloc ?_ _ _) | (with_reducible refine Gr.drew ?_) | (with_reducible refine Gr.trans ?_ gA))))) L.bg (h.lt _ h.Fg)).trans og)).mono ?_; rintro e wB ⟨rfl, rfl⟩))
    all_goals go_wp2_with fail
    all_goals go_meet
    · exact ⟨_, _, _, _, rfl, CR.one (h1.drew.trans gA) rowA blkA hgm og⟩
    · exact ⟨_, _, _, _, rfl, CR.two (h1.drew.trans gA) rowA blkA hgm og⟩
  case rest =>
    obtain ⟨nb, v, bp, bg, rfl, hC⟩ := hcut
    have h2 := h.gr hC.gr
    have c2 := h2.c2
    obtain ⟨D, hD, rD⟩ := h2.pm
    clear h1 hgm hmm hK
    go_wp2_with (first
      | (at_range; refine wpList_range_own _ rfl _ 61 rfl 28 74 u32K Try.underlying61 _ L.bp N _ rfl hD ?_; intro w0 hrg0 hg0 hs0)
      | go_in)
    go_frame
    have hl1 : ∀ i, F i → i < bp := fun i hi => Nat.lt_of_lt_of_le (h.lt i hi) hC.l1
    have hbp : bp < wc.heap.size := hC.pm.lt
    have hLb : L.bp < wc.heap.size := h2.pm.lt
    have hne : L.bp ≠ bp := fun e => by have := hl1 _ h.Fp; omega
    have hnb : nb ≠ bp := fun e => by obtain ⟨_, _, x⟩ := hC.pm.isMapObj; rw [← e, hC.top] at x; cases x
    have hnl : nb < wc.heap.size := (Array.getElem?_eq_some_iff.1 hC.top).1
    have hnc : wc.cell? ⟨nb, 2, none⟩ = some (.map (some bp)) := by simp [World.cell?, hC.top]
    go_loopw [4] (fun _ wr => ∃ (left : Lit → Bool) (cnt M : Nat) (f : Int → Option Nat), CPR wc S L N wc.heap.size bp D left cnt M f wr) (fun _ wr => wr.rangeLeft L.bp wc.heap.size)
    case atStart => exact ⟨_, _, _, _, CPR.start rD hC.pm hrg0 hg0 hs0⟩
    case round =>
      obtain ⟨left, cnt, M, f, hc⟩ := hrel
      have hrg := hc.rg
      clear hrg0 hg0 hs0
      go_wp2_with (first
        | (at_next; refine wpList_next_ranges _ rfl _ rfl 28 u32K ptrElem (Value.int .u32) pv (fun key kl hkey => by obtain ⟨x, rfl, _⟩ := Maps.keyOf_int_inv Try.underlying28 hkey; exact ⟨x, rfl⟩) pv_inv L.bp wc.heap.size N D left cnt rfl hrg ?_ ?_)
        | go_in)
      · intro h0 hl
        have hfin := CPR.fin h hC hc hl
        go_wp2_with go_in
        go_returns
        exact ⟨nb, rfl, hfin⟩
      · intro x cc kl y1 y2 w1 cnt1 hkey hlx hv hat hrg1 hlt hg1 hs1 hen
        obtain ⟨hx, rfl, b, p, rfl, hpg, hq⟩ := CPR.finds h2 hl1 hbp rD hc hkey hlx hv hat hg1
        have hcM := hc.cM
        have F1 : wr.grownBy w1 (some wc.heap.size) := hg1
        have hP1 : PMap (w1.alloc (.cells p.arr 79)) bp M f := hc.pm.congr ((Below.heap_alloc _ _ _ (by have := hc.fr.size; omega)).trans (hg1.block bp (by have := hc.fr.size; omega) (fun e => by cases e; omega)))
        obtain ⟨w2, hrun, hP2, hT⟩ := hP1.store (by omega) hx w1.heap.size
        have hfin := hc.round hbp hne hLb hx hlx hpg hrg1 hlt hg1 hs1 (Gr.refl _) hP2 hT
        have hms : w2.rangeLeft L.bp wc.heap.size < wr.rangeLeft L.bp wc.heap.size := by rw [hfin.rg.left_eq, hc.rg.left_eq]; exact hlt
        have hnc1 : w1.cell? ⟨nb, 2, none⟩ = some (.map (some bp)) := by
          rw [World.cell?_of_block (w := wr) (a := ⟨nb, 2, none⟩) (hg1.block nb (by have := hc.fr.size; omega) (fun e => by cases e; omega)), hc.fr.cell (p := ⟨nb, 2, none⟩) hnl hnb]
          exact hnc
        have hnc2 : (w1.alloc (.cells p.arr 79)).cell? ⟨nb, 2, none⟩ = some (.map (some bp)) := ((Gr.refl w1).alloc _ _).keep hnc1
        simp only [pv] at hen ⊢
        clear hnc1 hv hat hrg1 hg1 hrg hs1 hc hP1 F1 hkey hlx hC
        go_wp2_with (first
          | (refine wpList_load_row rfl 79 _ rfl b rfl 79 p.arr (0, 0) _ hq Try.underlying79 rfl (pg_size p) ?_)
          | (refine wpList_store_new rfl 79 _ _ rfl rfl rfl (pg_size p) (pg_zero p) p.arr_one ?_)
          | go_in)
        exact ⟨⟨_, _, _, _, hfin⟩, hms⟩
end
end Go.Proofs.Ytlnfgdbondmglaa
