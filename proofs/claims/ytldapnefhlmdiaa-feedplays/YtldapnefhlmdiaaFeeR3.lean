/- LAYER 9, the reference's: Begin, Take, Time. -/
import Derived.Test.YtldapnefhlmdiaaFeeR2
import Derived.Test.YtldapnefhlmdiaaFeeW1
namespace Go.Proofs.Ytldapnefhlmdiaa
open Go.ChangeShapes Go.WideShapes Go.ChangeAt Go.RowKit

/-- The document's own feed that is used: how far. -/
structure RUse (w : World) (rb : Nat) (sh rd ck : List Int) (a b c : Nat) : Prop where
  x : ∃ va vi vs vr vc vf, Box w rb [va, vi, vs, vr, vc, vf, .int .i64 a, .int .i64 b, .int .i64 c] ∧ NsS w vs sh ∧ Rd8 w vr rd ∧ WsS w vc ck ∧ Far rb vs ∧ Far rb vr ∧ Far rb vc
  la : a ≤ sh.length
  lb : b ≤ rd.length
  lc : c ≤ ck.length
theorem RUse.bw {w w' : World} {ub : Nat} {sh rd ck : List Int} {a b c : Nat} (h : RUse w ub sh rd ck a b c) (g : Bw w w') : RUse w' ub sh rd ck a b c := by
  obtain ⟨⟨va, vi, vs, vr, vc, vf, h1, h2, h3, h4, h5, h6, h7⟩, la, lb, lc⟩ := h
  exact ⟨⟨va, vi, vs, vr, vc, vf, h1.bw g, RdR.bw h2 g, Rd8.bw h3 g, RdR.bw h4 g, h5, h6, h7⟩, la, lb, lc⟩
theorem RUse.lt {w : World} {ub : Nat} {sh rd ck : List Int} {a b c : Nat} (h : RUse w ub sh rd ck a b c) : ub < w.heap.size := by
  obtain ⟨⟨va, vi, vs, vr, vc, vf, h1, _⟩, _⟩ := h
  exact h1.lt
/-- The feed within is the same. -/
def KeepR (ub : Nat) (w w' : World) : Prop := ∀ j, j < 6 → w'.cell? ⟨ub, j, none⟩ = w.cell? ⟨ub, j, none⟩
theorem KeepR.refl (ub : Nat) (w : World) : KeepR ub w w := fun _ _ => rfl
theorem KeepR.bw {ub : Nat} {a w w' : World} (h : KeepR ub a w) (hl : ub < w.heap.size) (g : Bw w w') : KeepR ub a w' := fun j hj => (Below.cell g (p := ⟨ub, j, none⟩) hl).trans (h j hj)
theorem KeepR.set {ub : Nat} {a w : World} (h : KeepR ub a w) (k : Nat) (hk : 6 ≤ k) (v : Value) : KeepR ub a (w.setCell ⟨ub, k, none⟩ v) := fun j hj => by
  rw [World.cell?_setCell_other _ _ _ _ (fun e => by have := congrArg Addr.off e; simp at this; omega)]; exact h j hj
set_option maxHeartbeats 2000000 in
set_option maxRecDepth 100000 in
theorem rTake_c (w : World) (ub : Nat) (sh rd ck : List Int) (a b c : Nat) (h : RUse w ub sh rd ck a b c) (hl : sh.length ≤ 10000) (n : Int) :
    Calls Try.prog 23 #[.pointer (some ⟨ub, 0, none⟩), .int .i64 n] w fun e w' => e = .returned (.int .i64 (Fee.take sh a n).1) ∧ RUse w' ub sh rd ck (Fee.take sh a n).2 b c ∧ Bq ub w w' ∧ KeepR ub w w' := by
  have hU := h
  have HLT := h.lt
  obtain ⟨⟨va, vi, vs, vr, vc, vf, hb, hS, hR, hC, f1, f2, f3⟩, la, lb, lc⟩ := h
  by_cases hn : n < 0
  · have hF : Fee.take sh a n = (0, a) := by unfold Fee.take; rw [if_pos hn]
    rw [hF]
    go_enter Try.func23, Try.ntmps23
    go_wp2
    go_returns
    exact ⟨rfl, hU, Bq.refl _ _, KeepR.refl _ _⟩
  have hn0 : ¬ n < 0 := hn
  have hS2 := hS
  obtain ⟨q, cap, rfl, hc1, hc2, hcell⟩ := RdR.at1 hS
  have b2 := hb.c 2 _ rfl; have b6 := hb.c 6 _ rfl; have b6f := hb.f 6 (by simp)
  by_cases ha : a = sh.length
  · have hF : Fee.take sh a n = (n, a) := by unfold Fee.take; rw [if_neg hn, ha, List.getElem?_eq_none (Nat.le_refl _)]
    rw [hF]
    subst ha
    have HU : Hid _ := hU
    clear hU hb hS hS2 hR hC hcell
    go_enter Try.func23, Try.ntmps23
    go_wp2
    go_region
    go_wp2
    go_returns
    exact ⟨rfl, RUse.bw HU (by (repeat' (first | (with_reducible assumption) | (with_reducible exact Bw.refl _) | (with_reducible refine Bw.alloc ?_ _) | (with_reducible refine Bw.drew ?_) | (with_reducible refine Bw.drewN ?_ _) | (with_reducible refine Bw.setCell ?_ ?_ _) | exact Nat.le_refl _))), (Bq.refl _ _).bw (by (repeat' (first | (with_reducible assumption) | (with_reducible exact Bw.refl _) | (with_reducible refine Bw.alloc ?_ _) | (with_reducible refine Bw.drew ?_) | (with_reducible refine Bw.drewN ?_ _) | (with_reducible refine Bw.setCell ?_ ?_ _) | exact Nat.le_refl _))), (KeepR.refl _ _).bw HLT (by (repeat' (first | (with_reducible assumption) | (with_reducible exact Bw.refl _) | (with_reducible refine Bw.alloc ?_ _) | (with_reducible refine Bw.drew ?_) | (with_reducible refine Bw.drewN ?_ _) | (with_reducible refine Bw.setCell ?_ ?_ _) | exact Nat.le_refl _)))⟩
  · have hal : a < sh.length := by omega
    obtain ⟨m, hm⟩ : ∃ m, sh[a]? = some m := ⟨_, List.getElem?_eq_getElem hal⟩
    have hF : Fee.take sh a n = (min n m, a + 1) := by unfold Fee.take; rw [if_neg hn, hm]
    rw [hF]
    obtain ⟨b', o, rfl, hbl, c0⟩ := hcell a m hm
    have hne : b' ≠ ub := f1 _ _ _ rfl (by omega)
    have hai : ((a : Int) = (sh.length : Int)) = False := by simp; omega
    have hali : (a : Int) < (sh.length : Int) := by omega
    have hbx := hb.set 6 (by simp) (.int .i64 ((a : Int) + 1))
    have hbx' := hb.bw (Bw.refl w).drew
    have HFin : Hid (RUse (w.setCell ⟨ub, 6, none⟩ (.int .i64 ((a : Int) + 1))) ub sh rd ck (a + 1) b c ∧ Bq ub w (w.setCell ⟨ub, 6, none⟩ (.int .i64 ((a : Int) + 1))) ∧ KeepR ub w (w.setCell ⟨ub, 6, none⟩ (.int .i64 ((a : Int) + 1)))) := by
      have hq : Bq ub w (w.setCell ⟨ub, 6, none⟩ (.int .i64 ((a : Int) + 1))) := (Bq.refl _ _).set 6 _
      exact ⟨⟨⟨va, vi, _, vr, vc, vf, hbx, RdR.q hS2 hq f1, RdR.q hR hq f2, RdR.q hC hq f3, f1, f2, f3⟩, hal, lb, lc⟩, hq, (KeepR.refl _ _).set 6 (by omega) _⟩
    clear hbx hbx' hU hb hS hS2 hR hC hcell
    by_cases hmn : m < n
    · have hmin : min n m = m := by omega
      rw [hmin]
      clear hmin hF
      go_enter Try.func23, Try.ntmps23
      go_wp2
      go_region
      go_wp2
      go_region
      go_wp2
      go_region
      go_wp2
      go_returns
      exact ⟨rfl, RUse.bw (show _ ∧ _ ∧ _ from HFin).1 (by (repeat' (first | (with_reducible assumption) | (with_reducible exact Bw.refl _) | (with_reducible refine Bw.alloc ?_ _) | (with_reducible refine Bw.drew ?_) | (with_reducible refine Bw.drewN ?_ _) | (with_reducible refine Bw.setCell ?_ ?_ _) | exact Nat.le_refl _))), Bq.bw (show _ ∧ _ ∧ _ from HFin).2.1 (by (repeat' (first | (with_reducible assumption) | (with_reducible exact Bw.refl _) | (with_reducible refine Bw.alloc ?_ _) | (with_reducible refine Bw.drew ?_) | (with_reducible refine Bw.drewN ?_ _) | (with_reducible refine Bw.setCell ?_ ?_ _) | exact Nat.le_refl _))), KeepR.bw (show _ ∧ _ ∧ _ from HFin).2.2 (by simpa [World.setCell] using HLT) (by (repeat' (first | (with_reducible assumption) | (with_reducible exact Bw.refl _) | (with_reducible refine Bw.alloc ?_ _) | (with_reducible refine Bw.drew ?_) | (with_reducible refine Bw.drewN ?_ _) | (with_reducible refine Bw.setCell ?_ ?_ _) | exact Nat.le_refl _)))⟩
    · have hmin : min n m = n := by omega
      rw [hmin]
      clear hmin hF
      go_enter Try.func23, Try.ntmps23
      go_wp2
      go_region
      go_wp2
      go_region
      go_wp2
      go_returns
      exact ⟨rfl, RUse.bw (show _ ∧ _ ∧ _ from HFin).1 (by (repeat' (first | (with_reducible assumption) | (with_reducible exact Bw.refl _) | (with_reducible refine Bw.alloc ?_ _) | (with_reducible refine Bw.drew ?_) | (with_reducible refine Bw.drewN ?_ _) | (with_reducible refine Bw.setCell ?_ ?_ _) | exact Nat.le_refl _))), Bq.bw (show _ ∧ _ ∧ _ from HFin).2.1 (by (repeat' (first | (with_reducible assumption) | (with_reducible exact Bw.refl _) | (with_reducible refine Bw.alloc ?_ _) | (with_reducible refine Bw.drew ?_) | (with_reducible refine Bw.drewN ?_ _) | (with_reducible refine Bw.setCell ?_ ?_ _) | exact Nat.le_refl _))), KeepR.bw (show _ ∧ _ ∧ _ from HFin).2.2 (by simpa [World.setCell] using HLT) (by (repeat' (first | (with_reducible assumption) | (with_reducible exact Bw.refl _) | (with_reducible refine Bw.alloc ?_ _) | (with_reducible refine Bw.drew ?_) | (with_reducible refine Bw.drewN ?_ _) | (with_reducible refine Bw.setCell ?_ ?_ _) | exact Nat.le_refl _)))⟩
set_option maxHeartbeats 2000000 in
set_option maxRecDepth 100000 in
theorem rTime_c (w : World) (ub : Nat) (sh rd ck : List Int) (a b c : Nat) (h : RUse w ub sh rd ck a b c) (hl : ck.length ≤ 10000) :
    Calls Try.prog 25 #[.pointer (some ⟨ub, 0, none⟩)] w fun e w' => e = .returned (.int .u32 (Fee.time ck c).1) ∧ RUse w' ub sh rd ck a b (Fee.time ck c).2 ∧ Bq ub w w' ∧ KeepR ub w w' := by
  have hU := h
  have HLT := h.lt
  obtain ⟨⟨va, vi, vs, vr, vc, vf, hb, hS, hR, hC, f1, f2, f3⟩, la, lb, lc⟩ := h
  have hC2 := hC
  obtain ⟨q, cap, rfl, hc1, hc2, hcell⟩ := RdR.at1 hC
  have b4 := hb.c 4 _ rfl; have b8 := hb.c 8 _ rfl; have b8f := hb.f 8 (by simp)
  by_cases ha : c = ck.length
  · by_cases h0 : c = 0
    · have hF : Fee.time ck c = (0, 0) := by
        obtain rfl : ck = [] := List.eq_nil_of_length_eq_zero (by omega)
        subst h0
        rfl
      rw [hF]
      subst h0
      rw [← ha] at b4 hc1
      have HU : Hid _ := hU
      clear hU hb hS hC2 hR hC hcell ha hF
      go_enter Try.func25, Try.ntmps25
      go_wp2
      go_region
      go_wp2
      go_returns
      exact ⟨rfl, RUse.bw HU (by (repeat' (first | (with_reducible assumption) | (with_reducible exact Bw.refl _) | (with_reducible refine Bw.alloc ?_ _) | (with_reducible refine Bw.drew ?_) | (with_reducible refine Bw.drewN ?_ _) | (with_reducible refine Bw.setCell ?_ ?_ _) | exact Nat.le_refl _))), (Bq.refl _ _).bw (by (repeat' (first | (with_reducible assumption) | (with_reducible exact Bw.refl _) | (with_reducible refine Bw.alloc ?_ _) | (with_reducible refine Bw.drew ?_) | (with_reducible refine Bw.drewN ?_ _) | (with_reducible refine Bw.setCell ?_ ?_ _) | exact Nat.le_refl _))), (KeepR.refl _ _).bw HLT (by (repeat' (first | (with_reducible assumption) | (with_reducible exact Bw.refl _) | (with_reducible refine Bw.alloc ?_ _) | (with_reducible refine Bw.drew ?_) | (with_reducible refine Bw.drewN ?_ _) | (with_reducible refine Bw.setCell ?_ ?_ _) | exact Nat.le_refl _)))⟩
    · obtain ⟨m, hm⟩ : ∃ m, ck[c - 1]? = some m := ⟨_, List.getElem?_eq_getElem (by omega)⟩
      have hF : Fee.time ck c = (m, c) := by
        unfold Fee.time
        rw [ha, List.getElem?_eq_none (Nat.le_refl _)]
        rw [ha] at hm
        simp only [Prod.mk.injEq, and_true]
        rw [List.getLastD_eq_getLast?, List.getLast?_eq_getElem?, hm]; rfl
      rw [hF]
      obtain ⟨b', o, rfl, hbl, c0⟩ := hcell (c - 1) m hm
      obtain ⟨k, hk⟩ : ∃ k, c = k + 1 := ⟨c - 1, by omega⟩
      have HU : Hid _ := hU
      rw [← ha] at hc1
      rw [← ha] at b4
      clear hU hb hS hC2 hR hC hcell ha hm hF lc h0 hl
      subst hk
      rw [Nat.add_sub_cancel] at c0
      go_enter Try.func25, Try.ntmps25
      go_wp2
      go_region
      go_wp2
      go_region
      go_wp2
      go_returns
      exact ⟨rfl, RUse.bw HU (by (repeat' (first | (with_reducible assumption) | (with_reducible exact Bw.refl _) | (with_reducible refine Bw.alloc ?_ _) | (with_reducible refine Bw.drew ?_) | (with_reducible refine Bw.drewN ?_ _) | (with_reducible refine Bw.setCell ?_ ?_ _) | exact Nat.le_refl _))), (Bq.refl _ _).bw (by (repeat' (first | (with_reducible assumption) | (with_reducible exact Bw.refl _) | (with_reducible refine Bw.alloc ?_ _) | (with_reducible refine Bw.drew ?_) | (with_reducible refine Bw.drewN ?_ _) | (with_reducible refine Bw.setCell ?_ ?_ _) | exact Nat.le_refl _))), (KeepR.refl _ _).bw HLT (by (repeat' (first | (with_reducible assumption) | (with_reducible exact Bw.refl _) | (with_reducible refine Bw.alloc ?_ _) | (with_reducible refine Bw.drew ?_) | (with_reducible refine Bw.drewN ?_ _) | (with_reducible refine Bw.setCell ?_ ?_ _) | exact Nat.le_refl _)))⟩
  · have hcl : c < ck.length := by omega
    obtain ⟨m, hm⟩ : ∃ m, ck[c]? = some m := ⟨_, List.getElem?_eq_getElem hcl⟩
    have hF : Fee.time ck c = (m, c + 1) := by unfold Fee.time; rw [hm]
    rw [hF]
    obtain ⟨b', o, rfl, hbl, c0⟩ := hcell c m hm
    have hne : b' ≠ ub := f3 _ _ _ rfl (by omega)
    have hcli : (c : Int) < (ck.length : Int) := by omega
    have hbx := hb.set 8 (by simp) (.int .i64 ((c : Int) + 1))
    have HFin : Hid (RUse (w.setCell ⟨ub, 8, none⟩ (.int .i64 ((c : Int) + 1))) ub sh rd ck a b (c + 1) ∧ Bq ub w (w.setCell ⟨ub, 8, none⟩ (.int .i64 ((c : Int) + 1))) ∧ KeepR ub w (w.setCell ⟨ub, 8, none⟩ (.int .i64 ((c : Int) + 1)))) := by
      have hq : Bq ub w (w.setCell ⟨ub, 8, none⟩ (.int .i64 ((c : Int) + 1))) := (Bq.refl _ _).set 8 _
      exact ⟨⟨⟨va, vi, vs, vr, _, vf, hbx, RdR.q hS hq f1, RdR.q hR hq f2, RdR.q hC2 hq f3, f1, f2, f3⟩, la, lb, hcl⟩, hq, (KeepR.refl _ _).set 8 (by omega) _⟩
    clear hbx hU hb hS hC2 hR hC hcell
    go_enter Try.func25, Try.ntmps25
    go_wp2
    go_region
    go_wp2
    go_region
    go_wp2
    go_returns
    exact ⟨rfl, RUse.bw (show _ ∧ _ ∧ _ from HFin).1 (by (repeat' (first | (with_reducible assumption) | (with_reducible exact Bw.refl _) | (with_reducible refine Bw.alloc ?_ _) | (with_reducible refine Bw.drew ?_) | (with_reducible refine Bw.drewN ?_ _) | (with_reducible refine Bw.setCell ?_ ?_ _) | exact Nat.le_refl _))), Bq.bw (show _ ∧ _ ∧ _ from HFin).2.1 (by (repeat' (first | (with_reducible assumption) | (with_reducible exact Bw.refl _) | (with_reducible refine Bw.alloc ?_ _) | (with_reducible refine Bw.drew ?_) | (with_reducible refine Bw.drewN ?_ _) | (with_reducible refine Bw.setCell ?_ ?_ _) | exact Nat.le_refl _))), KeepR.bw (show _ ∧ _ ∧ _ from HFin).2.2 (by simpa [World.setCell] using HLT) (by (repeat' (first | (with_reducible assumption) | (with_reducible exact Bw.refl _) | (with_reducible refine Bw.alloc ?_ _) | (with_reducible refine Bw.drew ?_) | (with_reducible refine Bw.drewN ?_ _) | (with_reducible refine Bw.setCell ?_ ?_ _) | exact Nat.le_refl _)))⟩
end Go.Proofs.Ytldapnefhlmdiaa
