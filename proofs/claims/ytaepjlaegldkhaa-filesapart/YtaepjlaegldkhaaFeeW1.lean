/- LAYER 9's walks: Take, Time, Used. -/
import Derived.Test.YtaepjlaegldkhaaFee
namespace Go.Proofs.Ytaepjlaegldkhaa
open Go.ChangeShapes Go.WideShapes Go.ChangeAt Go.RowKit

/-- A slice whose block is another. -/
def Far (ub : Nat) (v : Value) : Prop := ∀ q k c, v = .slice (some q) k c → 0 < k → q.block ≠ ub
/-- A feed that is used: how far. -/
structure UseS (w : World) (ub : Nat) (sh rd ck : List Int) (a b c : Nat) : Prop where
  x : ∃ vs vr vc, Box w ub [vs, vr, vc, .int .i64 a, .int .i64 b, .int .i64 c] ∧ NsS w vs sh ∧ Rd8 w vr rd ∧ WsS w vc ck ∧ Far ub vs ∧ Far ub vr ∧ Far ub vc
  la : a ≤ sh.length
  lb : b ≤ rd.length
  lc : c ≤ ck.length
theorem UseS.bw {w w' : World} {ub : Nat} {sh rd ck : List Int} {a b c : Nat} (h : UseS w ub sh rd ck a b c) (g : Bw w w') : UseS w' ub sh rd ck a b c := by
  obtain ⟨⟨vs, vr, vc, h1, h2, h3, h4, h5, h6, h7⟩, la, lb, lc⟩ := h
  exact ⟨⟨vs, vr, vc, h1.bw g, RdR.bw h2 g, Rd8.bw h3 g, RdR.bw h4 g, h5, h6, h7⟩, la, lb, lc⟩
theorem UseS.lt {w : World} {ub : Nat} {sh rd ck : List Int} {a b c : Nat} (h : UseS w ub sh rd ck a b c) : ub < w.heap.size := by
  obtain ⟨⟨vs, vr, vc, h1, _⟩, _⟩ := h
  exact h1.lt
/-- A use's slices are the same. -/
def Keep3 (ub : Nat) (w w' : World) : Prop := ∀ j, j < 3 → w'.cell? ⟨ub, j, none⟩ = w.cell? ⟨ub, j, none⟩
theorem Keep3.refl (ub : Nat) (w : World) : Keep3 ub w w := fun _ _ => rfl
theorem Keep3.bw {ub : Nat} {a w w' : World} (h : Keep3 ub a w) (hl : ub < w.heap.size) (g : Bw w w') : Keep3 ub a w' := fun j hj => (Below.cell g (p := ⟨ub, j, none⟩) hl).trans (h j hj)
theorem Keep3.set {ub : Nat} {a w : World} (h : Keep3 ub a w) (k : Nat) (hk : 3 ≤ k) (v : Value) : Keep3 ub a (w.setCell ⟨ub, k, none⟩ v) := fun j hj => by
  rw [World.cell?_setCell_other _ _ _ _ (fun e => by have := congrArg Addr.off e; simp at this; omega)]; exact h j hj
theorem Keep3.trans {ub : Nat} {a b c : World} (h : Keep3 ub a b) (k : Keep3 ub b c) : Keep3 ub a c := fun j hj => (k j hj).trans (h j hj)
/-- What Take gives, and whether one is used. -/
def Fee.take (sh : List Int) (a : Nat) (n : Int) : Int × Nat := if n < 0 then (0, a) else match sh[a]? with | some m => (min n m, a + 1) | none => (n, a)
def Fee.time (ck : List Int) (c : Nat) : Int × Nat := match ck[c]? with | some m => (m, c + 1) | none => (ck.getLastD 0, c)
set_option maxHeartbeats 2000000 in
set_option maxRecDepth 100000 in
theorem Used_c (w : World) (ub : Nat) (sh rd ck : List Int) (a b c : Nat) (h : UseS w ub sh rd ck a b c) : Calls Try.prog 27 #[.pointer (some ⟨ub, 0, none⟩)] w fun e w' => e = .returned (.tuple #[.int .i64 a, .int .i64 b, .int .i64 c]) ∧ Bw w w' := by
  obtain ⟨⟨vs, vr, vc, hb, _⟩, _⟩ := h
  have b3 := hb.c 3 _ rfl; have b4 := hb.c 4 _ rfl; have b5 := hb.c 5 _ rfl
  clear hb
  go_enter Try.func27, Try.ntmps27
  go_wp2
  go_region
  go_wp2
  go_returns
  exact ⟨rfl, by (repeat' (first | (with_reducible assumption) | (with_reducible exact Bw.refl _) | (with_reducible refine Bw.alloc ?_ _) | (with_reducible refine Bw.drew ?_) | (with_reducible refine Bw.drewN ?_ _) | (with_reducible refine Bw.setCell ?_ ?_ _) | exact Nat.le_refl _))⟩
set_option maxHeartbeats 2000000 in
set_option maxRecDepth 100000 in
theorem Take_c (w : World) (ub : Nat) (sh rd ck : List Int) (a b c : Nat) (h : UseS w ub sh rd ck a b c) (hl : sh.length ≤ 10000) (n : Int) :
    Calls Try.prog 33 #[.pointer (some ⟨ub, 0, none⟩), .int .i64 n] w fun e w' => e = .returned (.int .i64 (Fee.take sh a n).1) ∧ UseS w' ub sh rd ck (Fee.take sh a n).2 b c ∧ Bq ub w w' ∧ Keep3 ub w w' := by
  have hU := h
  have HLT := h.lt
  obtain ⟨⟨vs, vr, vc, hb, hS, hR, hC, f1, f2, f3⟩, la, lb, lc⟩ := h
  by_cases hn : n < 0
  · have hF : Fee.take sh a n = (0, a) := by unfold Fee.take; rw [if_pos hn]
    rw [hF]
    go_enter Try.func33, Try.ntmps33
    go_wp2
    go_returns
    exact ⟨rfl, hU, Bq.refl _ _, Keep3.refl _ _⟩
  have hn0 : ¬ n < 0 := hn
  have hS2 := hS
  obtain ⟨q, cap, rfl, hc1, hc2, hcell⟩ := RdR.at1 hS
  have b0 := hb.c 0 _ rfl; have b3 := hb.c 3 _ rfl; have b3f := hb.f 3 (by simp)
  by_cases ha : a = sh.length
  · have hF : Fee.take sh a n = (n, a) := by unfold Fee.take; rw [if_neg hn, ha, List.getElem?_eq_none (Nat.le_refl _)]
    rw [hF]
    subst ha
    have HU : Hid _ := hU
    clear hU hb hS hS2 hR hC hcell
    go_enter Try.func33, Try.ntmps33
    go_wp2
    go_region
    go_wp2
    go_returns
    exact ⟨rfl, UseS.bw HU (by (repeat' (first | (with_reducible assumption) | (with_reducible exact Bw.refl _) | (with_reducible refine Bw.alloc ?_ _) | (with_reducible refine Bw.drew ?_) | (with_reducible refine Bw.drewN ?_ _) | (with_reducible refine Bw.setCell ?_ ?_ _) | exact Nat.le_refl _))), (Bq.refl _ _).bw (by (repeat' (first | (with_reducible assumption) | (with_reducible exact Bw.refl _) | (with_reducible refine Bw.alloc ?_ _) | (with_reducible refine Bw.drew ?_) | (with_reducible refine Bw.drewN ?_ _) | (with_reducible refine Bw.setCell ?_ ?_ _) | exact Nat.le_refl _))), (Keep3.refl _ _).bw HLT (by (repeat' (first | (with_reducible assumption) | (with_reducible exact Bw.refl _) | (with_reducible refine Bw.alloc ?_ _) | (with_reducible refine Bw.drew ?_) | (with_reducible refine Bw.drewN ?_ _) | (with_reducible refine Bw.setCell ?_ ?_ _) | exact Nat.le_refl _)))⟩
  · have hal : a < sh.length := by omega
    obtain ⟨m, hm⟩ : ∃ m, sh[a]? = some m := ⟨_, List.getElem?_eq_getElem hal⟩
    have hF : Fee.take sh a n = (min n m, a + 1) := by unfold Fee.take; rw [if_neg hn, hm]
    rw [hF]
    obtain ⟨b', o, rfl, hbl, c0⟩ := hcell a m hm
    have hne : b' ≠ ub := f1 _ _ _ rfl (by omega)
    have hai : ((a : Int) = (sh.length : Int)) = False := by simp; omega
    have hali : (a : Int) < (sh.length : Int) := by omega
    have hbx := hb.set 3 (by simp) (.int .i64 ((a : Int) + 1))
    have HFin : Hid (UseS (w.setCell ⟨ub, 3, none⟩ (.int .i64 ((a : Int) + 1))) ub sh rd ck (a + 1) b c ∧ Bq ub w (w.setCell ⟨ub, 3, none⟩ (.int .i64 ((a : Int) + 1))) ∧ Keep3 ub w (w.setCell ⟨ub, 3, none⟩ (.int .i64 ((a : Int) + 1)))) := by
      have hq : Bq ub w (w.setCell ⟨ub, 3, none⟩ (.int .i64 ((a : Int) + 1))) := (Bq.refl _ _).set 3 _
      exact ⟨⟨⟨_, vr, vc, hbx, RdR.q hS2 hq f1, RdR.q hR hq f2, RdR.q hC hq f3, f1, f2, f3⟩, hal, lb, lc⟩, hq, (Keep3.refl _ _).set 3 (by omega) _⟩
    clear hbx hU hb hS hS2 hR hC hcell
    go_enter Try.func33, Try.ntmps33
    go_wp2
    go_region
    go_wp2
    go_region
    go_wp2
    go_returns
    exact ⟨rfl, UseS.bw (show _ ∧ _ ∧ _ from HFin).1 (by (repeat' (first | (with_reducible assumption) | (with_reducible exact Bw.refl _) | (with_reducible refine Bw.alloc ?_ _) | (with_reducible refine Bw.drew ?_) | (with_reducible refine Bw.drewN ?_ _) | (with_reducible refine Bw.setCell ?_ ?_ _) | exact Nat.le_refl _))), Bq.bw (show _ ∧ _ ∧ _ from HFin).2.1 (by (repeat' (first | (with_reducible assumption) | (with_reducible exact Bw.refl _) | (with_reducible refine Bw.alloc ?_ _) | (with_reducible refine Bw.drew ?_) | (with_reducible refine Bw.drewN ?_ _) | (with_reducible refine Bw.setCell ?_ ?_ _) | exact Nat.le_refl _))), Keep3.bw (show _ ∧ _ ∧ _ from HFin).2.2 (by simpa [World.setCell] using HLT) (by (repeat' (first | (with_reducible assumption) | (with_reducible exact Bw.refl _) | (with_reducible refine Bw.alloc ?_ _) | (with_reducible refine Bw.drew ?_) | (with_reducible refine Bw.drewN ?_ _) | (with_reducible refine Bw.setCell ?_ ?_ _) | exact Nat.le_refl _)))⟩
end Go.Proofs.Ytaepjlaegldkhaa
