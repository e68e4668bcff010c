/- LAYER 5: the document's own answer: the forms. -/
import Derived.Test.YthkampohgbddnaaDoorRvName
import Derived.Deep.RegionHeld3
namespace Go.Proofs.YthkampohgbddnaaDoor
open Go.ChangeShapes Go.WideShapes Go.ChangeAt Go.RowKit

theorem Rv.ret_form {a b c x y z : Int} (h1 : a = x) (h2 : b = y) (h3 : c = z) : Ending.returned (.tuple #[.int .u32 a, .int .u32 b, .int .u32 c]) = .returned (.tuple #[.int .u32 x, .int .u32 y, .int .u32 z]) := by rw [h1, h2, h3]
theorem Rv.t5 {op : Int} (h0 : 5 ≤ op) (h1 : op ≤ 10) : [Value.int .u32 0, .int .u32 1, .int .u32 4, .int .u32 5, .int .u32 6, .int .u32 7][(op - 5).toNat]? = some (.int .u32 ((Rv.f3N op.toNat : Nat) : Int)) := by
  obtain h | h | h | h | h | h : op = 5 ∨ op = 6 ∨ op = 7 ∨ op = 8 ∨ op = 9 ∨ op = 10 := by omega
  all_goals (subst h; rfl)
theorem Rv.t11 {op : Int} (h0 : 11 ≤ op) (h1 : op ≤ 15) : [Value.int .u32 0, .int .u32 1, .int .u32 2, .int .u32 4, .int .u32 5][(op - 11).toNat]? = some (.int .u32 ((Rv.f3N op.toNat : Nat) : Int)) := by
  obtain h | h | h | h | h : op = 11 ∨ op = 12 ∨ op = 13 ∨ op = 14 ∨ op = 15 := by omega
  all_goals (subst h; rfl)
theorem Rv.t19 {op : Int} (h0 : 19 ≤ op) (h1 : op ≤ 27) : [Value.int .u32 0, .int .u32 2, .int .u32 3, .int .u32 4, .int .u32 6, .int .u32 7, .int .u32 1, .int .u32 5, .int .u32 5][(op - 19).toNat]? = some (.int .u32 ((Rv.f3N op.toNat : Nat) : Int)) := by
  obtain h | h | h | h | h | h | h | h | h : op = 19 ∨ op = 20 ∨ op = 21 ∨ op = 22 ∨ op = 23 ∨ op = 24 ∨ op = 25 ∨ op = 26 ∨ op = 27 := by omega
  all_goals (subst h; rfl)
theorem Rv.t19b {op : Int} (h0 : 19 ≤ op) (h1 : op ≤ 27) : [Value.int .u32 0, .int .u32 0, .int .u32 0, .int .u32 0, .int .u32 0, .int .u32 0, .int .u32 0, .int .u32 0, .int .u32 32][(op - 19).toNat]? = some (.int .u32 ((Rv.f7N op.toNat : Nat) : Int)) := by
  obtain h | h | h | h | h | h | h | h | h : op = 19 ∨ op = 20 ∨ op = 21 ∨ op = 22 ∨ op = 23 ∨ op = 24 ∨ op = 25 ∨ op = 26 ∨ op = 27 := by omega
  all_goals (subst h; rfl)
theorem Rv.t28 {op : Int} (h0 : 28 ≤ op) (h1 : op ≤ 37) : [Value.int .u32 0, .int .u32 0, .int .u32 1, .int .u32 2, .int .u32 3, .int .u32 4, .int .u32 5, .int .u32 5, .int .u32 6, .int .u32 7][(op - 28).toNat]? = some (.int .u32 ((Rv.f3N op.toNat : Nat) : Int)) := by
  obtain h | h | h | h | h | h | h | h | h | h : op = 28 ∨ op = 29 ∨ op = 30 ∨ op = 31 ∨ op = 32 ∨ op = 33 ∨ op = 34 ∨ op = 35 ∨ op = 36 ∨ op = 37 := by omega
  all_goals (subst h; rfl)
theorem Rv.t28b {op : Int} (h0 : 28 ≤ op) (h1 : op ≤ 37) : [Value.int .u32 0, .int .u32 32, .int .u32 0, .int .u32 0, .int .u32 0, .int .u32 0, .int .u32 0, .int .u32 32, .int .u32 0, .int .u32 0][(op - 28).toNat]? = some (.int .u32 ((Rv.f7N op.toNat : Nat) : Int)) := by
  obtain h | h | h | h | h | h | h | h | h | h : op = 28 ∨ op = 29 ∨ op = 30 ∨ op = 31 ∨ op = 32 ∨ op = 33 ∨ op = 34 ∨ op = 35 ∨ op = 36 ∨ op = 37 := by omega
  all_goals (subst h; rfl)
theorem Rv.f3_16 {op : Int} (h0 : 16 ≤ op) (h1 : op ≤ 18) : ((Rv.f3N op.toNat : Nat) : Int) = op - 16 := by
  obtain h | h | h : op = 16 ∨ op = 17 ∨ op = 18 := by omega
  all_goals (subst h; rfl)
theorem Rv.f3_38 {op : Int} (h0 : 38 ≤ op) (h1 : op ≤ 45) : ((Rv.f3N op.toNat : Nat) : Int) = op - 38 := by
  obtain h | h | h | h | h | h | h | h : op = 38 ∨ op = 39 ∨ op = 40 ∨ op = 41 ∨ op = 42 ∨ op = 43 ∨ op = 44 ∨ op = 45 := by omega
  all_goals (subst h; rfl)
theorem Rv.f7_0 {op : Int} (h0 : 1 ≤ op) (h1 : op < 19) : ((Rv.f7N op.toNat : Nat) : Int) = 0 := by
  unfold Rv.f7N
  rw [if_neg (by omega), if_neg (by omega), if_neg (by omega), if_neg (by omega)]; rfl
theorem Rv.f7_1 {op : Int} (h0 : 38 ≤ op) (h1 : op ≤ 45) : ((Rv.f7N op.toNat : Nat) : Int) = 1 := by
  unfold Rv.f7N
  rw [if_neg (by omega), if_neg (by omega), if_neg (by omega), if_pos (by omega)]; rfl
theorem Rv.fo_in {op : Int} (h0 : 5 ≤ op) : ((Rv.foN op.toNat : Nat) : Int) = if op ≤ 10 then 99 else if op ≤ 15 then 3 else if op ≤ 18 then 35 else if op ≤ 27 then 19 else if op ≤ 45 then 51 else 15 := by
  unfold Rv.foN
  rw [if_neg (by omega), if_neg (by omega), if_neg (by omega), if_neg (by omega)]
  by_cases c : op ≤ 10
  · rw [if_pos (show op.toNat ≤ 10 by omega), if_pos c]; rfl
  rw [if_neg (show ¬ op.toNat ≤ 10 by omega), if_neg c]; clear c
  by_cases c : op ≤ 15
  · rw [if_pos (show op.toNat ≤ 15 by omega), if_pos c]; rfl
  rw [if_neg (show ¬ op.toNat ≤ 15 by omega), if_neg c]; clear c
  by_cases c : op ≤ 18
  · rw [if_pos (show op.toNat ≤ 18 by omega), if_pos c]; rfl
  rw [if_neg (show ¬ op.toNat ≤ 18 by omega), if_neg c]; clear c
  by_cases c : op ≤ 27
  · rw [if_pos (show op.toNat ≤ 27 by omega), if_pos c]; rfl
  rw [if_neg (show ¬ op.toNat ≤ 27 by omega), if_neg c]; clear c
  by_cases c : op ≤ 45
  · rw [if_pos (show op.toNat ≤ 45 by omega), if_pos c]; rfl
  rw [if_neg (show ¬ op.toNat ≤ 45 by omega), if_neg c]; clear c
  rfl

theorem form_hi (op : Int) (w : World) (h0 : 46 ≤ op) (h1 : op ≤ 49) :
    Calls Tryd.prog 40 #[.int .i64 op] w fun e w' => e = .returned (.tuple #[.int .u32 15, .int .u32 (op - 46), .int .u32 0]) ∧ Gr w w' := by
  have e1 := Rv.beqF (show op ≠ 1 by omega); have e2 := Rv.beqF (show op ≠ 2 by omega); have e3 := Rv.beqF (show op ≠ 3 by omega); have e4 := Rv.beqF (show op ≠ 4 by omega)
  go_enter Tryd.func40, Tryd.ntmps40
  go_wp2_with fail
  go_returns
  exact ⟨Rv.ret_form rfl (by omega) rfl, by (repeat' (first | (with_reducible assumption) | (with_reducible exact Gr.refl _) | (with_reducible refine Gr.alloc ?_ _ _) | (with_reducible refine Gr.drew ?_) | (with_reducible refine Gr.drewN ?_ _) | (with_reducible refine Gr.setCell ?_ ?_ _) | (with_reducible refine Gr.trans ?_ (by assumption)) | omega | (dsimp only; omega) | (simp; done) | (simp; omega)))⟩

set_option maxHeartbeats 1600000 in
theorem form_c (op : Int) (w : World) (h0 : 1 ≤ op) (h1 : op ≤ 47) :
    Calls Tryd.prog 40 #[.int .i64 op] w fun e w' => e = .returned (.tuple #[.int .u32 ((Rv.foN op.toNat : Nat) : Int), .int .u32 ((Rv.f3N op.toNat : Nat) : Int), .int .u32 ((Rv.f7N op.toNat : Nat) : Int)]) ∧ Gr w w' := by
  obtain h | h | h | h | h | h | h | h | h | h | h : op = 1 ∨ op = 2 ∨ op = 3 ∨ op = 4 ∨ (5 ≤ op ∧ op ≤ 10) ∨ (11 ≤ op ∧ op ≤ 15) ∨ (16 ≤ op ∧ op ≤ 18) ∨ (19 ≤ op ∧ op ≤ 27) ∨ (28 ≤ op ∧ op ≤ 37) ∨ (38 ≤ op ∧ op ≤ 45) ∨ (46 ≤ op ∧ op ≤ 47) := by omega
  · subst h
    go_enter Tryd.func40, Tryd.ntmps40
    go_wp2_with fail
    go_returns
    exact ⟨rfl, by (repeat' (first | (with_reducible assumption) | (with_reducible exact Gr.refl _) | (with_reducible refine Gr.alloc ?_ _ _) | (with_reducible refine Gr.drew ?_) | (with_reducible refine Gr.drewN ?_ _) | (with_reducible refine Gr.setCell ?_ ?_ _) | (with_reducible refine Gr.trans ?_ (by assumption)) | omega | (dsimp only; omega) | (simp; done) | (simp; omega)))⟩
  · subst h
    go_enter Tryd.func40, Tryd.ntmps40
    go_wp2_with fail
    go_returns
    exact ⟨rfl, by (repeat' (first | (with_reducible assumption) | (with_reducible exact Gr.refl _) | (with_reducible refine Gr.alloc ?_ _ _) | (with_reducible refine Gr.drew ?_) | (with_reducible refine Gr.drewN ?_ _) | (with_reducible refine Gr.setCell ?_ ?_ _) | (with_reducible refine Gr.trans ?_ (by assumption)) | omega | (dsimp only; omega) | (simp; done) | (simp; omega)))⟩
  · subst h
    go_enter Tryd.func40, Tryd.ntmps40
    go_wp2_with fail
    go_returns
    exact ⟨rfl, by (repeat' (first | (with_reducible assumption) | (with_reducible exact Gr.refl _) | (with_reducible refine Gr.alloc ?_ _ _) | (with_reducible refine Gr.drew ?_) | (with_reducible refine Gr.drewN ?_ _) | (with_reducible refine Gr.setCell ?_ ?_ _) | (with_reducible refine Gr.trans ?_ (by assumption)) | omega | (dsimp only; omega) | (simp; done) | (simp; omega)))⟩
  · subst h
    go_enter Tryd.func40, Tryd.ntmps40
    go_wp2_with fail
    go_returns
    exact ⟨rfl, by (repeat' (first | (with_reducible assumption) | (with_reducible exact Gr.refl _) | (with_reducible refine Gr.alloc ?_ _ _) | (with_reducible refine Gr.drew ?_) | (with_reducible refine Gr.drewN ?_ _) | (with_reducible refine Gr.setCell ?_ ?_ _) | (with_reducible refine Gr.trans ?_ (by assumption)) | omega | (dsimp only; omega) | (simp; done) | (simp; omega)))⟩
  · obtain ⟨c0, c1⟩ := h
    have e1 := Rv.beqF (show op ≠ 1 by omega); have e2 := Rv.beqF (show op ≠ 2 by omega); have e3 := Rv.beqF (show op ≠ 3 by omega); have e4 := Rv.beqF (show op ≠ 4 by omega)
    have fo : ((Rv.foN op.toNat : Nat) : Int) = 99 := by rw [Rv.fo_in (by omega)]; repeat (first | rw [if_pos (by omega)] | rw [if_neg (by omega)])
    have hx := Rv.t5 c0 c1
    have f7 := Rv.f7_0 h0 (by omega)
    rw [fo, f7]
    generalize ((Rv.f3N op.toNat : Nat) : Int) = x at *
    clear fo f7
    go_enter Tryd.func40, Tryd.ntmps40
    go_wp2_with fail
    go_region
    all_goals go_wp2_with fail
    all_goals go_returns
    all_goals exact ⟨rfl, by (repeat' (first | (with_reducible assumption) | (with_reducible exact Gr.refl _) | (with_reducible refine Gr.alloc ?_ _ _) | (with_reducible refine Gr.drew ?_) | (with_reducible refine Gr.drewN ?_ _) | (with_reducible refine Gr.setCell ?_ ?_ _) | (with_reducible refine Gr.trans ?_ (by assumption)) | omega | (dsimp only; omega) | (simp; done) | (simp; omega)))⟩
  · obtain ⟨c0, c1⟩ := h
    have e1 := Rv.beqF (show op ≠ 1 by omega); have e2 := Rv.beqF (show op ≠ 2 by omega); have e3 := Rv.beqF (show op ≠ 3 by omega); have e4 := Rv.beqF (show op ≠ 4 by omega)
    have fo : ((Rv.foN op.toNat : Nat) : Int) = 3 := by rw [Rv.fo_in (by omega)]; repeat (first | rw [if_pos (by omega)] | rw [if_neg (by omega)])
    have hx := Rv.t11 c0 c1
    have f7 := Rv.f7_0 h0 (by omega)
    rw [fo, f7]
    generalize ((Rv.f3N op.toNat : Nat) : Int) = x at *
    clear fo f7
    go_enter Tryd.func40, Tryd.ntmps40
    go_wp2_with fail
    go_region
    all_goals go_wp2_with fail
    all_goals go_returns
    all_goals exact ⟨rfl, by (repeat' (first | (with_reducible assumption) | (with_reducible exact Gr.refl _) | (with_reducible refine Gr.alloc ?_ _ _) | (with_reducible refine Gr.drew ?_) | (with_reducible refine Gr.drewN ?_ _) | (with_reducible refine Gr.setCell ?_ ?_ _) | (with_reducible refine Gr.trans ?_ (by assumption)) | omega | (dsimp only; omega) | (simp; done) | (simp; omega)))⟩
  · obtain ⟨c0, c1⟩ := h
    have e1 := Rv.beqF (show op ≠ 1 by omega); have e2 := Rv.beqF (show op ≠ 2 by omega); have e3 := Rv.beqF (show op ≠ 3 by omega); have e4 := Rv.beqF (show op ≠ 4 by omega)
    have fo : ((Rv.foN op.toNat : Nat) : Int) = 35 := by rw [Rv.fo_in (by omega)]; repeat (first | rw [if_pos (by omega)] | rw [if_neg (by omega)])
    have f7 := Rv.f7_0 h0 (by omega)
    rw [fo, f7, Rv.f3_16 c0 c1]
    clear fo f7
    go_enter Tryd.func40, Tryd.ntmps40
    go_wp2_with fail
    go_returns
    exact ⟨Rv.ret_form rfl (by omega) rfl, by (repeat' (first | (with_reducible assumption) | (with_reducible exact Gr.refl _) | (with_reducible refine Gr.alloc ?_ _ _) | (with_reducible refine Gr.drew ?_) | (with_reducible refine Gr.drewN ?_ _) | (with_reducible refine Gr.setCell ?_ ?_ _) | (with_reducible refine Gr.trans ?_ (by assumption)) | omega | (dsimp only; omega) | (simp; done) | (simp; omega)))⟩
  · obtain ⟨c0, c1⟩ := h
    have e1 := Rv.beqF (show op ≠ 1 by omega); have e2 := Rv.beqF (show op ≠ 2 by omega); have e3 := Rv.beqF (show op ≠ 3 by omega); have e4 := Rv.beqF (show op ≠ 4 by omega)
    have fo : ((Rv.foN op.toNat : Nat) : Int) = 19 := by rw [Rv.fo_in (by omega)]; repeat (first | rw [if_pos (by omega)] | rw [if_neg (by omega)])
    have hx := Rv.t19 c0 c1
    have hy := Rv.t19b c0 c1
    rw [fo]
    generalize ((Rv.f3N op.toNat : Nat) : Int) = x at *
    generalize ((Rv.f7N op.toNat : Nat) : Int) = y at *
    clear fo
    go_enter Tryd.func40, Tryd.ntmps40
    go_wp2_with fail
    go_region
    all_goals go_wp2_with fail
    all_goals go_returns
    all_goals exact ⟨rfl, by (repeat' (first | (with_reducible assumption) | (with_reducible exact Gr.refl _) | (with_reducible refine Gr.alloc ?_ _ _) | (with_reducible refine Gr.drew ?_) | (with_reducible refine Gr.drewN ?_ _) | (with_reducible refine Gr.setCell ?_ ?_ _) | (with_reducible refine Gr.trans ?_ (by assumption)) | omega | (dsimp only; omega) | (simp; done) | (simp; omega)))⟩
  · obtain ⟨c0, c1⟩ := h
    have e1 := Rv.beqF (show op ≠ 1 by omega); have e2 := Rv.beqF (show op ≠ 2 by omega); have e3 := Rv.beqF (show op ≠ 3 by omega); have e4 := Rv.beqF (show op ≠ 4 by omega)
    have fo : ((Rv.foN op.toNat : Nat) : Int) = 51 := by rw [Rv.fo_in (by omega)]; repeat (first | rw [if_pos (by omega)] | rw [if_neg (by omega)])
    have hx := Rv.t28 c0 c1
    have hy := Rv.t28b c0 c1
    rw [fo]
    generalize ((Rv.f3N op.toNat : Nat) : Int) = x at *
    generalize ((Rv.f7N op.toNat : Nat) : Int) = y at *
    clear fo
    go_enter Tryd.func40, Tryd.ntmps40
    go_wp2_with fail
    go_region
    all_goals go_wp2_with fail
    all_goals go_returns
    all_goals exact ⟨rfl, by (repeat' (first | (with_reducible assumption) | (with_reducible exact Gr.refl _) | (with_reducible refine Gr.alloc ?_ _ _) | (with_reducible refine Gr.drew ?_) | (with_reducible refine Gr.drewN ?_ _) | (with_reducible refine Gr.setCell ?_ ?_ _) | (with_reducible refine Gr.trans ?_ (by assumption)) | omega | (dsimp only; omega) | (simp; done) | (simp; omega)))⟩
  · obtain ⟨c0, c1⟩ := h
    have e1 := Rv.beqF (show op ≠ 1 by omega); have e2 := Rv.beqF (show op ≠ 2 by omega); have e3 := Rv.beqF (show op ≠ 3 by omega); have e4 := Rv.beqF (show op ≠ 4 by omega)
    have fo : ((Rv.foN op.toNat : Nat) : Int) = 51 := by rw [Rv.fo_in (by omega)]; repeat (first | rw [if_pos (by omega)] | rw [if_neg (by omega)])
    have f7 := Rv.f7_1 c0 c1
    rw [fo, f7, Rv.f3_38 c0 c1]
    clear fo f7
    go_enter Tryd.func40, Tryd.ntmps40
    go_wp2_with fail
    go_returns
    exact ⟨Rv.ret_form rfl (by omega) rfl, by (repeat' (first | (with_reducible assumption) | (with_reducible exact Gr.refl _) | (with_reducible refine Gr.alloc ?_ _ _) | (with_reducible refine Gr.drew ?_) | (with_reducible refine Gr.drewN ?_ _) | (with_reducible refine Gr.setCell ?_ ?_ _) | (with_reducible refine Gr.trans ?_ (by assumption)) | omega | (dsimp only; omega) | (simp; done) | (simp; omega)))⟩
  · obtain h | h : op = 46 ∨ op = 47 := by omega
    all_goals (subst h; exact (form_hi _ w (by omega) (by omega)).mono fun _ _ h => ⟨h.1, h.2⟩)
end Go.Proofs.YthkampohgbddnaaDoor
