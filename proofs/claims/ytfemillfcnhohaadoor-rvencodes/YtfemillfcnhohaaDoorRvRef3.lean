/- LAYER 5: the document's own answer: Encode's tests, Kind, Name, Ends. -/
import Derived.Test.YtfemillfcnhohaaDoorRvRefM
namespace Go.Proofs.YtfemillfcnhohaaDoor
open Go.ChangeShapes Go.WideShapes Go.ChangeAt Go.RowKit

theorem rreg_c (r : Int) (w : World) :
    Calls Tryd.prog 33 #[.int .i64 r] w fun e w' => e = .returned (.bool (decide (0 ≤ r ∧ r < 32))) ∧ w' = w := by
  by_cases h1 : 0 ≤ r
  · by_cases h2 : r < 32
    · go_enter Tryd.func33, Tryd.ntmps33
      go_wp2
      go_ret
      exact ⟨Rv.ret_bool (by simp; omega), rfl⟩
    · go_enter Tryd.func33, Tryd.ntmps33
      go_wp2
      go_ret
      exact ⟨Rv.ret_bool (by simp; omega), rfl⟩
  · go_enter Tryd.func33, Tryd.ntmps33
    go_wp2
    go_ret
    exact ⟨Rv.ret_bool (by simp; omega), rfl⟩
theorem rEnds_c (i : Rv.Ins) (w : World) :
    Calls Tryd.prog 22 #[Rv.iv i] w fun e w' => e = .returned (.bool (Rv.ends i.op)) ∧ Gr w w' := by
  unfold Rv.iv
  obtain ⟨op, rd, rs1, rs2, imm⟩ := i
  dsimp only
  obtain h | h | h | h | h | h : op = 0 ∨ (3 ≤ op ∧ op ≤ 10) ∨ (47 ≤ op ∧ op ≤ 49) ∨ (op < 3 ∧ op ≠ 0) ∨ (10 < op ∧ op < 47) ∨ 49 < op := by omega
  · subst h
    go_enter Tryd.func22, Tryd.ntmps22
    go_wp2
    go_ret
    exact ⟨rfl, by (repeat' (first | (with_reducible assumption) | (with_reducible exact Gr.refl _) | (with_reducible refine Gr.alloc ?_ _ _) | (with_reducible refine Gr.drew ?_) | (with_reducible refine Gr.drewN ?_ _) | (with_reducible refine Gr.setCell ?_ ?_ _) | (with_reducible refine Gr.trans ?_ (by assumption)) | omega | (dsimp only; omega) | (simp; done) | (simp; omega)))⟩
  · have hr : Rv.ends op = true := by unfold Rv.ends; simp; omega
    rw [hr]; obtain ⟨h0, h1⟩ := h
    have e0 := Rv.beqF (show op ≠ 0 by omega)
    go_enter Tryd.func22, Tryd.ntmps22
    go_wp2
    go_ret
    exact ⟨rfl, by (repeat' (first | (with_reducible assumption) | (with_reducible exact Gr.refl _) | (with_reducible refine Gr.alloc ?_ _ _) | (with_reducible refine Gr.drew ?_) | (with_reducible refine Gr.drewN ?_ _) | (with_reducible refine Gr.setCell ?_ ?_ _) | (with_reducible refine Gr.trans ?_ (by assumption)) | omega | (dsimp only; omega) | (simp; done) | (simp; omega)))⟩
  · have hr : Rv.ends op = true := by unfold Rv.ends; simp; omega
    rw [hr]; obtain ⟨h0, h1⟩ := h
    have e0 := Rv.beqF (show op ≠ 0 by omega)
    go_enter Tryd.func22, Tryd.ntmps22
    go_wp2
    go_ret
    exact ⟨rfl, by (repeat' (first | (with_reducible assumption) | (with_reducible exact Gr.refl _) | (with_reducible refine Gr.alloc ?_ _ _) | (with_reducible refine Gr.drew ?_) | (with_reducible refine Gr.drewN ?_ _) | (with_reducible refine Gr.setCell ?_ ?_ _) | (with_reducible refine Gr.trans ?_ (by assumption)) | omega | (dsimp only; omega) | (simp; done) | (simp; omega)))⟩
  · have hr : Rv.ends op = false := by unfold Rv.ends; simp; omega
    rw [hr]; obtain ⟨h0, h1⟩ := h
    have e0 := Rv.beqF h1
    go_enter Tryd.func22, Tryd.ntmps22
    go_wp2
    go_ret
    exact ⟨rfl, by (repeat' (first | (with_reducible assumption) | (with_reducible exact Gr.refl _) | (with_reducible refine Gr.alloc ?_ _ _) | (with_reducible refine Gr.drew ?_) | (with_reducible refine Gr.drewN ?_ _) | (with_reducible refine Gr.setCell ?_ ?_ _) | (with_reducible refine Gr.trans ?_ (by assumption)) | omega | (dsimp only; omega) | (simp; done) | (simp; omega)))⟩
  · have hr : Rv.ends op = false := by unfold Rv.ends; simp; omega
    rw [hr]; obtain ⟨h0, h1⟩ := h
    have e0 := Rv.beqF (show op ≠ 0 by omega)
    go_enter Tryd.func22, Tryd.ntmps22
    go_wp2
    go_ret
    exact ⟨Rv.ret_bool (by simp; omega), by (repeat' (first | (with_reducible assumption) | (with_reducible exact Gr.refl _) | (with_reducible refine Gr.alloc ?_ _ _) | (with_reducible refine Gr.drew ?_) | (with_reducible refine Gr.drewN ?_ _) | (with_reducible refine Gr.setCell ?_ ?_ _) | (with_reducible refine Gr.trans ?_ (by assumption)) | omega | (dsimp only; omega) | (simp; done) | (simp; omega)))⟩
  · have hr : Rv.ends op = false := by unfold Rv.ends; simp; omega
    rw [hr]
    have e0 := Rv.beqF (show op ≠ 0 by omega)
    go_enter Tryd.func22, Tryd.ntmps22
    go_wp2
    go_ret
    exact ⟨Rv.ret_bool (by simp; omega), by (repeat' (first | (with_reducible assumption) | (with_reducible exact Gr.refl _) | (with_reducible refine Gr.alloc ?_ _ _) | (with_reducible refine Gr.drew ?_) | (with_reducible refine Gr.drewN ?_ _) | (with_reducible refine Gr.setCell ?_ ?_ _) | (with_reducible refine Gr.trans ?_ (by assumption)) | omega | (dsimp only; omega) | (simp; done) | (simp; omega)))⟩
theorem Rv.kt {op : Int} (h0 : 19 ≤ op) (h1 : op ≤ 45) : [Value.int .i64 0, .int .i64 3, .int .i64 4, .int .i64 5, .int .i64 8, .int .i64 9, .int .i64 2, .int .i64 6, .int .i64 7, .int .i64 0, .int .i64 1, .int .i64 2, .int .i64 3, .int .i64 4, .int .i64 5, .int .i64 6, .int .i64 7, .int .i64 8, .int .i64 9, .int .i64 10, .int .i64 11, .int .i64 12, .int .i64 13, .int .i64 14, .int .i64 15, .int .i64 16, .int .i64 17][(op - 19).toNat]? = some (.int .i64 (Rv.kd op)) := by
  obtain h | h | h | h | h | h | h | h | h | h | h | h | h | h | h | h | h | h | h | h | h | h | h | h | h | h | h : op = 19 ∨ op = 20 ∨ op = 21 ∨ op = 22 ∨ op = 23 ∨ op = 24 ∨ op = 25 ∨ op = 26 ∨ op = 27 ∨ op = 28 ∨ op = 29 ∨ op = 30 ∨ op = 31 ∨ op = 32 ∨ op = 33 ∨ op = 34 ∨ op = 35 ∨ op = 36 ∨ op = 37 ∨ op = 38 ∨ op = 39 ∨ op = 40 ∨ op = 41 ∨ op = 42 ∨ op = 43 ∨ op = 44 ∨ op = 45 := by omega
  all_goals (subst h; rfl)
theorem rKind_c (op : Int) (w : World) :
    Calls Tryd.prog 20 #[.int .i64 op] w fun e w' => e = .returned (.tuple #[.int .i64 (Rv.kd op), .bool (Rv.kb op)]) ∧ Gr w w' := by
  by_cases h : 19 ≤ op ∧ op ≤ 45
  · have hb : Rv.kb op = true := by unfold Rv.kb; simp; omega
    rw [hb]
    obtain ⟨c0, c1⟩ := h
    have hx := Rv.kt c0 c1
    generalize Rv.kd op = x at *
    go_enter Tryd.func20, Tryd.ntmps20
    go_wp2_with fail
    first | go_region | skip
    all_goals go_wp2_with fail
    all_goals go_returns
    all_goals exact ⟨rfl, by (repeat' (first | (with_reducible assumption) | (with_reducible exact Gr.refl _) | (with_reducible refine Gr.alloc ?_ _ _) | (with_reducible refine Gr.drew ?_) | (with_reducible refine Gr.drewN ?_ _) | (with_reducible refine Gr.setCell ?_ ?_ _) | (with_reducible refine Gr.trans ?_ (by assumption)) | omega | (dsimp only; omega) | (simp; done) | (simp; omega)))⟩
  · have hb : Rv.kb op = false := by unfold Rv.kb; simp; omega
    have hk : Rv.kd op = 0 := by unfold Rv.kd; rw [if_neg (by omega), if_neg (by omega)]
    rw [hb, hk]
    obtain h | h : op < 19 ∨ 45 < op := by omega
    all_goals
      go_enter Tryd.func20, Tryd.ntmps20
      go_wp2_with fail
      go_returns
      exact ⟨rfl, by (repeat' (first | (with_reducible assumption) | (with_reducible exact Gr.refl _) | (with_reducible refine Gr.alloc ?_ _ _) | (with_reducible refine Gr.drew ?_) | (with_reducible refine Gr.drewN ?_ _) | (with_reducible refine Gr.setCell ?_ ?_ _) | (with_reducible refine Gr.trans ?_ (by assumption)) | omega | (dsimp only; omega) | (simp; done) | (simp; omega)))⟩
end Go.Proofs.YtfemillfcnhohaaDoor
