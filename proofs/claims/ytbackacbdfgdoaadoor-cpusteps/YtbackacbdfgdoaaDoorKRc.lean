/- LAYER 5: the document's own answer: Encode's tests, Kind, Name, Ends. -/
import Derived.Test.YtbackacbdfgdoaaDoorKRa
namespace Go.Proofs.YtbackacbdfgdoaaDoor
open Go.ChangeShapes Go.WideShapes Go.ChangeAt Go.RowKit

theorem Rv.kt {op : Int} (h0 : 19 ≤ op) (h1 : op ≤ 45) : [Value.int .i64 0, .int .i64 3, .int .i64 4, .int .i64 5, .int .i64 8, .int .i64 9, .int .i64 2, .int .i64 6, .int .i64 7, .int .i64 0, .int .i64 1, .int .i64 2, .int .i64 3, .int .i64 4, .int .i64 5, .int .i64 6, .int .i64 7, .int .i64 8, .int .i64 9, .int .i64 10, .int .i64 11, .int .i64 12, .int .i64 13, .int .i64 14, .int .i64 15, .int .i64 16, .int .i64 17][(op - 19).toNat]? = some (.int .i64 (Rv.kd op)) := by
  obtain h | h | h | h | h | h | h | h | h | h | h | h | h | h | h | h | h | h | h | h | h | h | h | h | h | h | h : op = 19 ∨ op = 20 ∨ op = 21 ∨ op = 22 ∨ op = 23 ∨ op = 24 ∨ op = 25 ∨ op = 26 ∨ op = 27 ∨ op = 28 ∨ op = 29 ∨ op = 30 ∨ op = 31 ∨ op = 32 ∨ op = 33 ∨ op = 34 ∨ op = 35 ∨ op = 36 ∨ op = 37 ∨ op = 38 ∨ op = 39 ∨ op = 40 ∨ op = 41 ∨ op = 42 ∨ op = 43 ∨ op = 44 ∨ op = 45 := by omega
  all_goals (subst h; rfl)
theorem rKind_c (op : Int) (w : World) :
    Calls Tryd.prog 42 #[.int .i64 op] w fun e w' => e = .returned (.tuple #[.int .i64 (Rv.kd op), .bool (Rv.kb op)]) ∧ Gr w w' := by
  by_cases h : 19 ≤ op ∧ op ≤ 45
  · have hb : Rv.kb op = true := by unfold Rv.kb; simp; omega
    rw [hb]
    obtain ⟨c0, c1⟩ := h
    have hx := Rv.kt c0 c1
    generalize Rv.kd op = x at *
    go_enter Tryd.func42, Tryd.ntmps42
    go_wp2_with fail
    first | go_region | skip
    all_goals go_wp2_with fail
    all_goals go_returns
    all_goals exact ⟨rfl, by (repeat' (first | (with_reducible assumption) | (with_reducible exact Gr.refl _) | (with_reducible refine Gr.alloc ?_ _ _) | (with_reducible refine Gr.drew ?_) | (with_reducible refine Gr.drewN ?_ _) | (with_reducible refine Gr.setCell ?_ ?_ _) | (with_reducible refine Gr.trans ?_ (by assumption)) | omega | (dsimp only; omega) | (simp; done) | (simp; omega)))⟩
  · have hb : Rv.kb op = false := by unfold Rv.kb; simp; omega
    have hk : Rv.kd op = 0 := by unfold Rv.kd; rw [if_neg (by omega), if_neg (by omega)]
    rw [hb, hk]
    obtain h | h : op < 19 ∨ 45 < op := by omega
    all_goals
      go_enter Tryd.func42, Tryd.ntmps42
      go_wp2_with fail
      go_returns
      exact ⟨rfl, by (repeat' (first | (with_reducible assumption) | (with_reducible exact Gr.refl _) | (with_reducible refine Gr.alloc ?_ _ _) | (with_reducible refine Gr.drew ?_) | (with_reducible refine Gr.drewN ?_ _) | (with_reducible refine Gr.setCell ?_ ?_ _) | (with_reducible refine Gr.trans ?_ (by assumption)) | omega | (dsimp only; omega) | (simp; done) | (simp; omega)))⟩
end Go.Proofs.YtbackacbdfgdoaaDoor
