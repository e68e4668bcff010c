/- THE WALKS OF LAYER 2: each function of package tag comes to the plain value (Tag.flow ..). -/
import Derived.Test.YtcpgfogijdmaoaaAluWalks
import Derived.Test.YtcpgfogijdmaoaaBase
import Derived.Test.YtcpgfogijdmaoaaTag
import Derived.RegionTactic
import Derived.BigRegion
namespace Go.Proofs.Ytcpgfogijdmaoaa
open Go.ChangeShapes Go.WideShapes Go.ChangeAt Go.RowKit

theorem ret_t {u0 u1 u2 u3 : Int} (t : Tag.T4) (h : t = ⟨u0, u1, u2, u3⟩) :
    Ending.returned (.agg #[.int .u8 u0, .int .u8 u1, .int .u8 u2, .int .u8 u3]) = .returned (.agg #[.int .u8 t.x0, .int .u8 t.x1, .int .u8 t.x2, .int .u8 t.x3]) := by rw [h]
theorem ret_te {u0 u1 u2 u3 c d : Int} (t : Tag.T4) (h : t = ⟨u0, u1, u2, u3⟩) (h2 : c = d) :
    Ending.returned (.tuple #[.agg #[.int .u8 u0, .int .u8 u1, .int .u8 u2, .int .u8 u3], .int .i64 c]) = .returned (.tuple #[.agg #[.int .u8 t.x0, .int .u8 t.x1, .int .u8 t.x2, .int .u8 t.x3], .int .i64 d]) := by rw [h, h2]

theorem cells4 {w : World} {t : TypeId} {a0 a1 a2 a3 b0 b1 b2 b3 : Int} (h0 : a0 = b0) (h1 : a1 = b1) (h2 : a2 = b2) (h3 : a3 = b3) :
    w.alloc (.cells #[.int .u8 a0, .int .u8 a1, .int .u8 a2, .int .u8 a3] t) = w.alloc (.cells #[.int .u8 b0, .int .u8 b1, .int .u8 b2, .int .u8 b3] t) := by rw [h0, h1, h2, h3]

theorem Fill_c (l : Int) (w : World) :
    Calls Try.prog 14 #[.int .u8 l] w fun e w' => e = .returned (.agg #[.int .u8 l, .int .u8 l, .int .u8 l, .int .u8 l]) ∧ Gr w w' := by
  go_enter Try.func14, Try.ntmps14
  go_wp2
  go_returns
  refine ⟨rfl, ?_⟩
  (repeat' (first | (with_reducible exact Gr.refl _) | (with_reducible refine Gr.alloc ?_ _ _) | (with_reducible refine Gr.drew ?_) | (with_reducible refine Gr.drewN ?_ _) | (with_reducible refine Gr.setCell ?_ ?_ _) | (with_reducible refine Gr.trans ?_ (by assumption)) | omega | (dsimp only; omega) | (simp; done) | (simp; omega)))

theorem All_c (a0 a1 a2 a3 : Int) (w : World) :
    Calls Try.prog 17 #[.agg #[.int .u8 a0, .int .u8 a1, .int .u8 a2, .int .u8 a3]] w fun e w' => e = .returned (.int .u8 (Tag.all ⟨a0, a1, a2, a3⟩)) ∧ Gr w w' := by
  go_enter Try.func17, Try.ntmps17
  go_wp2
  go_ret
  refine ⟨rfl, ?_⟩
  (repeat' (first | (with_reducible exact Gr.refl _) | (with_reducible refine Gr.alloc ?_ _ _) | (with_reducible refine Gr.drew ?_) | (with_reducible refine Gr.drewN ?_ _) | (with_reducible refine Gr.setCell ?_ ?_ _) | (with_reducible refine Gr.trans ?_ (by assumption)) | omega | (dsimp only; omega) | (simp; done) | (simp; omega)))

theorem Join_c (a0 a1 a2 a3 b0 b1 b2 b3 : Int) (w : World) :
    Calls Try.prog 20 #[.agg #[.int .u8 a0, .int .u8 a1, .int .u8 a2, .int .u8 a3], .agg #[.int .u8 b0, .int .u8 b1, .int .u8 b2, .int .u8 b3]] w fun e w' =>
     e = .returned (.agg #[.int .u8 (Tag.o a0 b0), .int .u8 (Tag.o a1 b1), .int .u8 (Tag.o a2 b2), .int .u8 (Tag.o a3 b3)]) ∧ Gr w w' := by
  go_enter Try.func20, Try.ntmps20
  go_wp2
  refine wp_loop_rounds 5 ?_
  iterate 4 (rw [rounds_succ]; go_wp2; go_region; go_wp2)
  rw [rounds_succ]; go_wp2
  go_returns
  refine ⟨rfl, ?_⟩
  (repeat' (first | (with_reducible exact Gr.refl _) | (with_reducible refine Gr.alloc ?_ _ _) | (with_reducible refine Gr.drew ?_) | (with_reducible refine Gr.drewN ?_ _) | (with_reducible refine Gr.setCell ?_ ?_ _) | (with_reducible refine Gr.trans ?_ (by assumption)) | omega | (dsimp only; omega) | (simp; done) | (simp; omega)))

theorem Up_c (a0 a1 a2 a3 : Int) (w : World) :
    Calls Try.prog 16 #[.agg #[.int .u8 a0, .int .u8 a1, .int .u8 a2, .int .u8 a3]] w fun e w' =>
     e = .returned (.agg #[.int .u8 a0, .int .u8 (Tag.o a1 a0), .int .u8 (Tag.o a2 (Tag.o a1 a0)), .int .u8 (Tag.o a3 (Tag.o a2 (Tag.o a1 a0)))]) ∧ Gr w w' := by
  go_enter Try.func16, Try.ntmps16
  go_wp2
  refine wp_loop_rounds 5 ?_
  iterate 3 (rw [rounds_succ]; go_wp2; go_region; go_wp2)
  rw [rounds_succ]; go_wp2
  go_returns
  refine ⟨rfl, ?_⟩
  (repeat' (first | (with_reducible exact Gr.refl _) | (with_reducible refine Gr.alloc ?_ _ _) | (with_reducible refine Gr.drew ?_) | (with_reducible refine Gr.drewN ?_ _) | (with_reducible refine Gr.setCell ?_ ?_ _) | (with_reducible refine Gr.trans ?_ (by assumption)) | omega | (dsimp only; omega) | (simp; done) | (simp; omega)))

set_option maxHeartbeats 1000000 in
theorem Narrow_c (a0 a1 a2 a3 size : Int) (signed : Bool) (w : World) :
    Calls Try.prog 15 #[.agg #[.int .u8 a0, .int .u8 a1, .int .u8 a2, .int .u8 a3], .int .i64 size, .bool signed] w fun e w' =>
     e = .returned (.agg #[.int .u8 (Tag.narrow ⟨a0, a1, a2, a3⟩ size signed).x0, .int .u8 (Tag.narrow ⟨a0, a1, a2, a3⟩ size signed).x1, .int .u8 (Tag.narrow ⟨a0, a1, a2, a3⟩ size signed).x2, .int .u8 (Tag.narrow ⟨a0, a1, a2, a3⟩ size signed).x3]) ∧ Gr w w' := by
  by_cases h1 : size = 1
  · subst h1
    cases signed
    all_goals
      go_enter Try.func15, Try.ntmps15
      go_wp2
      refine wp_loop_rounds 5 ?_
      iterate 3 (rw [rounds_succ]; go_wp2)
      rw [rounds_succ]; go_wp2
      go_returns
      refine ⟨ret_t _ rfl, ?_⟩
      (repeat' (first | (with_reducible exact Gr.refl _) | (with_reducible refine Gr.alloc ?_ _ _) | (with_reducible refine Gr.drew ?_) | (with_reducible refine Gr.drewN ?_ _) | (with_reducible refine Gr.setCell ?_ ?_ _) | (with_reducible refine Gr.trans ?_ (by assumption)) | omega | (dsimp only; omega) | (simp; done) | (simp; omega)))
  · by_cases h2 : size = 2
    · subst h2
      cases signed
      all_goals
        go_enter Try.func15, Try.ntmps15
        go_wp2
        refine wp_loop_rounds 5 ?_
        iterate 2 (rw [rounds_succ]; go_wp2)
        rw [rounds_succ]; go_wp2
        go_returns
        refine ⟨ret_t _ rfl, ?_⟩
        (repeat' (first | (with_reducible exact Gr.refl _) | (with_reducible refine Gr.alloc ?_ _ _) | (with_reducible refine Gr.drew ?_) | (with_reducible refine Gr.drewN ?_ _) | (with_reducible refine Gr.setCell ?_ ?_ _) | (with_reducible refine Gr.trans ?_ (by assumption)) | omega | (dsimp only; omega) | (simp; done) | (simp; omega)))
    · have f1 : (size != 1) = true := by simpa using h1
      have f2 : (size != 2) = true := by simpa using h2
      have E : Hid (Tag.narrow ⟨a0, a1, a2, a3⟩ size signed = ⟨a0, a1, a2, a3⟩) := by show _ = _; unfold Tag.narrow; rw [if_neg h1, if_neg h2]
      clear h1 h2
      go_enter Try.func15, Try.ntmps15
      go_wp2
      go_returns
      refine ⟨ret_t _ E.out, ?_⟩
      (repeat' (first | (with_reducible exact Gr.refl _) | (with_reducible refine Gr.alloc ?_ _ _) | (with_reducible refine Gr.drew ?_) | (with_reducible refine Gr.drewN ?_ _) | (with_reducible refine Gr.setCell ?_ ?_ _) | (with_reducible refine Gr.trans ?_ (by assumption)) | omega | (dsimp only; omega) | (simp; done) | (simp; omega)))

theorem byteOf_c (a i : Int) (h0 : 0 ≤ i) (h4 : i < 4) (w : World) :
    Calls Try.prog 37 #[.int .u32 a, .int .i64 i] w fun e w' => e = .returned (.int .u8 (Tag.by4 a i.toNat)) ∧ w' = w := by
  have hc : i = 0 ∨ i = 1 ∨ i = 2 ∨ i = 3 := by omega
  rcases hc with rfl | rfl | rfl | rfl
  all_goals
    go_enter Try.func37, Try.ntmps37
    go_wp2
    go_ret
    exact ⟨ret_int (by simp [Tag.by4]), rfl⟩
end Go.Proofs.Ytcpgfogijdmaoaa
