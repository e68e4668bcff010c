/- THE REFERENCE OF LAYER 2: contracts of tinctureref1's labels. -/
import Derived.Test.YtcpgfogijdmaoaaTagWalks
import Derived.Deep.RegionHeld3
namespace Go.Proofs.Ytcpgfogijdmaoaa
open Go.ChangeShapes Go.WideShapes Go.ChangeAt Go.RowKit
set_option linter.unusedSimpArgs false

theorem rAll_c (a0 a1 a2 a3 : Int) (w : World) :
    Calls Try.prog 18 #[.agg #[.int .u8 a0, .int .u8 a1, .int .u8 a2, .int .u8 a3]] w fun e w' => e = .returned (.int .u8 (Tag.all ⟨a0, a1, a2, a3⟩)) ∧ Gr w w' := by
  go_enter Try.func18, Try.ntmps18
  go_wp2
  go_ret
  refine ⟨rfl, ?_⟩
  (repeat' (first | (with_reducible exact Gr.refl _) | (with_reducible refine Gr.alloc ?_ _ _) | (with_reducible refine Gr.drew ?_) | (with_reducible refine Gr.drewN ?_ _) | (with_reducible refine Gr.setCell ?_ ?_ _) | (with_reducible refine Gr.trans ?_ (by assumption)) | omega | (dsimp only; omega) | (simp; done) | (simp; omega)))
theorem rFill_c (l : Int) (w : World) :
    Calls Try.prog 19 #[.int .u8 l] w fun e w' => e = .returned (.agg #[.int .u8 l, .int .u8 l, .int .u8 l, .int .u8 l]) ∧ Gr w w' := by
  go_enter Try.func19, Try.ntmps19
  go_wp2
  go_returns
  refine ⟨rfl, ?_⟩
  (repeat' (first | (with_reducible exact Gr.refl _) | (with_reducible refine Gr.alloc ?_ _ _) | (with_reducible refine Gr.drew ?_) | (with_reducible refine Gr.drewN ?_ _) | (with_reducible refine Gr.setCell ?_ ?_ _) | (with_reducible refine Gr.trans ?_ (by assumption)) | omega | (dsimp only; omega) | (simp; done) | (simp; omega)))
theorem rJoin_c (a0 a1 a2 a3 b0 b1 b2 b3 : Int) (w : World) :
    Calls Try.prog 21 #[.agg #[.int .u8 a0, .int .u8 a1, .int .u8 a2, .int .u8 a3], .agg #[.int .u8 b0, .int .u8 b1, .int .u8 b2, .int .u8 b3]] w fun e w' =>
     e = .returned (.agg #[.int .u8 (Tag.o a0 b0), .int .u8 (Tag.o a1 b1), .int .u8 (Tag.o a2 b2), .int .u8 (Tag.o a3 b3)]) ∧ Gr w w' := by
  go_enter Try.func21, Try.ntmps21
  go_wp2
  go_returns
  refine ⟨rfl, ?_⟩
  (repeat' (first | (with_reducible exact Gr.refl _) | (with_reducible refine Gr.alloc ?_ _ _) | (with_reducible refine Gr.drew ?_) | (with_reducible refine Gr.drewN ?_ _) | (with_reducible refine Gr.setCell ?_ ?_ _) | (with_reducible refine Gr.trans ?_ (by assumption)) | omega | (dsimp only; omega) | (simp; done) | (simp; omega)))
set_option maxHeartbeats 1000000 in
theorem rUp_c (a0 a1 a2 a3 : Int) (w : World) :
    Calls Try.prog 22 #[.agg #[.int .u8 a0, .int .u8 a1, .int .u8 a2, .int .u8 a3]] w fun e w' =>
     e = .returned (.agg #[.int .u8 a0, .int .u8 (Tag.o a0 a1), .int .u8 (Tag.o (Tag.o a0 a1) a2), .int .u8 (Tag.all ⟨a0, a1, a2, a3⟩)]) ∧ Gr w w' := by
  go_enter Try.func22, Try.ntmps22
  go_wp2
  go_region_held3 (fun wr => wr.cell? ⟨w.heap.size, 0, none⟩ = some (.int .u8 a0) ∧ wr.cell? ⟨w.heap.size, 1, none⟩ = some (.int .u8 a1) ∧ wr.cell? ⟨w.heap.size, 2, none⟩ = some (.int .u8 a2) ∧ wr.cell? ⟨w.heap.size, 3, none⟩ = some (.int .u8 a3)) (first | go_keep | (refine ⟨?_, ?_, ?_, ?_⟩ <;> (apply Gr.keep (by assumption); simp [*])))
    (first
    | (go_at_call 18; refine (rAll_c _ _ _ _ _).mono ?_; rintro e w1 ⟨rfl, h1⟩; have hc1 := h1.cell; have hf1 := h1.f; have hz1 := h1.size; have hA1 := h1.cellA; have hF1 := h1.frozenA; try simp only [World.size_alloc] at hc1 hz1 hA1 hF1))
  all_goals go_wp2
  refine bodyPost_ret (v := .agg #[.int .u8 a0, .int .u8 (Tag.o a0 a1), .int .u8 (Tag.o (Tag.o a0 a1) a2), .int .u8 (Tag.all ⟨a0, a1, a2, a3⟩)]) (by simp [results, Try.results22, go_sem, hc1, Tag.o]) rfl (And.intro rfl ?_)
  replace h1 : Gr w w1 := (((Gr.refl w).alloc _ _).alloc _ _).drew.trans h1
  (repeat' (first | (with_reducible exact Gr.refl _) | (with_reducible refine Gr.alloc ?_ _ _) | (with_reducible refine Gr.drew ?_) | (with_reducible refine Gr.drewN ?_ _) | (with_reducible refine Gr.setCell ?_ ?_ _) | (with_reducible refine Gr.trans ?_ (by assumption)) | omega | (dsimp only; omega) | (simp; done) | (simp; omega)))
set_option maxHeartbeats 1000000 in
theorem rNarrow_c (a0 a1 a2 a3 size : Int) (signed : Bool) (w : World) :
    Calls Try.prog 23 #[.agg #[.int .u8 a0, .int .u8 a1, .int .u8 a2, .int .u8 a3], .int .i64 size, .bool signed] w fun e w' =>
     e = .returned (.agg #[.int .u8 (Tag.narrow ⟨a0, a1, a2, a3⟩ size signed).x0, .int .u8 (Tag.narrow ⟨a0, a1, a2, a3⟩ size signed).x1, .int .u8 (Tag.narrow ⟨a0, a1, a2, a3⟩ size signed).x2, .int .u8 (Tag.narrow ⟨a0, a1, a2, a3⟩ size signed).x3]) ∧ Gr w w' := by
  by_cases h1 : size = 1
  · subst h1
    cases signed
    all_goals
      go_enter Try.func23, Try.ntmps23
      go_wp2
      refine wp_loop_rounds 5 ?_
      iterate 4 (rw [rounds_succ]; go_wp2)
      rw [rounds_succ]; go_wp2
      go_returns
      refine ⟨ret_t _ rfl, ?_⟩
      (repeat' (first | (with_reducible exact Gr.refl _) | (with_reducible refine Gr.alloc ?_ _ _) | (with_reducible refine Gr.drew ?_) | (with_reducible refine Gr.drewN ?_ _) | (with_reducible refine Gr.setCell ?_ ?_ _) | (with_reducible refine Gr.trans ?_ (by assumption)) | omega | (dsimp only; omega) | (simp; done) | (simp; omega)))
  · by_cases h2 : size = 2
    · subst h2
      cases signed
      all_goals
        go_enter Try.func23, Try.ntmps23
        go_wp2
        refine wp_loop_rounds 5 ?_
        iterate 4 (rw [rounds_succ]; go_wp2)
        rw [rounds_succ]; go_wp2
        go_returns
        refine ⟨ret_t _ rfl, ?_⟩
        (repeat' (first | (with_reducible exact Gr.refl _) | (with_reducible refine Gr.alloc ?_ _ _) | (with_reducible refine Gr.drew ?_) | (with_reducible refine Gr.drewN ?_ _) | (with_reducible refine Gr.setCell ?_ ?_ _) | (with_reducible refine Gr.trans ?_ (by assumption)) | omega | (dsimp only; omega) | (simp; done) | (simp; omega)))
    · have f1 : (size != 1) = true := by simpa using h1
      have f2 : (size != 2) = true := by simpa using h2
      have E : Hid (Tag.narrow ⟨a0, a1, a2, a3⟩ size signed = ⟨a0, a1, a2, a3⟩) := by show _ = _; unfold Tag.narrow; rw [if_neg h1, if_neg h2]
      clear h1 h2
      go_enter Try.func23, Try.ntmps23
      go_wp2
      go_returns
      refine ⟨ret_t _ E.out, ?_⟩
      (repeat' (first | (with_reducible exact Gr.refl _) | (with_reducible refine Gr.alloc ?_ _ _) | (with_reducible refine Gr.drew ?_) | (with_reducible refine Gr.drewN ?_ _) | (with_reducible refine Gr.setCell ?_ ?_ _) | (with_reducible refine Gr.trans ?_ (by assumption)) | omega | (dsimp only; omega) | (simp; done) | (simp; omega)))
end Go.Proofs.Ytcpgfogijdmaoaa
