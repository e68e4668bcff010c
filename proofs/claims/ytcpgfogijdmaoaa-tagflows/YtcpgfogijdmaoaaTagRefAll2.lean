/- THE REFERENCE OF LAYER 2: tinctureref1.Flow: what bears all labels. -/
import Derived.Test.YtcpgfogijdmaoaaTagRef
import Derived.Test.YtcpgfogijdmaoaaTagBox
namespace Go.Proofs.Ytcpgfogijdmaoaa
open Go.ChangeShapes Go.WideShapes Go.ChangeAt Go.RowKit
set_option linter.unusedSimpArgs false

set_option maxRecDepth 100000 in
set_option maxHeartbeats 8000000 in
theorem rFlowX_c (k a b s0 s1 s2 s3 t0 t1 t2 t3 : Int) (hk : k = 11 ∨ k = 12 ∨ k = 13 ∨ k = 14 ∨ k = 15 ∨ k = 16 ∨ k = 17) (w : World) :
    Calls Try.prog 24 #[.int .i64 k, .int .u32 a, .int .u32 b, .agg #[.int .u8 s0, .int .u8 s1, .int .u8 s2, .int .u8 s3], .agg #[.int .u8 t0, .int .u8 t1, .int .u8 t2, .int .u8 t3]] w fun e w' =>
     e = .returned (.tuple #[.agg #[.int .u8 (Tag.o (Tag.all ⟨s0, s1, s2, s3⟩) (Tag.all ⟨t0, t1, t2, t3⟩)), .int .u8 (Tag.o (Tag.all ⟨s0, s1, s2, s3⟩) (Tag.all ⟨t0, t1, t2, t3⟩)), .int .u8 (Tag.o (Tag.all ⟨s0, s1, s2, s3⟩) (Tag.all ⟨t0, t1, t2, t3⟩)), .int .u8 (Tag.o (Tag.all ⟨s0, s1, s2, s3⟩) (Tag.all ⟨t0, t1, t2, t3⟩))], .bool true]) ∧ Gr w w' := by
  rcases hk with rfl | rfl | rfl | rfl | rfl | rfl | rfl
  all_goals
    go_enter Try.func24, Try.ntmps24
    go_wp2
    go_region_held3 (fun wr => wr.cell? ⟨w.heap.size, 0, none⟩ = some (.int .u8 s0) ∧ wr.cell? ⟨w.heap.size, 1, none⟩ = some (.int .u8 s1) ∧ wr.cell? ⟨w.heap.size, 2, none⟩ = some (.int .u8 s2) ∧ wr.cell? ⟨w.heap.size, 3, none⟩ = some (.int .u8 s3) ∧ wr.cell? ⟨w.heap.size + 1, 0, none⟩ = some (.int .u8 t0) ∧ wr.cell? ⟨w.heap.size + 1, 1, none⟩ = some (.int .u8 t1) ∧ wr.cell? ⟨w.heap.size + 1, 2, none⟩ = some (.int .u8 t2) ∧ wr.cell? ⟨w.heap.size + 1, 3, none⟩ = some (.int .u8 t3)) (first | exact box2 ((((Gr.refl _).alloc _ _).alloc _ _).drew) | exact box2 h1.undrew.drop.drop | exact box2 ((((h1.undrew.drop.drop.setCell (by simp) _).setCell (by simp) _).setCell (by simp) _).setCell (by simp) _))
      (first
      | (go_at_call 18; refine (rAll_c _ _ _ _ _).mono ?_; rintro e w2 ⟨rfl, h2⟩; first | (replace h1 := h1.trans h2; clear h2 hc1 hf1 hz1 hA1 hF1; have hc1 := h1.cell; have hf1 := h1.f; have hz1 := h1.size; have hA1 := h1.cellA; have hF1 := h1.frozenA; try simp only [World.size_alloc] at hc1 hz1 hA1 hF1) | (have h1 := h2; clear h2; have hc1 := h1.cell; have hf1 := h1.f; have hz1 := h1.size; have hA1 := h1.cellA; have hF1 := h1.frozenA; try simp only [World.size_alloc] at hc1 hz1 hA1 hF1))
      | (go_at_call 19; refine (rFill_c _ _).mono ?_; rintro e w2 ⟨rfl, h2⟩; first | (replace h1 := h1.trans h2; clear h2 hc1 hf1 hz1 hA1 hF1; have hc1 := h1.cell; have hf1 := h1.f; have hz1 := h1.size; have hA1 := h1.cellA; have hF1 := h1.frozenA; try simp only [World.size_alloc] at hc1 hz1 hA1 hF1) | (have h1 := h2; clear h2; have hc1 := h1.cell; have hf1 := h1.f; have hz1 := h1.size; have hA1 := h1.cellA; have hF1 := h1.frozenA; try simp only [World.size_alloc] at hc1 hz1 hA1 hF1)))
    go_wp2
    refine bodyPost_ret (v := .tuple #[.agg #[.int .u8 (Tag.o (Tag.all ⟨s0, s1, s2, s3⟩) (Tag.all ⟨t0, t1, t2, t3⟩)), .int .u8 (Tag.o (Tag.all ⟨s0, s1, s2, s3⟩) (Tag.all ⟨t0, t1, t2, t3⟩)), .int .u8 (Tag.o (Tag.all ⟨s0, s1, s2, s3⟩) (Tag.all ⟨t0, t1, t2, t3⟩)), .int .u8 (Tag.o (Tag.all ⟨s0, s1, s2, s3⟩) (Tag.all ⟨t0, t1, t2, t3⟩))], .bool true]) (by simp [results, Try.results24, go_sem, hc1, Tag.o]) rfl (And.intro rfl ?_)
    replace h1 : Gr w _ := ((((Gr.refl w).alloc _ _).alloc _ _).alloc _ _).alloc _ _ |>.drew.trans h1
    (repeat' (first | (with_reducible exact Gr.refl _) | (with_reducible refine Gr.alloc ?_ _ _) | (with_reducible refine Gr.drew ?_) | (with_reducible refine Gr.drewN ?_ _) | (with_reducible refine Gr.setCell ?_ ?_ _) | (with_reducible refine Gr.trans ?_ (by assumption)) | omega | (dsimp only; omega) | (simp; done) | (simp; omega)))
end Go.Proofs.Ytcpgfogijdmaoaa
