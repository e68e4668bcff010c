/- THE LAWS OF LAYER 2: TagFlows. -/
import Derived.Test.YtcpgfogijdmaoaaTagLaws
import Derived.Test.YtcpgfogijdmaoaaTagRefFlow
namespace Go.Proofs.Ytcpgfogijdmaoaa
open Go.ChangeShapes Go.WideShapes Go.ChangeAt Go.RowKit
set_option linter.unusedSimpArgs false

set_option maxHeartbeats 4000000 in
theorem TagFlows_w (k a b : Int) (s0 s1 s2 s3 t0 t1 t2 t3 : BitVec 8) (hb : Alu.U32 b) (w : World) :
    Calls Try.prog 5 #[.int .i64 k, .int .u32 a, .int .u32 b, .agg #[.int .u8 (Tag.b8 s0), .int .u8 (Tag.b8 s1), .int .u8 (Tag.b8 s2), .int .u8 (Tag.b8 s3)], .agg #[.int .u8 (Tag.b8 t0), .int .u8 (Tag.b8 t1), .int .u8 (Tag.b8 t2), .int .u8 (Tag.b8 t3)]] w fun e w' => e = .returned (.bool true) ∧ Gr w w' := by
  have eT := eqTag
  have eK : (Alu.err k == 0) = Alu.known k := by unfold Alu.err; cases Alu.known k <;> rfl
  have eE : (Alu.err k == 1) = !Alu.known k := by unfold Alu.err; cases Alu.known k <;> rfl
  rcases Bool.eq_false_or_eq_true (Alu.known k) with hK | hK
  all_goals
    rw [hK] at eK eE
    have HK : Hid (Alu.known k = _) := hK
    go_enter Try.func5, Try.ntmps5
    go_wp2_with fail
    refine (awake2_c _).mono ?_
    rintro e w1 ⟨rfl, h1⟩
    have ch1 := h1.cell; have fh1 := h1.f; have zh1 := h1.size; have Ah1 := h1.cellA; have Fh1 := h1.frozenA; try simp only [World.size_alloc] at ch1 zh1 Ah1 Fh1
    go_wp2_with fail
    refine (Flow_c _ _ _ _ _ _ _ _ _ _ _ hb _).mono ?_
    rintro e w2 ⟨rfl, h2⟩
    have k2 := h1.trans h2
    have ck2 := k2.cell; have fk2 := k2.f; have zk2 := k2.size; have Ak2 := k2.cellA; have Fk2 := k2.frozenA; try simp only [World.size_alloc] at ck2 zk2 Ak2 Fk2
    go_wp2_with fail
    refine (rFlow_c _ _ _ _ _ _ _ _ _ _ _ hb _).mono ?_
    rintro e w3 ⟨rfl, h3⟩
    have k3 := (k2.alloc _ _).trans h3
    have ch3 := h3.cell; have fh3 := h3.f; have zh3 := h3.size; have Ah3 := h3.cellA; have Fh3 := h3.frozenA; try simp only [World.size_alloc] at ch3 zh3 Ah3 Fh3
    have ck3 := k3.cell; have fk3 := k3.f; have zk3 := k3.size; have Ak3 := k3.cellA; have Fk3 := k3.frozenA; try simp only [World.size_alloc] at ck3 zk3 Ak3 Fk3
    go_wp2
    go_ret
    refine ⟨rfl, ?_⟩
    (repeat' (first | (with_reducible exact Gr.refl _) | (with_reducible refine Gr.alloc ?_ _ _) | (with_reducible refine Gr.drew ?_) | (with_reducible refine Gr.drewN ?_ _) | (with_reducible refine Gr.setCell ?_ ?_ _) | (with_reducible refine Gr.trans ?_ (by assumption)) | omega | (dsimp only; omega) | (simp; done) | (simp; omega)))
end Go.Proofs.Ytcpgfogijdmaoaa
