/- THE LAWS OF LAYER 2: TagJoins. -/
import Derived.Test.YtcpgfogijdmaoaaTagLaws
namespace Go.Proofs.Ytcpgfogijdmaoaa
open Go.ChangeShapes Go.WideShapes Go.ChangeAt Go.RowKit
set_option linter.unusedSimpArgs false

set_option maxHeartbeats 4000000 in
theorem TagJoins_w (s0 s1 s2 s3 t0 t1 t2 t3 u0 u1 u2 u3 : BitVec 8) (w : World) :
    Calls Try.prog 9 #[.agg #[.int .u8 (Tag.b8 s0), .int .u8 (Tag.b8 s1), .int .u8 (Tag.b8 s2), .int .u8 (Tag.b8 s3)], .agg #[.int .u8 (Tag.b8 t0), .int .u8 (Tag.b8 t1), .int .u8 (Tag.b8 t2), .int .u8 (Tag.b8 t3)], .agg #[.int .u8 (Tag.b8 u0), .int .u8 (Tag.b8 u1), .int .u8 (Tag.b8 u2), .int .u8 (Tag.b8 u3)]] w fun e w' => e = .returned (.bool true) ∧ Gr w w' := by
  have eT := eqTag
  have f0 : (Tag.o (Tag.b8 s0) (Tag.b8 t0) == Tag.o (Tag.b8 t0) (Tag.b8 s0)) = true := beqT (by simp only [Tag.or_all, Tag.all, Tag.o_b8, Tag.o_b8_0, Tag.b8_inj, BitVec.or_assoc, BitVec.or_comm, Tag.or_lc, Tag.or_or, BitVec.or_self])
  have f1 : (Tag.o (Tag.b8 s0) (Tag.o (Tag.b8 t0) (Tag.b8 u0)) == Tag.o (Tag.o (Tag.b8 s0) (Tag.b8 t0)) (Tag.b8 u0)) = true := beqT (by simp only [Tag.or_all, Tag.all, Tag.o_b8, Tag.o_b8_0, Tag.b8_inj, BitVec.or_assoc, BitVec.or_comm, Tag.or_lc, Tag.or_or, BitVec.or_self])
  have f2 : (Tag.o (Tag.b8 s0) (Tag.b8 s0) == (Tag.b8 s0)) = true := beqT (by simp only [Tag.or_all, Tag.all, Tag.o_b8, Tag.o_b8_0, Tag.b8_inj, BitVec.or_assoc, BitVec.or_comm, Tag.or_lc, Tag.or_or, BitVec.or_self])
  have f3 : (Tag.o (Tag.b8 s0) 0 == (Tag.b8 s0)) = true := beqT (by simp only [Tag.or_all, Tag.all, Tag.o_b8, Tag.o_b8_0, Tag.b8_inj, BitVec.or_assoc, BitVec.or_comm, Tag.or_lc, Tag.or_or, BitVec.or_self])
  have f4 : (Tag.o (Tag.b8 s1) (Tag.b8 t1) == Tag.o (Tag.b8 t1) (Tag.b8 s1)) = true := beqT (by simp only [Tag.or_all, Tag.all, Tag.o_b8, Tag.o_b8_0, Tag.b8_inj, BitVec.or_assoc, BitVec.or_comm, Tag.or_lc, Tag.or_or, BitVec.or_self])
  have f5 : (Tag.o (Tag.b8 s1) (Tag.o (Tag.b8 t1) (Tag.b8 u1)) == Tag.o (Tag.o (Tag.b8 s1) (Tag.b8 t1)) (Tag.b8 u1)) = true := beqT (by simp only [Tag.or_all, Tag.all, Tag.o_b8, Tag.o_b8_0, Tag.b8_inj, BitVec.or_assoc, BitVec.or_comm, Tag.or_lc, Tag.or_or, BitVec.or_self])
  have f6 : (Tag.o (Tag.b8 s1) (Tag.b8 s1) == (Tag.b8 s1)) = true := beqT (by simp only [Tag.or_all, Tag.all, Tag.o_b8, Tag.o_b8_0, Tag.b8_inj, BitVec.or_assoc, BitVec.or_comm, Tag.or_lc, Tag.or_or, BitVec.or_self])
  have f7 : (Tag.o (Tag.b8 s1) 0 == (Tag.b8 s1)) = true := beqT (by simp only [Tag.or_all, Tag.all, Tag.o_b8, Tag.o_b8_0, Tag.b8_inj, BitVec.or_assoc, BitVec.or_comm, Tag.or_lc, Tag.or_or, BitVec.or_self])
  have f8 : (Tag.o (Tag.b8 s2) (Tag.b8 t2) == Tag.o (Tag.b8 t2) (Tag.b8 s2)) = true := beqT (by simp only [Tag.or_all, Tag.all, Tag.o_b8, Tag.o_b8_0, Tag.b8_inj, BitVec.or_assoc, BitVec.or_comm, Tag.or_lc, Tag.or_or, BitVec.or_self])
  have f9 : (Tag.o (Tag.b8 s2) (Tag.o (Tag.b8 t2) (Tag.b8 u2)) == Tag.o (Tag.o (Tag.b8 s2) (Tag.b8 t2)) (Tag.b8 u2)) = true := beqT (by simp only [Tag.or_all, Tag.all, Tag.o_b8, Tag.o_b8_0, Tag.b8_inj, BitVec.or_assoc, BitVec.or_comm, Tag.or_lc, Tag.or_or, BitVec.or_self])
  have f10 : (Tag.o (Tag.b8 s2) (Tag.b8 s2) == (Tag.b8 s2)) = true := beqT (by simp only [Tag.or_all, Tag.all, Tag.o_b8, Tag.o_b8_0, Tag.b8_inj, BitVec.or_assoc, BitVec.or_comm, Tag.or_lc, Tag.or_or, BitVec.or_self])
  have f11 : (Tag.o (Tag.b8 s2) 0 == (Tag.b8 s2)) = true := beqT (by simp only [Tag.or_all, Tag.all, Tag.o_b8, Tag.o_b8_0, Tag.b8_inj, BitVec.or_assoc, BitVec.or_comm, Tag.or_lc, Tag.or_or, BitVec.or_self])
  have f12 : (Tag.o (Tag.b8 s3) (Tag.b8 t3) == Tag.o (Tag.b8 t3) (Tag.b8 s3)) = true := beqT (by simp only [Tag.or_all, Tag.all, Tag.o_b8, Tag.o_b8_0, Tag.b8_inj, BitVec.or_assoc, BitVec.or_comm, Tag.or_lc, Tag.or_or, BitVec.or_self])
  have f13 : (Tag.o (Tag.b8 s3) (Tag.o (Tag.b8 t3) (Tag.b8 u3)) == Tag.o (Tag.o (Tag.b8 s3) (Tag.b8 t3)) (Tag.b8 u3)) = true := beqT (by simp only [Tag.or_all, Tag.all, Tag.o_b8, Tag.o_b8_0, Tag.b8_inj, BitVec.or_assoc, BitVec.or_comm, Tag.or_lc, Tag.or_or, BitVec.or_self])
  have f14 : (Tag.o (Tag.b8 s3) (Tag.b8 s3) == (Tag.b8 s3)) = true := beqT (by simp only [Tag.or_all, Tag.all, Tag.o_b8, Tag.o_b8_0, Tag.b8_inj, BitVec.or_assoc, BitVec.or_comm, Tag.or_lc, Tag.or_or, BitVec.or_self])
  have f15 : (Tag.o (Tag.b8 s3) 0 == (Tag.b8 s3)) = true := beqT (by simp only [Tag.or_all, Tag.all, Tag.o_b8, Tag.o_b8_0, Tag.b8_inj, BitVec.or_assoc, BitVec.or_comm, Tag.or_lc, Tag.or_or, BitVec.or_self])
  have f16 : (Tag.all ⟨Tag.o (Tag.b8 s0) (Tag.b8 t0), Tag.o (Tag.b8 s1) (Tag.b8 t1), Tag.o (Tag.b8 s2) (Tag.b8 t2), Tag.o (Tag.b8 s3) (Tag.b8 t3)⟩ == bits .or .u8 (Tag.all ⟨Tag.b8 s0, Tag.b8 s1, Tag.b8 s2, Tag.b8 s3⟩) (Tag.all ⟨Tag.b8 t0, Tag.b8 t1, Tag.b8 t2, Tag.b8 t3⟩)) = true := beqT (by simp only [Tag.or_all, Tag.all, Tag.o_b8, Tag.o_b8_0, Tag.b8_inj, BitVec.or_assoc, BitVec.or_comm, Tag.or_lc, Tag.or_or, BitVec.or_self])
  have f17 : ((Tag.o (Tag.o (Tag.b8 s1) (Tag.b8 s0)) (Tag.b8 s0)) == (Tag.o (Tag.b8 s1) (Tag.b8 s0))) = true := beqT (by simp only [Tag.or_all, Tag.all, Tag.o_b8, Tag.o_b8_0, Tag.b8_inj, BitVec.or_assoc, BitVec.or_comm, Tag.or_lc, Tag.or_or, BitVec.or_self])
  have f18 : ((Tag.o (Tag.o (Tag.b8 s2) (Tag.o (Tag.b8 s1) (Tag.b8 s0))) (Tag.o (Tag.o (Tag.b8 s1) (Tag.b8 s0)) (Tag.b8 s0))) == (Tag.o (Tag.b8 s2) (Tag.o (Tag.b8 s1) (Tag.b8 s0)))) = true := beqT (by simp only [Tag.or_all, Tag.all, Tag.o_b8, Tag.o_b8_0, Tag.b8_inj, BitVec.or_assoc, BitVec.or_comm, Tag.or_lc, Tag.or_or, BitVec.or_self])
  have f19 : ((Tag.o (Tag.o (Tag.b8 s3) (Tag.o (Tag.b8 s2) (Tag.o (Tag.b8 s1) (Tag.b8 s0)))) (Tag.o (Tag.o (Tag.b8 s2) (Tag.o (Tag.b8 s1) (Tag.b8 s0))) (Tag.o (Tag.o (Tag.b8 s1) (Tag.b8 s0)) (Tag.b8 s0)))) == (Tag.o (Tag.b8 s3) (Tag.o (Tag.b8 s2) (Tag.o (Tag.b8 s1) (Tag.b8 s0))))) = true := beqT (by simp only [Tag.or_all, Tag.all, Tag.o_b8, Tag.o_b8_0, Tag.b8_inj, BitVec.or_assoc, BitVec.or_comm, Tag.or_lc, Tag.or_or, BitVec.or_self])
  have f20 : (Tag.all ⟨(Tag.b8 s0), (Tag.o (Tag.b8 s1) (Tag.b8 s0)), (Tag.o (Tag.b8 s2) (Tag.o (Tag.b8 s1) (Tag.b8 s0))), (Tag.o (Tag.b8 s3) (Tag.o (Tag.b8 s2) (Tag.o (Tag.b8 s1) (Tag.b8 s0))))⟩ == Tag.all ⟨Tag.b8 s0, Tag.b8 s1, Tag.b8 s2, Tag.b8 s3⟩) = true := beqT (by simp only [Tag.or_all, Tag.all, Tag.o_b8, Tag.o_b8_0, Tag.b8_inj, BitVec.or_assoc, BitVec.or_comm, Tag.or_lc, Tag.or_or, BitVec.or_self])
  go_enter Try.func9, Try.ntmps9
  go_wp2_with (first
    | (go_at_call 12; refine (awake2_c _).mono ?_; rintro e w1 ⟨rfl, h1⟩; obtain ⟨q1, q2, q3, q4, q5, q6, q7, q8, q9, q10, q11, q12⟩ := box3 h1))
  go_region_held3 (fun wr => wr.cell? ⟨w.heap.size, 0, none⟩ = some (.int .u8 (Tag.b8 s0)) ∧ wr.cell? ⟨w.heap.size, 1, none⟩ = some (.int .u8 (Tag.b8 s1)) ∧ wr.cell? ⟨w.heap.size, 2, none⟩ = some (.int .u8 (Tag.b8 s2)) ∧ wr.cell? ⟨w.heap.size, 3, none⟩ = some (.int .u8 (Tag.b8 s3)) ∧ wr.cell? ⟨w.heap.size + 1, 0, none⟩ = some (.int .u8 (Tag.b8 t0)) ∧ wr.cell? ⟨w.heap.size + 1, 1, none⟩ = some (.int .u8 (Tag.b8 t1)) ∧ wr.cell? ⟨w.heap.size + 1, 2, none⟩ = some (.int .u8 (Tag.b8 t2)) ∧ wr.cell? ⟨w.heap.size + 1, 3, none⟩ = some (.int .u8 (Tag.b8 t3)) ∧ wr.cell? ⟨w.heap.size + 1 + 1, 0, none⟩ = some (.int .u8 (Tag.b8 u0)) ∧ wr.cell? ⟨w.heap.size + 1 + 1, 1, none⟩ = some (.int .u8 (Tag.b8 u1)) ∧ wr.cell? ⟨w.heap.size + 1 + 1, 2, none⟩ = some (.int .u8 (Tag.b8 u2)) ∧ wr.cell? ⟨w.heap.size + 1 + 1, 3, none⟩ = some (.int .u8 (Tag.b8 u3))) (first | go_keep | (refine ⟨?_, ?_, ?_, ?_, ?_, ?_, ?_, ?_, ?_, ?_, ?_, ?_⟩ <;> (apply Gr.keep (by assumption); simp [*])))
    (first
    | (go_at_call 20; refine (Join_c _ _ _ _ _ _ _ _ _).mono ?_; rintro e w2 ⟨rfl, h2⟩)
    | (go_at_call 16; refine (Up_c _ _ _ _ _).mono ?_; rintro e w2 ⟨rfl, h2⟩)
    | (go_at_call 17; refine (All_c _ _ _ _ _).mono ?_; rintro e w2 ⟨rfl, h2⟩))
  all_goals go_wp2
  all_goals go_ret
  all_goals refine ⟨rfl, ?_⟩
  all_goals (repeat' (first | (with_reducible exact Gr.refl _) | (with_reducible refine Gr.alloc ?_ _ _) | (with_reducible refine Gr.drew ?_) | (with_reducible refine Gr.drewN ?_ _) | (with_reducible refine Gr.setCell ?_ ?_ _) | (with_reducible refine Gr.trans ?_ (by assumption)) | omega | (dsimp only; omega) | (simp; done) | (simp; omega)))
end Go.Proofs.Ytcpgfogijdmaoaa
