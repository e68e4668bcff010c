/- THE WALKS OF LAYER 2 once more, over vectors of eight bits. -/
import Derived.Test.YtcpgfogijdmaoaaTagLaws
import Derived.Test.YtcpgfogijdmaoaaTagFacts
namespace Go.Proofs.Ytcpgfogijdmaoaa
open Go.ChangeShapes Go.WideShapes Go.ChangeAt Go.RowKit

theorem Join_b (s0 s1 s2 s3 t0 t1 t2 t3 : BitVec 8) (w : World) :
    Calls Try.prog 20 #[.agg #[.int .u8 (Tag.b8 s0), .int .u8 (Tag.b8 s1), .int .u8 (Tag.b8 s2), .int .u8 (Tag.b8 s3)], .agg #[.int .u8 (Tag.b8 t0), .int .u8 (Tag.b8 t1), .int .u8 (Tag.b8 t2), .int .u8 (Tag.b8 t3)]] w fun e w' => e = .returned (.agg #[.int .u8 (Tag.b8 (s0 ||| t0)), .int .u8 (Tag.b8 (s1 ||| t1)), .int .u8 (Tag.b8 (s2 ||| t2)), .int .u8 (Tag.b8 (s3 ||| t3))]) ∧ Gr w w' := by
  refine (Join_c _ _ _ _ _ _ _ _ _).mono ?_
  rintro e w' ⟨rfl, h⟩
  exact ⟨by rw [Tag.o_b8, Tag.o_b8, Tag.o_b8, Tag.o_b8], h⟩
theorem All_b (s0 s1 s2 s3 : BitVec 8) (w : World) :
    Calls Try.prog 17 #[.agg #[.int .u8 (Tag.b8 s0), .int .u8 (Tag.b8 s1), .int .u8 (Tag.b8 s2), .int .u8 (Tag.b8 s3)]] w fun e w' => e = .returned (.int .u8 (Tag.b8 (s0 ||| s1 ||| s2 ||| s3))) ∧ Gr w w' := by
  refine (All_c _ _ _ _ _).mono ?_
  rintro e w' ⟨rfl, h⟩
  exact ⟨by rw [Tag.all, Tag.o_b8, Tag.o_b8, Tag.o_b8], h⟩
theorem Flow_b (k a b : Int) (s0 s1 s2 s3 t0 t1 t2 t3 : BitVec 8) (hb : Alu.U32 b) (w : World) :
    Calls Try.prog 13 #[.int .i64 k, .int .u32 a, .int .u32 b, .agg #[.int .u8 (Tag.b8 s0), .int .u8 (Tag.b8 s1), .int .u8 (Tag.b8 s2), .int .u8 (Tag.b8 s3)], .agg #[.int .u8 (Tag.b8 t0), .int .u8 (Tag.b8 t1), .int .u8 (Tag.b8 t2), .int .u8 (Tag.b8 t3)]] w fun e w' =>
     e = .returned (.tuple #[.agg #[.int .u8 (Tag.b8 (Tag.fb k a b s0 s1 s2 s3 t0 t1 t2 t3 0)), .int .u8 (Tag.b8 (Tag.fb k a b s0 s1 s2 s3 t0 t1 t2 t3 1)), .int .u8 (Tag.b8 (Tag.fb k a b s0 s1 s2 s3 t0 t1 t2 t3 2)), .int .u8 (Tag.b8 (Tag.fb k a b s0 s1 s2 s3 t0 t1 t2 t3 3))], .int .i64 (Alu.err k)]) ∧ Gr w w' := by
  refine (Flow_c _ _ _ _ _ _ _ _ _ _ _ hb _).mono ?_
  rintro e w' ⟨rfl, h⟩
  exact ⟨by rw [Tag.flow_fb], h⟩
theorem Flow_b1 (k a b : Int) (s0 s1 s2 s3 : BitVec 8) (hb : Alu.U32 b) (w : World) :
    Calls Try.prog 13 #[.int .i64 k, .int .u32 a, .int .u32 b, .agg #[.int .u8 (Tag.b8 s0), .int .u8 (Tag.b8 s1), .int .u8 (Tag.b8 s2), .int .u8 (Tag.b8 s3)], .agg #[.int .u8 0, .int .u8 0, .int .u8 0, .int .u8 0]] w fun e w' =>
     e = .returned (.tuple #[.agg #[.int .u8 (Tag.b8 (Tag.fb k a b s0 s1 s2 s3 0#8 0#8 0#8 0#8 0)), .int .u8 (Tag.b8 (Tag.fb k a b s0 s1 s2 s3 0#8 0#8 0#8 0#8 1)), .int .u8 (Tag.b8 (Tag.fb k a b s0 s1 s2 s3 0#8 0#8 0#8 0#8 2)), .int .u8 (Tag.b8 (Tag.fb k a b s0 s1 s2 s3 0#8 0#8 0#8 0#8 3))], .int .i64 (Alu.err k)]) ∧ Gr w w' := by
  have h := Flow_b k a b s0 s1 s2 s3 0#8 0#8 0#8 0#8 hb w
  rw [Tag.b8_0] at h
  exact h
theorem Flow_b0 (k a b : Int) (hb : Alu.U32 b) (w : World) :
    Calls Try.prog 13 #[.int .i64 k, .int .u32 a, .int .u32 b, .agg #[.int .u8 0, .int .u8 0, .int .u8 0, .int .u8 0], .agg #[.int .u8 0, .int .u8 0, .int .u8 0, .int .u8 0]] w fun e w' =>
     e = .returned (.tuple #[.agg #[.int .u8 0, .int .u8 0, .int .u8 0, .int .u8 0], .int .i64 (Alu.err k)]) ∧ Gr w w' := by
  have h := Flow_b1 k a b 0#8 0#8 0#8 0#8 hb w
  simp only [Tag.b8_0, Tag.fb_clean] at h
  exact h
end Go.Proofs.Ytcpgfogijdmaoaa
