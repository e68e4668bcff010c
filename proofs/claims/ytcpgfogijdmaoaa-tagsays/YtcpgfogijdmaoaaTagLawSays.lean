/- THE LAWS OF LAYER 2: TagSays. -/
import Derived.Test.YtcpgfogijdmaoaaTagLaws
import Derived.Test.YtcpgfogijdmaoaaTagRef
namespace Go.Proofs.Ytcpgfogijdmaoaa
open Go.ChangeShapes Go.WideShapes Go.ChangeAt Go.RowKit
set_option linter.unusedSimpArgs false

set_option maxHeartbeats 4000000 in
theorem TagSays_w (s0 s1 s2 s3 t0 t1 t2 t3 : BitVec 8) (l size : Int) (signed : Bool) (w : World) :
    Calls Try.prog 4 #[.agg #[.int .u8 (Tag.b8 s0), .int .u8 (Tag.b8 s1), .int .u8 (Tag.b8 s2), .int .u8 (Tag.b8 s3)], .agg #[.int .u8 (Tag.b8 t0), .int .u8 (Tag.b8 t1), .int .u8 (Tag.b8 t2), .int .u8 (Tag.b8 t3)], .int .u8 l, .int .i64 size, .bool signed] w fun e w' => e = .returned (.bool true) ∧ Gr w w' := by
  have eT := eqTag
  have f1 : (Tag.o (Tag.b8 s1) (Tag.b8 s0) == Tag.o (Tag.b8 s0) (Tag.b8 s1)) = true := beqT (by simp only [Tag.or_all, Tag.all, Tag.o_b8, Tag.o_b8_0, Tag.b8_inj, BitVec.or_assoc, BitVec.or_comm, Tag.or_lc, Tag.or_or, BitVec.or_self])
  have f2 : (Tag.o (Tag.b8 s2) (Tag.o (Tag.b8 s1) (Tag.b8 s0)) == Tag.o (Tag.o (Tag.b8 s0) (Tag.b8 s1)) (Tag.b8 s2)) = true := beqT (by simp only [Tag.or_all, Tag.all, Tag.o_b8, Tag.o_b8_0, Tag.b8_inj, BitVec.or_assoc, BitVec.or_comm, Tag.or_lc, Tag.or_or, BitVec.or_self])
  have f3 : (Tag.o (Tag.b8 s3) (Tag.o (Tag.b8 s2) (Tag.o (Tag.b8 s1) (Tag.b8 s0))) == Tag.all ⟨Tag.b8 s0, Tag.b8 s1, Tag.b8 s2, Tag.b8 s3⟩) = true := beqT (by simp only [Tag.or_all, Tag.all, Tag.o_b8, Tag.o_b8_0, Tag.b8_inj, BitVec.or_assoc, BitVec.or_comm, Tag.or_lc, Tag.or_or, BitVec.or_self])
  go_enter Try.func4, Try.ntmps4
  go_wp2_with fail
  refine (awake2_c _).mono ?_
  rintro e w1 ⟨rfl, h1⟩
  go_wp2_with fail
  go_region_held3 (fun wr => wr.cell? ⟨w.heap.size, 0, none⟩ = some (.int .u8 (Tag.b8 s0)) ∧ wr.cell? ⟨w.heap.size, 1, none⟩ = some (.int .u8 (Tag.b8 s1)) ∧ wr.cell? ⟨w.heap.size, 2, none⟩ = some (.int .u8 (Tag.b8 s2)) ∧ wr.cell? ⟨w.heap.size, 3, none⟩ = some (.int .u8 (Tag.b8 s3)) ∧ wr.cell? ⟨w.heap.size + 1, 0, none⟩ = some (.int .u8 (Tag.b8 t0)) ∧ wr.cell? ⟨w.heap.size + 1, 1, none⟩ = some (.int .u8 (Tag.b8 t1)) ∧ wr.cell? ⟨w.heap.size + 1, 2, none⟩ = some (.int .u8 (Tag.b8 t2)) ∧ wr.cell? ⟨w.heap.size + 1, 3, none⟩ = some (.int .u8 (Tag.b8 t3))) (first | exact box2 h1 | exact box2 h1.drew)
    (first
    | (go_at_call 17; refine (All_c _ _ _ _ _).mono ?_; rintro e w2 ⟨rfl, h2⟩; (first | replace h1 := h1.trans h2 | replace h1 := h1.drew.trans h2); clear h2)
    | (go_at_call 18; refine (rAll_c _ _ _ _ _).mono ?_; rintro e w2 ⟨rfl, h2⟩; (first | replace h1 := h1.trans h2 | replace h1 := h1.drew.trans h2); clear h2)
    | (go_at_call 14; refine (Fill_c _ _).mono ?_; rintro e w2 ⟨rfl, h2⟩; (first | replace h1 := h1.trans h2 | replace h1 := h1.drew.trans h2); clear h2)
    | (go_at_call 19; refine (rFill_c _ _).mono ?_; rintro e w2 ⟨rfl, h2⟩; (first | replace h1 := h1.trans h2 | replace h1 := h1.drew.trans h2); clear h2)
    | (go_at_call 20; refine (Join_c _ _ _ _ _ _ _ _ _).mono ?_; rintro e w2 ⟨rfl, h2⟩; (first | replace h1 := h1.trans h2 | replace h1 := h1.drew.trans h2); clear h2)
    | (go_at_call 21; refine (rJoin_c _ _ _ _ _ _ _ _ _).mono ?_; rintro e w2 ⟨rfl, h2⟩; (first | replace h1 := h1.trans h2 | replace h1 := h1.drew.trans h2); clear h2)
    | (go_at_call 16; refine (Up_c _ _ _ _ _).mono ?_; rintro e w2 ⟨rfl, h2⟩; (first | replace h1 := h1.trans h2 | replace h1 := h1.drew.trans h2); clear h2)
    | (go_at_call 22; refine (rUp_c _ _ _ _ _).mono ?_; rintro e w2 ⟨rfl, h2⟩; (first | replace h1 := h1.trans h2 | replace h1 := h1.drew.trans h2); clear h2)
    | (go_at_call 15; refine (Narrow_c _ _ _ _ _ _ _).mono ?_; rintro e w2 ⟨rfl, h2⟩; (first | replace h1 := h1.trans h2 | replace h1 := h1.drew.trans h2); clear h2)
    | (go_at_call 23; refine (rNarrow_c _ _ _ _ _ _ _).mono ?_; rintro e w2 ⟨rfl, h2⟩; (first | replace h1 := h1.trans h2 | replace h1 := h1.drew.trans h2); clear h2))
  go_wp2
  go_ret
  refine ⟨rfl, ?_⟩
  exact h1.drop.drop
end Go.Proofs.Ytcpgfogijdmaoaa
