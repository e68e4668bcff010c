/- THE LAWS OF LAYER 2: TagClean. -/
import Derived.Test.YtcpgfogijdmaoaaTagB
namespace Go.Proofs.Ytcpgfogijdmaoaa
open Go.ChangeShapes Go.WideShapes Go.ChangeAt Go.RowKit
set_option linter.unusedSimpArgs false

theorem andnot_b8 (x y : BitVec 8) : bits .andNot .u8 (Tag.b8 x) (Tag.b8 y) = Tag.b8 (x &&& ~~~y) := by
  have h := Tag.b8_U8 x
  have k := Tag.b8_U8 y
  rw [u8_andNot _ _ h.1 h.2 k.1 k.2]
  unfold Tag.b8
  simp
set_option maxHeartbeats 4000000 in
theorem TagClean_w (k a b : Int) (s0 s1 s2 s3 t0 t1 t2 t3 : BitVec 8) (hb : Alu.U32 b) (w : World) :
    Calls Try.prog 7 #[.int .i64 k, .int .u32 a, .int .u32 b, .agg #[.int .u8 (Tag.b8 s0), .int .u8 (Tag.b8 s1), .int .u8 (Tag.b8 s2), .int .u8 (Tag.b8 s3)], .agg #[.int .u8 (Tag.b8 t0), .int .u8 (Tag.b8 t1), .int .u8 (Tag.b8 t2), .int .u8 (Tag.b8 t3)]] w fun e w' => e = .returned (.bool true) ∧ Gr w w' := by
  have eT := eqTag
  have eF : (bits .andNot .u8 (Tag.b8 ((Tag.fb k a b s0 s1 s2 s3 t0 t1 t2 t3 0) ||| (Tag.fb k a b s0 s1 s2 s3 t0 t1 t2 t3 1) ||| (Tag.fb k a b s0 s1 s2 s3 t0 t1 t2 t3 2) ||| (Tag.fb k a b s0 s1 s2 s3 t0 t1 t2 t3 3))) (bits .or .u8 (Tag.b8 (s0 ||| s1 ||| s2 ||| s3)) (Tag.b8 (t0 ||| t1 ||| t2 ||| t3))) == 0) = true := by
    rw [Tag.or_all, Tag.o_b8, andnot_b8]
    have h := Tag.sb_and (Tag.sb_or (Tag.sb_or (Tag.sb_or (Tag.fb_sb k a b s0 s1 s2 s3 t0 t1 t2 t3 0) (Tag.fb_sb k a b s0 s1 s2 s3 t0 t1 t2 t3 1)) (Tag.fb_sb k a b s0 s1 s2 s3 t0 t1 t2 t3 2)) (Tag.fb_sb k a b s0 s1 s2 s3 t0 t1 t2 t3 3))
    unfold Tag.tot at h
    rw [h, Tag.b8_0]; rfl
  go_enter Try.func7, Try.ntmps7
  go_wp2_with fail
  refine (awake2_c _).mono ?_
  rintro e w1 ⟨rfl, h1⟩
  have ch1 := h1.cell; have fh1 := h1.f; have zh1 := h1.size; have Ah1 := h1.cellA; have Fh1 := h1.frozenA; try simp only [World.size_alloc] at ch1 zh1 Ah1 Fh1
  go_wp2_with fail
  refine (Flow_b _ _ _ _ _ _ _ _ _ _ _ hb _).mono ?_
  rintro e w2 ⟨rfl, h2⟩
  have k2 := h1.trans h2
  clear ch1 fh1 zh1 Ah1 Fh1
  have ck2 := k2.cell; have fk2 := k2.f; have zk2 := k2.size; have Ak2 := k2.cellA; have Fk2 := k2.frozenA; try simp only [World.size_alloc] at ck2 zk2 Ak2 Fk2
  go_wp2_with fail
  refine (Flow_b0 _ _ _ hb _).mono ?_
  rintro e w3 ⟨rfl, h3⟩
  have k3 := (k2.alloc _ _).trans h3
  clear ck2 fk2 zk2 Ak2 Fk2 h1 h2
  go_wp2_with fail
  have m0 := k3.alloc #[.int .u8 0, .int .u8 0, .int .u8 0, .int .u8 0] 24
  have mx := h3.alloc #[.int .u8 0, .int .u8 0, .int .u8 0, .int .u8 0] 24
  have my := (Gr.refl w3).alloc #[.int .u8 0, .int .u8 0, .int .u8 0, .int .u8 0] 24
  replace my := Gr.refl (w3.alloc (.cells #[.int .u8 0, .int .u8 0, .int .u8 0, .int .u8 0] 24))
  go_region_held3 (fun wr => (wr.cell? ⟨w.heap.size, 0, none⟩ = some (.int .u8 (Tag.b8 s0)) ∧ wr.cell? ⟨w.heap.size, 1, none⟩ = some (.int .u8 (Tag.b8 s1)) ∧ wr.cell? ⟨w.heap.size, 2, none⟩ = some (.int .u8 (Tag.b8 s2)) ∧ wr.cell? ⟨w.heap.size, 3, none⟩ = some (.int .u8 (Tag.b8 s3)) ∧ wr.cell? ⟨w.heap.size + 1, 0, none⟩ = some (.int .u8 (Tag.b8 t0)) ∧ wr.cell? ⟨w.heap.size + 1, 1, none⟩ = some (.int .u8 (Tag.b8 t1)) ∧ wr.cell? ⟨w.heap.size + 1, 2, none⟩ = some (.int .u8 (Tag.b8 t2)) ∧ wr.cell? ⟨w.heap.size + 1, 3, none⟩ = some (.int .u8 (Tag.b8 t3))) ∧ (wr.cell? ⟨w2.heap.size, 0, none⟩ = some (.int .u8 (Tag.b8 (Tag.fb k a b s0 s1 s2 s3 t0 t1 t2 t3 0))) ∧ wr.cell? ⟨w2.heap.size, 1, none⟩ = some (.int .u8 (Tag.b8 (Tag.fb k a b s0 s1 s2 s3 t0 t1 t2 t3 1))) ∧ wr.cell? ⟨w2.heap.size, 2, none⟩ = some (.int .u8 (Tag.b8 (Tag.fb k a b s0 s1 s2 s3 t0 t1 t2 t3 2))) ∧ wr.cell? ⟨w2.heap.size, 3, none⟩ = some (.int .u8 (Tag.b8 (Tag.fb k a b s0 s1 s2 s3 t0 t1 t2 t3 3)))) ∧ (wr.cell? ⟨w3.heap.size, 0, none⟩ = some (.int .u8 0) ∧ wr.cell? ⟨w3.heap.size, 1, none⟩ = some (.int .u8 0) ∧ wr.cell? ⟨w3.heap.size, 2, none⟩ = some (.int .u8 0) ∧ wr.cell? ⟨w3.heap.size, 3, none⟩ = some (.int .u8 0))) (first | exact ⟨box2 m0, box1 mx, box1 my⟩ | exact ⟨box2 m0.drew, box1 mx.drew, box1 my.drew⟩)
    (first
    | (go_at_call 17; refine (All_b _ _ _ _ _).mono ?_; rintro e w4 ⟨rfl, h4⟩; (first | (replace m0 := m0.trans h4; replace mx := mx.trans h4; replace my := my.trans h4) | (replace m0 := m0.drew.trans h4; replace mx := mx.drew.trans h4; replace my := my.drew.trans h4)); clear h4))
  go_wp2
  go_ret
  refine ⟨rfl, ?_⟩
  exact m0.drop.drop
end Go.Proofs.Ytcpgfogijdmaoaa
