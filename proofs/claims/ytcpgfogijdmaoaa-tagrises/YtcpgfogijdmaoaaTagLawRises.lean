/- THE LAWS OF LAYER 2: TagRises. -/
import Derived.Test.YtcpgfogijdmaoaaTagB
import Derived.Deep.CutRange
import Derived.Deep.RegionWith
namespace Go.Proofs.Ytcpgfogijdmaoaa
open Go.ChangeShapes Go.WideShapes Go.ChangeAt Go.RowKit
set_option linter.unusedSimpArgs false

set_option maxRecDepth 100000 in
set_option maxHeartbeats 8000000 in
theorem TagRises_w (k a b : Int) (s0 s1 s2 s3 t0 t1 t2 t3 u0 u1 u2 u3 : BitVec 8) (hb : Alu.U32 b) (w : World) :
    Calls Try.prog 8 #[.int .i64 k, .int .u32 a, .int .u32 b, .agg #[.int .u8 (Tag.b8 s0), .int .u8 (Tag.b8 s1), .int .u8 (Tag.b8 s2), .int .u8 (Tag.b8 s3)], .agg #[.int .u8 (Tag.b8 t0), .int .u8 (Tag.b8 t1), .int .u8 (Tag.b8 t2), .int .u8 (Tag.b8 t3)], .agg #[.int .u8 (Tag.b8 u0), .int .u8 (Tag.b8 u1), .int .u8 (Tag.b8 u2), .int .u8 (Tag.b8 u3)]] w fun e w' => e = .returned (.bool true) ∧ Gr w w' := by
  have eT := eqTag
  have g0 : (Tag.b8 ((Tag.fb k a b s0 s1 s2 s3 t0 t1 t2 t3 0) ||| (Tag.fb k a b (s0 ||| u0) (s1 ||| u1) (s2 ||| u2) (s3 ||| u3) t0 t1 t2 t3 0)) == Tag.b8 (Tag.fb k a b (s0 ||| u0) (s1 ||| u1) (s2 ||| u2) (s3 ||| u3) t0 t1 t2 t3 0)) = true := beqT (congrArg Tag.b8 (Tag.fb_more k a b s0 s1 s2 s3 t0 t1 t2 t3 u0 u1 u2 u3 0))
  have g1 : (Tag.b8 ((Tag.fb k a b s0 s1 s2 s3 t0 t1 t2 t3 1) ||| (Tag.fb k a b (s0 ||| u0) (s1 ||| u1) (s2 ||| u2) (s3 ||| u3) t0 t1 t2 t3 1)) == Tag.b8 (Tag.fb k a b (s0 ||| u0) (s1 ||| u1) (s2 ||| u2) (s3 ||| u3) t0 t1 t2 t3 1)) = true := beqT (congrArg Tag.b8 (Tag.fb_more k a b s0 s1 s2 s3 t0 t1 t2 t3 u0 u1 u2 u3 1))
  have g2 : (Tag.b8 ((Tag.fb k a b s0 s1 s2 s3 t0 t1 t2 t3 2) ||| (Tag.fb k a b (s0 ||| u0) (s1 ||| u1) (s2 ||| u2) (s3 ||| u3) t0 t1 t2 t3 2)) == Tag.b8 (Tag.fb k a b (s0 ||| u0) (s1 ||| u1) (s2 ||| u2) (s3 ||| u3) t0 t1 t2 t3 2)) = true := beqT (congrArg Tag.b8 (Tag.fb_more k a b s0 s1 s2 s3 t0 t1 t2 t3 u0 u1 u2 u3 2))
  have g3 : (Tag.b8 ((Tag.fb k a b s0 s1 s2 s3 t0 t1 t2 t3 3) ||| (Tag.fb k a b (s0 ||| u0) (s1 ||| u1) (s2 ||| u2) (s3 ||| u3) t0 t1 t2 t3 3)) == Tag.b8 (Tag.fb k a b (s0 ||| u0) (s1 ||| u1) (s2 ||| u2) (s3 ||| u3) t0 t1 t2 t3 3)) = true := beqT (congrArg Tag.b8 (Tag.fb_more k a b s0 s1 s2 s3 t0 t1 t2 t3 u0 u1 u2 u3 3))
  have g4 : (Tag.b8 ((Tag.fb k a b s0 s1 s2 s3 t0 t1 t2 t3 0) ||| (Tag.fb k a b s0 s1 s2 s3 (t0 ||| u0) (t1 ||| u1) (t2 ||| u2) (t3 ||| u3) 0)) == Tag.b8 (Tag.fb k a b s0 s1 s2 s3 (t0 ||| u0) (t1 ||| u1) (t2 ||| u2) (t3 ||| u3) 0)) = true := beqT (congrArg Tag.b8 (Tag.fb_more2 k a b s0 s1 s2 s3 t0 t1 t2 t3 u0 u1 u2 u3 0))
  have g5 : (Tag.b8 ((Tag.fb k a b s0 s1 s2 s3 t0 t1 t2 t3 1) ||| (Tag.fb k a b s0 s1 s2 s3 (t0 ||| u0) (t1 ||| u1) (t2 ||| u2) (t3 ||| u3) 1)) == Tag.b8 (Tag.fb k a b s0 s1 s2 s3 (t0 ||| u0) (t1 ||| u1) (t2 ||| u2) (t3 ||| u3) 1)) = true := beqT (congrArg Tag.b8 (Tag.fb_more2 k a b s0 s1 s2 s3 t0 t1 t2 t3 u0 u1 u2 u3 1))
  have g6 : (Tag.b8 ((Tag.fb k a b s0 s1 s2 s3 t0 t1 t2 t3 2) ||| (Tag.fb k a b s0 s1 s2 s3 (t0 ||| u0) (t1 ||| u1) (t2 ||| u2) (t3 ||| u3) 2)) == Tag.b8 (Tag.fb k a b s0 s1 s2 s3 (t0 ||| u0) (t1 ||| u1) (t2 ||| u2) (t3 ||| u3) 2)) = true := beqT (congrArg Tag.b8 (Tag.fb_more2 k a b s0 s1 s2 s3 t0 t1 t2 t3 u0 u1 u2 u3 2))
  have g7 : (Tag.b8 ((Tag.fb k a b s0 s1 s2 s3 t0 t1 t2 t3 3) ||| (Tag.fb k a b s0 s1 s2 s3 (t0 ||| u0) (t1 ||| u1) (t2 ||| u2) (t3 ||| u3) 3)) == Tag.b8 (Tag.fb k a b s0 s1 s2 s3 (t0 ||| u0) (t1 ||| u1) (t2 ||| u2) (t3 ||| u3) 3)) = true := beqT (congrArg Tag.b8 (Tag.fb_more2 k a b s0 s1 s2 s3 t0 t1 t2 t3 u0 u1 u2 u3 3))
  go_enter Try.func8, Try.ntmps8
  go_wp2_with fail
  refine (awake2_c _).mono ?_
  rintro e w1 ⟨rfl, h1⟩
  have ch1 := h1.cell; have fh1 := h1.f; have zh1 := h1.size; have Ah1 := h1.cellA; have Fh1 := h1.frozenA; try simp only [World.size_alloc, World.size_drew] at ch1 zh1 Ah1 Fh1
  go_wp2_with fail
  refine (Flow_b _ _ _ _ _ _ _ _ _ _ _ hb _).mono ?_
  rintro e w2 ⟨rfl, h2⟩
  clear ch1 fh1 Ah1 Fh1
  have z2 := h2.size
  have m0 := (h1.trans h2).alloc #[.int .u8 (Tag.b8 (Tag.fb k a b s0 s1 s2 s3 t0 t1 t2 t3 0)), .int .u8 (Tag.b8 (Tag.fb k a b s0 s1 s2 s3 t0 t1 t2 t3 1)), .int .u8 (Tag.b8 (Tag.fb k a b s0 s1 s2 s3 t0 t1 t2 t3 2)), .int .u8 (Tag.b8 (Tag.fb k a b s0 s1 s2 s3 t0 t1 t2 t3 3))] 24
  have mx := Gr.refl (w2.alloc (.cells #[.int .u8 (Tag.b8 (Tag.fb k a b s0 s1 s2 s3 t0 t1 t2 t3 0)), .int .u8 (Tag.b8 (Tag.fb k a b s0 s1 s2 s3 t0 t1 t2 t3 1)), .int .u8 (Tag.b8 (Tag.fb k a b s0 s1 s2 s3 t0 t1 t2 t3 2)), .int .u8 (Tag.b8 (Tag.fb k a b s0 s1 s2 s3 t0 t1 t2 t3 3))] 24))
  go_wp2_with fail
  go_cut [15, 16] from 30 to 40 (fun s15 s16 wx => ∃ yb : Nat, s15 = .pointer (some ⟨yb, 0, none⟩) ∧ Gr (((w.alloc (.cells #[.int .u8 (Tag.b8 s0), .int .u8 (Tag.b8 s1), .int .u8 (Tag.b8 s2), .int .u8 (Tag.b8 s3)] 24)).alloc (.cells #[.int .u8 (Tag.b8 t0), .int .u8 (Tag.b8 t1), .int .u8 (Tag.b8 t2), .int .u8 (Tag.b8 t3)] 24)).alloc (.cells #[.int .u8 (Tag.b8 u0), .int .u8 (Tag.b8 u1), .int .u8 (Tag.b8 u2), .int .u8 (Tag.b8 u3)] 24)) wx ∧ Gr (w2.alloc (.cells #[.int .u8 (Tag.b8 (Tag.fb k a b s0 s1 s2 s3 t0 t1 t2 t3 0)), .int .u8 (Tag.b8 (Tag.fb k a b s0 s1 s2 s3 t0 t1 t2 t3 1)), .int .u8 (Tag.b8 (Tag.fb k a b s0 s1 s2 s3 t0 t1 t2 t3 2)), .int .u8 (Tag.b8 (Tag.fb k a b s0 s1 s2 s3 t0 t1 t2 t3 3))] 24)) wx ∧ wx.cell? ⟨yb, 0, none⟩ = some (.int .u8 (Tag.b8 (Tag.fb k a b (s0 ||| u0) (s1 ||| u1) (s2 ||| u2) (s3 ||| u3) t0 t1 t2 t3 0))) ∧ wx.cell? ⟨yb, 1, none⟩ = some (.int .u8 (Tag.b8 (Tag.fb k a b (s0 ||| u0) (s1 ||| u1) (s2 ||| u2) (s3 ||| u3) t0 t1 t2 t3 1))) ∧ wx.cell? ⟨yb, 2, none⟩ = some (.int .u8 (Tag.b8 (Tag.fb k a b (s0 ||| u0) (s1 ||| u1) (s2 ||| u2) (s3 ||| u3) t0 t1 t2 t3 2))) ∧ wx.cell? ⟨yb, 3, none⟩ = some (.int .u8 (Tag.b8 (Tag.fb k a b (s0 ||| u0) (s1 ||| u1) (s2 ||| u2) (s3 ||| u3) t0 t1 t2 t3 3))))
  case first =>
    go_region_held3 (fun wr => wr.cell? ⟨w.heap.size, 0, none⟩ = some (.int .u8 (Tag.b8 s0)) ∧ wr.cell? ⟨w.heap.size, 1, none⟩ = some (.int .u8 (Tag.b8 s1)) ∧ wr.cell? ⟨w.heap.size, 2, none⟩ = some (.int .u8 (Tag.b8 s2)) ∧ wr.cell? ⟨w.heap.size, 3, none⟩ = some (.int .u8 (Tag.b8 s3)) ∧ wr.cell? ⟨w.heap.size + 1, 0, none⟩ = some (.int .u8 (Tag.b8 t0)) ∧ wr.cell? ⟨w.heap.size + 1, 1, none⟩ = some (.int .u8 (Tag.b8 t1)) ∧ wr.cell? ⟨w.heap.size + 1, 2, none⟩ = some (.int .u8 (Tag.b8 t2)) ∧ wr.cell? ⟨w.heap.size + 1, 3, none⟩ = some (.int .u8 (Tag.b8 t3)) ∧ wr.cell? ⟨w.heap.size + 1 + 1, 0, none⟩ = some (.int .u8 (Tag.b8 u0)) ∧ wr.cell? ⟨w.heap.size + 1 + 1, 1, none⟩ = some (.int .u8 (Tag.b8 u1)) ∧ wr.cell? ⟨w.heap.size + 1 + 1, 2, none⟩ = some (.int .u8 (Tag.b8 u2)) ∧ wr.cell? ⟨w.heap.size + 1 + 1, 3, none⟩ = some (.int .u8 (Tag.b8 u3))) (exact box3 (by (repeat' (first | (with_reducible assumption) | (with_reducible exact Gr.refl _) | (with_reducible refine Gr.alloc ?_ _ _) | (with_reducible refine Gr.drew ?_) | (with_reducible refine Gr.drewN ?_ _) | (with_reducible refine Gr.setCell ?_ ?_ _) | (with_reducible refine Gr.trans ?_ (by assumption)) | omega | (dsimp only; omega) | (simp; done) | (simp; omega)))))
    (first
    | (go_at_call 20; refine (Join_b _ _ _ _ _ _ _ _ _).mono ?_; rintro e w3 ⟨rfl, h3⟩; have ch3 := h3.cell; have fh3 := h3.f; have zh3 := h3.size; have Ah3 := h3.cellA; have Fh3 := h3.frozenA; try simp only [World.size_alloc, World.size_drew] at ch3 zh3 Ah3 Fh3)
    | (go_at_call 13; refine (Flow_b _ _ _ _ _ _ _ _ _ _ _ hb _).mono ?_; rintro e w4 ⟨rfl, h4⟩; (first | (have k4 := h3.trans h4; clear ch3 fh3 Ah3 Fh3; have ck4 := k4.cell; have fk4 := k4.f; have zk4 := k4.size; have Ak4 := k4.cellA; have Fk4 := k4.frozenA; try simp only [World.size_alloc, World.size_drew] at ck4 zk4 Ak4 Fk4) | (have k4 := h4; clear ch3 fh3 Ah3 Fh3; have ck4 := k4.cell; have fk4 := k4.f; have zk4 := k4.size; have Ak4 := k4.cellA; have Fk4 := k4.frozenA; try simp only [World.size_alloc, World.size_drew] at ck4 zk4 Ak4 Fk4))))
    all_goals go_wp2_with fail
    all_goals go_meet
    all_goals refine ⟨_, rfl, ?_, ?_, ?_, ?_, ?_, ?_⟩
    all_goals first
      | ((repeat' (first | (with_reducible assumption) | (with_reducible exact Gr.refl _) | (with_reducible refine Gr.alloc ?_ _ _) | (with_reducible refine Gr.drew ?_) | (with_reducible refine Gr.drewN ?_ _) | (with_reducible refine Gr.setCell ?_ ?_ _) | (with_reducible refine Gr.trans ?_ (by assumption)) | omega | (dsimp only; omega) | (simp; done) | (simp; omega))); done)
      | (simp [go_sem, ck4]; done)
  case rest =>
    obtain ⟨yb, rfl, n0, nx, y0, y1, y2, y3⟩ := hcut
    clear m0 mx z2 zh1 h1 h2
    go_wp2_with fail
    go_cut [17, 18] from 41 to 51 (fun s17 s18 wx => ∃ zb : Nat, s17 = .pointer (some ⟨zb, 0, none⟩) ∧ Gr wc wx ∧ wx.cell? ⟨zb, 0, none⟩ = some (.int .u8 (Tag.b8 (Tag.fb k a b s0 s1 s2 s3 (t0 ||| u0) (t1 ||| u1) (t2 ||| u2) (t3 ||| u3) 0))) ∧ wx.cell? ⟨zb, 1, none⟩ = some (.int .u8 (Tag.b8 (Tag.fb k a b s0 s1 s2 s3 (t0 ||| u0) (t1 ||| u1) (t2 ||| u2) (t3 ||| u3) 1))) ∧ wx.cell? ⟨zb, 2, none⟩ = some (.int .u8 (Tag.b8 (Tag.fb k a b s0 s1 s2 s3 (t0 ||| u0) (t1 ||| u1) (t2 ||| u2) (t3 ||| u3) 2))) ∧ wx.cell? ⟨zb, 3, none⟩ = some (.int .u8 (Tag.b8 (Tag.fb k a b s0 s1 s2 s3 (t0 ||| u0) (t1 ||| u1) (t2 ||| u2) (t3 ||| u3) 3))))
    case first =>
      have zc := n0.size
      simp only [World.size_alloc] at zc
      go_region_held3 (fun wr => wr.cell? ⟨w.heap.size, 0, none⟩ = some (.int .u8 (Tag.b8 s0)) ∧ wr.cell? ⟨w.heap.size, 1, none⟩ = some (.int .u8 (Tag.b8 s1)) ∧ wr.cell? ⟨w.heap.size, 2, none⟩ = some (.int .u8 (Tag.b8 s2)) ∧ wr.cell? ⟨w.heap.size, 3, none⟩ = some (.int .u8 (Tag.b8 s3)) ∧ wr.cell? ⟨w.heap.size + 1, 0, none⟩ = some (.int .u8 (Tag.b8 t0)) ∧ wr.cell? ⟨w.heap.size + 1, 1, none⟩ = some (.int .u8 (Tag.b8 t1)) ∧ wr.cell? ⟨w.heap.size + 1, 2, none⟩ = some (.int .u8 (Tag.b8 t2)) ∧ wr.cell? ⟨w.heap.size + 1, 3, none⟩ = some (.int .u8 (Tag.b8 t3)) ∧ wr.cell? ⟨w.heap.size + 1 + 1, 0, none⟩ = some (.int .u8 (Tag.b8 u0)) ∧ wr.cell? ⟨w.heap.size + 1 + 1, 1, none⟩ = some (.int .u8 (Tag.b8 u1)) ∧ wr.cell? ⟨w.heap.size + 1 + 1, 2, none⟩ = some (.int .u8 (Tag.b8 u2)) ∧ wr.cell? ⟨w.heap.size + 1 + 1, 3, none⟩ = some (.int .u8 (Tag.b8 u3))) (exact box3 (by (repeat' (first | (with_reducible assumption) | (with_reducible exact Gr.refl _) | (with_reducible refine Gr.alloc ?_ _ _) | (with_reducible refine Gr.drew ?_) | (with_reducible refine Gr.drewN ?_ _) | (with_reducible refine Gr.setCell ?_ ?_ _) | (with_reducible refine Gr.trans ?_ (by assumption)) | omega | (dsimp only; omega) | (simp; done) | (simp; omega)))))
      (first
      | (go_at_call 20; refine (Join_b _ _ _ _ _ _ _ _ _).mono ?_; rintro e w5 ⟨rfl, h3⟩; have ch3 := h3.cell; have fh3 := h3.f; have zh3 := h3.size; have Ah3 := h3.cellA; have Fh3 := h3.frozenA; try simp only [World.size_alloc, World.size_drew] at ch3 zh3 Ah3 Fh3)
      | (go_at_call 13; refine (Flow_b _ _ _ _ _ _ _ _ _ _ _ hb _).mono ?_; rintro e w6 ⟨rfl, h4⟩; (first | (have k4 := h3.trans h4; clear ch3 fh3 Ah3 Fh3; have ck4 := k4.cell; have fk4 := k4.f; have zk4 := k4.size; have Ak4 := k4.cellA; have Fk4 := k4.frozenA; try simp only [World.size_alloc, World.size_drew] at ck4 zk4 Ak4 Fk4) | (have k4 := h4; clear ch3 fh3 Ah3 Fh3; have ck4 := k4.cell; have fk4 := k4.f; have zk4 := k4.size; have Ak4 := k4.cellA; have Fk4 := k4.frozenA; try simp only [World.size_alloc, World.size_drew] at ck4 zk4 Ak4 Fk4))))
      all_goals go_wp2_with fail
      all_goals go_meet
      all_goals refine ⟨_, rfl, ?_, ?_, ?_, ?_, ?_⟩
      all_goals first
        | ((repeat' (first | (with_reducible assumption) | (with_reducible exact Gr.refl _) | (with_reducible refine Gr.alloc ?_ _ _) | (with_reducible refine Gr.drew ?_) | (with_reducible refine Gr.drewN ?_ _) | (with_reducible refine Gr.setCell ?_ ?_ _) | (with_reducible refine Gr.trans ?_ (by assumption)) | omega | (dsimp only; omega) | (simp; done) | (simp; omega))); done)
        | (simp [go_sem, ck4]; done)
    case rest =>
      obtain ⟨zb, rfl, c2, v0, v1, v2, v3⟩ := hcut
      obtain ⟨x0, x1, x2, x3⟩ := box1 (nx.trans c2)
      replace y0 := c2.keep y0
      replace y1 := c2.keep y1
      replace y2 := c2.keep y2
      replace y3 := c2.keep y3
      have r0 := (n0.trans c2).drop.drop.drop
      have mc := Gr.refl wc
      go_wp2_with fail
      first
        | (go_region_held (fun wr => (wr.cell? ⟨w2.heap.size, 0, none⟩ = some (.int .u8 (Tag.b8 (Tag.fb k a b s0 s1 s2 s3 t0 t1 t2 t3 0))) ∧ wr.cell? ⟨w2.heap.size, 1, none⟩ = some (.int .u8 (Tag.b8 (Tag.fb k a b s0 s1 s2 s3 t0 t1 t2 t3 1))) ∧ wr.cell? ⟨w2.heap.size, 2, none⟩ = some (.int .u8 (Tag.b8 (Tag.fb k a b s0 s1 s2 s3 t0 t1 t2 t3 2))) ∧ wr.cell? ⟨w2.heap.size, 3, none⟩ = some (.int .u8 (Tag.b8 (Tag.fb k a b s0 s1 s2 s3 t0 t1 t2 t3 3)))) ∧ (wr.cell? ⟨yb, 0, none⟩ = some (.int .u8 (Tag.b8 (Tag.fb k a b (s0 ||| u0) (s1 ||| u1) (s2 ||| u2) (s3 ||| u3) t0 t1 t2 t3 0))) ∧ wr.cell? ⟨yb, 1, none⟩ = some (.int .u8 (Tag.b8 (Tag.fb k a b (s0 ||| u0) (s1 ||| u1) (s2 ||| u2) (s3 ||| u3) t0 t1 t2 t3 1))) ∧ wr.cell? ⟨yb, 2, none⟩ = some (.int .u8 (Tag.b8 (Tag.fb k a b (s0 ||| u0) (s1 ||| u1) (s2 ||| u2) (s3 ||| u3) t0 t1 t2 t3 2))) ∧ wr.cell? ⟨yb, 3, none⟩ = some (.int .u8 (Tag.b8 (Tag.fb k a b (s0 ||| u0) (s1 ||| u1) (s2 ||| u2) (s3 ||| u3) t0 t1 t2 t3 3)))) ∧ (wr.cell? ⟨zb, 0, none⟩ = some (.int .u8 (Tag.b8 (Tag.fb k a b s0 s1 s2 s3 (t0 ||| u0) (t1 ||| u1) (t2 ||| u2) (t3 ||| u3) 0))) ∧ wr.cell? ⟨zb, 1, none⟩ = some (.int .u8 (Tag.b8 (Tag.fb k a b s0 s1 s2 s3 (t0 ||| u0) (t1 ||| u1) (t2 ||| u2) (t3 ||| u3) 1))) ∧ wr.cell? ⟨zb, 2, none⟩ = some (.int .u8 (Tag.b8 (Tag.fb k a b s0 s1 s2 s3 (t0 ||| u0) (t1 ||| u1) (t2 ||| u2) (t3 ||| u3) 2))) ∧ wr.cell? ⟨zb, 3, none⟩ = some (.int .u8 (Tag.b8 (Tag.fb k a b s0 s1 s2 s3 (t0 ||| u0) (t1 ||| u1) (t2 ||| u2) (t3 ||| u3) 3))))) (first | exact ⟨⟨mc.keep x0, mc.keep x1, mc.keep x2, mc.keep x3⟩, ⟨mc.keep y0, mc.keep y1, mc.keep y2, mc.keep y3⟩, ⟨mc.keep v0, mc.keep v1, mc.keep v2, mc.keep v3⟩⟩ | exact ⟨⟨mc.drew.keep x0, mc.drew.keep x1, mc.drew.keep x2, mc.drew.keep x3⟩, ⟨mc.drew.keep y0, mc.drew.keep y1, mc.drew.keep y2, mc.drew.keep y3⟩, ⟨mc.drew.keep v0, mc.drew.keep v1, mc.drew.keep v2, mc.drew.keep v3⟩⟩)
        (first
        | (go_at_call 20; refine (Join_b _ _ _ _ _ _ _ _ _).mono ?_; rintro e w7 ⟨rfl, h7⟩; (first | replace mc := mc.trans h7 | replace mc := mc.drew.trans h7))))
        | fail
      go_wp2
      go_ret
      exact ⟨rfl, r0.trans mc⟩
end Go.Proofs.Ytcpgfogijdmaoaa
