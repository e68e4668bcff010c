/- THE LAWS OF LAYER 2: TagNarrows. -/
import Derived.Test.YtcpgfogijdmaoaaTagB
import Derived.Test.YtcpgfogijdmaoaaTagSet
import Derived.Deep.CutRange
import Derived.Deep.QuietTactic
import Derived.BigQuiet
namespace Go.Proofs.Ytcpgfogijdmaoaa
open Go.ChangeShapes Go.WideShapes Go.ChangeAt Go.RowKit
set_option linter.unusedSimpArgs false

set_option maxRecDepth 100000 in
set_option maxHeartbeats 8000000 in
theorem TagNarrows_w (size : Int) (t0 t1 t2 t3 : BitVec 8) (w : World) :
    Calls Try.prog 10 #[.agg #[.int .u8 (Tag.b8 t0), .int .u8 (Tag.b8 t1), .int .u8 (Tag.b8 t2), .int .u8 (Tag.b8 t3)], .int .i64 size] w fun e w' => e = .returned (.bool true) ∧ Gr w w' := by
  have eT := eqTag
  by_cases h12 : ¬ size = 1 ∧ ¬ size = 2
  · have f1 : (size != 1) = true := by simpa using h12.1
    have f2 : (size != 2) = true := by simpa using h12.2
    have e1 : Tag.narrow ⟨Tag.b8 t0, Tag.b8 t1, Tag.b8 t2, Tag.b8 t3⟩ size true = ⟨Tag.b8 t0, Tag.b8 t1, Tag.b8 t2, Tag.b8 t3⟩ := by unfold Tag.narrow; rw [if_neg h12.1, if_neg h12.2]
    have e2 : Tag.narrow ⟨Tag.b8 t0, Tag.b8 t1, Tag.b8 t2, Tag.b8 t3⟩ size false = ⟨Tag.b8 t0, Tag.b8 t1, Tag.b8 t2, Tag.b8 t3⟩ := by unfold Tag.narrow; rw [if_neg h12.1, if_neg h12.2]
    clear h12
    go_enter Try.func10, Try.ntmps10
    go_wp2_with fail
    refine (awake2_c _).mono ?_
    rintro e w1 ⟨rfl, h1⟩
    go_wp2_with fail
    go_region_held3 (fun wr => wr.cell? ⟨w.heap.size, 0, none⟩ = some (.int .u8 (Tag.b8 t0)) ∧ wr.cell? ⟨w.heap.size, 1, none⟩ = some (.int .u8 (Tag.b8 t1)) ∧ wr.cell? ⟨w.heap.size, 2, none⟩ = some (.int .u8 (Tag.b8 t2)) ∧ wr.cell? ⟨w.heap.size, 3, none⟩ = some (.int .u8 (Tag.b8 t3))) (first | exact box1 h1 | exact box1 h1.drew)
      (first
      | (go_at_call 15; refine (Narrow_c _ _ _ _ _ _ _).mono ?_; rintro e w2 ⟨rfl, h2⟩; (first | replace h1 := h1.trans h2 | replace h1 := h1.drew.trans h2); clear h2))
    go_wp2
    go_ret
    exact ⟨rfl, h1.drop⟩
  have hc : size = 1 ∨ size = 2 := by omega
  clear h12
  rcases hc with rfl | rfl
  · have e1 : Tag.narrow ⟨Tag.b8 t0, Tag.b8 t1, Tag.b8 t2, Tag.b8 t3⟩ 1 false = ⟨(Tag.b8 t0), 0, 0, 0⟩ := rfl
    have e2 : Tag.narrow ⟨Tag.b8 t0, Tag.b8 t1, Tag.b8 t2, Tag.b8 t3⟩ 1 true = ⟨(Tag.b8 t0), (Tag.b8 t0), (Tag.b8 t0), (Tag.b8 t0)⟩ := rfl
    go_enter Try.func10, Try.ntmps10
    go_wp2_with fail
    refine (awake2_c _).mono ?_
    rintro e w1 ⟨rfl, h1⟩
    have zh1 := h1.size
    simp only [World.size_alloc] at zh1
    go_wp2_with fail
    go_cut [5, 6] from 28 to 33 (fun s5 s6 wx => ∃ ab bb : Nat, s5 = .pointer (some ⟨ab, 0, none⟩) ∧ s6 = .pointer (some ⟨bb, 0, none⟩) ∧ Gr (w.alloc (.cells #[.int .u8 (Tag.b8 t0), .int .u8 (Tag.b8 t1), .int .u8 (Tag.b8 t2), .int .u8 (Tag.b8 t3)] 23)) wx ∧ wx.cell? ⟨ab, 0, none⟩ = some (.int .u8 (Tag.b8 t0)) ∧ wx.cell? ⟨ab, 1, none⟩ = some (.int .u8 0) ∧ wx.cell? ⟨ab, 2, none⟩ = some (.int .u8 0) ∧ wx.cell? ⟨ab, 3, none⟩ = some (.int .u8 0) ∧ wx.cell? ⟨bb, 0, none⟩ = some (.int .u8 (Tag.b8 t0)) ∧ wx.cell? ⟨bb, 1, none⟩ = some (.int .u8 (Tag.b8 t0)) ∧ wx.cell? ⟨bb, 2, none⟩ = some (.int .u8 (Tag.b8 t0)) ∧ wx.cell? ⟨bb, 3, none⟩ = some (.int .u8 (Tag.b8 t0)))
    case first =>
      go_region_held3 (fun wr => wr.cell? ⟨w.heap.size, 0, none⟩ = some (.int .u8 (Tag.b8 t0)) ∧ wr.cell? ⟨w.heap.size, 1, none⟩ = some (.int .u8 (Tag.b8 t1)) ∧ wr.cell? ⟨w.heap.size, 2, none⟩ = some (.int .u8 (Tag.b8 t2)) ∧ wr.cell? ⟨w.heap.size, 3, none⟩ = some (.int .u8 (Tag.b8 t3))) (exact box1 (by (repeat' (first | (with_reducible assumption) | (with_reducible exact Gr.refl _) | (with_reducible refine Gr.alloc ?_ _ _) | (with_reducible refine Gr.drew ?_) | (with_reducible refine Gr.drewN ?_ _) | (with_reducible refine Gr.setCell ?_ ?_ _) | (with_reducible refine Gr.trans ?_ (by assumption)) | omega | (dsimp only; omega) | (simp; done) | (simp; omega)))))
        (first
        | (go_at_call 15; refine (Narrow_c _ _ _ _ _ _ _).mono ?_; rintro e w3 ⟨rfl, h3⟩; (first | (have k4 := k3.trans h3; clear ck3 fk3 Ak3 Fk3; have ck4 := k4.cell; have fk4 := k4.f; have zk4 := k4.size; have Ak4 := k4.cellA; have Fk4 := k4.frozenA; try simp only [World.size_alloc, World.size_drew] at ck4 zk4 Ak4 Fk4) | (have k4 := (k3.alloc _ _).trans h3; have ch3 := h3.cell; have fh3 := h3.f; have zh3 := h3.size; have Ah3 := h3.cellA; have Fh3 := h3.frozenA; try simp only [World.size_alloc, World.size_drew] at ch3 zh3 Ah3 Fh3; have ck4 := k4.cell; have fk4 := k4.f; have zk4 := k4.size; have Ak4 := k4.cellA; have Fk4 := k4.frozenA; try simp only [World.size_alloc, World.size_drew] at ck4 zk4 Ak4 Fk4) | (have k4 := ((k3.alloc _ _).alloc _ _).trans h3; have ch3 := h3.cell; have fh3 := h3.f; have zh3 := h3.size; have Ah3 := h3.cellA; have Fh3 := h3.frozenA; try simp only [World.size_alloc, World.size_drew] at ch3 zh3 Ah3 Fh3; have ck4 := k4.cell; have fk4 := k4.f; have zk4 := k4.size; have Ak4 := k4.cellA; have Fk4 := k4.frozenA; try simp only [World.size_alloc, World.size_drew] at ck4 zk4 Ak4 Fk4) | (have k3 := h3; have ck3 := k3.cell; have fk3 := k3.f; have zk3 := k3.size; have Ak3 := k3.cellA; have Fk3 := k3.frozenA; try simp only [World.size_alloc, World.size_drew] at ck3 zk3 Ak3 Fk3))))
      all_goals go_wp2_with fail
      all_goals go_meet
      all_goals refine ⟨_, _, rfl, rfl, ?_, ?_⟩
      · (repeat' (first | (with_reducible assumption) | (with_reducible exact Gr.refl _) | (with_reducible refine Gr.alloc ?_ _ _) | (with_reducible refine Gr.drew ?_) | (with_reducible refine Gr.drewN ?_ _) | (with_reducible refine Gr.setCell ?_ ?_ _) | (with_reducible refine Gr.trans ?_ (by assumption)) | omega | (dsimp only; omega) | (simp; done) | (simp; omega)))
      · simp [go_sem]
      · (repeat' (first | (with_reducible assumption) | (with_reducible exact Gr.refl _) | (with_reducible refine Gr.alloc ?_ _ _) | (with_reducible refine Gr.drew ?_) | (with_reducible refine Gr.drewN ?_ _) | (with_reducible refine Gr.setCell ?_ ?_ _) | (with_reducible refine Gr.trans ?_ (by assumption)) | omega | (dsimp only; omega) | (simp; done) | (simp; omega)))
      · simp [go_sem]
      · (repeat' (first | (with_reducible assumption) | (with_reducible exact Gr.refl _) | (with_reducible refine Gr.alloc ?_ _ _) | (with_reducible refine Gr.drew ?_) | (with_reducible refine Gr.drewN ?_ _) | (with_reducible refine Gr.setCell ?_ ?_ _) | (with_reducible refine Gr.trans ?_ (by assumption)) | omega | (dsimp only; omega) | (simp; done) | (simp; omega)))
      · exact rel8 (by omega) (fun j hj => exA (ex0 hj h3)) (fun j hj => ex0 hj (Gr.refl _))
      · (repeat' (first | (with_reducible assumption) | (with_reducible exact Gr.refl _) | (with_reducible refine Gr.alloc ?_ _ _) | (with_reducible refine Gr.drew ?_) | (with_reducible refine Gr.drewN ?_ _) | (with_reducible refine Gr.setCell ?_ ?_ _) | (with_reducible refine Gr.trans ?_ (by assumption)) | omega | (dsimp only; omega) | (simp; done) | (simp; omega)))
      · exact rel8 (by omega) (fun j hj => ex0 hj h3.drop) (fun j hj => ex1 hj h3)
      · (repeat' (first | (with_reducible assumption) | (with_reducible exact Gr.refl _) | (with_reducible refine Gr.alloc ?_ _ _) | (with_reducible refine Gr.drew ?_) | (with_reducible refine Gr.drewN ?_ _) | (with_reducible refine Gr.setCell ?_ ?_ _) | (with_reducible refine Gr.trans ?_ (by assumption)) | omega | (dsimp only; omega) | (simp; done) | (simp; omega)))
      · exact rel4 (by omega) (fun j hj => ex0 hj h3)
      · (repeat' (first | (with_reducible assumption) | (with_reducible exact Gr.refl _) | (with_reducible refine Gr.alloc ?_ _ _) | (with_reducible refine Gr.drew ?_) | (with_reducible refine Gr.drewN ?_ _) | (with_reducible refine Gr.setCell ?_ ?_ _) | (with_reducible refine Gr.trans ?_ (by assumption)) | omega | (dsimp only; omega) | (simp; done) | (simp; omega)))
      · exact rel8 (by omega) (fun j hj => ex1 hj h3) (fun j hj => ex0 hj h3.drop)
      · (repeat' (first | (with_reducible assumption) | (with_reducible exact Gr.refl _) | (with_reducible refine Gr.alloc ?_ _ _) | (with_reducible refine Gr.drew ?_) | (with_reducible refine Gr.drewN ?_ _) | (with_reducible refine Gr.setCell ?_ ?_ _) | (with_reducible refine Gr.trans ?_ (by assumption)) | omega | (dsimp only; omega) | (simp; done) | (simp; omega)))
      · exact rel8 (by omega) (fun j hj => exA (ex0 hj k4.undrew)) (fun j hj => ex0 hj (Gr.refl _))
      · (repeat' (first | (with_reducible assumption) | (with_reducible exact Gr.refl _) | (with_reducible refine Gr.alloc ?_ _ _) | (with_reducible refine Gr.drew ?_) | (with_reducible refine Gr.drewN ?_ _) | (with_reducible refine Gr.setCell ?_ ?_ _) | (with_reducible refine Gr.trans ?_ (by assumption)) | omega | (dsimp only; omega) | (simp; done) | (simp; omega)))
      · exact rel8 (by omega) (fun j hj => ex0 hj k4.undrew) (fun j hj => ex0 hj h3)
      · (repeat' (first | (with_reducible assumption) | (with_reducible exact Gr.refl _) | (with_reducible refine Gr.alloc ?_ _ _) | (with_reducible refine Gr.drew ?_) | (with_reducible refine Gr.drewN ?_ _) | (with_reducible refine Gr.setCell ?_ ?_ _) | (with_reducible refine Gr.trans ?_ (by assumption)) | omega | (dsimp only; omega) | (simp; done) | (simp; omega)))
      · exact rel8 (by omega) (fun j hj => ex0 hj k4.undrew.drop) (fun j hj => ex1 hj k4.undrew)
      · (repeat' (first | (with_reducible assumption) | (with_reducible exact Gr.refl _) | (with_reducible refine Gr.alloc ?_ _ _) | (with_reducible refine Gr.drew ?_) | (with_reducible refine Gr.drewN ?_ _) | (with_reducible refine Gr.setCell ?_ ?_ _) | (with_reducible refine Gr.trans ?_ (by assumption)) | omega | (dsimp only; omega) | (simp; done) | (simp; omega)))
      · exact rel4 (by omega) (fun j hj => ex0 hj k4.undrew)
      · (repeat' (first | (with_reducible assumption) | (with_reducible exact Gr.refl _) | (with_reducible refine Gr.alloc ?_ _ _) | (with_reducible refine Gr.drew ?_) | (with_reducible refine Gr.drewN ?_ _) | (with_reducible refine Gr.setCell ?_ ?_ _) | (with_reducible refine Gr.trans ?_ (by assumption)) | omega | (dsimp only; omega) | (simp; done) | (simp; omega)))
      · exact rel8 (by omega) (fun j hj => ex0 hj h3) (fun j hj => ex0 hj k4.undrew)
      · (repeat' (first | (with_reducible assumption) | (with_reducible exact Gr.refl _) | (with_reducible refine Gr.alloc ?_ _ _) | (with_reducible refine Gr.drew ?_) | (with_reducible refine Gr.drewN ?_ _) | (with_reducible refine Gr.setCell ?_ ?_ _) | (with_reducible refine Gr.trans ?_ (by assumption)) | omega | (dsimp only; omega) | (simp; done) | (simp; omega)))
      · exact rel8 (by omega) (fun j hj => ex1 hj k4.undrew) (fun j hj => ex0 hj k4.undrew.drop)
    case rest =>
      obtain ⟨ab, bb, rfl, rfl, n0, a0, a1, a2, a3, b0, b1, b2, b3⟩ := hcut
      obtain ⟨q0, q1, q2, q3⟩ := box1 n0
      have hr := n0.drop
      clear n0
      go_wp2_with fail
      refine wp_loop_rounds 5 ?_
      iterate 4 (rw [rounds_succ]; go_wp2_with fail; go_quiet (fail); go_wp2_with fail)
      rw [rounds_succ]; go_wp2
      go_ret
      refine ⟨rfl, ?_⟩
      (repeat' (first | (with_reducible assumption) | (with_reducible exact Gr.refl _) | (with_reducible refine Gr.alloc ?_ _ _) | (with_reducible refine Gr.drew ?_) | (with_reducible refine Gr.drewN ?_ _) | (with_reducible refine Gr.setCell ?_ ?_ _) | (with_reducible refine Gr.trans ?_ (by assumption)) | omega | (dsimp only; omega) | (simp; done) | (simp; omega)))
  · have e1 : Tag.narrow ⟨Tag.b8 t0, Tag.b8 t1, Tag.b8 t2, Tag.b8 t3⟩ 2 false = ⟨(Tag.b8 t0), (Tag.b8 t1), 0, 0⟩ := rfl
    have e2 : Tag.narrow ⟨Tag.b8 t0, Tag.b8 t1, Tag.b8 t2, Tag.b8 t3⟩ 2 true = ⟨(Tag.b8 t0), (Tag.b8 t1), (Tag.b8 t1), (Tag.b8 t1)⟩ := rfl
    go_enter Try.func10, Try.ntmps10
    go_wp2_with fail
    refine (awake2_c _).mono ?_
    rintro e w1 ⟨rfl, h1⟩
    have zh1 := h1.size
    simp only [World.size_alloc] at zh1
    go_wp2_with fail
    go_cut [5, 6] from 28 to 33 (fun s5 s6 wx => ∃ ab bb : Nat, s5 = .pointer (some ⟨ab, 0, none⟩) ∧ s6 = .pointer (some ⟨bb, 0, none⟩) ∧ Gr (w.alloc (.cells #[.int .u8 (Tag.b8 t0), .int .u8 (Tag.b8 t1), .int .u8 (Tag.b8 t2), .int .u8 (Tag.b8 t3)] 23)) wx ∧ wx.cell? ⟨ab, 0, none⟩ = some (.int .u8 (Tag.b8 t0)) ∧ wx.cell? ⟨ab, 1, none⟩ = some (.int .u8 (Tag.b8 t1)) ∧ wx.cell? ⟨ab, 2, none⟩ = some (.int .u8 0) ∧ wx.cell? ⟨ab, 3, none⟩ = some (.int .u8 0) ∧ wx.cell? ⟨bb, 0, none⟩ = some (.int .u8 (Tag.b8 t0)) ∧ wx.cell? ⟨bb, 1, none⟩ = some (.int .u8 (Tag.b8 t1)) ∧ wx.cell? ⟨bb, 2, none⟩ = some (.int .u8 (Tag.b8 t1)) ∧ wx.cell? ⟨bb, 3, none⟩ = some (.int .u8 (Tag.b8 t1)))
    case first =>
      go_region_held3 (fun wr => wr.cell? ⟨w.heap.size, 0, none⟩ = some (.int .u8 (Tag.b8 t0)) ∧ wr.cell? ⟨w.heap.size, 1, none⟩ = some (.int .u8 (Tag.b8 t1)) ∧ wr.cell? ⟨w.heap.size, 2, none⟩ = some (.int .u8 (Tag.b8 t2)) ∧ wr.cell? ⟨w.heap.size, 3, none⟩ = some (.int .u8 (Tag.b8 t3))) (exact box1 (by (repeat' (first | (with_reducible assumption) | (with_reducible exact Gr.refl _) | (with_reducible refine Gr.alloc ?_ _ _) | (with_reducible refine Gr.drew ?_) | (with_reducible refine Gr.drewN ?_ _) | (with_reducible refine Gr.setCell ?_ ?_ _) | (with_reducible refine Gr.trans ?_ (by assumption)) | omega | (dsimp only; omega) | (simp; done) | (simp; omega)))))
        (first
        | (go_at_call 15; refine (Narrow_c _ _ _ _ _ _ _).mono ?_; rintro e w3 ⟨rfl, h3⟩; (first | (have k4 := k3.trans h3; clear ck3 fk3 Ak3 Fk3; have ck4 := k4.cell; have fk4 := k4.f; have zk4 := k4.size; have Ak4 := k4.cellA; have Fk4 := k4.frozenA; try simp only [World.size_alloc, World.size_drew] at ck4 zk4 Ak4 Fk4) | (have k4 := (k3.alloc _ _).trans h3; have ch3 := h3.cell; have fh3 := h3.f; have zh3 := h3.size; have Ah3 := h3.cellA; have Fh3 := h3.frozenA; try simp only [World.size_alloc, World.size_drew] at ch3 zh3 Ah3 Fh3; have ck4 := k4.cell; have fk4 := k4.f; have zk4 := k4.size; have Ak4 := k4.cellA; have Fk4 := k4.frozenA; try simp only [World.size_alloc, World.size_drew] at ck4 zk4 Ak4 Fk4) | (have k4 := ((k3.alloc _ _).alloc _ _).trans h3; have ch3 := h3.cell; have fh3 := h3.f; have zh3 := h3.size; have Ah3 := h3.cellA; have Fh3 := h3.frozenA; try simp only [World.size_alloc, World.size_drew] at ch3 zh3 Ah3 Fh3; have ck4 := k4.cell; have fk4 := k4.f; have zk4 := k4.size; have Ak4 := k4.cellA; have Fk4 := k4.frozenA; try simp only [World.size_alloc, World.size_drew] at ck4 zk4 Ak4 Fk4) | (have k3 := h3; have ck3 := k3.cell; have fk3 := k3.f; have zk3 := k3.size; have Ak3 := k3.cellA; have Fk3 := k3.frozenA; try simp only [World.size_alloc, World.size_drew] at ck3 zk3 Ak3 Fk3))))
      all_goals go_wp2_with fail
      all_goals go_meet
      all_goals refine ⟨_, _, rfl, rfl, ?_, ?_⟩
      · (repeat' (first | (with_reducible assumption) | (with_reducible exact Gr.refl _) | (with_reducible refine Gr.alloc ?_ _ _) | (with_reducible refine Gr.drew ?_) | (with_reducible refine Gr.drewN ?_ _) | (with_reducible refine Gr.setCell ?_ ?_ _) | (with_reducible refine Gr.trans ?_ (by assumption)) | omega | (dsimp only; omega) | (simp; done) | (simp; omega)))
      · simp [go_sem]
      · (repeat' (first | (with_reducible assumption) | (with_reducible exact Gr.refl _) | (with_reducible refine Gr.alloc ?_ _ _) | (with_reducible refine Gr.drew ?_) | (with_reducible refine Gr.drewN ?_ _) | (with_reducible refine Gr.setCell ?_ ?_ _) | (with_reducible refine Gr.trans ?_ (by assumption)) | omega | (dsimp only; omega) | (simp; done) | (simp; omega)))
      · simp [go_sem]
      · (repeat' (first | (with_reducible assumption) | (with_reducible exact Gr.refl _) | (with_reducible refine Gr.alloc ?_ _ _) | (with_reducible refine Gr.drew ?_) | (with_reducible refine Gr.drewN ?_ _) | (with_reducible refine Gr.setCell ?_ ?_ _) | (with_reducible refine Gr.trans ?_ (by assumption)) | omega | (dsimp only; omega) | (simp; done) | (simp; omega)))
      · exact rel8 (by omega) (fun j hj => exA (ex0 hj h3)) (fun j hj => ex0 hj (Gr.refl _))
      · (repeat' (first | (with_reducible assumption) | (with_reducible exact Gr.refl _) | (with_reducible refine Gr.alloc ?_ _ _) | (with_reducible refine Gr.drew ?_) | (with_reducible refine Gr.drewN ?_ _) | (with_reducible refine Gr.setCell ?_ ?_ _) | (with_reducible refine Gr.trans ?_ (by assumption)) | omega | (dsimp only; omega) | (simp; done) | (simp; omega)))
      · exact rel8 (by omega) (fun j hj => ex0 hj h3.drop) (fun j hj => ex1 hj h3)
      · (repeat' (first | (with_reducible assumption) | (with_reducible exact Gr.refl _) | (with_reducible refine Gr.alloc ?_ _ _) | (with_reducible refine Gr.drew ?_) | (with_reducible refine Gr.drewN ?_ _) | (with_reducible refine Gr.setCell ?_ ?_ _) | (with_reducible refine Gr.trans ?_ (by assumption)) | omega | (dsimp only; omega) | (simp; done) | (simp; omega)))
      · exact rel4 (by omega) (fun j hj => ex0 hj h3)
      · (repeat' (first | (with_reducible assumption) | (with_reducible exact Gr.refl _) | (with_reducible refine Gr.alloc ?_ _ _) | (with_reducible refine Gr.drew ?_) | (with_reducible refine Gr.drewN ?_ _) | (with_reducible refine Gr.setCell ?_ ?_ _) | (with_reducible refine Gr.trans ?_ (by assumption)) | omega | (dsimp only; omega) | (simp; done) | (simp; omega)))
      · exact rel8 (by omega) (fun j hj => ex1 hj h3) (fun j hj => ex0 hj h3.drop)
      · (repeat' (first | (with_reducible assumption) | (with_reducible exact Gr.refl _) | (with_reducible refine Gr.alloc ?_ _ _) | (with_reducible refine Gr.drew ?_) | (with_reducible refine Gr.drewN ?_ _) | (with_reducible refine Gr.setCell ?_ ?_ _) | (with_reducible refine Gr.trans ?_ (by assumption)) | omega | (dsimp only; omega) | (simp; done) | (simp; omega)))
      · exact rel8 (by omega) (fun j hj => exA (ex0 hj k4.undrew)) (fun j hj => ex0 hj (Gr.refl _))
      · (repeat' (first | (with_reducible assumption) | (with_reducible exact Gr.refl _) | (with_reducible refine Gr.alloc ?_ _ _) | (with_reducible refine Gr.drew ?_) | (with_reducible refine Gr.drewN ?_ _) | (with_reducible refine Gr.setCell ?_ ?_ _) | (with_reducible refine Gr.trans ?_ (by assumption)) | omega | (dsimp only; omega) | (simp; done) | (simp; omega)))
      · exact rel8 (by omega) (fun j hj => ex0 hj k4.undrew) (fun j hj => ex0 hj h3)
      · (repeat' (first | (with_reducible assumption) | (with_reducible exact Gr.refl _) | (with_reducible refine Gr.alloc ?_ _ _) | (with_reducible refine Gr.drew ?_) | (with_reducible refine Gr.drewN ?_ _) | (with_reducible refine Gr.setCell ?_ ?_ _) | (with_reducible refine Gr.trans ?_ (by assumption)) | omega | (dsimp only; omega) | (simp; done) | (simp; omega)))
      · exact rel8 (by omega) (fun j hj => ex0 hj k4.undrew.drop) (fun j hj => ex1 hj k4.undrew)
      · (repeat' (first | (with_reducible assumption) | (with_reducible exact Gr.refl _) | (with_reducible refine Gr.alloc ?_ _ _) | (with_reducible refine Gr.drew ?_) | (with_reducible refine Gr.drewN ?_ _) | (with_reducible refine Gr.setCell ?_ ?_ _) | (with_reducible refine Gr.trans ?_ (by assumption)) | omega | (dsimp only; omega) | (simp; done) | (simp; omega)))
      · exact rel4 (by omega) (fun j hj => ex0 hj k4.undrew)
      · (repeat' (first | (with_reducible assumption) | (with_reducible exact Gr.refl _) | (with_reducible refine Gr.alloc ?_ _ _) | (with_reducible refine Gr.drew ?_) | (with_reducible refine Gr.drewN ?_ _) | (with_reducible refine Gr.setCell ?_ ?_ _) | (with_reducible refine Gr.trans ?_ (by assumption)) | omega | (dsimp only; omega) | (simp; done) | (simp; omega)))
      · exact rel8 (by omega) (fun j hj => ex0 hj h3) (fun j hj => ex0 hj k4.undrew)
      · (repeat' (first | (with_reducible assumption) | (with_reducible exact Gr.refl _) | (with_reducible refine Gr.alloc ?_ _ _) | (with_reducible refine Gr.drew ?_) | (with_reducible refine Gr.drewN ?_ _) | (with_reducible refine Gr.setCell ?_ ?_ _) | (with_reducible refine Gr.trans ?_ (by assumption)) | omega | (dsimp only; omega) | (simp; done) | (simp; omega)))
      · exact rel8 (by omega) (fun j hj => ex1 hj k4.undrew) (fun j hj => ex0 hj k4.undrew.drop)
    case rest =>
      obtain ⟨ab, bb, rfl, rfl, n0, a0, a1, a2, a3, b0, b1, b2, b3⟩ := hcut
      obtain ⟨q0, q1, q2, q3⟩ := box1 n0
      have hr := n0.drop
      clear n0
      go_wp2_with fail
      refine wp_loop_rounds 5 ?_
      iterate 4 (rw [rounds_succ]; go_wp2_with fail; go_quiet (fail); go_wp2_with fail)
      rw [rounds_succ]; go_wp2
      go_ret
      refine ⟨rfl, ?_⟩
      (repeat' (first | (with_reducible assumption) | (with_reducible exact Gr.refl _) | (with_reducible refine Gr.alloc ?_ _ _) | (with_reducible refine Gr.drew ?_) | (with_reducible refine Gr.drewN ?_ _) | (with_reducible refine Gr.setCell ?_ ?_ _) | (with_reducible refine Gr.trans ?_ (by assumption)) | omega | (dsimp only; omega) | (simp; done) | (simp; omega)))
end Go.Proofs.Ytcpgfogijdmaoaa
