/- THE REFERENCE OF LAYER 2: tinctureref1.Flow, whole. -/
import Derived.Test.YtcpgfogijdmaoaaTagRefAnd
import Derived.Test.YtcpgfogijdmaoaaTagRefSh2
import Derived.Test.YtcpgfogijdmaoaaTagRefSh6
import Derived.Test.YtcpgfogijdmaoaaTagRefSh7
import Derived.Test.YtcpgfogijdmaoaaTagShift2
import Derived.Test.YtcpgfogijdmaoaaTagRefAll
import Derived.Test.YtcpgfogijdmaoaaTagRefAll2
namespace Go.Proofs.Ytcpgfogijdmaoaa
open Go.ChangeShapes Go.WideShapes Go.ChangeAt Go.RowKit
set_option linter.unusedSimpArgs false

theorem ret_tb {t u : Tag.T4} {c d : Bool} (h : t = u) (h2 : c = d) :
    Ending.returned (.tuple #[.agg #[.int .u8 t.x0, .int .u8 t.x1, .int .u8 t.x2, .int .u8 t.x3], .bool c]) = .returned (.tuple #[.agg #[.int .u8 u.x0, .int .u8 u.x1, .int .u8 u.x2, .int .u8 u.x3], .bool d]) := by rw [h, h2]
theorem rmoved {k a b : Int} (hk : k = 2 ∨ k = 6 ∨ k = 7) {n : Nat} (hn : n < 32) (hb : b % 32 = (n : Int)) (x0 x1 x2 x3 : BitVec 8) (t1 t2 t3 : Int) :
    Tag.flow k a b ⟨Tag.b8 x0, Tag.b8 x1, Tag.b8 x2, Tag.b8 x3⟩ ⟨0, t1, t2, t3⟩ = ⟨Tag.rfN k n ⟨Tag.b8 x0, Tag.b8 x1, Tag.b8 x2, Tag.b8 x3⟩ 32 0, Tag.rfN k n ⟨Tag.b8 x0, Tag.b8 x1, Tag.b8 x2, Tag.b8 x3⟩ 32 1, Tag.rfN k n ⟨Tag.b8 x0, Tag.b8 x1, Tag.b8 x2, Tag.b8 x3⟩ 32 2, Tag.rfN k n ⟨Tag.b8 x0, Tag.b8 x1, Tag.b8 x2, Tag.b8 x3⟩ 32 3⟩ := by
  rw [Tag.rf_mv k b hk n hn hb x0 x1 x2 x3 0 (by omega), Tag.rf_mv k b hk n hn hb x0 x1 x2 x3 1 (by omega), Tag.rf_mv k b hk n hn hb x0 x1 x2 x3 2 (by omega), Tag.rf_mv k b hk n hn hb x0 x1 x2 x3 3 (by omega)]
  rcases hk with rfl | rfl | rfl <;> simp [Tag.flow, Tag.shifted, Tag.moved]
theorem up_r (x0 x1 x2 x3 : BitVec 8) : Tag.up ⟨Tag.b8 x0, Tag.b8 x1, Tag.b8 x2, Tag.b8 x3⟩ = ⟨Tag.b8 x0, Tag.o (Tag.b8 x0) (Tag.b8 x1), Tag.o (Tag.o (Tag.b8 x0) (Tag.b8 x1)) (Tag.b8 x2), Tag.all ⟨Tag.b8 x0, Tag.b8 x1, Tag.b8 x2, Tag.b8 x3⟩⟩ := by
  simp [Tag.up, Tag.all, Tag.o_b8, Tag.b8_inj, BitVec.or_assoc, BitVec.or_comm, Tag.or_lc]
theorem all_r (x0 x1 x2 x3 y0 y1 y2 y3 : BitVec 8) : Tag.all (Tag.join ⟨Tag.b8 x0, Tag.b8 x1, Tag.b8 x2, Tag.b8 x3⟩ ⟨Tag.b8 y0, Tag.b8 y1, Tag.b8 y2, Tag.b8 y3⟩) = Tag.o (Tag.all ⟨Tag.b8 x0, Tag.b8 x1, Tag.b8 x2, Tag.b8 x3⟩) (Tag.all ⟨Tag.b8 y0, Tag.b8 y1, Tag.b8 y2, Tag.b8 y3⟩) := by
  simp [Tag.join, Tag.all, Tag.o_b8, Tag.b8_inj, BitVec.or_assoc, BitVec.or_comm, Tag.or_lc]
set_option maxRecDepth 100000 in
set_option maxHeartbeats 8000000 in
theorem rFlow_c (k a b : Int) (s0 s1 s2 s3 t0 t1 t2 t3 : BitVec 8) (hb : Alu.U32 b) (w : World) :
    Calls Try.prog 24 #[.int .i64 k, .int .u32 a, .int .u32 b, .agg #[.int .u8 (Tag.b8 s0), .int .u8 (Tag.b8 s1), .int .u8 (Tag.b8 s2), .int .u8 (Tag.b8 s3)], .agg #[.int .u8 (Tag.b8 t0), .int .u8 (Tag.b8 t1), .int .u8 (Tag.b8 t2), .int .u8 (Tag.b8 t3)]] w fun e w' =>
     e = .returned (.tuple #[.agg #[.int .u8 (Tag.flow k a b ⟨Tag.b8 s0, Tag.b8 s1, Tag.b8 s2, Tag.b8 s3⟩ ⟨Tag.b8 t0, Tag.b8 t1, Tag.b8 t2, Tag.b8 t3⟩).x0, .int .u8 (Tag.flow k a b ⟨Tag.b8 s0, Tag.b8 s1, Tag.b8 s2, Tag.b8 s3⟩ ⟨Tag.b8 t0, Tag.b8 t1, Tag.b8 t2, Tag.b8 t3⟩).x1, .int .u8 (Tag.flow k a b ⟨Tag.b8 s0, Tag.b8 s1, Tag.b8 s2, Tag.b8 s3⟩ ⟨Tag.b8 t0, Tag.b8 t1, Tag.b8 t2, Tag.b8 t3⟩).x2, .int .u8 (Tag.flow k a b ⟨Tag.b8 s0, Tag.b8 s1, Tag.b8 s2, Tag.b8 s3⟩ ⟨Tag.b8 t0, Tag.b8 t1, Tag.b8 t2, Tag.b8 t3⟩).x3], .bool (Alu.known k)]) ∧ Gr w w' := by
  rcases Alu.kinds k with h | rfl | rfl | rfl | rfl | rfl | rfl | rfl | rfl | rfl | rfl | rfl | rfl | rfl | rfl | rfl | rfl | rfl | rfl
  · have f : ∀ j : Int, 0 ≤ j → j ≤ 17 → (k == j) = false := fun j _ _ => by simp; omega
    have f0 := f 0 (by omega) (by omega)
    have f1 := f 1 (by omega) (by omega)
    have f2 := f 2 (by omega) (by omega)
    have f3 := f 3 (by omega) (by omega)
    have f4 := f 4 (by omega) (by omega)
    have f5 := f 5 (by omega) (by omega)
    have f6 := f 6 (by omega) (by omega)
    have f7 := f 7 (by omega) (by omega)
    have f8 := f 8 (by omega) (by omega)
    have f9 := f 9 (by omega) (by omega)
    have f10 := f 10 (by omega) (by omega)
    have f11 := f 11 (by omega) (by omega)
    have f12 := f 12 (by omega) (by omega)
    have f13 := f 13 (by omega) (by omega)
    have f14 := f 14 (by omega) (by omega)
    have f15 := f 15 (by omega) (by omega)
    have f16 := f 16 (by omega) (by omega)
    have f17 := f 17 (by omega) (by omega)
    have E : Hid (Tag.flow k a b ⟨Tag.b8 s0, Tag.b8 s1, Tag.b8 s2, Tag.b8 s3⟩ ⟨Tag.b8 t0, Tag.b8 t1, Tag.b8 t2, Tag.b8 t3⟩ = ⟨0, 0, 0, 0⟩) := by
      show _ = _
      unfold Tag.flow
      repeat rw [if_neg (by omega)]
    have E2 : Hid (Alu.known k = false) := by show _ = _; simp [Alu.known]; omega
    clear f h
    go_enter Try.func24, Try.ntmps24
    go_wp2
    go_returns
    refine ⟨?_, ?_⟩
    · rw [E.out, E2.out]
    · (repeat' (first | (with_reducible exact Gr.refl _) | (with_reducible refine Gr.alloc ?_ _ _) | (with_reducible refine Gr.drew ?_) | (with_reducible refine Gr.drewN ?_ _) | (with_reducible refine Gr.setCell ?_ ?_ _) | (with_reducible refine Gr.trans ?_ (by assumption)) | omega | (dsimp only; omega) | (simp; done) | (simp; omega)))
  · go_enter Try.func24, Try.ntmps24
    go_wp2_with (first | (go_at_call 21; refine (rJoin_c _ _ _ _ _ _ _ _ _).mono ?_; rintro e w1 ⟨rfl, h1⟩; have hc1 := h1.cell; have hf1 := h1.f; have hz1 := h1.size; have hA1 := h1.cellA; have hF1 := h1.frozenA; try simp only [World.size_alloc] at hc1 hz1 hA1 hF1) | (go_at_call 22; refine (rUp_c _ _ _ _ _).mono ?_; rintro e w2 ⟨rfl, h2⟩; replace h1 := h1.trans h2; clear hc1 hf1 hz1 hA1 hF1; have hc1 := h1.cell; have hf1 := h1.f; have hz1 := h1.size; have hA1 := h1.cellA; have hF1 := h1.frozenA; try simp only [World.size_alloc] at hc1 hz1 hA1 hF1))
    refine bodyPost_ret (v := .tuple #[.agg #[.int .u8 (Tag.o (Tag.b8 s0) (Tag.b8 t0)), .int .u8 (Tag.o (Tag.o (Tag.b8 s0) (Tag.b8 t0)) (Tag.o (Tag.b8 s1) (Tag.b8 t1))), .int .u8 (Tag.o (Tag.o (Tag.o (Tag.b8 s0) (Tag.b8 t0)) (Tag.o (Tag.b8 s1) (Tag.b8 t1))) (Tag.o (Tag.b8 s2) (Tag.b8 t2))), .int .u8 (Tag.all ⟨(Tag.o (Tag.b8 s0) (Tag.b8 t0)), (Tag.o (Tag.b8 s1) (Tag.b8 t1)), (Tag.o (Tag.b8 s2) (Tag.b8 t2)), (Tag.o (Tag.b8 s3) (Tag.b8 t3))⟩)], .bool true]) (by simp [results, Try.results24, go_sem, hc1, Tag.o]) rfl (And.intro ?_ ?_)
    · exact (ret_tb (u := (Tag.flow 0 a b ⟨Tag.b8 s0, Tag.b8 s1, Tag.b8 s2, Tag.b8 s3⟩ ⟨Tag.b8 t0, Tag.b8 t1, Tag.b8 t2, Tag.b8 t3⟩)) (c := true) (d := Alu.known 0) (t := ⟨(Tag.o (Tag.b8 s0) (Tag.b8 t0)), (Tag.o (Tag.o (Tag.b8 s0) (Tag.b8 t0)) (Tag.o (Tag.b8 s1) (Tag.b8 t1))), (Tag.o (Tag.o (Tag.o (Tag.b8 s0) (Tag.b8 t0)) (Tag.o (Tag.b8 s1) (Tag.b8 t1))) (Tag.o (Tag.b8 s2) (Tag.b8 t2))), (Tag.all ⟨(Tag.o (Tag.b8 s0) (Tag.b8 t0)), (Tag.o (Tag.b8 s1) (Tag.b8 t1)), (Tag.o (Tag.b8 s2) (Tag.b8 t2)), (Tag.o (Tag.b8 s3) (Tag.b8 t3))⟩)⟩) (by simp [Tag.flow, Tag.join, Tag.o_b8, up_r]) rfl)
    · (repeat' (first | (with_reducible exact Gr.refl _) | (with_reducible refine Gr.alloc ?_ _ _) | (with_reducible refine Gr.drew ?_) | (with_reducible refine Gr.drewN ?_ _) | (with_reducible refine Gr.setCell ?_ ?_ _) | (with_reducible refine Gr.trans ?_ (by assumption)) | omega | (dsimp only; omega) | (simp; done) | (simp; omega)))
  · go_enter Try.func24, Try.ntmps24
    go_wp2_with (first | (go_at_call 21; refine (rJoin_c _ _ _ _ _ _ _ _ _).mono ?_; rintro e w1 ⟨rfl, h1⟩; have hc1 := h1.cell; have hf1 := h1.f; have hz1 := h1.size; have hA1 := h1.cellA; have hF1 := h1.frozenA; try simp only [World.size_alloc] at hc1 hz1 hA1 hF1) | (go_at_call 22; refine (rUp_c _ _ _ _ _).mono ?_; rintro e w2 ⟨rfl, h2⟩; replace h1 := h1.trans h2; clear hc1 hf1 hz1 hA1 hF1; have hc1 := h1.cell; have hf1 := h1.f; have hz1 := h1.size; have hA1 := h1.cellA; have hF1 := h1.frozenA; try simp only [World.size_alloc] at hc1 hz1 hA1 hF1))
    refine bodyPost_ret (v := .tuple #[.agg #[.int .u8 (Tag.o (Tag.b8 s0) (Tag.b8 t0)), .int .u8 (Tag.o (Tag.o (Tag.b8 s0) (Tag.b8 t0)) (Tag.o (Tag.b8 s1) (Tag.b8 t1))), .int .u8 (Tag.o (Tag.o (Tag.o (Tag.b8 s0) (Tag.b8 t0)) (Tag.o (Tag.b8 s1) (Tag.b8 t1))) (Tag.o (Tag.b8 s2) (Tag.b8 t2))), .int .u8 (Tag.all ⟨(Tag.o (Tag.b8 s0) (Tag.b8 t0)), (Tag.o (Tag.b8 s1) (Tag.b8 t1)), (Tag.o (Tag.b8 s2) (Tag.b8 t2)), (Tag.o (Tag.b8 s3) (Tag.b8 t3))⟩)], .bool true]) (by simp [results, Try.results24, go_sem, hc1, Tag.o]) rfl (And.intro ?_ ?_)
    · exact (ret_tb (u := (Tag.flow 1 a b ⟨Tag.b8 s0, Tag.b8 s1, Tag.b8 s2, Tag.b8 s3⟩ ⟨Tag.b8 t0, Tag.b8 t1, Tag.b8 t2, Tag.b8 t3⟩)) (c := true) (d := Alu.known 1) (t := ⟨(Tag.o (Tag.b8 s0) (Tag.b8 t0)), (Tag.o (Tag.o (Tag.b8 s0) (Tag.b8 t0)) (Tag.o (Tag.b8 s1) (Tag.b8 t1))), (Tag.o (Tag.o (Tag.o (Tag.b8 s0) (Tag.b8 t0)) (Tag.o (Tag.b8 s1) (Tag.b8 t1))) (Tag.o (Tag.b8 s2) (Tag.b8 t2))), (Tag.all ⟨(Tag.o (Tag.b8 s0) (Tag.b8 t0)), (Tag.o (Tag.b8 s1) (Tag.b8 t1)), (Tag.o (Tag.b8 s2) (Tag.b8 t2)), (Tag.o (Tag.b8 s3) (Tag.b8 t3))⟩)⟩) (by simp [Tag.flow, Tag.join, Tag.o_b8, up_r]) rfl)
    · (repeat' (first | (with_reducible exact Gr.refl _) | (with_reducible refine Gr.alloc ?_ _ _) | (with_reducible refine Gr.drew ?_) | (with_reducible refine Gr.drewN ?_ _) | (with_reducible refine Gr.setCell ?_ ?_ _) | (with_reducible refine Gr.trans ?_ (by assumption)) | omega | (dsimp only; omega) | (simp; done) | (simp; omega)))
  · by_cases ht : t0 = 0#8
    · subst ht
      rw [Tag.b8_0]
      refine (rFlow2_c a b _ _ _ _ _ _ _ (b % 32).toNat (by omega) (by rw [and31 hb]; omega) w).mono ?_
      rintro e w1 ⟨rfl, h1⟩
      refine ⟨?_, h1⟩
      rw [rmoved (k := 2) (n := (b % 32).toNat) (by omega) (by omega) (by omega)]
      rfl
    · refine (rFlowT_c 2 a b _ _ _ _ _ _ _ _ (by omega) (by rw [bne_iff_ne]; intro h; exact ht (Tag.b8_inj.1 (h.trans Tag.b8_0.symm))) w).mono ?_
      rintro e w1 ⟨rfl, h1⟩
      refine ⟨?_, h1⟩
      have hz : ¬ Tag.b8 t0 = 0 := fun h => ht (Tag.b8_inj.1 (h.trans Tag.b8_0.symm))
      exact ret_tb (t := ⟨Tag.o (Tag.all ⟨Tag.b8 s0, Tag.b8 s1, Tag.b8 s2, Tag.b8 s3⟩) (Tag.b8 t0), Tag.o (Tag.all ⟨Tag.b8 s0, Tag.b8 s1, Tag.b8 s2, Tag.b8 s3⟩) (Tag.b8 t0), Tag.o (Tag.all ⟨Tag.b8 s0, Tag.b8 s1, Tag.b8 s2, Tag.b8 s3⟩) (Tag.b8 t0), Tag.o (Tag.all ⟨Tag.b8 s0, Tag.b8 s1, Tag.b8 s2, Tag.b8 s3⟩) (Tag.b8 t0)⟩) (by simp [Tag.flow, Tag.shifted, Tag.fill, hz]) rfl
  · refine (rFlowS_c 3 a b _ _ _ _ _ _ _ _ (by omega) w).mono ?_
    rintro e w1 ⟨rfl, h1⟩
    exact ⟨ret_tb (t := ⟨Tag.o (Tag.all ⟨Tag.b8 s0, Tag.b8 s1, Tag.b8 s2, Tag.b8 s3⟩) (Tag.all ⟨Tag.b8 t0, Tag.b8 t1, Tag.b8 t2, Tag.b8 t3⟩), 0, 0, 0⟩) (by simp [Tag.flow, all_r]) rfl, h1⟩
  · refine (rFlowS_c 4 a b _ _ _ _ _ _ _ _ (by omega) w).mono ?_
    rintro e w1 ⟨rfl, h1⟩
    exact ⟨ret_tb (t := ⟨Tag.o (Tag.all ⟨Tag.b8 s0, Tag.b8 s1, Tag.b8 s2, Tag.b8 s3⟩) (Tag.all ⟨Tag.b8 t0, Tag.b8 t1, Tag.b8 t2, Tag.b8 t3⟩), 0, 0, 0⟩) (by simp [Tag.flow, all_r]) rfl, h1⟩
  · go_enter Try.func24, Try.ntmps24
    go_wp2_with (go_at_call 21; refine (rJoin_c _ _ _ _ _ _ _ _ _).mono ?_; rintro e w1 ⟨rfl, h1⟩; have hc1 := h1.cell; have hf1 := h1.f; have hz1 := h1.size; have hA1 := h1.cellA; have hF1 := h1.frozenA; try simp only [World.size_alloc] at hc1 hz1 hA1 hF1)
    refine bodyPost_ret (v := .tuple #[.agg #[.int .u8 (Tag.o (Tag.b8 s0) (Tag.b8 t0)), .int .u8 (Tag.o (Tag.b8 s1) (Tag.b8 t1)), .int .u8 (Tag.o (Tag.b8 s2) (Tag.b8 t2)), .int .u8 (Tag.o (Tag.b8 s3) (Tag.b8 t3))], .bool true]) (by simp [results, Try.results24, go_sem, hc1, Tag.o]) rfl (And.intro ?_ ?_)
    · exact (ret_tb (u := (Tag.flow 5 a b ⟨Tag.b8 s0, Tag.b8 s1, Tag.b8 s2, Tag.b8 s3⟩ ⟨Tag.b8 t0, Tag.b8 t1, Tag.b8 t2, Tag.b8 t3⟩)) (c := true) (d := Alu.known 5) (t := ⟨(Tag.o (Tag.b8 s0) (Tag.b8 t0)), (Tag.o (Tag.b8 s1) (Tag.b8 t1)), (Tag.o (Tag.b8 s2) (Tag.b8 t2)), (Tag.o (Tag.b8 s3) (Tag.b8 t3))⟩) (by simp [Tag.flow, Tag.join]) rfl)
    · (repeat' (first | (with_reducible exact Gr.refl _) | (with_reducible refine Gr.alloc ?_ _ _) | (with_reducible refine Gr.drew ?_) | (with_reducible refine Gr.drewN ?_ _) | (with_reducible refine Gr.setCell ?_ ?_ _) | (with_reducible refine Gr.trans ?_ (by assumption)) | omega | (dsimp only; omega) | (simp; done) | (simp; omega)))
  · by_cases ht : t0 = 0#8
    · subst ht
      rw [Tag.b8_0]
      refine (rFlow6_c a b _ _ _ _ _ _ _ (b % 32).toNat (by omega) (by rw [and31 hb]; omega) w).mono ?_
      rintro e w1 ⟨rfl, h1⟩
      refine ⟨?_, h1⟩
      rw [rmoved (k := 6) (n := (b % 32).toNat) (by omega) (by omega) (by omega)]
      rfl
    · refine (rFlowT_c 6 a b _ _ _ _ _ _ _ _ (by omega) (by rw [bne_iff_ne]; intro h; exact ht (Tag.b8_inj.1 (h.trans Tag.b8_0.symm))) w).mono ?_
      rintro e w1 ⟨rfl, h1⟩
      refine ⟨?_, h1⟩
      have hz : ¬ Tag.b8 t0 = 0 := fun h => ht (Tag.b8_inj.1 (h.trans Tag.b8_0.symm))
      exact ret_tb (t := ⟨Tag.o (Tag.all ⟨Tag.b8 s0, Tag.b8 s1, Tag.b8 s2, Tag.b8 s3⟩) (Tag.b8 t0), Tag.o (Tag.all ⟨Tag.b8 s0, Tag.b8 s1, Tag.b8 s2, Tag.b8 s3⟩) (Tag.b8 t0), Tag.o (Tag.all ⟨Tag.b8 s0, Tag.b8 s1, Tag.b8 s2, Tag.b8 s3⟩) (Tag.b8 t0), Tag.o (Tag.all ⟨Tag.b8 s0, Tag.b8 s1, Tag.b8 s2, Tag.b8 s3⟩) (Tag.b8 t0)⟩) (by simp [Tag.flow, Tag.shifted, Tag.fill, hz]) rfl
  · by_cases ht : t0 = 0#8
    · subst ht
      rw [Tag.b8_0]
      refine (rFlow7_c a b _ _ _ _ _ _ _ (b % 32).toNat (by omega) (by rw [and31 hb]; omega) w).mono ?_
      rintro e w1 ⟨rfl, h1⟩
      refine ⟨?_, h1⟩
      rw [rmoved (k := 7) (n := (b % 32).toNat) (by omega) (by omega) (by omega)]
      rfl
    · refine (rFlowT_c 7 a b _ _ _ _ _ _ _ _ (by omega) (by rw [bne_iff_ne]; intro h; exact ht (Tag.b8_inj.1 (h.trans Tag.b8_0.symm))) w).mono ?_
      rintro e w1 ⟨rfl, h1⟩
      refine ⟨?_, h1⟩
      have hz : ¬ Tag.b8 t0 = 0 := fun h => ht (Tag.b8_inj.1 (h.trans Tag.b8_0.symm))
      exact ret_tb (t := ⟨Tag.o (Tag.all ⟨Tag.b8 s0, Tag.b8 s1, Tag.b8 s2, Tag.b8 s3⟩) (Tag.b8 t0), Tag.o (Tag.all ⟨Tag.b8 s0, Tag.b8 s1, Tag.b8 s2, Tag.b8 s3⟩) (Tag.b8 t0), Tag.o (Tag.all ⟨Tag.b8 s0, Tag.b8 s1, Tag.b8 s2, Tag.b8 s3⟩) (Tag.b8 t0), Tag.o (Tag.all ⟨Tag.b8 s0, Tag.b8 s1, Tag.b8 s2, Tag.b8 s3⟩) (Tag.b8 t0)⟩) (by simp [Tag.flow, Tag.shifted, Tag.fill, hz]) rfl
  · go_enter Try.func24, Try.ntmps24
    go_wp2_with (go_at_call 21; refine (rJoin_c _ _ _ _ _ _ _ _ _).mono ?_; rintro e w1 ⟨rfl, h1⟩; have hc1 := h1.cell; have hf1 := h1.f; have hz1 := h1.size; have hA1 := h1.cellA; have hF1 := h1.frozenA; try simp only [World.size_alloc] at hc1 hz1 hA1 hF1)
    refine bodyPost_ret (v := .tuple #[.agg #[.int .u8 (Tag.o (Tag.b8 s0) (Tag.b8 t0)), .int .u8 (Tag.o (Tag.b8 s1) (Tag.b8 t1)), .int .u8 (Tag.o (Tag.b8 s2) (Tag.b8 t2)), .int .u8 (Tag.o (Tag.b8 s3) (Tag.b8 t3))], .bool true]) (by simp [results, Try.results24, go_sem, hc1, Tag.o]) rfl (And.intro ?_ ?_)
    · exact (ret_tb (u := (Tag.flow 8 a b ⟨Tag.b8 s0, Tag.b8 s1, Tag.b8 s2, Tag.b8 s3⟩ ⟨Tag.b8 t0, Tag.b8 t1, Tag.b8 t2, Tag.b8 t3⟩)) (c := true) (d := Alu.known 8) (t := ⟨(Tag.o (Tag.b8 s0) (Tag.b8 t0)), (Tag.o (Tag.b8 s1) (Tag.b8 t1)), (Tag.o (Tag.b8 s2) (Tag.b8 t2)), (Tag.o (Tag.b8 s3) (Tag.b8 t3))⟩) (by simp [Tag.flow, Tag.join]) rfl)
    · (repeat' (first | (with_reducible exact Gr.refl _) | (with_reducible refine Gr.alloc ?_ _ _) | (with_reducible refine Gr.drew ?_) | (with_reducible refine Gr.drewN ?_ _) | (with_reducible refine Gr.setCell ?_ ?_ _) | (with_reducible refine Gr.trans ?_ (by assumption)) | omega | (dsimp only; omega) | (simp; done) | (simp; omega)))
  · refine (rFlow9_c a b _ _ _ _ _ _ _ _ w).mono ?_
    rintro e w1 ⟨rfl, h1⟩
    exact ⟨ret_tb (by simp [Tag.flow]) rfl, h1⟩
  · go_enter Try.func24, Try.ntmps24
    go_wp2_with (first | (go_at_call 21; refine (rJoin_c _ _ _ _ _ _ _ _ _).mono ?_; rintro e w1 ⟨rfl, h1⟩; have hc1 := h1.cell; have hf1 := h1.f; have hz1 := h1.size; have hA1 := h1.cellA; have hF1 := h1.frozenA; try simp only [World.size_alloc] at hc1 hz1 hA1 hF1) | (go_at_call 22; refine (rUp_c _ _ _ _ _).mono ?_; rintro e w2 ⟨rfl, h2⟩; replace h1 := h1.trans h2; clear hc1 hf1 hz1 hA1 hF1; have hc1 := h1.cell; have hf1 := h1.f; have hz1 := h1.size; have hA1 := h1.cellA; have hF1 := h1.frozenA; try simp only [World.size_alloc] at hc1 hz1 hA1 hF1))
    refine bodyPost_ret (v := .tuple #[.agg #[.int .u8 (Tag.o (Tag.b8 s0) (Tag.b8 t0)), .int .u8 (Tag.o (Tag.o (Tag.b8 s0) (Tag.b8 t0)) (Tag.o (Tag.b8 s1) (Tag.b8 t1))), .int .u8 (Tag.o (Tag.o (Tag.o (Tag.b8 s0) (Tag.b8 t0)) (Tag.o (Tag.b8 s1) (Tag.b8 t1))) (Tag.o (Tag.b8 s2) (Tag.b8 t2))), .int .u8 (Tag.all ⟨(Tag.o (Tag.b8 s0) (Tag.b8 t0)), (Tag.o (Tag.b8 s1) (Tag.b8 t1)), (Tag.o (Tag.b8 s2) (Tag.b8 t2)), (Tag.o (Tag.b8 s3) (Tag.b8 t3))⟩)], .bool true]) (by simp [results, Try.results24, go_sem, hc1, Tag.o]) rfl (And.intro ?_ ?_)
    · exact (ret_tb (u := (Tag.flow 10 a b ⟨Tag.b8 s0, Tag.b8 s1, Tag.b8 s2, Tag.b8 s3⟩ ⟨Tag.b8 t0, Tag.b8 t1, Tag.b8 t2, Tag.b8 t3⟩)) (c := true) (d := Alu.known 10) (t := ⟨(Tag.o (Tag.b8 s0) (Tag.b8 t0)), (Tag.o (Tag.o (Tag.b8 s0) (Tag.b8 t0)) (Tag.o (Tag.b8 s1) (Tag.b8 t1))), (Tag.o (Tag.o (Tag.o (Tag.b8 s0) (Tag.b8 t0)) (Tag.o (Tag.b8 s1) (Tag.b8 t1))) (Tag.o (Tag.b8 s2) (Tag.b8 t2))), (Tag.all ⟨(Tag.o (Tag.b8 s0) (Tag.b8 t0)), (Tag.o (Tag.b8 s1) (Tag.b8 t1)), (Tag.o (Tag.b8 s2) (Tag.b8 t2)), (Tag.o (Tag.b8 s3) (Tag.b8 t3))⟩)⟩) (by simp [Tag.flow, Tag.join, Tag.o_b8, up_r]) rfl)
    · (repeat' (first | (with_reducible exact Gr.refl _) | (with_reducible refine Gr.alloc ?_ _ _) | (with_reducible refine Gr.drew ?_) | (with_reducible refine Gr.drewN ?_ _) | (with_reducible refine Gr.setCell ?_ ?_ _) | (with_reducible refine Gr.trans ?_ (by assumption)) | omega | (dsimp only; omega) | (simp; done) | (simp; omega)))
  · refine (rFlowX_c 11 a b _ _ _ _ _ _ _ _ (by omega) w).mono ?_
    rintro e w1 ⟨rfl, h1⟩
    exact ⟨ret_tb (t := ⟨Tag.o (Tag.all ⟨Tag.b8 s0, Tag.b8 s1, Tag.b8 s2, Tag.b8 s3⟩) (Tag.all ⟨Tag.b8 t0, Tag.b8 t1, Tag.b8 t2, Tag.b8 t3⟩), Tag.o (Tag.all ⟨Tag.b8 s0, Tag.b8 s1, Tag.b8 s2, Tag.b8 s3⟩) (Tag.all ⟨Tag.b8 t0, Tag.b8 t1, Tag.b8 t2, Tag.b8 t3⟩), Tag.o (Tag.all ⟨Tag.b8 s0, Tag.b8 s1, Tag.b8 s2, Tag.b8 s3⟩) (Tag.all ⟨Tag.b8 t0, Tag.b8 t1, Tag.b8 t2, Tag.b8 t3⟩), Tag.o (Tag.all ⟨Tag.b8 s0, Tag.b8 s1, Tag.b8 s2, Tag.b8 s3⟩) (Tag.all ⟨Tag.b8 t0, Tag.b8 t1, Tag.b8 t2, Tag.b8 t3⟩)⟩) (by simp [Tag.flow, Tag.fill, all_r]) rfl, h1⟩
  · refine (rFlowX_c 12 a b _ _ _ _ _ _ _ _ (by omega) w).mono ?_
    rintro e w1 ⟨rfl, h1⟩
    exact ⟨ret_tb (t := ⟨Tag.o (Tag.all ⟨Tag.b8 s0, Tag.b8 s1, Tag.b8 s2, Tag.b8 s3⟩) (Tag.all ⟨Tag.b8 t0, Tag.b8 t1, Tag.b8 t2, Tag.b8 t3⟩), Tag.o (Tag.all ⟨Tag.b8 s0, Tag.b8 s1, Tag.b8 s2, Tag.b8 s3⟩) (Tag.all ⟨Tag.b8 t0, Tag.b8 t1, Tag.b8 t2, Tag.b8 t3⟩), Tag.o (Tag.all ⟨Tag.b8 s0, Tag.b8 s1, Tag.b8 s2, Tag.b8 s3⟩) (Tag.all ⟨Tag.b8 t0, Tag.b8 t1, Tag.b8 t2, Tag.b8 t3⟩), Tag.o (Tag.all ⟨Tag.b8 s0, Tag.b8 s1, Tag.b8 s2, Tag.b8 s3⟩) (Tag.all ⟨Tag.b8 t0, Tag.b8 t1, Tag.b8 t2, Tag.b8 t3⟩)⟩) (by simp [Tag.flow, Tag.fill, all_r]) rfl, h1⟩
  · refine (rFlowX_c 13 a b _ _ _ _ _ _ _ _ (by omega) w).mono ?_
    rintro e w1 ⟨rfl, h1⟩
    exact ⟨ret_tb (t := ⟨Tag.o (Tag.all ⟨Tag.b8 s0, Tag.b8 s1, Tag.b8 s2, Tag.b8 s3⟩) (Tag.all ⟨Tag.b8 t0, Tag.b8 t1, Tag.b8 t2, Tag.b8 t3⟩), Tag.o (Tag.all ⟨Tag.b8 s0, Tag.b8 s1, Tag.b8 s2, Tag.b8 s3⟩) (Tag.all ⟨Tag.b8 t0, Tag.b8 t1, Tag.b8 t2, Tag.b8 t3⟩), Tag.o (Tag.all ⟨Tag.b8 s0, Tag.b8 s1, Tag.b8 s2, Tag.b8 s3⟩) (Tag.all ⟨Tag.b8 t0, Tag.b8 t1, Tag.b8 t2, Tag.b8 t3⟩), Tag.o (Tag.all ⟨Tag.b8 s0, Tag.b8 s1, Tag.b8 s2, Tag.b8 s3⟩) (Tag.all ⟨Tag.b8 t0, Tag.b8 t1, Tag.b8 t2, Tag.b8 t3⟩)⟩) (by simp [Tag.flow, Tag.fill, all_r]) rfl, h1⟩
  · refine (rFlowX_c 14 a b _ _ _ _ _ _ _ _ (by omega) w).mono ?_
    rintro e w1 ⟨rfl, h1⟩
    exact ⟨ret_tb (t := ⟨Tag.o (Tag.all ⟨Tag.b8 s0, Tag.b8 s1, Tag.b8 s2, Tag.b8 s3⟩) (Tag.all ⟨Tag.b8 t0, Tag.b8 t1, Tag.b8 t2, Tag.b8 t3⟩), Tag.o (Tag.all ⟨Tag.b8 s0, Tag.b8 s1, Tag.b8 s2, Tag.b8 s3⟩) (Tag.all ⟨Tag.b8 t0, Tag.b8 t1, Tag.b8 t2, Tag.b8 t3⟩), Tag.o (Tag.all ⟨Tag.b8 s0, Tag.b8 s1, Tag.b8 s2, Tag.b8 s3⟩) (Tag.all ⟨Tag.b8 t0, Tag.b8 t1, Tag.b8 t2, Tag.b8 t3⟩), Tag.o (Tag.all ⟨Tag.b8 s0, Tag.b8 s1, Tag.b8 s2, Tag.b8 s3⟩) (Tag.all ⟨Tag.b8 t0, Tag.b8 t1, Tag.b8 t2, Tag.b8 t3⟩)⟩) (by simp [Tag.flow, Tag.fill, all_r]) rfl, h1⟩
  · refine (rFlowX_c 15 a b _ _ _ _ _ _ _ _ (by omega) w).mono ?_
    rintro e w1 ⟨rfl, h1⟩
    exact ⟨ret_tb (t := ⟨Tag.o (Tag.all ⟨Tag.b8 s0, Tag.b8 s1, Tag.b8 s2, Tag.b8 s3⟩) (Tag.all ⟨Tag.b8 t0, Tag.b8 t1, Tag.b8 t2, Tag.b8 t3⟩), Tag.o (Tag.all ⟨Tag.b8 s0, Tag.b8 s1, Tag.b8 s2, Tag.b8 s3⟩) (Tag.all ⟨Tag.b8 t0, Tag.b8 t1, Tag.b8 t2, Tag.b8 t3⟩), Tag.o (Tag.all ⟨Tag.b8 s0, Tag.b8 s1, Tag.b8 s2, Tag.b8 s3⟩) (Tag.all ⟨Tag.b8 t0, Tag.b8 t1, Tag.b8 t2, Tag.b8 t3⟩), Tag.o (Tag.all ⟨Tag.b8 s0, Tag.b8 s1, Tag.b8 s2, Tag.b8 s3⟩) (Tag.all ⟨Tag.b8 t0, Tag.b8 t1, Tag.b8 t2, Tag.b8 t3⟩)⟩) (by simp [Tag.flow, Tag.fill, all_r]) rfl, h1⟩
  · refine (rFlowX_c 16 a b _ _ _ _ _ _ _ _ (by omega) w).mono ?_
    rintro e w1 ⟨rfl, h1⟩
    exact ⟨ret_tb (t := ⟨Tag.o (Tag.all ⟨Tag.b8 s0, Tag.b8 s1, Tag.b8 s2, Tag.b8 s3⟩) (Tag.all ⟨Tag.b8 t0, Tag.b8 t1, Tag.b8 t2, Tag.b8 t3⟩), Tag.o (Tag.all ⟨Tag.b8 s0, Tag.b8 s1, Tag.b8 s2, Tag.b8 s3⟩) (Tag.all ⟨Tag.b8 t0, Tag.b8 t1, Tag.b8 t2, Tag.b8 t3⟩), Tag.o (Tag.all ⟨Tag.b8 s0, Tag.b8 s1, Tag.b8 s2, Tag.b8 s3⟩) (Tag.all ⟨Tag.b8 t0, Tag.b8 t1, Tag.b8 t2, Tag.b8 t3⟩), Tag.o (Tag.all ⟨Tag.b8 s0, Tag.b8 s1, Tag.b8 s2, Tag.b8 s3⟩) (Tag.all ⟨Tag.b8 t0, Tag.b8 t1, Tag.b8 t2, Tag.b8 t3⟩)⟩) (by simp [Tag.flow, Tag.fill, all_r]) rfl, h1⟩
  · refine (rFlowX_c 17 a b _ _ _ _ _ _ _ _ (by omega) w).mono ?_
    rintro e w1 ⟨rfl, h1⟩
    exact ⟨ret_tb (t := ⟨Tag.o (Tag.all ⟨Tag.b8 s0, Tag.b8 s1, Tag.b8 s2, Tag.b8 s3⟩) (Tag.all ⟨Tag.b8 t0, Tag.b8 t1, Tag.b8 t2, Tag.b8 t3⟩), Tag.o (Tag.all ⟨Tag.b8 s0, Tag.b8 s1, Tag.b8 s2, Tag.b8 s3⟩) (Tag.all ⟨Tag.b8 t0, Tag.b8 t1, Tag.b8 t2, Tag.b8 t3⟩), Tag.o (Tag.all ⟨Tag.b8 s0, Tag.b8 s1, Tag.b8 s2, Tag.b8 s3⟩) (Tag.all ⟨Tag.b8 t0, Tag.b8 t1, Tag.b8 t2, Tag.b8 t3⟩), Tag.o (Tag.all ⟨Tag.b8 s0, Tag.b8 s1, Tag.b8 s2, Tag.b8 s3⟩) (Tag.all ⟨Tag.b8 t0, Tag.b8 t1, Tag.b8 t2, Tag.b8 t3⟩)⟩) (by simp [Tag.flow, Tag.fill, all_r]) rfl, h1⟩
end Go.Proofs.Ytcpgfogijdmaoaa
