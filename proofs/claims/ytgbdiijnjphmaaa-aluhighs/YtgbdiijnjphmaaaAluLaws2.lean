/- THE WALKS OF LAYER 1's LAWS, the second half. -/
import Derived.Test.YtgbdiijnjphmaaaAluLaws
namespace Go.Proofs.Ytgbdiijnjphmaaa
open Go.ChangeShapes Go.WideShapes Go.ChangeAt Go.RowKit

theorem u64_id {x : Int} (h : Alu.U32 x) : IntKind.u64.wrap x = x := by
  rw [IntKind.wrap_u64]; unfold Alu.U32 at h; omega
theorem hi_form {h l : Int} (hh : Alu.U32 h) (hl : Alu.U32 l) : bits .or .u64 (IntKind.u64.wrap (IntKind.u64.wrap h * 4294967296)) (IntKind.u64.wrap l) = h * 4294967296 + l := by
  rw [u64_id hh, u64_id hl, IntKind.wrap_u64, Alu.join64 hh hl]

set_option maxHeartbeats 1000000 in
theorem AluHighs_w (a b : Int) (ha : Alu.U32 a) (hb : Alu.U32 b) (w : World) :
    Calls Try.prog 8 #[.int .u32 a, .int .u32 b] w fun e w' => e = .returned (.bool true) ∧ Grown w w' := by
  obtain ⟨a0, a1⟩ := id ha
  obtain ⟨b0, b1⟩ := id hb
  have m10 := Alu.val_U32 10 ha hb
  have e1 : (bits .or .u64 (IntKind.u64.wrap (IntKind.u64.wrap (Alu.val 13 a b) * 4294967296)) (IntKind.u64.wrap (Alu.val 10 a b)) == IntKind.u64.wrap (a * b)) = true := by
    rw [hi_form (Alu.val_U32 13 ha hb) m10, Alu.whole13, u64_uu ha hb]; simp
  have e2 : (bits .or .u64 (IntKind.u64.wrap (IntKind.u64.wrap (Alu.val 11 a b) * 4294967296)) (IntKind.u64.wrap (Alu.val 10 a b)) == IntKind.u64.wrap (wrap64 (wrap64 (wrap32 a) * wrap64 (wrap32 b)))) = true := by
    rw [hi_form (Alu.val_U32 11 ha hb) m10, Alu.whole11 ha hb, wrap32_s32 ha, wrap32_s32 hb, wrap64_s32 ha, wrap64_s32 hb, w64_ss ha hb, IntKind.wrap_u64]; simp
  have e3 : (bits .or .u64 (IntKind.u64.wrap (IntKind.u64.wrap (Alu.val 12 a b) * 4294967296)) (IntKind.u64.wrap (Alu.val 10 a b)) == IntKind.u64.wrap (wrap64 (wrap64 (wrap32 a) * b))) = true := by
    rw [hi_form (Alu.val_U32 12 ha hb) m10, Alu.whole12 ha, wrap32_s32 ha, wrap64_s32 ha, w64_su ha hb, IntKind.wrap_u64]; simp
  go_enter Try.func8, Try.ntmps8
  go_wp2_with (first
    | (go_at_call 13; refine (awake_c _).mono ?_; rintro e w' ⟨rfl, rfl⟩)
    | (go_at_call 16; refine (do_c _ _ _ (by repeat' (first | assumption | exact Alu.neg_U | refine Alu.val_U32 _ ?_ ?_ | exact Alu.mk (by omega) (by omega))) (by repeat' (first | assumption | exact Alu.neg_U | refine Alu.val_U32 _ ?_ ?_ | exact Alu.mk (by omega) (by omega))) _).mono ?_; rintro e w' ⟨rfl, rfl⟩))
  go_ret
  exact ⟨rfl, Grown.refl _⟩

set_option maxHeartbeats 1000000 in
theorem AluShifts_w (a n : Int) (ha : Alu.U32 a) (hn : Alu.U32 n) (w : World) :
    Calls Try.prog 9 #[.int .u32 a, .int .u32 n] w fun e w' => e = .returned (.bool true) ∧ Grown w w' := by
  obtain ⟨a0, a1⟩ := id ha
  obtain ⟨n0, n1⟩ := id hn
  by_cases hb : 31 < n
  · go_enter Try.func9, Try.ntmps9
    go_wp2_with (first
      | (go_at_call 13; refine (awake_c _).mono ?_; rintro e w' ⟨rfl, rfl⟩)
      | (go_at_call 16; refine (do_c _ _ _ (by repeat' (first | assumption | exact Alu.neg_U | refine Alu.val_U32 _ ?_ ?_ | exact Alu.mk (by omega) (by omega))) (by repeat' (first | assumption | exact Alu.neg_U | refine Alu.val_U32 _ ?_ ?_ | exact Alu.mk (by omega) (by omega))) _).mono ?_; rintro e w' ⟨rfl, rfl⟩))
    go_ret
    exact ⟨rfl, Grown.refl _⟩
  · have hp : Alu.U32 (Alu.pw n) := Alu.mk (by have := Alu.pw_pos n; omega) (by have := Alu.pw_bd n; omega)
    have e1 := Alu.one_up n
    have hz : (Alu.pw n == 0) = false := by have := Alu.pw_pos n; simp; omega
    have e2 : (Alu.val 2 a n == Alu.val 10 a (Alu.pw n)) = true := by rw [Alu.up_mul]; simp
    have e3 : (Alu.val 6 a n == Alu.val 15 a (Alu.pw n)) = true := by rw [Alu.down_div]; simp
    have e4 := Alu.sign_kept n ha
    by_cases hs : 2147483648 ≤ a
    · have e5 : (a / 2147483648 == 1) = true := by simp; omega
      go_enter Try.func9, Try.ntmps9
      go_wp2_with (first
        | (go_at_call 13; refine (awake_c _).mono ?_; rintro e w' ⟨rfl, rfl⟩)
        | (go_at_call 16; refine (do_c _ _ _ (by repeat' (first | assumption | exact Alu.neg_U | refine Alu.val_U32 _ ?_ ?_ | exact Alu.mk (by omega) (by omega))) (by repeat' (first | assumption | exact Alu.neg_U | refine Alu.val_U32 _ ?_ ?_ | exact Alu.mk (by omega) (by omega))) _).mono ?_; rintro e w' ⟨rfl, rfl⟩))
      go_ret
      exact ⟨rfl, Grown.refl _⟩
    · have e5 : (a / 2147483648 == 1) = false := by simp; omega
      have e6 : (Alu.val 7 a n == Alu.val 6 a n) = true := by rw [Alu.plain_down n ha (by omega)]; simp
      go_enter Try.func9, Try.ntmps9
      go_wp2_with (first
        | (go_at_call 13; refine (awake_c _).mono ?_; rintro e w' ⟨rfl, rfl⟩)
        | (go_at_call 16; refine (do_c _ _ _ (by repeat' (first | assumption | exact Alu.neg_U | refine Alu.val_U32 _ ?_ ?_ | exact Alu.mk (by omega) (by omega))) (by repeat' (first | assumption | exact Alu.neg_U | refine Alu.val_U32 _ ?_ ?_ | exact Alu.mk (by omega) (by omega))) _).mono ?_; rintro e w' ⟨rfl, rfl⟩))
      go_ret
      exact ⟨rfl, Grown.refl _⟩

set_option maxHeartbeats 1000000 in
theorem AluNegs_w (a b : Int) (ha : Alu.U32 a) (hb : Alu.U32 b) (w : World) :
    Calls Try.prog 11 #[.int .u32 a, .int .u32 b] w fun e w' => e = .returned (.bool true) ∧ Grown w w' := by
  obtain ⟨a0, a1⟩ := id ha
  obtain ⟨b0, b1⟩ := id hb
  have e1 := Alu.neg_add a
  by_cases h1 : b = 0
  · have c1 : (b == 0) = true := by simpa using h1
    clear h1
    go_enter Try.func11, Try.ntmps11
    go_wp2_with (first
      | (go_at_call 13; refine (awake_c _).mono ?_; rintro e w' ⟨rfl, rfl⟩)
      | (go_at_call 16; refine (do_c _ _ _ (by repeat' (first | assumption | exact Alu.neg_U | refine Alu.val_U32 _ ?_ ?_ | exact Alu.mk (by omega) (by omega))) (by repeat' (first | assumption | exact Alu.neg_U | refine Alu.val_U32 _ ?_ ?_ | exact Alu.mk (by omega) (by omega))) _).mono ?_; rintro e w' ⟨rfl, rfl⟩))
    go_ret
    exact ⟨rfl, Grown.refl _⟩
  · have c1 : (b == 0) = false := by simpa using h1
    by_cases h2 : a = 2147483648
    · have c2 : (a == 2147483648) = true := by simpa using h2
      clear h2
      go_enter Try.func11, Try.ntmps11
      go_wp2_with (first
        | (go_at_call 13; refine (awake_c _).mono ?_; rintro e w' ⟨rfl, rfl⟩)
        | (go_at_call 16; refine (do_c _ _ _ (by repeat' (first | assumption | exact Alu.neg_U | refine Alu.val_U32 _ ?_ ?_ | exact Alu.mk (by omega) (by omega))) (by repeat' (first | assumption | exact Alu.neg_U | refine Alu.val_U32 _ ?_ ?_ | exact Alu.mk (by omega) (by omega))) _).mono ?_; rintro e w' ⟨rfl, rfl⟩))
      go_ret
      exact ⟨rfl, Grown.refl _⟩
    · have c2 : (a == 2147483648) = false := by simpa using h2
      by_cases h3 : b = 2147483648
      · have c3 : (b == 2147483648) = true := by simpa using h3
        clear h3
        go_enter Try.func11, Try.ntmps11
        go_wp2_with (first
          | (go_at_call 13; refine (awake_c _).mono ?_; rintro e w' ⟨rfl, rfl⟩)
          | (go_at_call 16; refine (do_c _ _ _ (by repeat' (first | assumption | exact Alu.neg_U | refine Alu.val_U32 _ ?_ ?_ | exact Alu.mk (by omega) (by omega))) (by repeat' (first | assumption | exact Alu.neg_U | refine Alu.val_U32 _ ?_ ?_ | exact Alu.mk (by omega) (by omega))) _).mono ?_; rintro e w' ⟨rfl, rfl⟩))
        go_ret
        exact ⟨rfl, Grown.refl _⟩
      · have c3 : (b == 2147483648) = false := by simpa using h3
        have g1 := Alu.neg_div_l (b := b) ha h2 h1
        have g2 := Alu.neg_div_r (a := a) hb h3 h1
        have g3 := Alu.neg_rem_r (a := a) hb h3 h1
        have g4 := Alu.neg_rem_l (b := b) ha h2 h1
        go_enter Try.func11, Try.ntmps11
        go_wp2_with (first
          | (go_at_call 13; refine (awake_c _).mono ?_; rintro e w' ⟨rfl, rfl⟩)
          | (go_at_call 16; refine (do_c _ _ _ (by repeat' (first | assumption | exact Alu.neg_U | refine Alu.val_U32 _ ?_ ?_ | exact Alu.mk (by omega) (by omega))) (by repeat' (first | assumption | exact Alu.neg_U | refine Alu.val_U32 _ ?_ ?_ | exact Alu.mk (by omega) (by omega))) _).mono ?_; rintro e w' ⟨rfl, rfl⟩))
        go_ret
        exact ⟨rfl, Grown.refl _⟩

set_option maxHeartbeats 1000000 in
theorem AluSpreads_w (v : Int) (hv : Alu.U32 v) (w : World) :
    Calls Try.prog 12 #[.int .u32 v] w fun e w' => e = .returned (.bool true) ∧ Grown w w' := by
  have e1 := Alu.ext8_8 v
  have e2 := Alu.ext16_16 v
  have e3 := Alu.ext8_16 v
  have e4 : bits .and .u32 (Alu.ext v 8) 255 = v % 256 := by rw [and255 (Alu.ext_U32 8 hv), Alu.ext8_low]
  have e5 : bits .and .u32 (Alu.ext v 16) 65535 = v % 65536 := by rw [and65535 (Alu.ext_U32 16 hv), Alu.ext16_low]
  have m8 := and255 hv
  have m16 := and65535 hv
  have o8 := Alu.or_high hv
  by_cases hs : v % 256 < 128
  · have c : (Alu.ext v 8 == v % 256) = true := by rw [Alu.ext8, if_pos hs]; simp
    go_enter Try.func12, Try.ntmps12
    go_wp2_with (first
      | (go_at_call 13; refine (awake_c _).mono ?_; rintro e w' ⟨rfl, rfl⟩)
      | (go_at_call 17; refine (Extend_c _ _ (by first | assumption | exact Alu.ext_U32 _ hv) _).mono ?_; rintro e w' ⟨rfl, rfl⟩))
    go_ret
    exact ⟨rfl, Grown.refl _⟩
  · have c : (Alu.ext v 8 == v % 256) = false := by rw [Alu.ext8, if_neg hs]; simp; omega
    have d : (Alu.ext v 8 == v % 256 + 4294967040) = true := by rw [Alu.ext8, if_neg hs]; simp
    go_enter Try.func12, Try.ntmps12
    go_wp2_with (first
      | (go_at_call 13; refine (awake_c _).mono ?_; rintro e w' ⟨rfl, rfl⟩)
      | (go_at_call 17; refine (Extend_c _ _ (by first | assumption | exact Alu.ext_U32 _ hv) _).mono ?_; rintro e w' ⟨rfl, rfl⟩))
    go_ret
    exact ⟨rfl, Grown.refl _⟩

theorem ord_sum (k : Int) (hk : k = 3 ∨ k = 4) {a b : Int} (ha : Alu.U32 a) (hb : Alu.U32 b) :
    ¬ 1 < (Alu.val k a b + Alu.val k b a) % 4294967296 ∧ ((Alu.val k a b + Alu.val k b a) % 4294967296 == 0) = (a == b) := by
  rw [dec_eq, dec_eq]
  rcases hk with rfl | rfl
  · rw [Alu.val_3, Alu.val_3]
    have hs : Alu.s32 a = Alu.s32 b ↔ a = b := ⟨fun h => by rw [← Alu.s32_mod ha, h, Alu.s32_mod hb], fun h => by rw [h]⟩
    unfold Alu.num
    simp only [decide_eq_true_eq]
    refine ⟨by split <;> split <;> omega, ?_⟩
    rw [decide_eq_decide, ← hs]
    split <;> split <;> omega
  · rw [Alu.val_4, Alu.val_4]
    unfold Alu.num
    simp only [decide_eq_true_eq]
    refine ⟨by split <;> split <;> omega, ?_⟩
    rw [decide_eq_decide]
    split <;> split <;> omega

theorem tst_facts (a b : Int) : Alu.tst 5 a b = !Alu.tst 4 a b ∧ Alu.tst 7 a b = !Alu.tst 6 a b ∧ (Alu.val 3 a b == 1) = Alu.tst 4 a b ∧ (Alu.val 4 a b == 1) = Alu.tst 6 a b := by
  have h4 : Alu.tst 4 a b = decide (Alu.s32 a < Alu.s32 b) := by simp [Alu.tst]
  have h5 : Alu.tst 5 a b = decide (Alu.s32 b ≤ Alu.s32 a) := by simp [Alu.tst]
  have h6 : Alu.tst 6 a b = decide (a < b) := by simp [Alu.tst]
  have h7 : Alu.tst 7 a b = decide (b ≤ a) := by simp [Alu.tst]
  rw [h4, h5, h6, h7, Alu.val_3, Alu.val_4]
  unfold Alu.num
  refine ⟨?_, ?_, ?_, ?_⟩
  · rw [← decide_not, decide_eq_decide]; omega
  · rw [← decide_not, decide_eq_decide]; omega
  · by_cases h : Alu.s32 a < Alu.s32 b <;> simp [h]
  · by_cases h : a < b <;> simp [h]

set_option maxHeartbeats 2000000 in
theorem AluOrders_w (a b : Int) (ha : Alu.U32 a) (hb : Alu.U32 b) (w : World) :
    Calls Try.prog 10 #[.int .u32 a, .int .u32 b] w fun e w' => e = .returned (.bool true) ∧ Grown w w' := by
  obtain ⟨p1, p2⟩ := ord_sum 3 (by omega) ha hb
  obtain ⟨p3, p4⟩ := ord_sum 4 (by omega) ha hb
  have q1 : decide (1 < (Alu.val 3 a b + Alu.val 3 b a) % 4294967296) = false := by simpa using p1
  have q3 : decide (1 < (Alu.val 4 a b + Alu.val 4 b a) % 4294967296) = false := by simpa using p3
  obtain ⟨f1, f2, f3, f4⟩ := tst_facts a b
  cases t4 : Alu.tst 4 a b <;> cases t6 : Alu.tst 6 a b <;> rw [t4] at f1 f3 <;> rw [t6] at f2 f4
  all_goals
    go_enter Try.func10, Try.ntmps10
    go_wp2_with (first
      | (go_at_call 13; refine (awake_c _).mono ?_; rintro e w' ⟨rfl, rfl⟩)
      | (go_at_call 15; refine (Test_c _ _ _ ha hb _).mono ?_; rintro e w' ⟨rfl, rfl⟩)
      | (go_at_call 16; refine (do_c _ _ _ (by assumption) (by assumption) _).mono ?_; rintro e w' ⟨rfl, rfl⟩))
    refine wp_loop_rounds 3 ?_
    rw [rounds_succ]
    go_wp2_with (first
      | (go_at_call 13; refine (awake_c _).mono ?_; rintro e w' ⟨rfl, rfl⟩)
      | (go_at_call 15; refine (Test_c _ _ _ ha hb _).mono ?_; rintro e w' ⟨rfl, rfl⟩)
      | (go_at_call 16; refine (do_c _ _ _ (by assumption) (by assumption) _).mono ?_; rintro e w' ⟨rfl, rfl⟩))
    rw [rounds_succ]
    go_wp2_with (first
      | (go_at_call 13; refine (awake_c _).mono ?_; rintro e w' ⟨rfl, rfl⟩)
      | (go_at_call 15; refine (Test_c _ _ _ ha hb _).mono ?_; rintro e w' ⟨rfl, rfl⟩)
      | (go_at_call 16; refine (do_c _ _ _ (by assumption) (by assumption) _).mono ?_; rintro e w' ⟨rfl, rfl⟩))
    rw [rounds_succ]
    go_wp2_with (first
      | (go_at_call 13; refine (awake_c _).mono ?_; rintro e w' ⟨rfl, rfl⟩)
      | (go_at_call 15; refine (Test_c _ _ _ ha hb _).mono ?_; rintro e w' ⟨rfl, rfl⟩)
      | (go_at_call 16; refine (do_c _ _ _ (by assumption) (by assumption) _).mono ?_; rintro e w' ⟨rfl, rfl⟩))
    go_ret
    exact ⟨rfl, Grown.refl _⟩

end Go.Proofs.Ytgbdiijnjphmaaa
