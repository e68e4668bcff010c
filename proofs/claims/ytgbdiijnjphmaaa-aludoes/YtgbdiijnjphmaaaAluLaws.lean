/- THE WALKS OF LAYER 1's LAWS: each returns true, and the world has at most new blocks. -/
import Derived.Test.YtgbdiijnjphmaaaAluRef2
import Derived.Test.YtgbdiijnjphmaaaAluMath
namespace Go.Proofs.Ytgbdiijnjphmaaa
open Go.ChangeShapes Go.WideShapes Go.ChangeAt Go.RowKit

theorem u32_of {a : Int} (h : (Lit.int .u32 a).wf = true) : Alu.U32 a := by
  have := bounds_u32 h; exact ⟨by omega, by omega⟩

set_option maxRecDepth 100000 in
set_option maxHeartbeats 1000000 in
theorem AluKnown_w (w : World) :
    Calls Try.prog 3 #[] w fun e w' => e = .returned (.bool true) ∧ Grown w w' := by
  have e1 : Alu.err (-1) = 1 := by decide
  have e2 : Alu.terr 2 = 1 := by decide
  have e3 : Alu.tst 4 4294967295 0 = true := by decide
  have e4 : Alu.terr 4 = 0 := by decide
  have e5 : Alu.tst 6 4294967295 0 = false := by decide
  have e6 : Alu.terr 6 = 0 := by decide
  have e7 : Alu.val 14 2147483648 4294967295 = 2147483648 := by decide
  have e8 : Alu.val 16 2147483648 4294967295 = 0 := by decide
  have e9 : Alu.val 17 9 0 = 9 := by decide
  have e10 : Alu.val 11 2147483648 2147483648 = 1073741824 := by decide
  have e11 : Alu.val 12 4294967295 4294967295 = 4294967295 := by decide
  have e12 : Alu.val 13 4294967295 4294967295 = 4294967294 := by decide
  have e13 : Alu.val 7 2147483648 31 = 4294967295 := by decide
  have e14 : Alu.val 2 1 32 = 1 := by decide
  have e15 : Alu.val 3 4294967295 0 = 1 := by decide
  have e16 : Alu.val 4 4294967295 0 = 0 := by decide
  have e17 : Alu.ext 32768 16 = 4294934528 := by decide
  have e18 : Alu.ext 300 9 = 300 := by decide
  go_enter Try.func3, Try.ntmps3
  go_wp2_with (first
    | (go_at_call 13; refine (awake_c _).mono ?_; rintro e w' ⟨rfl, rfl⟩)
    | (go_at_call 14; refine (Do_c _ _ _ (Alu.mk (by omega) (by omega)) (Alu.mk (by omega) (by omega)) _).mono ?_; rintro e w' ⟨rfl, rfl⟩)
    | (go_at_call 15; refine (Test_c _ _ _ (Alu.mk (by omega) (by omega)) (Alu.mk (by omega) (by omega)) _).mono ?_; rintro e w' ⟨rfl, rfl⟩)
    | (go_at_call 17; refine (Extend_c _ _ (Alu.mk (by omega) (by omega)) _).mono ?_; rintro e w' ⟨rfl, rfl⟩)
    | (go_at_call 16; refine (do_c _ _ _ (Alu.mk (by omega) (by omega)) (Alu.mk (by omega) (by omega)) _).mono ?_; rintro e w' ⟨rfl, rfl⟩))
  go_ret
  exact ⟨rfl, Grown.refl _⟩

set_option maxHeartbeats 1000000 in
theorem AluDoes_w (k a b : Int) (ha : Alu.U32 a) (hb : Alu.U32 b) (w : World) :
    Calls Try.prog 4 #[.int .i64 k, .int .u32 a, .int .u32 b] w fun e w' => e = .returned (.bool true) ∧ Grown w w' := by
  cases hk : Alu.known k
  · have he : Alu.err k = 1 := by unfold Alu.err; rw [hk]; rfl
    go_enter Try.func4, Try.ntmps4
    go_wp2_with (first
      | (go_at_call 13; refine (awake_c _).mono ?_; rintro e w' ⟨rfl, rfl⟩)
      | (go_at_call 14; refine (Do_c _ _ _ ha hb _).mono ?_; rintro e w' ⟨rfl, rfl⟩)
      | (go_at_call 18; refine (rDo_c _ _ _ ha hb _).mono ?_; rintro e w' ⟨rfl, rfl⟩))
    go_ret
    exact ⟨rfl, Grown.refl _⟩
  · have he : Alu.err k = 0 := by unfold Alu.err; rw [hk]; rfl
    go_enter Try.func4, Try.ntmps4
    go_wp2_with (first
      | (go_at_call 13; refine (awake_c _).mono ?_; rintro e w' ⟨rfl, rfl⟩)
      | (go_at_call 14; refine (Do_c _ _ _ ha hb _).mono ?_; rintro e w' ⟨rfl, rfl⟩)
      | (go_at_call 18; refine (rDo_c _ _ _ ha hb _).mono ?_; rintro e w' ⟨rfl, rfl⟩))
    go_ret
    exact ⟨rfl, Grown.refl _⟩

set_option maxHeartbeats 1000000 in
theorem AluTests_w (k a b bs : Int) (ha : Alu.U32 a) (hb : Alu.U32 b) (w : World) :
    Calls Try.prog 5 #[.int .i64 k, .int .u32 a, .int .u32 b, .int .i64 bs] w fun e w' => e = .returned (.bool true) ∧ Grown w w' := by
  cases hk : Alu.tknown k
  · have he : Alu.terr k = 1 := by unfold Alu.terr; rw [hk]; rfl
    go_enter Try.func5, Try.ntmps5
    go_wp2_with (first
      | (go_at_call 13; refine (awake_c _).mono ?_; rintro e w' ⟨rfl, rfl⟩)
      | (go_at_call 15; refine (Test_c _ _ _ ha hb _).mono ?_; rintro e w' ⟨rfl, rfl⟩)
      | (go_at_call 19; refine (rTest_c _ _ _ ha hb _).mono ?_; rintro e w' ⟨rfl, rfl⟩)
      | (go_at_call 17; refine (Extend_c _ _ ha _).mono ?_; rintro e w' ⟨rfl, rfl⟩)
      | (go_at_call 20; refine (rExtend_c _ _ ha _).mono ?_; rintro e w' ⟨rfl, rfl⟩))
    go_ret
    exact ⟨rfl, Grown.refl _⟩
  · have he : Alu.terr k = 0 := by unfold Alu.terr; rw [hk]; rfl
    go_enter Try.func5, Try.ntmps5
    go_wp2_with (first
      | (go_at_call 13; refine (awake_c _).mono ?_; rintro e w' ⟨rfl, rfl⟩)
      | (go_at_call 15; refine (Test_c _ _ _ ha hb _).mono ?_; rintro e w' ⟨rfl, rfl⟩)
      | (go_at_call 19; refine (rTest_c _ _ _ ha hb _).mono ?_; rintro e w' ⟨rfl, rfl⟩)
      | (go_at_call 17; refine (Extend_c _ _ ha _).mono ?_; rintro e w' ⟨rfl, rfl⟩)
      | (go_at_call 20; refine (rExtend_c _ _ ha _).mono ?_; rintro e w' ⟨rfl, rfl⟩))
    go_ret
    exact ⟨rfl, Grown.refl _⟩

set_option maxHeartbeats 1000000 in
theorem AluDivides_w (a b : Int) (ha : Alu.U32 a) (hb : Alu.U32 b) (w : World) :
    Calls Try.prog 6 #[.int .u32 a, .int .u32 b] w fun e w' => e = .returned (.bool true) ∧ Grown w w' := by
  have e1 := Alu.divU ha hb
  have e2 := Alu.divS ha hb
  by_cases h : b = 0
  · subst h
    go_enter Try.func6, Try.ntmps6
    go_wp2_with (first
      | (go_at_call 13; refine (awake_c _).mono ?_; rintro e w' ⟨rfl, rfl⟩)
      | (go_at_call 16; refine (do_c _ _ _ (by repeat' (first | assumption | refine Alu.val_U32 _ ?_ ?_)) (by repeat' (first | assumption | refine Alu.val_U32 _ ?_ ?_)) _).mono ?_; rintro e w' ⟨rfl, rfl⟩))
    go_ret
    exact ⟨rfl, Grown.refl _⟩
  · have hz : (b == 0) = false := by simpa using h
    have hl := Alu.remL (a := a) hb h
    go_enter Try.func6, Try.ntmps6
    go_wp2_with (first
      | (go_at_call 13; refine (awake_c _).mono ?_; rintro e w' ⟨rfl, rfl⟩)
      | (go_at_call 16; refine (do_c _ _ _ (by repeat' (first | assumption | refine Alu.val_U32 _ ?_ ?_)) (by repeat' (first | assumption | refine Alu.val_U32 _ ?_ ?_)) _).mono ?_; rintro e w' ⟨rfl, rfl⟩))
    go_ret
    exact ⟨rfl, Grown.refl _⟩

set_option maxHeartbeats 1000000 in
theorem AluTurns_w (a b : Int) (ha : Alu.U32 a) (hb : Alu.U32 b) (w : World) :
    Calls Try.prog 7 #[.int .u32 a, .int .u32 b] w fun e w' => e = .returned (.bool true) ∧ Grown w w' := by
  have e1 := Alu.add_sub b ha
  have e2 := Alu.xor_xor (b := b) ha
  have e3 := Alu.and_self ha
  have e4 := Alu.or_self ha
  have e5 := Alu.sub_self a
  have e6 : (Alu.val 0 a b == Alu.val 0 b a) = true := by rw [Alu.add_comm]; simp
  have e7 : (Alu.val 10 a b == Alu.val 10 b a) = true := by rw [Alu.mul_comm]; simp
  have e8 := Alu.or_and ha hb
  go_enter Try.func7, Try.ntmps7
  go_wp2_with (first
    | (go_at_call 13; refine (awake_c _).mono ?_; rintro e w' ⟨rfl, rfl⟩)
    | (go_at_call 16; refine (do_c _ _ _ (by repeat' (first | assumption | refine Alu.val_U32 _ ?_ ?_)) (by repeat' (first | assumption | refine Alu.val_U32 _ ?_ ?_)) _).mono ?_; rintro e w' ⟨rfl, rfl⟩))
  go_ret
  exact ⟨rfl, Grown.refl _⟩

end Go.Proofs.Ytgbdiijnjphmaaa
