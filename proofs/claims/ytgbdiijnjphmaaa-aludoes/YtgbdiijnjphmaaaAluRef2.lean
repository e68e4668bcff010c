/- THE WALKS OF THE DOCUMENT's OWN ANSWER FOR LAYER 1, its three entry points. -/
import Derived.Test.YtgbdiijnjphmaaaAluRef
namespace Go.Proofs.Ytgbdiijnjphmaaa
open Go.ChangeShapes Go.WideShapes Go.ChangeAt Go.RowKit

theorem ret_ib {k : IntKind} {a b : Int} {c d : Bool} (h : a = b) (h2 : c = d) : Ending.returned (.tuple #[.int k a, .bool c]) = .returned (.tuple #[.int k b, .bool d]) := by rw [h, h2]
theorem ret_bb {a b : Bool} {c d : Bool} (h : a = b) (h2 : c = d) : Ending.returned (.tuple #[.bool a, .bool c]) = .returned (.tuple #[.bool b, .bool d]) := by rw [h, h2]

theorem g3 (a b : Int) : (if Alu.s32 a < Alu.s32 b then (1 : Int) else 0) = Alu.val 3 a b := by rw [Alu.val_3]; simp [Alu.num]
theorem g4 (a b : Int) : (if a < b then (1 : Int) else 0) = Alu.val 4 a b := by rw [Alu.val_4]; simp [Alu.num]

set_option maxHeartbeats 2000000 in
theorem rDo_c (k a b : Int) (ha : Alu.U32 a) (hb : Alu.U32 b) (w : World) :
    Calls Try.prog 18 #[.int .i64 k, .int .u32 a, .int .u32 b] w fun e w' => e = .returned (.tuple #[.int .u32 (Alu.val k a b), .bool (Alu.known k)]) ∧ w' = w := by
  obtain ⟨a0, a1⟩ := id ha
  obtain ⟨b0, b1⟩ := id hb
  have hm0 : 0 ≤ b % 32 := by omega
  have hm1 : b % 32 < 32 := by omega
  have h31 := and31 hb
  rcases Alu.kinds k with h | rfl | rfl | rfl | rfl | rfl | rfl | rfl | rfl | rfl | rfl | rfl | rfl | rfl | rfl | rfl | rfl | rfl | rfl
  · have f : ∀ j : Int, 0 ≤ j → j ≤ 17 → (k == j) = false := fun j _ _ => by simp; omega
    have f0 := f 0 (by omega) (by omega)
    have f1 := f 1 (by omega) (by omega)
    have f2 := f 2 (by omega) (by omega)
    have f3 := f 3 (by omega) (by omega)
    have f4 := f 4 (by omega) (by omega)
    have f5 := f 5 (by omega) (by omega)
    have f6 := f 6 (by omega) (by omega)
    have f7 := f 7 (by omega) (by omega)
    have f8 := f 8 (by omega) (by omega)
    have f9 := f 9 (by omega) (by omega)
    have f10 := f 10 (by omega) (by omega)
    have f11 := f 11 (by omega) (by omega)
    have f12 := f 12 (by omega) (by omega)
    have f13 := f 13 (by omega) (by omega)
    have f14 := f 14 (by omega) (by omega)
    have f15 := f 15 (by omega) (by omega)
    have f16 := f 16 (by omega) (by omega)
    have f17 := f 17 (by omega) (by omega)
    clear f
    go_enter Try.func18, Try.ntmps18
    go_wp2
    go_ret2
    exact ⟨ret_ib (Alu.val_other k a b h).symm (by simp [Alu.known]; omega), rfl⟩
  · go_enter Try.func18, Try.ntmps18
    go_wp2
    go_ret2
    exact ⟨ret_ib ((Alu.val_0 a b).symm) (by decide), rfl⟩
  · go_enter Try.func18, Try.ntmps18
    go_wp2
    go_ret2
    exact ⟨ret_ib ((Alu.val_1 a b).symm) (by decide), rfl⟩
  · go_enter Try.func18, Try.ntmps18
    go_wp2_with (go_at_call 29; refine (shift2_c _ _ ha (by omega) (by omega) _).mono ?_; rintro e w' ⟨rfl, rfl⟩)
    go_ret2
    exact ⟨ret_ib (Alu.val_2 a b).symm (by decide), rfl⟩
  · by_cases hc : Alu.s32 a < Alu.s32 b
    · have E : Hid (Alu.val 3 a b = 1) := (g3 a b).symm.trans (if_pos hc)
      have hd : decide (Alu.s32 a < Alu.s32 b) = true := by simpa using hc
      go_enter Try.func18, Try.ntmps18
      go_wp2_with (first
        | (go_at_call 30; refine (wide_c _ (by assumption) _).mono ?_; rintro e w' ⟨rfl, rfl⟩)
        | (go_at_call 31; refine (rhigh_c _ _ _ (by omega) (by assumption) (by assumption) _).mono ?_; rintro e w' ⟨rfl, rfl⟩))
      go_ret2
      exact ⟨ret_ib E.out.symm (by decide), rfl⟩
    · have E : Hid (Alu.val 3 a b = 0) := (g3 a b).symm.trans (if_neg hc)
      have hd : decide (Alu.s32 a < Alu.s32 b) = false := by simpa using hc
      go_enter Try.func18, Try.ntmps18
      go_wp2_with (first
        | (go_at_call 30; refine (wide_c _ (by assumption) _).mono ?_; rintro e w' ⟨rfl, rfl⟩)
        | (go_at_call 31; refine (rhigh_c _ _ _ (by omega) (by assumption) (by assumption) _).mono ?_; rintro e w' ⟨rfl, rfl⟩))
      go_ret2
      exact ⟨ret_ib E.out.symm (by decide), rfl⟩
  · by_cases hc : a < b
    · have E : Hid (Alu.val 4 a b = 1) := (g4 a b).symm.trans (if_pos hc)
      have hd : decide (a < b) = true := by simpa using hc
      go_enter Try.func18, Try.ntmps18
      go_wp2_with (first
        | (go_at_call 30; refine (wide_c _ (by assumption) _).mono ?_; rintro e w' ⟨rfl, rfl⟩)
        | (go_at_call 31; refine (rhigh_c _ _ _ (by omega) (by assumption) (by assumption) _).mono ?_; rintro e w' ⟨rfl, rfl⟩))
      go_ret2
      exact ⟨ret_ib E.out.symm (by decide), rfl⟩
    · have E : Hid (Alu.val 4 a b = 0) := (g4 a b).symm.trans (if_neg hc)
      have hd : decide (a < b) = false := by simpa using hc
      go_enter Try.func18, Try.ntmps18
      go_wp2_with (first
        | (go_at_call 30; refine (wide_c _ (by assumption) _).mono ?_; rintro e w' ⟨rfl, rfl⟩)
        | (go_at_call 31; refine (rhigh_c _ _ _ (by omega) (by assumption) (by assumption) _).mono ?_; rintro e w' ⟨rfl, rfl⟩))
      go_ret2
      exact ⟨ret_ib E.out.symm (by decide), rfl⟩
  · go_enter Try.func18, Try.ntmps18
    go_wp2
    go_ret2
    exact ⟨ret_ib (f5 ha hb) (by decide), rfl⟩
  · go_enter Try.func18, Try.ntmps18
    go_wp2_with (go_at_call 29; refine (shift6_c _ _ ha (by omega) (by omega) _).mono ?_; rintro e w' ⟨rfl, rfl⟩)
    go_ret2
    exact ⟨ret_ib (Alu.val_6 a b).symm (by decide), rfl⟩
  · go_enter Try.func18, Try.ntmps18
    go_wp2_with (go_at_call 29; refine (shift7_c _ _ ha (by omega) (by omega) _).mono ?_; rintro e w' ⟨rfl, rfl⟩)
    go_ret2
    exact ⟨ret_ib (Alu.val_7 a b).symm (by decide), rfl⟩
  · go_enter Try.func18, Try.ntmps18
    go_wp2
    go_ret2
    exact ⟨ret_ib (f8 ha hb) (by decide), rfl⟩
  · go_enter Try.func18, Try.ntmps18
    go_wp2
    go_ret2
    exact ⟨ret_ib (f9 ha hb) (by decide), rfl⟩
  · go_enter Try.func18, Try.ntmps18
    go_wp2
    go_ret2
    exact ⟨ret_ib ((Alu.val_10 a b).symm) (by decide), rfl⟩
  · go_enter Try.func18, Try.ntmps18
    go_wp2_with (first
      | (go_at_call 30; refine (wide_c _ (by assumption) _).mono ?_; rintro e w' ⟨rfl, rfl⟩)
      | (go_at_call 31; refine (rhigh_c _ _ _ (by omega) (by assumption) (by assumption) _).mono ?_; rintro e w' ⟨rfl, rfl⟩))
    go_ret2
    exact ⟨ret_ib rfl (by decide), rfl⟩
  · go_enter Try.func18, Try.ntmps18
    go_wp2_with (first
      | (go_at_call 30; refine (wide_c _ (by assumption) _).mono ?_; rintro e w' ⟨rfl, rfl⟩)
      | (go_at_call 31; refine (rhigh_c _ _ _ (by omega) (by assumption) (by assumption) _).mono ?_; rintro e w' ⟨rfl, rfl⟩))
    go_ret2
    exact ⟨ret_ib rfl (by decide), rfl⟩
  · go_enter Try.func18, Try.ntmps18
    go_wp2_with (first
      | (go_at_call 30; refine (wide_c _ (by assumption) _).mono ?_; rintro e w' ⟨rfl, rfl⟩)
      | (go_at_call 31; refine (rhigh_c _ _ _ (by omega) (by assumption) (by assumption) _).mono ?_; rintro e w' ⟨rfl, rfl⟩))
    go_ret2
    exact ⟨ret_ib rfl (by decide), rfl⟩
  · by_cases h : b = 0
    · subst h
      go_enter Try.func18, Try.ntmps18
      go_wp2
      go_ret2
      exact ⟨ret_ib (by rw [Alu.val_14, if_pos rfl]) (by decide), rfl⟩
    · have hz : (b == 0) = false := by simpa using h
      have hs : ¬ Alu.s32 b = 0 := by simpa [Alu.s32_zero hb] using h
      go_enter Try.func18, Try.ntmps18
      go_wp2_with (first
        | (go_at_call 30; refine (wide_c _ (by assumption) _).mono ?_; rintro e w' ⟨rfl, rfl⟩)
        | (go_at_call 31; refine (rhigh_c _ _ _ (by omega) (by assumption) (by assumption) _).mono ?_; rintro e w' ⟨rfl, rfl⟩))
      go_ret2
      exact ⟨ret_ib (by rw [Alu.val_14, if_neg h, wrap64_tdiv ha]) (by decide), rfl⟩
  · by_cases h : b = 0
    · subst h
      go_enter Try.func18, Try.ntmps18
      go_wp2
      go_ret2
      exact ⟨ret_ib (by rw [Alu.val_15, if_pos rfl]) (by decide), rfl⟩
    · have hz : (b == 0) = false := by simpa using h
      have hs : ¬ Alu.s32 b = 0 := by simpa [Alu.s32_zero hb] using h
      go_enter Try.func18, Try.ntmps18
      go_wp2_with (first
        | (go_at_call 30; refine (wide_c _ (by assumption) _).mono ?_; rintro e w' ⟨rfl, rfl⟩)
        | (go_at_call 31; refine (rhigh_c _ _ _ (by omega) (by assumption) (by assumption) _).mono ?_; rintro e w' ⟨rfl, rfl⟩))
      go_ret2
      exact ⟨ret_ib (by rw [Alu.val_15, if_neg h]) (by decide), rfl⟩
  · by_cases h : b = 0
    · subst h
      go_enter Try.func18, Try.ntmps18
      go_wp2
      go_ret2
      exact ⟨ret_ib (by rw [Alu.val_16, if_pos rfl]) (by decide), rfl⟩
    · have hz : (b == 0) = false := by simpa using h
      have hs : ¬ Alu.s32 b = 0 := by simpa [Alu.s32_zero hb] using h
      go_enter Try.func18, Try.ntmps18
      go_wp2_with (first
        | (go_at_call 30; refine (wide_c _ (by assumption) _).mono ?_; rintro e w' ⟨rfl, rfl⟩)
        | (go_at_call 31; refine (rhigh_c _ _ _ (by omega) (by assumption) (by assumption) _).mono ?_; rintro e w' ⟨rfl, rfl⟩))
      go_ret2
      exact ⟨ret_ib (by rw [Alu.val_16, if_neg h]) (by decide), rfl⟩
  · by_cases h : b = 0
    · subst h
      go_enter Try.func18, Try.ntmps18
      go_wp2
      go_ret2
      exact ⟨ret_ib (by rw [Alu.val_17, if_pos rfl]) (by decide), rfl⟩
    · have hz : (b == 0) = false := by simpa using h
      have hs : ¬ Alu.s32 b = 0 := by simpa [Alu.s32_zero hb] using h
      go_enter Try.func18, Try.ntmps18
      go_wp2_with (first
        | (go_at_call 30; refine (wide_c _ (by assumption) _).mono ?_; rintro e w' ⟨rfl, rfl⟩)
        | (go_at_call 31; refine (rhigh_c _ _ _ (by omega) (by assumption) (by assumption) _).mono ?_; rintro e w' ⟨rfl, rfl⟩))
      go_ret2
      exact ⟨ret_ib (by rw [Alu.val_17, if_neg h]) (by decide), rfl⟩

set_option maxHeartbeats 1000000 in
theorem rTest_c (k a b : Int) (ha : Alu.U32 a) (hb : Alu.U32 b) (w : World) :
    Calls Try.prog 19 #[.int .i64 k, .int .u32 a, .int .u32 b] w fun e w' => e = .returned (.tuple #[.bool (Alu.tst k a b), .bool (Alu.tknown k)]) ∧ w' = w := by
  rcases Alu.tkinds k with h | rfl | rfl | rfl | rfl | rfl | rfl
  · have f : ∀ j : Int, j = 0 ∨ j = 1 ∨ 4 ≤ j ∧ j ≤ 7 → (k == j) = false := fun j _ => by simp; omega
    have f0 := f 0 (by omega)
    have f1 := f 1 (by omega)
    have f4 := f 4 (by omega)
    have f5 := f 5 (by omega)
    have f6 := f 6 (by omega)
    have f7 := f 7 (by omega)
    clear f
    have E1 : Hid (Alu.tst k a b = false) := by
      show _ = _
      unfold Alu.tst
      repeat rw [if_neg (by omega)]
    have E2 : Hid (Alu.tknown k = false) := by
      show _ = _
      unfold Alu.tknown; simp; omega
    go_enter Try.func19, Try.ntmps19
    go_wp2
    go_ret2
    exact ⟨ret_bb E1.out.symm E2.out.symm, rfl⟩
  all_goals
    go_enter Try.func19, Try.ntmps19
    go_wp2_with (go_at_call 30; refine (wide_c _ (by assumption) _).mono ?_; rintro e w' ⟨rfl, rfl⟩)
    go_ret2
    refine ⟨ret_bb (b := Alu.tst _ _ _) ?_ (by decide), rfl⟩
    simp [Alu.tst, dec_eq, dec_ne]

theorem and255 {b : Int} (h : Alu.U32 b) : bits .and .u32 b 255 = b % 256 := by
  obtain ⟨h0, h1⟩ := h
  rw [u32_and b 255 h0 h1 (by omega) (by omega)]
  have : b.toNat &&& (255 : Int).toNat = b.toNat % 2 ^ 8 := Nat.and_two_pow_sub_one_eq_mod _ 8
  rw [this]; omega
theorem and65535 {b : Int} (h : Alu.U32 b) : bits .and .u32 b 65535 = b % 65536 := by
  obtain ⟨h0, h1⟩ := h
  rw [u32_and b 65535 h0 h1 (by omega) (by omega)]
  have : b.toNat &&& (65535 : Int).toNat = b.toNat % 2 ^ 16 := Nat.and_two_pow_sub_one_eq_mod _ 16
  rw [this]; omega
theorem or8 {x : Int} (h0 : 0 ≤ x) (h1 : x < 256) : bits .or .u32 x 4294967040 = x + 4294967040 := by
  rw [u32_or x 4294967040 h0 (by omega) (by omega) (by omega), Nat.or_comm, nat_join 8 _ _ (by decide) (by omega)]; omega
theorem or16 {x : Int} (h0 : 0 ≤ x) (h1 : x < 65536) : bits .or .u32 x 4294901760 = x + 4294901760 := by
  rw [u32_or x 4294901760 h0 (by omega) (by omega) (by omega), Nat.or_comm, nat_join 16 _ _ (by decide) (by omega)]; omega

set_option maxHeartbeats 400000 in
theorem rExtend_c (v bs : Int) (hv : Alu.U32 v) (w : World) :
    Calls Try.prog 20 #[.int .u32 v, .int .i64 bs] w fun e w' => e = .returned (.int .u32 (Alu.ext v bs)) ∧ w' = w := by
  obtain ⟨h0, h1⟩ := id hv
  have m8 := and255 hv
  have m16 := and65535 hv
  by_cases h8 : bs = 8
  · subst h8
    have o8 := or8 (x := v % 256) (by omega) (by omega)
    by_cases hs : 128 ≤ v % 256
    · have E : Hid (Alu.ext v 8 = v % 256 + 4294967040) := by show _ = _; unfold Alu.ext; rw [if_pos rfl, if_neg (by omega)]
      go_enter Try.func20, Try.ntmps20
      go_wp2
      go_ret
      exact ⟨ret_int E.out.symm, rfl⟩
    · have E : Hid (Alu.ext v 8 = v % 256) := by show _ = _; unfold Alu.ext; rw [if_pos rfl, if_pos (by omega)]
      go_enter Try.func20, Try.ntmps20
      go_wp2
      go_ret
      exact ⟨ret_int E.out.symm, rfl⟩
  · by_cases h16 : bs = 16
    · subst h16
      have o16 := or16 (x := v % 65536) (by omega) (by omega)
      by_cases hs : 32768 ≤ v % 65536
      · have E : Hid (Alu.ext v 16 = v % 65536 + 4294901760) := by show _ = _; unfold Alu.ext; rw [if_neg (by decide), if_pos rfl, if_neg (by omega)]
        go_enter Try.func20, Try.ntmps20
        go_wp2
        go_ret
        exact ⟨ret_int E.out.symm, rfl⟩
      · have E : Hid (Alu.ext v 16 = v % 65536) := by show _ = _; unfold Alu.ext; rw [if_neg (by decide), if_pos rfl, if_pos (by omega)]
        go_enter Try.func20, Try.ntmps20
        go_wp2
        go_ret
        exact ⟨ret_int E.out.symm, rfl⟩
    · have f8 : (bs == 8) = false := by simpa using h8
      have f16 : (bs == 16) = false := by simpa using h16
      have E : Hid (Alu.ext v bs = v) := by show _ = _; unfold Alu.ext; rw [if_neg h8, if_neg h16]
      go_enter Try.func20, Try.ntmps20
      go_wp2
      go_ret
      exact ⟨ret_int E.out.symm, rfl⟩

end Go.Proofs.Ytgbdiijnjphmaaa
