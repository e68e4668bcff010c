/- THE WALKS OF LAYER 1: each function of package alu comes to the plain value (Alu.val ..), and the world stays as it was. -/
import Derived.Test.YtcpgfogijdmaoaaRows
import Derived.Test.YtcpgfogijdmaoaaAlu
import Derived.WalkKit
import Derived.ProofKit
import Derived.OpenShut
import Derived.WalkLawsBesides
namespace Go.Proofs.Ytcpgfogijdmaoaa
open Go.ChangeShapes Go.WideShapes Go.ChangeAt Go.RowKit

theorem ret_int {k : IntKind} {a b : Int} (h : a = b) : Ending.returned (.int k a) = .returned (.int k b) := by rw [h]
theorem ret_bool {a b : Bool} (h : a = b) : Ending.returned (.bool a) = .returned (.bool b) := by rw [h]
theorem ret_ie {k l : IntKind} {a b c d : Int} (h : a = b) (h2 : c = d) : Ending.returned (.tuple #[.int k a, .int l c]) = .returned (.tuple #[.int k b, .int l d]) := by rw [h, h2]
theorem ret_be {l : IntKind} {a b : Bool} {c d : Int} (h : a = b) (h2 : c = d) : Ending.returned (.tuple #[.bool a, .int l c]) = .returned (.tuple #[.bool b, .int l d]) := by rw [h, h2]

theorem and31 {b : Int} (h : Alu.U32 b) : bits .and .u32 b 31 = b % 32 := by
  obtain ⟨h0, h1⟩ := h
  rw [u32_and b 31 h0 h1 (by omega) (by omega)]
  have : b.toNat &&& (31 : Int).toNat = b.toNat % 2 ^ 5 := Nat.and_two_pow_sub_one_eq_mod _ 5
  rw [this]; omega
theorem wrap32_s32 {a : Int} (h : Alu.U32 a) : wrap32 a = Alu.s32 a := by
  unfold Alu.U32 at h; unfold wrap32 Alu.s32; split <;> omega
theorem wrap64_s32 {a : Int} (h : Alu.U32 a) : wrap64 (Alu.s32 a) = Alu.s32 a := by
  have := Alu.s32_bd h; unfold wrap64; omega

theorem places_c (b : Int) (hb : Alu.U32 b) (w : World) :
    Calls Try.prog 29 #[.int .u32 b] w fun e w' => e = .returned (.int .u32 (b % 32)) ∧ w' = w := by
  go_enter Try.func29, Try.ntmps29
  go_wp2
  go_ret
  exact ⟨ret_int (and31 hb), rfl⟩

theorem number_c (t : Bool) (w : World) :
    Calls Try.prog 30 #[.bool t] w fun e w' => e = .returned (.int .u32 (Alu.num t)) ∧ w' = w := by
  cases t
  all_goals
    go_enter Try.func30, Try.ntmps30
    go_wp2
    go_ret
    exact ⟨rfl, rfl⟩

theorem signed_c (a : Int) (ha : Alu.U32 a) (w : World) :
    Calls Try.prog 32 #[.int .u32 a] w fun e w' => e = .returned (.int .i64 (Alu.s32 a)) ∧ w' = w := by
  go_enter Try.func32, Try.ntmps32
  go_wp2
  go_ret
  exact ⟨ret_int (by rw [wrap32_s32 ha, wrap64_s32 ha]), rfl⟩

theorem high_c (p : Int) (w : World) :
    Calls Try.prog 31 #[.int .i64 p] w fun e w' => e = .returned (.int .u32 ((p / 4294967296) % 4294967296)) ∧ w' = w := by
  go_enter Try.func31, Try.ntmps31
  go_wp2
  go_ret
  exact ⟨rfl, rfl⟩

theorem wrap64_tdiv {a b : Int} (ha : Alu.U32 a) : wrap64 ((Alu.s32 a).tdiv b) = (Alu.s32 a).tdiv b := by
  have h := Alu.s32_bd ha
  have := Alu.tdiv_bd (x := Alu.s32 a) (y := b) h.1 h.2
  unfold wrap64; omega
theorem wrap64_tmod {a b : Int} (ha : Alu.U32 a) : wrap64 ((Alu.s32 a).tmod b) = (Alu.s32 a).tmod b := by
  have h := Alu.s32_bd ha
  have := Alu.tmod_bd (x := Alu.s32 a) (y := b) h.1 h.2
  unfold wrap64; omega

set_option maxHeartbeats 400000 in
theorem quoS_c (a b : Int) (ha : Alu.U32 a) (hb : Alu.U32 b) (w : World) :
    Calls Try.prog 33 #[.int .u32 a, .int .u32 b] w fun e w' => e = .returned (.int .u32 (Alu.val 14 a b)) ∧ w' = w := by
  by_cases h : b = 0
  · subst h
    go_enter Try.func33, Try.ntmps33
    go_wp2
    go_ret
    exact ⟨ret_int (by rw [Alu.val_14, if_pos rfl]), rfl⟩
  · have hz : (b == 0) = false := by simpa using h
    have hs : ¬ Alu.s32 b = 0 := by simpa [Alu.s32_zero hb] using h
    go_enter Try.func33, Try.ntmps33
    go_wp2_with (go_at_call 32; refine (signed_c _ (by assumption) _).mono ?_; rintro e w' ⟨rfl, rfl⟩)
    go_ret
    exact ⟨ret_int (by rw [Alu.val_14, if_neg h, wrap64_tdiv ha]), rfl⟩

set_option maxHeartbeats 400000 in
theorem remS_c (a b : Int) (ha : Alu.U32 a) (hb : Alu.U32 b) (w : World) :
    Calls Try.prog 35 #[.int .u32 a, .int .u32 b] w fun e w' => e = .returned (.int .u32 (Alu.val 16 a b)) ∧ w' = w := by
  by_cases h : b = 0
  · subst h
    go_enter Try.func35, Try.ntmps35
    go_wp2
    go_ret
    exact ⟨ret_int (by rw [Alu.val_16, if_pos rfl]), rfl⟩
  · have hz : (b == 0) = false := by simpa using h
    have hs : ¬ Alu.s32 b = 0 := by simpa [Alu.s32_zero hb] using h
    go_enter Try.func35, Try.ntmps35
    go_wp2_with (go_at_call 32; refine (signed_c _ (by assumption) _).mono ?_; rintro e w' ⟨rfl, rfl⟩)
    go_ret
    exact ⟨ret_int (by rw [Alu.val_16, if_neg h]), rfl⟩

set_option maxHeartbeats 400000 in
theorem quo_c (a b : Int) (ha : Alu.U32 a) (hb : Alu.U32 b) (w : World) :
    Calls Try.prog 34 #[.int .u32 a, .int .u32 b] w fun e w' => e = .returned (.int .u32 (Alu.val 15 a b)) ∧ w' = w := by
  obtain ⟨a0, a1⟩ := ha
  obtain ⟨b0, b1⟩ := hb
  by_cases h : b = 0
  · subst h
    go_enter Try.func34, Try.ntmps34
    go_wp2
    go_ret
    exact ⟨ret_int (by rw [Alu.val_15, if_pos rfl]), rfl⟩
  · have hz : (b == 0) = false := by simpa using h
    go_enter Try.func34, Try.ntmps34
    go_wp2
    go_ret
    exact ⟨ret_int (by rw [Alu.val_15, if_neg h]), rfl⟩

set_option maxHeartbeats 400000 in
theorem rem_c (a b : Int) (ha : Alu.U32 a) (hb : Alu.U32 b) (w : World) :
    Calls Try.prog 36 #[.int .u32 a, .int .u32 b] w fun e w' => e = .returned (.int .u32 (Alu.val 17 a b)) ∧ w' = w := by
  obtain ⟨a0, a1⟩ := ha
  obtain ⟨b0, b1⟩ := hb
  by_cases h : b = 0
  · subst h
    go_enter Try.func36, Try.ntmps36
    go_wp2
    go_ret
    exact ⟨ret_int (by rw [Alu.val_17, if_pos rfl]), rfl⟩
  · have hz : (b == 0) = false := by simpa using h
    go_enter Try.func36, Try.ntmps36
    go_wp2
    go_ret
    exact ⟨ret_int (by rw [Alu.val_17, if_neg h]), rfl⟩

theorem w64_ss {a b : Int} (ha : Alu.U32 a) (hb : Alu.U32 b) : wrap64 (Alu.s32 a * Alu.s32 b) = Alu.s32 a * Alu.s32 b := by
  have := Alu.ss_bd ha hb; unfold wrap64; omega
theorem w64_su {a b : Int} (ha : Alu.U32 a) (hb : Alu.U32 b) : wrap64 (Alu.s32 a * b) = Alu.s32 a * b := by
  have := Alu.su_bd ha hb; unfold wrap64; omega
theorem u64_uu {a b : Int} (ha : Alu.U32 a) (hb : Alu.U32 b) : IntKind.u64.wrap (a * b) = a * b := by
  have := Alu.uu_bd ha hb; rw [IntKind.wrap_u64]; omega
theorem uu_hi {a b : Int} (ha : Alu.U32 a) (hb : Alu.U32 b) : a * b / 4294967296 % 4294967296 = a * b / 4294967296 := by
  have := Alu.uu_bd ha hb; omega
theorem f5 {a b : Int} (ha : Alu.U32 a) (hb : Alu.U32 b) : bits .xor .u32 a b = Alu.val 5 a b := by
  rw [Alu.val_5]; exact u32_xor a b ha.1 ha.2 hb.1 hb.2
theorem f8 {a b : Int} (ha : Alu.U32 a) (hb : Alu.U32 b) : bits .or .u32 a b = Alu.val 8 a b := by
  rw [Alu.val_8]; exact u32_or a b ha.1 ha.2 hb.1 hb.2
theorem f9 {a b : Int} (ha : Alu.U32 a) (hb : Alu.U32 b) : bits .and .u32 a b = Alu.val 9 a b := by
  rw [Alu.val_9]; exact u32_and a b ha.1 ha.2 hb.1 hb.2
theorem f3 {a b : Int} (ha : Alu.U32 a) (hb : Alu.U32 b) : Alu.num (decide (wrap32 a < wrap32 b)) = Alu.val 3 a b := by
  rw [Alu.val_3, wrap32_s32 ha, wrap32_s32 hb]
theorem f7 {a : Int} (b : Int) (ha : Alu.U32 a) : wrap32 a / 2 ^ (b % 32).toNat % 4294967296 = Alu.val 7 a b := by
  rw [Alu.val_7, wrap32_s32 ha]; rfl
theorem f11 {a b : Int} (ha : Alu.U32 a) (hb : Alu.U32 b) : wrap64 (Alu.s32 a * Alu.s32 b) / 4294967296 % 4294967296 = Alu.val 11 a b := by
  rw [Alu.val_11, w64_ss ha hb]
theorem f12 {a b : Int} (ha : Alu.U32 a) (hb : Alu.U32 b) : wrap64 (Alu.s32 a * b) / 4294967296 % 4294967296 = Alu.val 12 a b := by
  rw [Alu.val_12, w64_su ha hb]
theorem f13 {a b : Int} (ha : Alu.U32 a) (hb : Alu.U32 b) : IntKind.u64.wrap (a * b) / 4294967296 % 4294967296 = Alu.val 13 a b := by
  rw [Alu.val_13, u64_uu ha hb, uu_hi ha hb]

set_option maxHeartbeats 2000000 in
theorem Do_c (k a b : Int) (ha : Alu.U32 a) (hb : Alu.U32 b) (w : World) :
    Calls Try.prog 26 #[.int .i64 k, .int .u32 a, .int .u32 b] w fun e w' => e = .returned (.tuple #[.int .u32 (Alu.val k a b), .int .i64 (Alu.err k)]) ∧ w' = w := by
  obtain ⟨a0, a1⟩ := id ha
  obtain ⟨b0, b1⟩ := id hb
  have hm0 : 0 ≤ b % 32 := by omega
  have hm1 : b % 32 < 32 := by omega
  rcases Alu.kinds k with h | rfl | rfl | rfl | rfl | rfl | rfl | rfl | rfl | rfl | rfl | rfl | rfl | rfl | rfl | rfl | rfl | rfl | rfl
  · have f : ∀ j : Int, 0 ≤ j → j ≤ 17 → (k == j) = false := fun j _ _ => by simp; omega
    have f0 := f 0 (by omega) (by omega)
    have f1 := f 1 (by omega) (by omega)
    have f2 := f 2 (by omega) (by omega)
    have f3 := f 3 (by omega) (by omega)
    have f4 := f 4 (by omega) (by omega)
    have f5 := f 5 (by omega) (by omega)
    have f6 := f 6 (by omega) (by omega)
    have f7 := f 7 (by omega) (by omega)
    have f8 := f 8 (by omega) (by omega)
    have f9 := f 9 (by omega) (by omega)
    have f10 := f 10 (by omega) (by omega)
    have f11 := f 11 (by omega) (by omega)
    have f12 := f 12 (by omega) (by omega)
    have f13 := f 13 (by omega) (by omega)
    have f14 := f 14 (by omega) (by omega)
    have f15 := f 15 (by omega) (by omega)
    have f16 := f 16 (by omega) (by omega)
    have f17 := f 17 (by omega) (by omega)
    clear f
    go_enter Try.func26, Try.ntmps26
    go_wp2
    go_ret2
    exact ⟨ret_ie (Alu.val_other k a b h).symm (by simp [Alu.err, Alu.known]; omega), rfl⟩
  all_goals
    go_enter Try.func26, Try.ntmps26
    go_wp2_with (first
      | (go_at_call 29; refine (places_c _ (by assumption) _).mono ?_; rintro e w' ⟨rfl, rfl⟩)
      | (go_at_call 30; refine (number_c _ _).mono ?_; rintro e w' ⟨rfl, rfl⟩)
      | (go_at_call 32; refine (signed_c _ (by assumption) _).mono ?_; rintro e w' ⟨rfl, rfl⟩)
      | (go_at_call 31; refine (high_c _ _).mono ?_; rintro e w' ⟨rfl, rfl⟩)
      | (go_at_call 33; refine (quoS_c _ _ (by assumption) (by assumption) _).mono ?_; rintro e w' ⟨rfl, rfl⟩)
      | (go_at_call 35; refine (remS_c _ _ (by assumption) (by assumption) _).mono ?_; rintro e w' ⟨rfl, rfl⟩)
      | (go_at_call 34; refine (quo_c _ _ (by assumption) (by assumption) _).mono ?_; rintro e w' ⟨rfl, rfl⟩)
      | (go_at_call 36; refine (rem_c _ _ (by assumption) (by assumption) _).mono ?_; rintro e w' ⟨rfl, rfl⟩))
    go_ret2
    refine ⟨ret_ie (b := Alu.val _ _ _) ?_ (by decide), rfl⟩
    first | rfl | exact (Alu.val_0 a b).symm | exact (Alu.val_1 a b).symm | exact (Alu.val_2 a b).symm | exact f3 ha hb | exact (Alu.val_4 a b).symm | exact f5 ha hb | exact (Alu.val_6 a b).symm | exact f7 b ha | exact f8 ha hb | exact f9 ha hb | exact (Alu.val_10 a b).symm | exact f11 ha hb | exact f12 ha hb | exact f13 ha hb


theorem dec_eq (a b : Int) : (a == b) = decide (a = b) := by rw [Bool.eq_iff_iff]; simp
theorem dec_ne (a b : Int) : (a != b) = decide (a ≠ b) := by rw [Bool.eq_iff_iff]; simp


theorem w8 (v : Int) : IntKind.i8.wrap v = (v + 128) % 256 - 128 := by
  simp only [IntKind.wrap, IntKind.bits, IntKind.signed]; simp; split <;> omega
theorem w16 (v : Int) : IntKind.i16.wrap v = (v + 32768) % 65536 - 32768 := by
  simp only [IntKind.wrap, IntKind.bits, IntKind.signed]; simp; split <;> omega

theorem e8 (v : Int) : wrap32 (IntKind.i8.wrap v) % 4294967296 = Alu.ext v 8 := by
  rw [w8]; unfold wrap32 Alu.ext; rw [if_pos rfl]; split <;> omega
theorem e16 (v : Int) : wrap32 (IntKind.i16.wrap v) % 4294967296 = Alu.ext v 16 := by
  rw [w16]; unfold wrap32 Alu.ext; rw [if_neg (by decide), if_pos rfl]; split <;> omega



end Go.Proofs.Ytcpgfogijdmaoaa
