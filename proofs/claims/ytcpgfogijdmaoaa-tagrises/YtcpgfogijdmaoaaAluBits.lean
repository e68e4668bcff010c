/- PLAIN MATHEMATICS OF LAYER 1: bits of shifted numbers (no Go but the model's 'bits'). -/
import Derived.Test.YtcpgfogijdmaoaaAlu
import Derived.WalkKit
namespace Go.Proofs.Ytcpgfogijdmaoaa.Alu
open Go.RowKit

theorem and1 {x : Int} (h : U32 x) : bits .and .u32 x 1 = x % 2 := by
  rw [u32_and x 1 h.1 h.2 (by omega) (by omega)]
  have : x.toNat &&& (1 : Int).toNat = x.toNat % 2 ^ 1 := Nat.and_two_pow_sub_one_eq_mod _ 1
  have h0 := h.1
  rw [this]; omega

theorem pow_i (k : Nat) : ((2 ^ k : Nat) : Int) = 2 ^ k := by simp
theorem pos_i (k : Nat) : (0 : Int) < 2 ^ k := Int.pow_pos (by decide)

/-- One bit more. -/
theorem or_step {X : Int} (h : U32 X) {k : Nat} (hk : k < 32) :
    bits .or .u32 (X % 2 ^ k) (X / 2 ^ k % 2 * 2 ^ k % 4294967296) = X % 2 ^ (k + 1) := by
  obtain ⟨x, rfl⟩ := Int.eq_ofNat_of_zero_le h.1
  have h2 : x < 4294967296 := by have := h.2; omega
  have hp : (2 : Nat) ^ k ≤ 2 ^ 31 := Nat.pow_le_pow_right (by decide) (by omega)
  have hp0 : 0 < (2 : Nat) ^ k := Nat.pow_pos (by decide)
  have e1 : ((x : Int) % 2 ^ k) = ((x % 2 ^ k : Nat) : Int) := by simp
  have e2 : ((x : Int) / 2 ^ k % 2 * 2 ^ k) = ((x / 2 ^ k % 2 * 2 ^ k : Nat) : Int) := by simp
  have e3 : ((x : Int) % 2 ^ (k + 1)) = ((x % 2 ^ (k + 1) : Nat) : Int) := by simp
  rw [e1, e2, e3]
  have b1 : x % 2 ^ k < 2 ^ k := Nat.mod_lt _ hp0
  have b2 : x / 2 ^ k % 2 * 2 ^ k ≤ 2 ^ 31 := by
    have h3 : x / 2 ^ k % 2 < 2 := Nat.mod_lt _ (by decide)
    have := Nat.mul_le_mul (show x / 2 ^ k % 2 ≤ 1 by omega) hp
    omega
  have e4 : ((x / 2 ^ k % 2 * 2 ^ k : Nat) : Int) % 4294967296 = ((x / 2 ^ k % 2 * 2 ^ k : Nat) : Int) := by omega
  rw [e4, u32_or_nat _ _ (by omega) (by omega), Nat.or_comm, nat_join k _ _ (by simp) b1, Nat.mod_pow_succ]
  have e5 : x / 2 ^ k % 2 * 2 ^ k + x % 2 ^ k = x % 2 ^ k + 2 ^ k * (x / 2 ^ k % 2) := by rw [Nat.mul_comm, Nat.add_comm]
  rw [e5]

/-- No bit there: all stays. -/
theorem or_none {X : Int} (h : U32 X) {k : Nat} (hz : X / 2 ^ k % 2 = 0) : bits .or .u32 (X % 2 ^ k) 0 = X % 2 ^ (k + 1) := by
  obtain ⟨x, rfl⟩ := Int.eq_ofNat_of_zero_le h.1
  have h2 : x < 4294967296 := by have := h.2; omega
  have e1 : ((x : Int) % 2 ^ k) = ((x % 2 ^ k : Nat) : Int) := by simp
  have e3 : ((x : Int) % 2 ^ (k + 1)) = ((x % 2 ^ (k + 1) : Nat) : Int) := by simp
  have hz2 : x / 2 ^ k % 2 = 0 := by
    have : ((x / 2 ^ k % 2 : Nat) : Int) = 0 := by simpa using hz
    omega
  have b1 : x % 2 ^ k ≤ x := Nat.mod_le _ _
  rw [e1, e3, show (0 : Int) = ((0 : Nat) : Int) from rfl, u32_or_nat _ _ (by omega) (by omega), Nat.mod_pow_succ, hz2]
  simp

theorem div_div (x : Int) (p q : Nat) : x / 2 ^ p / 2 ^ q = x / 2 ^ (p + q) := by
  rw [Int.ediv_ediv_of_nonneg (Int.le_of_lt (pos_i p)), ← Int.pow_add]

/-- A number modulo 2^32 has its lowest 32 bits. -/
theorem low_bit (x : Int) {k : Nat} (hk : k < 32) : x % 4294967296 / 2 ^ k % 2 = x / 2 ^ k % 2 := by
  have e : (4294967296 : Int) = 2 ^ k * (2 * 2 ^ (31 - k)) := by
    have : (4294967296 : Int) = 2 ^ (k + (1 + (31 - k))) := by rw [show k + (1 + (31 - k)) = 32 by omega]; rfl
    rw [this, Int.pow_add, Int.pow_add]; rfl
  have hd := Int.mul_ediv_add_emod x 4294967296
  have h1 : x / 2 ^ k = 2 * 2 ^ (31 - k) * (x / 4294967296) + x % 4294967296 / 2 ^ k := by
    conv => lhs; rw [← hd]
    rw [e, Int.mul_assoc, Int.mul_add_ediv_left _ _ (Int.ne_of_gt (pos_i k))]
  rw [h1, Int.mul_assoc]
  omega

/-- Shifted down: bit k. -/
theorem bit6 {a : Int} (ha : U32 a) (n k : Nat) (hk : ¬ k + n < 32) : a / 2 ^ n / 2 ^ k % 2 = 0 := by
  rw [div_div]
  have h1 : (2 : Nat) ^ 32 ≤ 2 ^ (n + k) := Nat.pow_le_pow_right (by decide) (by omega)
  have h2 : a < 2 ^ (n + k) := by rw [← pow_i]; have := ha.2; omega
  rw [Int.ediv_eq_zero_of_lt ha.1 h2]; rfl
theorem U6 {a : Int} (ha : U32 a) (n : Nat) : U32 (a / 2 ^ n) :=
  ⟨Int.ediv_nonneg ha.1 (Int.le_of_lt (pos_i n)), by have := Int.ediv_le_self (b := 2 ^ n) ha.1; have := ha.2; omega⟩

/-- Shifted up: bit k. -/
theorem bit2 (a : Int) {n k : Nat} (hk : k < 32) (h : n ≤ k) : a * 2 ^ n % 4294967296 / 2 ^ k % 2 = a / 2 ^ (k - n) % 2 := by
  rw [low_bit _ hk]
  conv => lhs; rw [show k = n + (k - n) by omega, ← div_div, Int.mul_ediv_cancel _ (Int.ne_of_gt (pos_i n))]
theorem bit2z (a : Int) {n k : Nat} (hk : k < 32) (h : k < n) : a * 2 ^ n % 4294967296 / 2 ^ k % 2 = 0 := by
  rw [low_bit _ hk]
  have e : a * 2 ^ n = 2 * (a * 2 ^ (n - k - 1)) * 2 ^ k := by
    have : (2 : Int) ^ n = 2 ^ (n - k - 1) * (2 * 2 ^ k) := by
      rw [show (2 : Int) * 2 ^ k = 2 ^ (k + 1) by rw [Int.pow_succ, Int.mul_comm], ← Int.pow_add]; congr 1; omega
    rw [this, ← Int.mul_assoc, ← Int.mul_assoc, Int.mul_comm 2 (a * 2 ^ (n - k - 1))]
  rw [e, Int.mul_ediv_cancel _ (Int.ne_of_gt (pos_i k))]
  omega

/-- Shifted down with the sign: bit k. -/
theorem bit7 {a : Int} {n k : Nat} (hk : k < 32) (h : k + n < 32) : s32 a / 2 ^ n % 4294967296 / 2 ^ k % 2 = a / 2 ^ (k + n) % 2 := by
  rw [low_bit _ hk, div_div, Nat.add_comm n k]
  rcases s32_eq a with e | e
  · rw [e]
  · rw [← low_bit (s32 a) h, e, show (a - 4294967296) % 4294967296 = a % 4294967296 by omega, low_bit a h]
theorem bit7s {a : Int} (ha : U32 a) {n k : Nat} (hk : k < 32) (h : ¬ k + n < 32) : s32 a / 2 ^ n % 4294967296 / 2 ^ k % 2 = a / 2147483648 := by
  rw [low_bit _ hk, div_div]
  have hb := s32_bd ha
  have h1 : (2 : Nat) ^ 32 ≤ 2 ^ (n + k) := Nat.pow_le_pow_right (by decide) (by omega)
  have h2 : (4294967296 : Int) ≤ 2 ^ (n + k) := by rw [← pow_i]; omega
  generalize (2 : Int) ^ (n + k) = p at h2
  have h3 := ha.1
  have h4 := ha.2
  by_cases hs : a < 2147483648
  · have e : s32 a = a := by unfold s32; rw [if_pos hs]
    rw [e, Int.ediv_eq_zero_of_lt h3 (by omega)]; omega
  · have e : s32 a = a - 4294967296 := by unfold s32; rw [if_neg hs]
    rw [e]
    have : (a - 4294967296) / p = -1 := by
      rw [Int.ediv_eq_iff_of_pos (by omega)]; omega
    rw [this]; omega
end Go.Proofs.Ytcpgfogijdmaoaa.Alu
