/- PLAIN MATHEMATICS OF LAYER 1: bits of shifted numbers (no Go but the model's 'bits'). · PLAIN LAWS OF LAYER 1: what follows for the numbers; no Go but the model's 'bits'. · LAYER 12's laws: two memories side by side; a State built in place; its registers loaded whole. · PLAIN, LAYER 12: the six steps of CpuMoves. · LAYER 12's law CpuMoves. · PLAIN, LAYER 12: the eleven steps of CpuKnown; boxes kept beside a State's box that is written. · LAYER 12's law CpuKnown (by cpuknown.py). -/
import Derived.Test.YtbackacbdfgdoaaDoorK1
import Derived.WalkKit
import Derived.Test.YtbackacbdfgdoaaDoorK13
import Derived.BigFrame
import Derived.BigQuiet
namespace Go.Proofs.YtbackacbdfgdoaaDoor.Alu
open Go.RowKit

theorem and1 {x : Int} (h : U32 x) : bits .and .u32 x 1 = x % 2 := by
  rw [u32_and x 1 h.1 h.2 (by omega) (by omega)]
  have : x.toNat &&& (1 : Int).toNat = x.toNat % 2 ^ 1 := Nat.and_two_pow_sub_one_eq_mod _ 1
  have h0 := h.1
  rw [this]; omega

theorem pow_i (k : Nat) : ((2 ^ k : Nat) : Int) = 2 ^ k := by simp
theorem pos_i (k : Nat) : (0 : Int) < 2 ^ k := Int.pow_pos (by decide)

/-- One bit more. -/
theorem or_step {X : Int} (h : U32 X) {k : Nat} (hk : k < 32) :
    bits .or .u32 (X % 2 ^ k) (X / 2 ^ k % 2 * 2 ^ k % 4294967296) = X % 2 ^ (k + 1) := by
  obtain ⟨x, rfl⟩ := Int.eq_ofNat_of_zero_le h.1
  have h2 : x < 4294967296 := by have := h.2; omega
  have hp : (2 : Nat) ^ k ≤ 2 ^ 31 := Nat.pow_le_pow_right (by decide) (by omega)
  have hp0 : 0 < (2 : Nat) ^ k := Nat.pow_pos (by decide)
  have e1 : ((x : Int) % 2 ^ k) = ((x % 2 ^ k : Nat) : Int) := by simp
  have e2 : ((x : Int) / 2 ^ k % 2 * 2 ^ k) = ((x / 2 ^ k % 2 * 2 ^ k : Nat) : Int) := by simp
  have e3 : ((x : Int) % 2 ^ (k + 1)) = ((x % 2 ^ (k + 1) : Nat) : Int) := by simp
  rw [e1, e2, e3]
  have b1 : x % 2 ^ k < 2 ^ k := Nat.mod_lt _ hp0
  have b2 : x / 2 ^ k % 2 * 2 ^ k ≤ 2 ^ 31 := by
    have h3 : x / 2 ^ k % 2 < 2 := Nat.mod_lt _ (by decide)
    have := Nat.mul_le_mul (show x / 2 ^ k % 2 ≤ 1 by omega) hp
    omega
  have e4 : ((x / 2 ^ k % 2 * 2 ^ k : Nat) : Int) % 4294967296 = ((x / 2 ^ k % 2 * 2 ^ k : Nat) : Int) := by omega
  rw [e4, u32_or_nat _ _ (by omega) (by omega), Nat.or_comm, nat_join k _ _ (by simp) b1, Nat.mod_pow_succ]
  have e5 : x / 2 ^ k % 2 * 2 ^ k + x % 2 ^ k = x % 2 ^ k + 2 ^ k * (x / 2 ^ k % 2) := by rw [Nat.mul_comm, Nat.add_comm]
  rw [e5]

/-- No bit there: all stays. -/
theorem or_none {X : Int} (h : U32 X) {k : Nat} (hz : X / 2 ^ k % 2 = 0) : bits .or .u32 (X % 2 ^ k) 0 = X % 2 ^ (k + 1) := by
  obtain ⟨x, rfl⟩ := Int.eq_ofNat_of_zero_le h.1
  have h2 : x < 4294967296 := by have := h.2; omega
  have e1 : ((x : Int) % 2 ^ k) = ((x % 2 ^ k : Nat) : Int) := by simp
  have e3 : ((x : Int) % 2 ^ (k + 1)) = ((x % 2 ^ (k + 1) : Nat) : Int) := by simp
  have hz2 : x / 2 ^ k % 2 = 0 := by
    have : ((x / 2 ^ k % 2 : Nat) : Int) = 0 := by simpa using hz
    omega
  have b1 : x % 2 ^ k ≤ x := Nat.mod_le _ _
  rw [e1, e3, show (0 : Int) = ((0 : Nat) : Int) from rfl, u32_or_nat _ _ (by omega) (by omega), Nat.mod_pow_succ, hz2]
  simp

theorem div_div (x : Int) (p q : Nat) : x / 2 ^ p / 2 ^ q = x / 2 ^ (p + q) := by
  rw [Int.ediv_ediv_of_nonneg (Int.le_of_lt (pos_i p)), ← Int.pow_add]

/-- A number modulo 2^32 has its lowest 32 bits. -/
theorem low_bit (x : Int) {k : Nat} (hk : k < 32) : x % 4294967296 / 2 ^ k % 2 = x / 2 ^ k % 2 := by
  have e : (4294967296 : Int) = 2 ^ k * (2 * 2 ^ (31 - k)) := by
    have : (4294967296 : Int) = 2 ^ (k + (1 + (31 - k))) := by rw [show k + (1 + (31 - k)) = 32 by omega]; rfl
    rw [this, Int.pow_add, Int.pow_add]; rfl
  have hd := Int.mul_ediv_add_emod x 4294967296
  have h1 : x / 2 ^ k = 2 * 2 ^ (31 - k) * (x / 4294967296) + x % 4294967296 / 2 ^ k := by
    conv => lhs; rw [← hd]
    rw [e, Int.mul_assoc, Int.mul_add_ediv_left _ _ (Int.ne_of_gt (pos_i k))]
  rw [h1, Int.mul_assoc]
  omega

/-- Shifted down: bit k. -/
theorem bit6 {a : Int} (ha : U32 a) (n k : Nat) (hk : ¬ k + n < 32) : a / 2 ^ n / 2 ^ k % 2 = 0 := by
  rw [div_div]
  have h1 : (2 : Nat) ^ 32 ≤ 2 ^ (n + k) := Nat.pow_le_pow_right (by decide) (by omega)
  have h2 : a < 2 ^ (n + k) := by rw [← pow_i]; have := ha.2; omega
  rw [Int.ediv_eq_zero_of_lt ha.1 h2]; rfl
theorem U6 {a : Int} (ha : U32 a) (n : Nat) : U32 (a / 2 ^ n) :=
  ⟨Int.ediv_nonneg ha.1 (Int.le_of_lt (pos_i n)), by have := Int.ediv_le_self (b := 2 ^ n) ha.1; have := ha.2; omega⟩

/-- Shifted up: bit k. -/
theorem bit2 (a : Int) {n k : Nat} (hk : k < 32) (h : n ≤ k) : a * 2 ^ n % 4294967296 / 2 ^ k % 2 = a / 2 ^ (k - n) % 2 := by
  rw [low_bit _ hk]
  conv => lhs; rw [show k = n + (k - n) by omega, ← div_div, Int.mul_ediv_cancel _ (Int.ne_of_gt (pos_i n))]
theorem bit2z (a : Int) {n k : Nat} (hk : k < 32) (h : k < n) : a * 2 ^ n % 4294967296 / 2 ^ k % 2 = 0 := by
  rw [low_bit _ hk]
  have e : a * 2 ^ n = 2 * (a * 2 ^ (n - k - 1)) * 2 ^ k := by
    have : (2 : Int) ^ n = 2 ^ (n - k - 1) * (2 * 2 ^ k) := by
      rw [show (2 : Int) * 2 ^ k = 2 ^ (k + 1) by rw [Int.pow_succ, Int.mul_comm], ← Int.pow_add]; congr 1; omega
    rw [this, ← Int.mul_assoc, ← Int.mul_assoc, Int.mul_comm 2 (a * 2 ^ (n - k - 1))]
  rw [e, Int.mul_ediv_cancel _ (Int.ne_of_gt (pos_i k))]
  omega

/-- Shifted down with the sign: bit k. -/
theorem bit7 {a : Int} {n k : Nat} (hk : k < 32) (h : k + n < 32) : s32 a / 2 ^ n % 4294967296 / 2 ^ k % 2 = a / 2 ^ (k + n) % 2 := by
  rw [low_bit _ hk, div_div, Nat.add_comm n k]
  rcases s32_eq a with e | e
  · rw [e]
  · rw [← low_bit (s32 a) h, e, show (a - 4294967296) % 4294967296 = a % 4294967296 by omega, low_bit a h]
theorem bit7s {a : Int} (ha : U32 a) {n k : Nat} (hk : k < 32) (h : ¬ k + n < 32) : s32 a / 2 ^ n % 4294967296 / 2 ^ k % 2 = a / 2147483648 := by
  rw [low_bit _ hk, div_div]
  have hb := s32_bd ha
  have h1 : (2 : Nat) ^ 32 ≤ 2 ^ (n + k) := Nat.pow_le_pow_right (by decide) (by omega)
  have h2 : (4294967296 : Int) ≤ 2 ^ (n + k) := by rw [← pow_i]; omega
  generalize (2 : Int) ^ (n + k) = p at h2
  have h3 := ha.1
  have h4 := ha.2
  by_cases hs : a < 2147483648
  · have e : s32 a = a := by unfold s32; rw [if_pos hs]
    rw [e, Int.ediv_eq_zero_of_lt h3 (by omega)]; omega
  · have e : s32 a = a - 4294967296 := by unfold s32; rw [if_neg hs]
    rw [e]
    have : (a - 4294967296) / p = -1 := by
      rw [Int.ediv_eq_iff_of_pos (by omega)]; omega
    rw [this]; omega
end Go.Proofs.YtbackacbdfgdoaaDoor.Alu
namespace Go.Proofs.YtbackacbdfgdoaaDoor.Alu
open Go.RowKit

theorem mk {a : Int} (h0 : 0 ≤ a) (h1 : a < 4294967296) : U32 a := ⟨h0, h1⟩

theorem mmod (x y : Int) : (x % 4294967296 * y) % 4294967296 = (x * y) % 4294967296 := by
  rw [Int.mul_emod, Int.emod_emod, ← Int.mul_emod]
theorem smod {b : Int} (x : Int) (hb : U32 b) : (x * b) % 4294967296 = (x * s32 b) % 4294967296 := by
  rw [Int.mul_emod, ← s32_mod hb, Int.emod_emod, ← Int.mul_emod, s32_mod hb]

/-! Quotients and rests -/
theorem divU {a b : Int} (ha : U32 a) (hb : U32 b) : val 0 (val 10 (val 15 a b) b) (val 17 a b) = a := by
  rw [val_0, val_10, val_15, val_17]
  unfold U32 at ha hb
  by_cases h : b = 0
  · subst h; simp; omega
  · rw [if_neg h, if_neg h]
    have e := Int.mul_ediv_add_emod a b
    rw [Int.mul_comm] at e
    omega
theorem divS {a b : Int} (ha : U32 a) (hb : U32 b) : val 0 (val 10 (val 14 a b) b) (val 16 a b) = a := by
  rw [val_0, val_10, val_14, val_16]
  by_cases h : b = 0
  · subst h; unfold U32 at ha; simp; omega
  · rw [if_neg h, if_neg h, mmod, smod _ hb]
    have e := Int.mul_tdiv_add_tmod (s32 a) (s32 b)
    rw [Int.mul_comm] at e
    have m := s32_mod ha
    omega
theorem remL {a b : Int} (hb : U32 b) (h : b ≠ 0) : val 17 a b < b := by
  rw [val_17, if_neg h]
  unfold U32 at hb
  exact Int.emod_lt_of_pos a (by omega)

/-! What is turned back -/
theorem add_sub {a : Int} (b : Int) (ha : U32 a) : val 1 (val 0 a b) b = a := by
  rw [val_1, val_0]; unfold U32 at ha; omega
theorem xor_xor {a b : Int} (ha : U32 a) : val 5 (val 5 a b) b = a := by
  rw [val_5, val_5]; unfold bx
  rw [Int.toNat_natCast, Nat.xor_assoc, Nat.xor_self, Nat.xor_zero]
  have := ha.1; omega
theorem and_self {a : Int} (ha : U32 a) : val 9 a a = a := by
  rw [val_9]; unfold ba; rw [Nat.and_self]; have := ha.1; omega
theorem or_self {a : Int} (ha : U32 a) : val 8 a a = a := by
  rw [val_8]; unfold bo; rw [Nat.or_self]; have := ha.1; omega
theorem sub_self (a : Int) : val 1 a a = 0 := by rw [val_1]; omega
theorem add_comm (a b : Int) : val 0 a b = val 0 b a := by rw [val_0, val_0, Int.add_comm]
theorem mul_comm (a b : Int) : val 10 a b = val 10 b a := by rw [val_10, val_10, Int.mul_comm]

theorem nat_or_and (n : Nat) : ∀ x y : Nat, x < 2 ^ n → y < 2 ^ n → (x ||| y) + (x &&& y) = x + y := by
  induction n with
  | zero => intro x y hx hy; have : x = 0 := by omega
            have : y = 0 := by omega
            subst x; subst y; rfl
  | succ n ih =>
    intro x y hx hy
    have h := ih (x / 2) (y / 2) (by omega) (by omega)
    have o1 : (x ||| y) / 2 = x / 2 ||| y / 2 := Nat.or_div_two
    have a1 : (x &&& y) / 2 = x / 2 &&& y / 2 := Nat.and_div_two
    have o2 : (x ||| y) % 2 = x % 2 ||| y % 2 := by
      have := Nat.or_mod_two_pow (a := x) (b := y) (n := 1)
      simpa using this
    have a2 : (x &&& y) % 2 = x % 2 &&& y % 2 := by
      have := Nat.and_mod_two_pow (a := x) (b := y) (n := 1)
      simpa using this
    have b2 : ∀ p q : Nat, p < 2 → q < 2 → (p ||| q) + (p &&& q) = p + q := by
      intro p q hp hq
      rcases (show p = 0 ∨ p = 1 by omega) with rfl | rfl <;> rcases (show q = 0 ∨ q = 1 by omega) with rfl | rfl <;> rfl
    have b3 := b2 (x % 2) (y % 2) (Nat.mod_lt _ (by decide)) (Nat.mod_lt _ (by decide))
    rw [← o1, ← a1] at h
    rw [← o2, ← a2] at b3
    omega
theorem or_and {a b : Int} (ha : U32 a) (hb : U32 b) : val 0 (val 8 a b) (val 9 a b) = val 0 a b := by
  rw [val_0, val_0, val_8, val_9]; unfold bo ba; unfold U32 at ha hb
  have := nat_or_and 32 a.toNat b.toNat (by omega) (by omega)
  congr 1
  omega

/-! Both halves -/
theorem join64 {h l : Int} (hh : U32 h) (hl : U32 l) : bits .or .u64 (h * 4294967296 % 18446744073709551616) l = h * 4294967296 + l := by
  unfold U32 at hh hl
  obtain ⟨x, rfl⟩ := Int.eq_ofNat_of_zero_le hh.1
  obtain ⟨y, rfl⟩ := Int.eq_ofNat_of_zero_le hl.1
  rw [show (x : Int) * 4294967296 % 18446744073709551616 = ((x * 4294967296 : Nat) : Int) by omega, u64_or_nat _ _ (by omega) (by omega), nat_join 32 _ _ (by omega) (by omega)]
  omega
theorem whole13 {a b : Int} : val 13 a b * 4294967296 + val 10 a b = a * b := by
  rw [val_13, val_10]; omega
theorem whole11 {a b : Int} (ha : U32 a) (hb : U32 b) : val 11 a b * 4294967296 + val 10 a b = (s32 a * s32 b) % 18446744073709551616 := by
  have e : val 10 a b = (s32 a * s32 b) % 4294967296 := by rw [val_10, smod _ hb, Int.mul_comm, smod _ ha, Int.mul_comm]
  rw [e, val_11]; omega
theorem whole12 {a b : Int} (ha : U32 a) : val 12 a b * 4294967296 + val 10 a b = (s32 a * b) % 18446744073709551616 := by
  have e : val 10 a b = (s32 a * b) % 4294967296 := by rw [val_10, Int.mul_comm, smod _ ha, Int.mul_comm]
  rw [e, val_12]; omega

/-! Shifts -/
theorem one_up (n : Int) : val 2 1 n = pw n := by
  rw [val_2]; have := pw_pos n; have := pw_bd n; omega
theorem up_mul (a n : Int) : val 2 a n = val 10 a (pw n) := by rw [val_2, val_10]
theorem down_div (a n : Int) : val 6 a n = val 15 a (pw n) := by
  rw [val_6, val_15, if_neg (by have := pw_pos n; omega)]
theorem s32_of_mod {x : Int} (h0 : -2147483648 ≤ x) (h1 : x ≤ 2147483647) : s32 (x % 4294967296) = x := by
  unfold s32; split <;> omega
theorem sh7 {a : Int} (n : Int) (ha : U32 a) : s32 (val 7 a n) = s32 a / pw n := by
  have hb := s32_bd ha
  have hp := pw_pos n
  rw [val_7]
  have h1 : s32 a / pw n ≤ 2147483647 := by
    by_cases h : 0 ≤ s32 a
    · have := Int.ediv_le_self (b := pw n) h; omega
    · have := Int.ediv_neg_of_neg_of_pos (show s32 a < 0 by omega) (show 0 < pw n by omega); omega
  have h2 : -2147483648 ≤ s32 a / pw n := by
    rw [Int.le_ediv_iff_mul_le (by omega)]
    have := Int.mul_le_mul_of_nonpos_left (a := -2147483648) (by omega) hp
    omega
  exact s32_of_mod h2 h1
theorem sign_kept {a : Int} (n : Int) (ha : U32 a) : val 3 (val 7 a n) 0 = val 3 a 0 := by
  rw [val_3, val_3, sh7 n ha]
  have hp := pw_pos n
  have e : s32 0 = 0 := rfl
  rw [e]
  congr 1
  rw [decide_eq_decide]
  constructor
  · intro h
    by_cases h0 : 0 ≤ s32 a
    · have := Int.ediv_nonneg (b := pw n) h0 (by omega); omega
    · omega
  · intro h
    exact Int.ediv_neg_of_neg_of_pos h (by omega)
theorem plain_down {a : Int} (n : Int) (ha : U32 a) (h : a < 2147483648) : val 7 a n = val 6 a n := by
  have e : s32 a = a := by unfold s32; rw [if_pos h]
  rw [val_7, val_6, e]
  have hp := pw_pos n
  have h1 := Int.ediv_nonneg ha.1 (show 0 ≤ pw n by omega)
  have h2 := Int.ediv_le_self (b := pw n) ha.1
  omega

/-! Negatives -/
theorem s32_neg {a : Int} (ha : U32 a) (h : a ≠ 2147483648) : s32 (val 1 0 a) = -s32 a := by
  rw [val_1]; unfold U32 at ha; unfold s32; split <;> split <;> omega
theorem neg_U {a : Int} : U32 (val 1 0 a) := by rw [val_1]; exact ⟨by omega, by omega⟩
theorem neg_zero {a : Int} (hb : U32 a) : val 1 0 a = 0 ↔ a = 0 := by
  rw [val_1]; unfold U32 at hb; omega
theorem neg_add (a : Int) : val 0 a (val 1 0 a) = 0 := by rw [val_0, val_1]; omega
theorem neg_div_l {a b : Int} (ha : U32 a) (h : a ≠ 2147483648) (hb0 : b ≠ 0) : val 14 (val 1 0 a) b = val 1 0 (val 14 a b) := by
  rw [val_14, if_neg hb0, s32_neg ha h, Int.neg_tdiv, val_14, if_neg hb0, val_1]; omega
theorem neg_div_r {a b : Int} (hb : U32 b) (h : b ≠ 2147483648) (hb0 : b ≠ 0) : val 14 a (val 1 0 b) = val 1 0 (val 14 a b) := by
  rw [val_14, if_neg (by rw [neg_zero hb]; exact hb0), s32_neg hb h, Int.tdiv_neg, val_14, if_neg hb0, val_1]; omega
theorem neg_rem_r {a b : Int} (hb : U32 b) (h : b ≠ 2147483648) (hb0 : b ≠ 0) : val 16 a (val 1 0 b) = val 16 a b := by
  rw [val_16, if_neg (by rw [neg_zero hb]; exact hb0), s32_neg hb h, Int.tmod_neg, val_16, if_neg hb0]
theorem neg_rem_l {a b : Int} (ha : U32 a) (h : a ≠ 2147483648) (hb0 : b ≠ 0) : val 16 (val 1 0 a) b = val 1 0 (val 16 a b) := by
  rw [val_16, if_neg hb0, s32_neg ha h, Int.neg_tmod, val_16, if_neg hb0, val_1]; omega

/-! Signs that are spread -/
theorem ext8 (v : Int) : ext v 8 = if v % 256 < 128 then v % 256 else v % 256 + 4294967040 := by unfold ext; rw [if_pos rfl]
theorem ext16 (v : Int) : ext v 16 = if v % 65536 < 32768 then v % 65536 else v % 65536 + 4294901760 := by unfold ext; rw [if_neg (by decide), if_pos rfl]
theorem ext8_8 (v : Int) : ext (ext v 8) 8 = ext v 8 := by
  rw [ext8 (ext v 8), ext8 v]; split <;> split <;> omega
theorem ext16_16 (v : Int) : ext (ext v 16) 16 = ext v 16 := by
  rw [ext16 (ext v 16), ext16 v]; split <;> split <;> omega
theorem ext8_16 (v : Int) : ext (ext v 8) 16 = ext v 8 := by
  rw [ext16 (ext v 8), ext8 v]; split <;> split <;> omega
theorem ext8_low (v : Int) : ext v 8 % 256 = v % 256 := by rw [ext8]; split <;> omega
theorem ext16_low (v : Int) : ext v 16 % 65536 = v % 65536 := by rw [ext16]; split <;> omega
theorem or_high {v : Int} (h : U32 v) : bits .or .u32 v 4294967040 = v % 256 + 4294967040 := by
  unfold U32 at h
  obtain ⟨x, rfl⟩ := Int.eq_ofNat_of_zero_le h.1
  rw [show (4294967040 : Int) = ((4294967040 : Nat) : Int) from rfl, u32_or_nat _ _ (by omega) (by omega)]
  have e := nat_or_and 32 x 4294967040 (by omega) (by decide)
  rw [nat_hi32_8] at e
  omega
end Go.Proofs.YtbackacbdfgdoaaDoor.Alu
namespace Go.Proofs.YtbackacbdfgdoaaDoor
open Go.ChangeShapes Go.WideShapes Go.ChangeAt Go.RowKit
open Cpu
set_option linter.unusedVariables false

theorem HasB.kp {w0 w w' : World} {mb N : Nat} {S : MS} {P Q : Nat → Prop} (h : HasB w0 w mb N S P) (k : Kp Q w w') (hQ : ∀ i, ¬ P i → Q i) (g : Bw w0 w') : HasB w0 w' mb N S P := by
  obtain ⟨F, _, hF, L, o⟩ := h
  exact ⟨F, g, hF, L, o.congr k.1 (fun i hi => k.2 i (o.lt i hi) (hQ i (hF i hi).2))⟩
/-- The registers of a State's box. -/
def xl (f : Nat → Int) : List Value := (List.range 32).map fun i => Value.int .u32 (f i)
theorem SB.xrange {w : World} {b : Nat} {s : St} (h : SB w b s) : w.rangeAt b 0 (xl s.x) := fun j v hv => by
  rw [Nat.zero_add]
  have hj : j < 32 := by have := (List.getElem?_eq_some_iff.1 hv).1; simpa [xl] using this
  unfold xl at hv
  rw [List.getElem?_map, List.getElem?_range hj] at hv
  simp at hv
  subst hv
  exact h.c hj
theorem infoX (f : Nat → Int) : (Tryd.prog.info? 30).map (·.size) = some (xl f).length := by
  rw [show (xl f).length = 32 by simp [xl]]; kernel_rfl
theorem wpLoadX {ops : Array Oper} {rest : List Oper} {op : Oper} {a : Act} {w : World} {Q : Exit → Act → World → Prop} (hw : Region.wanted op (yielded ops a.tmps) = true) (x : Operand) (ho : op.op = .load 30 x)
    (b : Nat) {s : St} (hx : a.eval x = .pointer (some ⟨b, 0, none⟩)) (hb : SB w b s) (h : wpList Tryd.prog ops Q rest (a.put op.dst (.agg (xl s.x).toArray)) w) : wpList Tryd.prog ops Q (op :: rest) a w :=
  BigFrame.wpList_want hw fun _ hK => wp_load_mid 30 x ho b 0 hx (xl s.x) _ hb.xrange Tryd.underlying30 rfl (infoX _) (hK _ _ h)
theorem x_eqlL (f : Nat → Int) (hs : ∀ i, U4 (f i)) (w : World) : (binOp .eql 30 (.agg (xl f).toArray) (.agg (xl f).toArray)).run Tryd.prog w = .ok (.bool true) w := x_eql f hs w
/-- A State with two registers set. -/
def st2 (i j : Nat) (a b : Int) : St := ((awS.put i a).put j b)
theorem st2_ok {i j : Nat} {a b : Int} (ha : U4 a) (hb : U4 b) : (st2 i j a b).Ok := by
  refine ⟨fun k => ?_, awS_ok.pc, awS_ok.ret⟩
  show U4 (if k = j then b else if k = i then a else 0)
  split
  · exact hb
  · split
    · exact ha
    · exact ⟨by decide, by decide⟩
/-- A State's box, its two registers set in place. -/
theorem SB.two {w : World} {b : Nat} (h : SB w b awS) {i j : Nat} (hi : i < 32) (hj : j < 32) (x y : Int) : SB ((w.setCell ⟨b, i, none⟩ (.int .u32 x)).setCell ⟨b, j, none⟩ (.int .u32 y)) b (st2 i j x y) := (h.put hi x).put hj y
theorem done_x {s : St} (h0 : s.x 0 = 0) (pc : Int) : (done s 0 0 pc).x = s.x := by
  funext i
  show (if i = 0 then 0 else if i = (0 : Int).toNat then 0 else s.x i) = s.x i
  by_cases h : i = 0
  · subst h; rw [if_pos rfl, h0]
  · rw [if_neg h, if_neg (by simpa using h)]
end Go.Proofs.YtbackacbdfgdoaaDoor
namespace Go.Proofs.YtbackacbdfgdoaaDoor
open Cpu
set_option linter.unusedVariables false
namespace Cpu
def mvW (a : Int) : List Int := [Rv.enc ⟨18, 0, 1, 2, a⟩, Rv.enc ⟨11, 3, 1, 0, a⟩, Rv.enc ⟨12, 4, 1, 0, a⟩, Rv.enc ⟨13, 5, 1, 0, a⟩, Rv.enc ⟨14, 6, 1, 0, a⟩, Rv.enc ⟨15, 7, 1, 0, a⟩]
def mvS0 (a : Int) : MS := mkS (mvW a) []
def mvS (a v : Int) : MS := (mvS0 a).store (65536 + a) 4 v
def mvM (a v : Int) (k : Nat) : MS := if k = 0 then mvS0 a else mvS a v
def mvQ (v : Int) (k : Nat) : St :=
  let q0 := st2 1 2 65536 v
  let q1 := done q0 0 0 4100
  let q2 := done q1 3 (Alu.ext v 8) 4104
  let q3 := done q2 4 (Alu.ext v 16) 4108
  let q4 := done q3 5 v 4112
  let q5 := done q4 6 (v % 256) 4116
  match k with
  | 0 => q0 | 1 => q1 | 2 => q2 | 3 => q3 | 4 => q4 | 5 => q5 | _ => done q5 7 (v % 65536) 4120
theorem ld_good {op rd a : Int} (h : 11 ≤ op ∧ op ≤ 15) (hr : 0 ≤ rd ∧ rd < 32) (ha : 0 ≤ a ∧ a ≤ 200) : Rv.good ⟨op, rd, 1, 0, a⟩ := by
  rw [Rv.good_5 (by unfold Rv.lay; dsimp only; rw [if_neg (by omega), if_neg (by omega), if_neg (by omega), if_neg (by omega), if_pos (by omega)])]
  unfold Rv.reg
  dsimp only
  omega
theorem st_good {a : Int} (ha : 0 ≤ a ∧ a ≤ 200) : Rv.good ⟨18, 0, 1, 2, a⟩ := by
  rw [Rv.good_4 (by unfold Rv.lay; dsimp only; rw [if_neg (by omega), if_neg (by omega), if_neg (by omega), if_pos (by omega)])]
  unfold Rv.reg
  dsimp only
  omega
theorem im_ok {a : Int} (ha : 0 ≤ a ∧ a ≤ 200) : -2147483648 ≤ a ∧ a < 2147483648 := by omega
theorem fetch_same {S T : MS} {pc : Int} (h : T.pg (pc / 256) = S.pg (pc / 256)) : fetch T pc = fetch S pc := by
  have e : T.ask pc 4 4 = S.ask pc 4 4 := by unfold MS.ask; rw [h]
  have l : T.load pc 4 4 = S.load pc 4 4 := by unfold MS.load; rw [e, h]
  unfold fetch; rw [e, l]
theorem mv_ask {a : Int} (ha : 0 ≤ a ∧ a ≤ 200) (hm : a % 4 = 0) {S : MS} (h : T3 S) {sz nd : Int} (hs : sz = 1 ∨ sz = 2 ∨ sz = 4) (hn : nd = 1 ∨ nd = 2) : S.ask (65536 + a) sz nd = 0 := by
  obtain ⟨p, h1, h2⟩ := h.pg (k := (65536 + a) / 256) (q := 3) (by rw [show (65536 + a) / 256 = 256 by omega]; rfl)
  refine ask_pg h1 ⟨hs, ?_⟩ ?_
  · rcases hs with rfl | rfl | rfl <;> omega
  · rw [h2]; rcases hn with rfl | rfl <;> decide
theorem mv_pg {a v : Int} (ha : 0 ≤ a ∧ a ≤ 200) (hm : a % 4 = 0) : (mvS a v).pg 16 = (mvS0 a).pg 16 := by
  have h3 : T3 (mvS0 a) := T3.made _ _
  have h0 := mv_ask ha hm h3 (sz := 4) (nd := 2) (by omega) (by omega)
  obtain ⟨p, h1, h2⟩ := h3.pg (k := (65536 + a) / 256) (q := 3) (by rw [show (65536 + a) / 256 = 256 by omega]; rfl)
  unfold mvS MS.store
  rw [if_pos h0, h1]
  exact upd_other _ _ (by omega)
theorem mv_byt {a v : Int} (ha : 0 ≤ a ∧ a ≤ 200) (hm : a % 4 = 0) (hv : U4 v) : ∃ p, (mvS a v).pg ((65536 + a) / 256) = some p ∧ p.perm = 3 ∧ p.val ((65536 + a) % 256).toNat 1 = v % 256 ∧ p.val ((65536 + a) % 256).toNat 2 = v % 65536 ∧ p.val ((65536 + a) % 256).toNat 4 = v := by
  have h3 : T3 (mvS0 a) := T3.made _ _
  have h0 := mv_ask ha hm h3 (sz := 4) (nd := 2) (by omega) (by omega)
  obtain ⟨p, h1, h2⟩ := h3.pg (k := (65536 + a) / 256) (q := 3) (by rw [show (65536 + a) / 256 = 256 by omega]; rfl)
  have hs := store_pg (v := v) h1 h0
  obtain ⟨v0, v1⟩ := hv
  obtain ⟨o, ho⟩ : ∃ o, ((65536 + a) % 256).toNat = o := ⟨_, rfl⟩
  rw [ho] at hs ⊢
  have b : ∀ i : Nat, i < 4 → ({ p.wrt o v (4 : Int).toNat with gen := (p.gen + 1) % 4294967296 } : Pg).byt (o + i) = v / 256 ^ i % 256 := fun i hi => by
    show (if o ≤ o + i ∧ o + i < o + 4 then v / 256 ^ (o + i - o) % 256 else p.byt (o + i)) = _
    rw [if_pos (by omega), show o + i - o = i by omega]
  have b0 := b 0 (by omega)
  have b1 := b 1 (by omega)
  have b2 := b 2 (by omega)
  have b3 := b 3 (by omega)
  simp only [Nat.add_zero, Int.pow_zero, Int.ediv_one] at b0
  refine ⟨_, hs, h2, ?_, ?_, ?_⟩
  · unfold Pg.val; rw [if_pos rfl, b0]
  · unfold Pg.val; rw [if_neg (by omega), if_pos rfl, b0, b1]; omega
  · unfold Pg.val; rw [if_neg (by omega), if_neg (by omega), b0, b1, b2, b3]; omega
theorem mv_load {a v : Int} (ha : 0 ≤ a ∧ a ≤ 200) (hm : a % 4 = 0) (hv : U4 v) : (mvS a v).load (65536 + a) 1 1 = v % 256 ∧ (mvS a v).load (65536 + a) 2 1 = v % 65536 ∧ (mvS a v).load (65536 + a) 4 1 = v := by
  have h3 : T3 (mvS a v) := (T3.made _ _).store _ _ _
  obtain ⟨p, h1, -, e1, e2, e3⟩ := mv_byt ha hm hv
  refine ⟨?_, ?_, ?_⟩
  · rw [load_pg h1 (mv_ask ha hm h3 (by omega) (by omega)), e1]
  · rw [load_pg h1 (mv_ask ha hm h3 (by omega) (by omega)), e2]
  · rw [load_pg h1 (mv_ask ha hm h3 (by omega) (by omega)), e3]
theorem mv_ld {a v : Int} (ha : 0 ≤ a ∧ a ≤ 200) (hm : a % 4 = 0) {op rd y tg : Int} {k : Nat} (s : St) (hx : s.x 1 = 65536) (hk : k < 6) (hw : (mvW a)[k]? = some (Rv.enc ⟨op, rd, 1, 0, a⟩)) (hpc : s.pc = 4096 + 4 * (k : Int)) (hop : 11 ≤ op ∧ op ≤ 15) (hr : 0 ≤ rd ∧ rd < 32)
    (hy : Alu.ext ((mvS a v).load (65536 + a) (lsz op) 1) (lbt op) = y) (ht : tg = 4096 + 4 * (k : Int) + 4) : Cpu.step (mvS a v) s = ⟨done s rd y tg, nx, mvS a v⟩ := by
  have hf : fetch (mvS a v) s.pc = (⟨op, rd, 1, 0, a⟩, nx) := by
    rw [hpc, fetch_same (S := mvS0 a) (by rw [show (4096 + 4 * (k : Int)) / 256 = 16 by omega]; exact mv_pg ha hm)]
    exact fetch_ins (mvW a) [] (by omega) hw (ld_good hop hr ha) (im_ok ha)
  unfold Cpu.step
  rw [hf, if_pos (by rfl)]
  have hadr : adr (⟨op, rd, 1, 0, a⟩ : Rv.Ins) s = 65536 + a := by
    unfold adr reg
    dsimp only
    rw [if_neg (by omega), show s.x (1 : Int).toNat = 65536 from hx]; omega
  have hsz : lsz op = 1 ∨ lsz op = 2 ∨ lsz op = 4 := by
    rcases (show op = 11 ∨ op = 12 ∨ op = 13 ∨ op = 14 ∨ op = 15 by omega) with rfl | rfl | rfl | rfl | rfl <;> decide
  unfold Cpu.run
  dsimp only
  rw [if_neg (by omega), if_neg (by omega), if_neg (by omega), if_neg (by omega), if_neg (by omega), if_pos (by omega)]
  unfold lod
  dsimp only
  have h3 : T3 (mvS a v) := (T3.made _ _).store _ _ _
  rw [hadr, if_pos (mv_ask ha hm h3 hsz (by omega)), hy]
  unfold next
  rw [hpc, ht, show (4096 + 4 * (k : Int) + 4) % 4294967296 = 4096 + 4 * (k : Int) + 4 by omega]
theorem mv_st {a v : Int} (ha : 0 ≤ a ∧ a ≤ 200) (hm : a % 4 = 0) : Cpu.step (mvS0 a) (mvQ v 0) = ⟨mvQ v 1, nx, mvS a v⟩ := by
  show Cpu.step (mkS (mvW a) []) (mvQ v 0) = _
  rw [step_ins (mvW a) [] (k := 0) (i := ⟨18, 0, 1, 2, a⟩) (mvQ v 0) (by omega) rfl (st_good ha) (im_ok ha) rfl]
  have hadr : adr (⟨18, 0, 1, 2, a⟩ : Rv.Ins) (mvQ v 0) = 65536 + a := by
    unfold adr
    rw [show reg (mvQ v 0) (Rv.Ins.mk 18 0 1 2 a).rs1 = 65536 from rfl]; dsimp only; omega
  unfold Cpu.run
  dsimp only
  rw [if_neg (by omega), if_neg (by omega), if_neg (by omega), if_neg (by omega), if_neg (by omega), if_neg (by omega), if_pos (by omega)]
  unfold sto
  rw [hadr, show ssz (Rv.Ins.mk 18 0 1 2 a).op = 4 from (by decide : ssz 18 = 4), show reg (mvQ v 0) (Rv.Ins.mk 18 0 1 2 a).rs2 = v from rfl, if_pos (mv_ask ha hm (T3.made _ _) (by omega) (by omega))]
  rfl
theorem mv_x1 {s : St} {r : Int} {y tg : Int} (h : s.x 1 = 65536) (hr : r = 0 ∨ 2 ≤ r) : (done s r y tg).x 1 = 65536 := by
  show (if (1 : Nat) = 0 then 0 else if 1 = r.toNat then y else s.x 1) = 65536
  rw [if_neg (by omega), if_neg (by omega), h]
/-- All six. -/
theorem mv_all {a v : Int} (ha : 0 ≤ a ∧ a ≤ 200) (hm : a % 4 = 0) (hv : U4 v) (k : Nat) (hk : k < 6) : Cpu.step (mvM a v k) (mvQ v k) = ⟨mvQ v (k + 1), nx, mvM a v (k + 1)⟩ := by
  obtain ⟨l1, l2, l4⟩ := mv_load ha hm hv
  have x0 : (mvQ v 0).x 1 = 65536 := rfl
  have x1 : (mvQ v 1).x 1 = 65536 := mv_x1 x0 (by omega)
  have x2 : (mvQ v 2).x 1 = 65536 := mv_x1 x1 (by omega)
  have x3 : (mvQ v 3).x 1 = 65536 := mv_x1 x2 (by omega)
  have x4 : (mvQ v 4).x 1 = 65536 := mv_x1 x3 (by omega)
  have x5 : (mvQ v 5).x 1 = 65536 := mv_x1 x4 (by omega)
  have e32 : ∀ y, U4 y → Alu.ext y 32 = y := fun y hy => by
    unfold Alu.ext; rw [if_neg (by decide), if_neg (by decide)]
  rcases (show k = 0 ∨ k = 1 ∨ k = 2 ∨ k = 3 ∨ k = 4 ∨ k = 5 by omega) with rfl | rfl | rfl | rfl | rfl | rfl
  · exact mv_st ha hm
  · exact mv_ld ha hm (k := 1) (mvQ v 1) x1 (by omega) rfl rfl (by omega) (by omega) (by rw [show lsz 11 = 1 by decide, show lbt 11 = 8 by decide, l1, Alu.ext8, Alu.ext8]; rw [Int.emod_emod_of_dvd _ (by decide)]) rfl
  · exact mv_ld ha hm (k := 2) (mvQ v 2) x2 (by omega) rfl rfl (by omega) (by omega) (by rw [show lsz 12 = 2 by decide, show lbt 12 = 16 by decide, l2, Alu.ext16, Alu.ext16]; rw [Int.emod_emod_of_dvd _ (by decide)]) rfl
  · exact mv_ld ha hm (k := 3) (mvQ v 3) x3 (by omega) rfl rfl (by omega) (by omega) (by rw [show lsz 13 = 4 by decide, show lbt 13 = 32 by decide, l4, e32 _ hv]) rfl
  · exact mv_ld ha hm (k := 4) (mvQ v 4) x4 (by omega) rfl rfl (by omega) (by omega) (by rw [show lsz 14 = 1 by decide, show lbt 14 = 32 by decide, l1, e32 _ ⟨by omega, by omega⟩]) rfl
  · exact mv_ld ha hm (k := 5) (mvQ v 5) x5 (by omega) rfl rfl (by omega) (by omega) (by rw [show lsz 15 = 2 by decide, show lbt 15 = 32 by decide, l2, e32 _ ⟨by omega, by omega⟩]) rfl
theorem done_ok {s : St} {r y tg : Int} (h : s.Ok) (hy : U4 y) (ht : U4 tg) (hr : s.ret + 1 ≤ 4611686018427387904) : (done s r y tg).Ok := by
  refine ⟨fun i => ?_, ht, by have := h.ret; show _ ≤ s.ret + 1 ∧ s.ret + 1 ≤ _; omega⟩
  show U4 (if i = 0 then 0 else if i = r.toNat then y else s.x i)
  split
  · exact ⟨by decide, by decide⟩
  · split
    · exact hy
    · exact h.x i
theorem mv_ret (v : Int) (k : Nat) (hk : k ≤ 6) : (mvQ v k).ret = k := by
  rcases (show k = 0 ∨ k = 1 ∨ k = 2 ∨ k = 3 ∨ k = 4 ∨ k = 5 ∨ k = 6 by omega) with rfl | rfl | rfl | rfl | rfl | rfl | rfl <;> rfl
theorem mv_ok {v : Int} (hv : U4 v) (k : Nat) (hk : k ≤ 6) : (mvQ v k).Ok := by
  have r := fun k hk => mv_ret v k hk
  have e8 : U4 (Alu.ext v 8) := by rw [Alu.ext8]; obtain ⟨h0, h1⟩ := hv; split <;> exact ⟨by omega, by omega⟩
  have e16 : U4 (Alu.ext v 16) := by rw [Alu.ext16]; obtain ⟨h0, h1⟩ := hv; split <;> exact ⟨by omega, by omega⟩
  have h0 : (mvQ v 0).Ok := st2_ok ⟨by decide, by decide⟩ hv
  have h1 : (mvQ v 1).Ok := done_ok h0 ⟨by decide, by decide⟩ ⟨by decide, by decide⟩ (by have e : (mvQ v 0).ret = 0 := rfl; first | (rw [e]; decide) | (show (0 : Int) + 1 ≤ _; decide))
  have h2 : (mvQ v 2).Ok := done_ok h1 e8 ⟨by decide, by decide⟩ (by have e : (mvQ v 1).ret = 1 := rfl; first | (rw [e]; decide) | (show (1 : Int) + 1 ≤ _; decide))
  have h3 : (mvQ v 3).Ok := done_ok h2 e16 ⟨by decide, by decide⟩ (by have e : (mvQ v 2).ret = 2 := rfl; first | (rw [e]; decide) | (show (2 : Int) + 1 ≤ _; decide))
  have h4 : (mvQ v 4).Ok := done_ok h3 hv ⟨by decide, by decide⟩ (by have e : (mvQ v 3).ret = 3 := rfl; first | (rw [e]; decide) | (show (3 : Int) + 1 ≤ _; decide))
  have h5 : (mvQ v 5).Ok := done_ok h4 ⟨by omega, by omega⟩ ⟨by decide, by decide⟩ (by have e : (mvQ v 4).ret = 4 := rfl; first | (rw [e]; decide) | (show (4 : Int) + 1 ≤ _; decide))
  have h6 : (mvQ v 6).Ok := done_ok h5 ⟨by omega, by omega⟩ ⟨by decide, by decide⟩ (by have e : (mvQ v 5).ret = 5 := rfl; first | (rw [e]; decide) | (show (5 : Int) + 1 ≤ _; decide))
  rcases (show k = 0 ∨ k = 1 ∨ k = 2 ∨ k = 3 ∨ k = 4 ∨ k = 5 ∨ k = 6 by omega) with rfl | rfl | rfl | rfl | rfl | rfl | rfl <;> assumption
theorem mv_end (v : Int) : (mvQ v 6).x 3 = Alu.ext v 8 ∧ (mvQ v 6).x 4 = Alu.ext v 16 ∧ (mvQ v 6).x 5 = v ∧ (mvQ v 6).x 6 = v % 256 ∧ (mvQ v 6).x 7 = v % 65536 ∧ (mvQ v 6).ret = 6 := ⟨rfl, rfl, rfl, rfl, rfl, rfl⟩
end Cpu
theorem and255c {b : Int} (h : U4 b) : bits .and .u32 b 255 = b % 256 := by
  obtain ⟨h0, h1⟩ := h
  rw [u32_and b 255 h0 h1 (by omega) (by omega)]
  have : b.toNat &&& (255 : Int).toNat = b.toNat % 2 ^ 8 := Nat.and_two_pow_sub_one_eq_mod _ 8
  rw [this]; omega
theorem and65535c {b : Int} (h : U4 b) : bits .and .u32 b 65535 = b % 65536 := by
  obtain ⟨h0, h1⟩ := h
  rw [u32_and b 65535 h0 h1 (by omega) (by omega)]
  have : b.toNat &&& (65535 : Int).toNat = b.toNat % 2 ^ 16 := Nat.and_two_pow_sub_one_eq_mod _ 16
  rw [this]; omega
end Go.Proofs.YtbackacbdfgdoaaDoor
namespace Go.Proofs.YtbackacbdfgdoaaDoor
open Go.ChangeShapes Go.WideShapes Go.ChangeAt Go.RowKit
open Cpu
set_option linter.unusedVariables false
set_option linter.unusedSimpArgs false

theorem at_load {P : Program} {ops : Array Oper} {Q : Exit → Act → World → Prop} {d : Option Tmp} {ty : TypeId} {x : Operand} {t : TypeId} {pos : String} {after : Array Edge} {g : Option (Nat × Bool)} {rest : List Oper} {a : Act} {w : World}
    (h : wpList P ops Q ({ dst := d, op := .load ty x, type := t, pos := pos, after := after, guard := g } :: rest) a w) : wpList P ops Q ({ dst := d, op := .load ty x, type := t, pos := pos, after := after, guard := g } :: rest) a w := h
theorem at_store {P : Program} {ops : Array Oper} {Q : Exit → Act → World → Prop} {d : Option Tmp} {ty : TypeId} {x y : Operand} {t : TypeId} {pos : String} {after : Array Edge} {g : Option (Nat × Bool)} {rest : List Oper} {a : Act} {w : World}
    (h : wpList P ops Q ({ dst := d, op := .store ty x y, type := t, pos := pos, after := after, guard := g } :: rest) a w) : wpList P ops Q ({ dst := d, op := .store ty x y, type := t, pos := pos, after := after, guard := g } :: rest) a w := h
/-- A memory of some words. -/
theorem madeL_c (w : World) (l : List Int) (hl : l.length ≤ 100000) (hu : ∀ y ∈ l, U4 y) : Calls Tryd.prog 11 #[.slice (some ⟨w.heap.size, 0, none⟩) l.length l.length, .slice none 0 0] (w.alloc (.cells (l.map (Value.int .u32)).toArray 25)) fun e w' => ∃ mb, e = .returned (.pointer (some ⟨mb, 0, none⟩)) ∧ HasB w w' mb 12288 (mkS l []) (fun i => i < w.heap.size) := by
  refine (made_c _ _ _ l [] (RdW.new w l hl) (RdR.nil 1 _) hu b8_nil).mono ?_
  rintro e w' ⟨mb, rfl, F, g, hF, o⟩
  exact ⟨mb, rfl, F, ((Bw.refl w).alloc _).trans g, fun i hi => ⟨by have := (hF i hi).1; simp at this; omega, by have := (hF i hi).2; simp at this; omega⟩, o⟩
set_option maxRecDepth 100000 in
set_option maxHeartbeats 4000000 in
theorem CpuMoves_no (v at_ : Int) (W : World) (ha : All12 W) (h : at_ < 0 ∨ 200 < at_ ∨ at_ % 4 ≠ 0) :
    Calls Tryd.prog 9 #[.int .u32 v, .int .i32 at_] W fun e w' => e = .returned (.bool true) ∧ Bw W w' := by
  have hA := awake12_c W ha
  rcases (show at_ < 0 ∨ ¬ at_ < 0 ∧ 200 < at_ ∨ ¬ at_ < 0 ∧ ¬ 200 < at_ ∧ (at_ % 4 != 0) = true by simp; omega) with h1 | ⟨h1, h2⟩ | ⟨h1, h2, h3⟩
  all_goals
    clear h
    go_enter Tryd.func9, Tryd.ntmps9
    go_wp2_with (first | (go_at_call 10; refine hA.mono ?_; rintro e w1 ⟨rfl, b1⟩))
    go_returns
    exact ⟨rfl, b1⟩
set_option maxRecDepth 100000 in
set_option maxHeartbeats 4000000 in
theorem CpuMoves_yes (v at_ : Int) (hv : U4 v) (h : 0 ≤ at_ ∧ at_ ≤ 200) (h4 : at_ % 4 = 0) (W : World) (ha : All12 W) :
    Calls Tryd.prog 9 #[.int .u32 v, .int .i32 at_] W fun e w' => e = .returned (.bool true) ∧ Bw W w' := by
  have hA := awake12_c W ha
  have hW0 := fun X (g : Bw W X) => word_c X ⟨18, 0, 1, 2, at_⟩ (ha.t.bw g) (im_ok h) (st_good h)
  have hW1 := fun X (g : Bw W X) => word_c X ⟨11, 3, 1, 0, at_⟩ (ha.t.bw g) (im_ok h) (ld_good (by omega) (by omega) h)
  have hW2 := fun X (g : Bw W X) => word_c X ⟨12, 4, 1, 0, at_⟩ (ha.t.bw g) (im_ok h) (ld_good (by omega) (by omega) h)
  have hW3 := fun X (g : Bw W X) => word_c X ⟨13, 5, 1, 0, at_⟩ (ha.t.bw g) (im_ok h) (ld_good (by omega) (by omega) h)
  have hW4 := fun X (g : Bw W X) => word_c X ⟨14, 6, 1, 0, at_⟩ (ha.t.bw g) (im_ok h) (ld_good (by omega) (by omega) h)
  have hW5 := fun X (g : Bw W X) => word_c X ⟨15, 7, 1, 0, at_⟩ (ha.t.bw g) (im_ok h) (ld_good (by omega) (by omega) h)
  have hu : ∀ y ∈ mvW at_, U4 y := by
    intro y hy
    simp only [mvW, List.mem_cons, List.not_mem_nil, or_false] at hy
    rcases hy with rfl | rfl | rfl | rfl | rfl | rfl
    · exact enc_u4 (st_good h).1
    · exact enc_u4 (ld_good (a := at_) (op := 11) (rd := 3) (by omega) (by omega) h).1
    · exact enc_u4 (ld_good (a := at_) (op := 12) (rd := 4) (by omega) (by omega) h).1
    · exact enc_u4 (ld_good (a := at_) (op := 13) (rd := 5) (by omega) (by omega) h).1
    · exact enc_u4 (ld_good (a := at_) (op := 14) (rd := 6) (by omega) (by omega) h).1
    · exact enc_u4 (ld_good (a := at_) (op := 15) (rd := 7) (by omega) (by omega) h).1
  have hmk : mkS (mvW at_) [] = mvM at_ v 0 := rfl
  have hAll := mv_all h h4 hv
  have hOk := mv_ok hv
  obtain ⟨z3, z4, z5, z6, z7, z8⟩ := mv_end v
  have h255 := and255c hv
  have h65535 := and65535c hv
  have hE8 := fun n X => Extend_c v n ⟨hv.1, by have := hv.2; omega⟩ X
  obtain ⟨ws, hws⟩ : ∃ ws, mvW at_ = ws := ⟨_, rfl⟩
  have hws2 := hws
  unfold mvW at hws2
  obtain ⟨k0, e0⟩ : ∃ k, Rv.enc ⟨18, 0, 1, 2, at_⟩ = k := ⟨_, rfl⟩
  obtain ⟨k1, e1⟩ : ∃ k, Rv.enc ⟨11, 3, 1, 0, at_⟩ = k := ⟨_, rfl⟩
  obtain ⟨k2, e2⟩ : ∃ k, Rv.enc ⟨12, 4, 1, 0, at_⟩ = k := ⟨_, rfl⟩
  obtain ⟨k3, e3⟩ : ∃ k, Rv.enc ⟨13, 5, 1, 0, at_⟩ = k := ⟨_, rfl⟩
  obtain ⟨k4, e4⟩ : ∃ k, Rv.enc ⟨14, 6, 1, 0, at_⟩ = k := ⟨_, rfl⟩
  obtain ⟨k5, e5⟩ : ∃ k, Rv.enc ⟨15, 7, 1, 0, at_⟩ = k := ⟨_, rfl⟩
  rw [e0, e1, e2, e3, e4, e5] at hws2
  rw [e0] at hW0
  rw [e1] at hW1
  rw [e2] at hW2
  rw [e3] at hW3
  rw [e4] at hW4
  rw [e5] at hW5
  clear e0 e1 e2 e3 e4 e5
  unfold Rv.iv at hW0 hW1 hW2 hW3 hW4 hW5
  dsimp only at hW0 hW1 hW2 hW3 hW4 hW5
  rw [hws] at hu hmk
  obtain ⟨o0, o1⟩ := h
  have HW : Hid (ws = [k0, k1, k2, k3, k4, k5]) := hws2.symm
  clear hws2 hws
  go_enter Tryd.func9, Tryd.ntmps9
  go_wp2_with fail
  refine hA.mono ?_
  rintro e w1 ⟨rfl, b1⟩
  clear hA
  have hX := hW0 _ b1
  clear hW0
  go_wp2_with fail
  refine hX.mono ?_
  rintro e w2 ⟨rfl, b2⟩
  replace b1 := b1.trans b2
  clear b2 hX
  have hX := hW1 _ b1
  clear hW1
  go_wp2_with fail
  refine hX.mono ?_
  rintro e w2 ⟨rfl, b2⟩
  replace b1 := b1.trans b2
  clear b2 hX
  have hX := hW2 _ b1
  clear hW2
  go_wp2_with fail
  refine hX.mono ?_
  rintro e w2 ⟨rfl, b2⟩
  replace b1 := b1.trans b2
  clear b2 hX
  have hX := hW3 _ b1
  clear hW3
  go_wp2_with fail
  refine hX.mono ?_
  rintro e w2 ⟨rfl, b2⟩
  replace b1 := b1.trans b2
  clear b2 hX
  have hX := hW4 _ b1
  clear hW4
  go_wp2_with fail
  refine hX.mono ?_
  rintro e w2 ⟨rfl, b2⟩
  replace b1 := b1.trans b2
  clear b2 hX
  have hX := hW5 _ b1
  clear hW5
  go_wp2_with fail
  refine hX.mono ?_
  rintro e w2 ⟨rfl, b2⟩
  replace b1 := b1.trans b2
  clear b2 hX
  have hX := madeL_c w2 ws (by rw [HW.out]; simp) hu
  rw [HW.out] at hX
  rw [show mkS [k0, k1, k2, k3, k4, k5] [] = mvM at_ v 0 by rw [← hmk, HW.out]] at hX
  clear hu hmk
  go_wp2_with fail
  refine hX.mono ?_
  rintro e w3 ⟨mb, rfl, hM⟩
  clear hX HW
  replace hM : HasB W w3 mb 12288 (mvM at_ v 0) (fun i => i < w2.heap.size ∨ w3.heap.size ≤ i) := (hM.base b1).more (fun i hi => hi)
  have g3 : Bw W w3 := hM.bw
  clear b1
  have hZ0 : Box (w3.alloc (.cells (cl zst).toArray 32)) w3.heap.size (cl zst) := Box.new w3 (cl zst) _
  go_wp2_with (first
  | (refine wpStoreBox rfl 32 _ _ rfl w3.heap.size (l := cl zst) (l' := cl awS) rfl rfl hZ0 (by rw [cl_len, cl_len]) (infoL _) (cl_one _) ?_; intro w6 h6 q6; have s6 : SB w6 w3.heap.size awS := h6; have s61 := s6.c (i := 1) (by omega); have s62 := s6.c (i := 2) (by omega); have f61 := s6.f (i := 1) (by omega); have f62 := s6.f (i := 2) (by omega); have g6 : Bw w3 w6 := q6.toBw ((Bw.refl _).alloc _) (Nat.le_refl _); clear hZ0)
  | fail)
  obtain ⟨w7, hw7⟩ : ∃ w7, ((w6.setCell ⟨w3.heap.size, 1, none⟩ (.int .u32 65536)).setCell ⟨w3.heap.size, 2, none⟩ (.int .u32 v)) = w7 := ⟨_, rfl⟩
  have s7 : SB w7 w3.heap.size (mvQ v 0) := hw7 ▸ s6.two (by omega) (by omega) 65536 v
  have g7 : Bw w3 w7 := hw7 ▸ (g6.setCell (Nat.le_refl _) _).setCell (Nat.le_refl _) _
  have hM7 := hM.on g7
  rw [hw7]
  clear hw7 s6 s61 s62 f61 f62 g6 q6 h6 hM
  have hAll' : Hid _ := hAll
  have hOk' : Hid _ := hOk
  clear hAll hOk
  go_loopg [7] 6 (fun g j wr => ∃ k : Nat, k + g = 6 ∧ j = .int .i64 k ∧ HasB W wr mb 12288 (mvM at_ v k) (fun i => i < w2.heap.size ∨ w3.heap.size ≤ i) ∧ SB wr w3.heap.size (mvQ v k))
  case atStart => exact ⟨0, by omega, rfl, hM7, s7⟩
  case round =>
    obtain ⟨k, hkg, rfl, hMk, sk⟩ := hrel
    clear hM7 s7 g7
    by_cases hk : k < 6
    · have hk3 : (k : Int) < 6 := by omega
      have hT := Step_c hMk ha (mvQ v k) (hOk'.out k (by omega))
      rw [hAll'.out k hk] at hT
      obtain ⟨p, hp⟩ : ∃ p, mvQ v k = p := ⟨_, rfl⟩
      obtain ⟨q, hq⟩ : ∃ q, mvQ v (k + 1) = q := ⟨_, rfl⟩
      rw [hp] at hT sk
      rw [hq] at hT
      unfold sv Cpu.ev nx at hT
      dsimp only at hT
      have hlt := sk.lt
      clear hAll' hOk' hMk z3 z4 z5 z6 z7 z8 h255 h65535 hE8
      go_wp2_with (first
      | ((with_reducible refine at_load (ty := 32) ?_); go_loud (refine wpLoadBox rfl 32 _ rfl w3.heap.size (l := cl p) rfl sk Tryd.underlying32 rfl (infoL _) ?_))
      | fail)
      refine hT.mono ?_
      rintro e wS1 ⟨rfl, hMS1, kS1⟩
      clear hT
      obtain ⟨hZ1, hY1⟩ := zbox wS1
      have sk1 : SB wS1 w3.heap.size p := sk.blk (kS1.2 _ hlt (Or.inr (Nat.le_refl _)))
      have l1 : w3.heap.size < wS1.heap.size := sk1.lt
      go_wp2_with (first
      | ((with_reducible refine at_store (ty := 32) ?_); refine wpStoreBox rfl 32 _ _ rfl wS1.heap.size (l := cl zst) (l' := cl q) rfl rfl hZ1 (by rw [cl_len, cl_len]) (infoL _) (cl_one _) ?_; intro wT1 h41 q41)
      | ((with_reducible refine at_store (ty := 35) ?_); refine wpStoreBox rfl 35 _ _ rfl (wS1.heap.size + 1) (l := [.int .i64 0, .int .u32 0, .int .i64 0]) (l' := [.int .i64 0, .int .u32 0, .int .i64 0]) rfl rfl (Box.q hY1 q41 (by omega)) rfl (by kernel_rfl) one3e ?_; intro wU1 h51 q51; obtain ⟨hS1, bU1⟩ := two_aft h41 q41 h51 q51; have hM1 := hMS1.on bU1; clear hZ1 hY1 h41 q41 q51 hMS1; have q1 := h51.c 0 _ rfl; have s8 : SB wU1 w3.heap.size p := sk1.bw bU1)
      | ((with_reducible refine at_load (ty := 32) ?_); refine wpLoadBox rfl 32 _ rfl wS1.heap.size (l := cl q) rfl hS1 Tryd.underlying32 rfl (infoL _) ?_)
      | ((with_reducible refine at_store (ty := 32) ?_); refine wpStoreBox rfl 32 _ _ rfl w3.heap.size (l := cl p) (l' := cl q) rfl rfl s8 (by rw [cl_len, cl_len]) (infoL _) (cl_one _) ?_; intro wV h6 q6; have s9 : SB wV w3.heap.size q := h6; have hMV := hM1.q (Or.inr (Nat.le_refl _)) (Below.size g3) q6)
      | fail)
      go_roundg (6 - (k + 1))
      case measure => omega
      case rel => exact ⟨k + 1, by omega, by simp, hMV, hq ▸ s9⟩
    · obtain rfl : k = 6 := by omega
      have y3 := sk.c (i := 3) (by omega)
      have y4 := sk.c (i := 4) (by omega)
      have y5 := sk.c (i := 5) (by omega)
      have y6 := sk.c (i := 6) (by omega)
      have y7 := sk.c (i := 7) (by omega)
      have y8 := sk.ret
      rw [z3] at y3
      rw [z4] at y4
      rw [z5] at y5
      rw [z6] at y6
      rw [z7] at y7
      rw [z8] at y8
      clear hAll' hOk' z3 z4 z5 z6 z7 z8
      go_wp2_with fail
      go_quiet (first | (go_at_call 23; refine Calls.quiet_of_same (hE8 _ _)))
      go_wp2_with fail
      go_returns
      exact ⟨rfl, hMk.bw.drewN _⟩
theorem CpuMoves_w (v at_ : Int) (hv : U4 v) (hb : -2147483648 ≤ at_ ∧ at_ < 2147483648) (W : World) (ha : All12 W) :
    Calls Tryd.prog 9 #[.int .u32 v, .int .i32 at_] W fun e w' => e = .returned (.bool true) ∧ Bw W w' := by
  by_cases h : 0 ≤ at_ ∧ at_ ≤ 200 ∧ at_ % 4 = 0
  · exact CpuMoves_yes v at_ hv ⟨h.1, h.2.1⟩ h.2.2 W ha
  · exact CpuMoves_no v at_ W ha (by omega)
end Go.Proofs.YtbackacbdfgdoaaDoor
namespace Go.Proofs.YtbackacbdfgdoaaDoor
open Go.ChangeShapes Go.WideShapes Go.ChangeAt Go.RowKit
open Cpu
set_option linter.unusedVariables false
namespace Cpu
def kW : List Int := [Rv.enc ⟨4, 1, 1, 0, 3⟩, 0, Rv.enc ⟨13, 2, 1, 0, 0⟩, Rv.enc ⟨18, 0, 3, 1, 0⟩, 115, 1048691, Rv.enc ⟨19, 0, 0, 0, 7⟩]
def kS : MS := mkS kW []
def kx (a z : Int) : Nat → Int := fun i => if i = 0 then z else if i = 1 then a else if i = 3 then 65792 else 0
def kq (a z pc : Int) : St := ⟨kx a z, pc, 0⟩
theorem kw_u4 : ∀ y ∈ kW, U4 y := by
  have : ∀ y ∈ kW, 0 ≤ y ∧ y < 4294967296 := by decide +kernel
  exact fun y hy => this y hy
theorem kq_ok {a z pc : Int} (ha : U4 a) (hz : U4 z) (hp : U4 pc) : (kq a z pc).Ok := by
  refine ⟨fun i => ?_, hp, by show (_ : Int) ≤ 0 ∧ (0 : Int) ≤ _; decide⟩
  show U4 (kx a z i)
  unfold kx
  split
  · exact hz
  · split
    · exact ha
    · split
      · exact ⟨by decide, by decide⟩
      · exact ⟨by decide, by decide⟩
/-- What Fetch finds. -/
theorem kn_fetch {k : Nat} {x : Int} {i : Rv.Ins} (hk : k < 64) (hx : kW[k]? = some x) (hd : Rv.dec x = i) (ho : i.op ≠ 0) : fetch kS (4096 + 4 * (k : Int)) = (i, nx) := by
  obtain ⟨h1, h2⟩ := mkS_word kW [] hk hx (kw_u4 x (List.mem_of_getElem? hx))
  show fetch (mkS kW []) _ = _
  unfold fetch
  rw [if_pos h1, h2, hd, if_neg ho]
theorem kn_run {k : Nat} {x : Int} {i : Rv.Ins} (hk : k < 64) (hx : kW[k]? = some x) (hd : Rv.dec x = i) (ho : i.op ≠ 0) (s : St) (hp : s.pc = 4096 + 4 * (k : Int)) : Cpu.step kS s = Cpu.run kS i s := by
  unfold Cpu.step
  rw [hp, kn_fetch hk hx hd ho]
  exact if_pos rfl
theorem kd0 : Rv.dec (Rv.enc ⟨4, 1, 1, 0, 3⟩) = ⟨4, 1, 1, 0, 3⟩ := by kernel_rfl
theorem kd2 : Rv.dec (Rv.enc ⟨13, 2, 1, 0, 0⟩) = ⟨13, 2, 1, 0, 0⟩ := by kernel_rfl
theorem kd3 : Rv.dec (Rv.enc ⟨18, 0, 3, 1, 0⟩) = ⟨18, 0, 3, 1, 0⟩ := by kernel_rfl
theorem kd4 : Rv.dec 115 = ⟨48, 0, 0, 0, 0⟩ := by kernel_rfl
theorem kd5 : Rv.dec 1048691 = ⟨49, 0, 0, 0, 0⟩ := by kernel_rfl
theorem kd6 : Rv.dec (Rv.enc ⟨19, 0, 0, 0, 7⟩) = ⟨19, 0, 0, 0, 7⟩ := by kernel_rfl
theorem kn1 : Cpu.step kS (kq 4097 0 4096) = ⟨done (kq 4097 0 4096) 1 4100 4100, nx, kS⟩ := by
  rw [kn_run (k := 0) (by decide) rfl kd0 (by decide) (kq 4097 0 4096) rfl]; rfl
theorem kn2 : Cpu.step kS (kq 4098 0 4096) = ⟨done (kq 4098 0 4096) 1 4100 4100, nx, kS⟩ := by
  rw [kn_run (k := 0) (by decide) rfl kd0 (by decide) (kq 4098 0 4096) rfl]; rfl
theorem kn3 : Cpu.step kS (kq 4099 0 4096) = ⟨kq 4099 0 4096, ⟨7, 4102, 0⟩, kS⟩ := by
  rw [kn_run (k := 0) (by decide) rfl kd0 (by decide) (kq 4099 0 4096) rfl]; rfl
theorem kn4 : Cpu.step kS (kq 4098 0 4100) = ⟨kq 4098 0 4100, ⟨2, 4100, 0⟩, kS⟩ := by
  obtain ⟨h1, h2⟩ := mkS_word kW [] (i := 1) (x := 0) (by decide) rfl ⟨by decide, by decide⟩
  have hf : fetch kS 4100 = (noIns, ⟨2, 4100, 0⟩) := by
    show fetch (mkS kW []) 4100 = _
    unfold fetch
    rw [if_pos (show (mkS kW []).ask 4100 4 4 = 0 from h1), if_pos (by rw [show (mkS kW []).load 4100 4 4 = 0 from h2]; exact dec_zero)]
  unfold Cpu.step
  rw [show (kq 4098 0 4100).pc = 4100 from rfl, hf]
  rfl
theorem kn_ask1 : kS.ask 4098 4 1 = 3 := by unfold MS.ask; exact if_neg (by decide)
theorem kn5 : Cpu.step kS (kq 4098 0 4104) = ⟨kq 4098 0 4104, ⟨3, 4098, 3⟩, kS⟩ := by
  rw [kn_run (k := 2) (by decide) rfl kd2 (by decide) (kq 4098 0 4104) rfl]
  show lod kS (kq 4098 0 4104) ⟨13, 2, 1, 0, 0⟩ = _
  unfold lod
  rw [show adr ⟨13, 2, 1, 0, 0⟩ (kq 4098 0 4104) = 4098 from rfl, show lsz (Rv.Ins.mk 13 2 1 0 0).op = 4 from rfl, kn_ask1, if_neg (by decide)]
theorem kn_ask2 : kS.ask 65792 4 2 = 2 := by
  obtain ⟨p, h1, h2⟩ := (T3.made kW []).pg (k := 257) (q := 1) rfl
  show MS.ask (mkS kW []) 65792 4 2 = 2
  unfold MS.ask
  rw [if_pos (by decide), show (65792 : Int) / 256 = 257 by decide, h1]
  simp only
  rw [h2]
  exact if_neg (by decide)
theorem kn6 : Cpu.step kS (kq 65540 0 4108) = ⟨kq 65540 0 4108, ⟨4, 65792, 2⟩, kS⟩ := by
  rw [kn_run (k := 3) (by decide) rfl kd3 (by decide) (kq 65540 0 4108) rfl]
  show sto kS (kq 65540 0 4108) ⟨18, 0, 3, 1, 0⟩ = _
  unfold sto
  rw [show adr ⟨18, 0, 3, 1, 0⟩ (kq 65540 0 4108) = 65792 from rfl, show ssz (Rv.Ins.mk 18 0 3 1 0).op = 4 from rfl, kn_ask2, if_neg (by decide)]
theorem kn7 : Cpu.step kS (kq 65540 0 4112) = ⟨kq 65540 0 4112, ⟨5, 4112, 0⟩, kS⟩ := by
  rw [kn_run (k := 4) (by decide) rfl kd4 (by decide) (kq 65540 0 4112) rfl]; rfl
theorem kn8 : Cpu.step kS (kq 65540 0 4116) = ⟨kq 65540 0 4116, ⟨6, 4116, 0⟩, kS⟩ := by
  rw [kn_run (k := 5) (by decide) rfl kd5 (by decide) (kq 65540 0 4116) rfl]; rfl
theorem kn9 : ∃ v, Cpu.step kS (kq 65540 9 4120) = ⟨done (kq 65540 9 4120) 0 v 4124, nx, kS⟩ := by
  refine ⟨Alu.val (Rv.kd 19) (reg (kq 65540 9 4120) 0) (7 % 4294967296), ?_⟩
  rw [kn_run (k := 6) (by decide) rfl kd6 (by decide) (kq 65540 9 4120) rfl]; rfl
theorem kn_bar {a z pc : Int} {w : Int} (hw : kS.ask pc 4 4 = w) (h0 : w ≠ 0) : Cpu.step kS (kq a z pc) = ⟨kq a z pc, ⟨1, pc, w⟩, kS⟩ := by
  have hf : fetch kS pc = (noIns, ⟨1, pc, w⟩) := by unfold fetch; rw [hw, if_neg h0]
  unfold Cpu.step
  rw [show (kq a z pc).pc = pc from rfl, hf]
  rfl
theorem kn_ask3 : kS.ask 65536 4 4 = 2 := by
  obtain ⟨p, h1, h2⟩ := (T3.made kW []).pg (k := 256) (q := 3) rfl
  show MS.ask (mkS kW []) 65536 4 4 = 2
  unfold MS.ask
  rw [if_pos (by decide), show (65536 : Int) / 256 = 256 by decide, h1]
  simp only
  rw [h2]
  exact if_neg (by decide)
theorem kn_ask4 : kS.ask 4097 4 4 = 3 := by unfold MS.ask; exact if_neg (by decide)
theorem kn10 : Cpu.step kS (kq 65540 9 65536) = ⟨kq 65540 9 65536, ⟨1, 65536, 2⟩, kS⟩ := kn_bar kn_ask3 (by decide)
theorem kn11 : Cpu.step kS (kq 65540 9 4097) = ⟨kq 65540 9 4097, ⟨1, 4097, 3⟩, kS⟩ := kn_bar kn_ask4 (by decide)
theorem kq0 : st2 1 3 4097 65792 = kq 4097 0 4096 := by
  unfold st2 kq St.put awS
  congr 1
  funext i
  show (if i = 3 then (65792 : Int) else if i = 1 then 4097 else 0) = kx 4097 0 i
  unfold kx
  by_cases h0 : i = 0
  · subst h0; rfl
  · by_cases h1 : i = 1
    · subst h1; rfl
    · rw [if_neg h0, if_neg h1, if_neg h1]
theorem kq_put1 (a z pc b : Int) : (kq a z pc).put 1 b = kq b z pc := by
  unfold kq St.put
  congr 1
  funext i
  show (if i = 1 then b else kx a z i) = kx b z i
  unfold kx
  by_cases h0 : i = 0
  · subst h0; rfl
  · by_cases h1 : i = 1
    · subst h1; rfl
    · rw [if_neg h0, if_neg h1, if_neg h0, if_neg h1, if_neg h1]
theorem kq_put0 (a z pc b : Int) : (kq a z pc).put 0 b = kq a b pc := by
  unfold kq St.put
  congr 1
  funext i
  show (if i = 0 then b else kx a z i) = kx a b i
  unfold kx
  by_cases h0 : i = 0
  · subst h0; rfl
  · rw [if_neg h0, if_neg h0, if_neg h0]
end Cpu
/-- Boxes behind the box c, whatever is written into c. -/
def BoxL (w : World) (c : Nat) (L : List (Nat × List Value)) : Prop := ∀ x ∈ L, c < x.1 ∧ x.1 < w.heap.size ∧ Box w x.1 x.2
theorem BoxL.nil (w : World) (c : Nat) : BoxL w c [] := fun x h => by cases h
theorem BoxL.cons {w : World} {c b : Nat} {l : List Value} {L : List (Nat × List Value)} (h : BoxL w c L) (hb : Box w b l) (hc : c < b) (hl : b < w.heap.size) : BoxL w c ((b, l) :: L) := fun x hx => by
  rcases List.mem_cons.1 hx with rfl | hx
  · exact ⟨hc, hl, hb⟩
  · exact h x hx
theorem BoxL.kp {w w' : World} {c : Nat} {L : List (Nat × List Value)} {P : Nat → Prop} (h : BoxL w c L) (k : Kp P w w') (hP : ∀ i, c ≤ i → P i) : BoxL w' c L := fun x hx => by
  obtain ⟨h1, h2, h3⟩ := h x hx
  exact ⟨h1, Nat.lt_of_lt_of_le h2 k.1, h3.blk (k.2 _ h2 (hP _ (Nat.le_of_lt h1)))⟩
theorem BoxL.set {w : World} {c : Nat} {L : List (Nat × List Value)} (h : BoxL w c L) (k : Nat) (v : Value) : BoxL (w.setCell ⟨c, k, none⟩ v) c L := fun x hx => by
  obtain ⟨h1, h2, h3⟩ := h x hx
  exact ⟨h1, by simpa using h2, h3.blk (Below.heap_setCell _ _ _ _ (by show x.1 ≠ c; omega))⟩
/-- One Step of that memory. -/
theorem kstep_c {w0 w : World} {mb : Nat} {S : MS} {P : Nat → Prop} (hH : HasB w0 w mb 12288 S P) (ha : All12 w0) {p r : St} (hp : p.Ok) {k a y : Int} (hs : Cpu.step S p = ⟨r, ⟨k, a, y⟩, S⟩) :
    Calls Tryd.prog 13 #[.pointer (some ⟨mb, 0, none⟩), .agg (arr p)] w fun e w' => e = .returned (.tuple #[.agg (arr r), .agg #[.int .i64 k, .int .u32 a, .int .i64 y]]) ∧ HasB w0 w' mb 12288 S P ∧ Kp P w w' := by
  have h := Step_c hH ha p hp
  rw [hs] at h
  exact h
theorem wpLoadE {ops : Array Oper} {rest : List Oper} {op : Oper} {a : Act} {w : World} {Q : Exit → Act → World → Prop} (hw : Region.wanted op (yielded ops a.tmps) = true) (x : Operand) (ho : op.op = .load 35 x)
    (b : Nat) {k y z : Int} (hx : a.eval x = .pointer (some ⟨b, 0, none⟩)) (hb : Box w b [.int .i64 k, .int .u32 y, .int .i64 z]) (h : wpList Tryd.prog ops Q rest (a.put op.dst (.agg #[.int .i64 k, .int .u32 y, .int .i64 z])) w) : wpList Tryd.prog ops Q (op :: rest) a w :=
  BigFrame.wpList_want hw fun _ hK => wp_load_mid 35 x ho b 0 hx [.int .i64 k, .int .u32 y, .int .i64 z] _ (fun j v hv => by rw [Nat.zero_add]; exact hb.c j v hv) Tryd.underlying35 rfl (by kernel_rfl) (hK _ _ h)
end Go.Proofs.YtbackacbdfgdoaaDoor
namespace Go.Proofs.YtbackacbdfgdoaaDoor
open Go.ChangeShapes Go.WideShapes Go.ChangeAt Go.RowKit
open Cpu
set_option linter.unusedVariables false
set_option linter.unusedSimpArgs false
theorem at_wpl {P : Program} {ops : Array Oper} {Q : Exit → Act → World → Prop} {l : List Oper} {a : Act} {w : World} (h : wpList P ops Q l a w) : wpList P ops Q l a w := h
set_option maxRecDepth 100000 in
set_option maxHeartbeats 8000000 in
theorem CpuKnown_w (W : World) (ha : All12 W) : Calls Tryd.prog 3 #[] W fun e w' => e = .returned (.bool true) ∧ Bw W w' := by
  have hA := awake12_c W ha
  have hW0 := fun X (g : Bw W X) => word_c X ⟨4, 1, 1, 0, 3⟩ (ha.t.bw g) ⟨by decide, by decide⟩ (by unfold Rv.good Rv.reg; decide +kernel)
  have hW1 := fun X (g : Bw W X) => word_c X ⟨13, 2, 1, 0, 0⟩ (ha.t.bw g) ⟨by decide, by decide⟩ (by unfold Rv.good Rv.reg; decide +kernel)
  have hW2 := fun X (g : Bw W X) => word_c X ⟨18, 0, 3, 1, 0⟩ (ha.t.bw g) ⟨by decide, by decide⟩ (by unfold Rv.good Rv.reg; decide +kernel)
  have hW3 := fun X (g : Bw W X) => word_c X ⟨19, 0, 0, 0, 7⟩ (ha.t.bw g) ⟨by decide, by decide⟩ (by unfold Rv.good Rv.reg; decide +kernel)
  have hu := kw_u4
  obtain ⟨S, hS⟩ : ∃ S, mkS kW [] = S := ⟨_, rfl⟩
  have hkS : kS = S := hS
  obtain ⟨p1, hp1⟩ : ∃ p, kq 4097 0 4096 = p := ⟨_, rfl⟩
  have ok1 : p1.Ok := by rw [← hp1]; exact kq_ok ⟨by decide, by decide⟩ ⟨by decide, by decide⟩ ⟨by decide, by decide⟩
  obtain ⟨p2, hp2⟩ : ∃ p, kq 4098 0 4096 = p := ⟨_, rfl⟩
  have ok2 : p2.Ok := by rw [← hp2]; exact kq_ok ⟨by decide, by decide⟩ ⟨by decide, by decide⟩ ⟨by decide, by decide⟩
  obtain ⟨p3, hp3⟩ : ∃ p, kq 4099 0 4096 = p := ⟨_, rfl⟩
  have ok3 : p3.Ok := by rw [← hp3]; exact kq_ok ⟨by decide, by decide⟩ ⟨by decide, by decide⟩ ⟨by decide, by decide⟩
  obtain ⟨p4, hp4⟩ : ∃ p, kq 4098 0 4100 = p := ⟨_, rfl⟩
  have ok4 : p4.Ok := by rw [← hp4]; exact kq_ok ⟨by decide, by decide⟩ ⟨by decide, by decide⟩ ⟨by decide, by decide⟩
  obtain ⟨p5, hp5⟩ : ∃ p, kq 4098 0 4104 = p := ⟨_, rfl⟩
  have ok5 : p5.Ok := by rw [← hp5]; exact kq_ok ⟨by decide, by decide⟩ ⟨by decide, by decide⟩ ⟨by decide, by decide⟩
  obtain ⟨p6, hp6⟩ : ∃ p, kq 65540 0 4108 = p := ⟨_, rfl⟩
  have ok6 : p6.Ok := by rw [← hp6]; exact kq_ok ⟨by decide, by decide⟩ ⟨by decide, by decide⟩ ⟨by decide, by decide⟩
  obtain ⟨p7, hp7⟩ : ∃ p, kq 65540 0 4112 = p := ⟨_, rfl⟩
  have ok7 : p7.Ok := by rw [← hp7]; exact kq_ok ⟨by decide, by decide⟩ ⟨by decide, by decide⟩ ⟨by decide, by decide⟩
  obtain ⟨p8, hp8⟩ : ∃ p, kq 65540 0 4116 = p := ⟨_, rfl⟩
  have ok8 : p8.Ok := by rw [← hp8]; exact kq_ok ⟨by decide, by decide⟩ ⟨by decide, by decide⟩ ⟨by decide, by decide⟩
  obtain ⟨p9, hp9⟩ : ∃ p, kq 65540 9 4120 = p := ⟨_, rfl⟩
  have ok9 : p9.Ok := by rw [← hp9]; exact kq_ok ⟨by decide, by decide⟩ ⟨by decide, by decide⟩ ⟨by decide, by decide⟩
  obtain ⟨p10, hp10⟩ : ∃ p, kq 65540 9 65536 = p := ⟨_, rfl⟩
  have ok10 : p10.Ok := by rw [← hp10]; exact kq_ok ⟨by decide, by decide⟩ ⟨by decide, by decide⟩ ⟨by decide, by decide⟩
  obtain ⟨p11, hp11⟩ : ∃ p, kq 65540 9 4097 = p := ⟨_, rfl⟩
  have ok11 : p11.Ok := by rw [← hp11]; exact kq_ok ⟨by decide, by decide⟩ ⟨by decide, by decide⟩ ⟨by decide, by decide⟩
  obtain ⟨v9, hv9⟩ := kn9
  have hs1 := kn1
  rw [hkS, hp1] at hs1
  have hs2 := kn2
  rw [hkS, hp2] at hs2
  have hs3 := kn3
  rw [hkS, hp3] at hs3
  have hs4 := kn4
  rw [hkS, hp4] at hs4
  have hs5 := kn5
  rw [hkS, hp5] at hs5
  have hs6 := kn6
  rw [hkS, hp6] at hs6
  have hs7 := kn7
  rw [hkS, hp7] at hs7
  have hs8 := kn8
  rw [hkS, hp8] at hs8
  have hs9 := hv9
  rw [hkS, hp9] at hs9
  have hs10 := kn10
  rw [hkS, hp10] at hs10
  have hs11 := kn11
  rw [hkS, hp11] at hs11
  obtain ⟨r1, hr1⟩ : ∃ r, done p1 1 4100 4100 = r := ⟨_, rfl⟩
  rw [hr1] at hs1
  obtain ⟨r2, hr2⟩ : ∃ r, done p2 1 4100 4100 = r := ⟨_, rfl⟩
  rw [hr2] at hs2
  obtain ⟨r9, hr9⟩ : ∃ r, done p9 0 v9 4124 = r := ⟨_, rfl⟩
  rw [hr9] at hs9
  unfold nx at hs1 hs2 hs9
  have y1 : r1.pc = 4100 := by rw [← hr1]; rfl
  have y2 : r1.x 1 = 4100 := by rw [← hr1]; rfl
  have y3 : p7.ret = 0 := by rw [← hp7]; rfl
  have y4 : r9.x 0 = 0 := by rw [← hr9]; rfl
  have f1 : st2 1 3 4097 65792 = p1 := by rw [← hp1]; exact kq0
  have f2 : (p1).put 1 4098 = p2 := by
    rw [← hp1, ← hp2]
    first | exact kq_put1 _ _ _ _ | rfl | (rw [kq_put1]; rfl) | exact kq_put0 _ _ _ _
  have f3 : (p2).put 1 4099 = p3 := by
    rw [← hp2, ← hp3]
    first | exact kq_put1 _ _ _ _ | rfl | (rw [kq_put1]; rfl) | exact kq_put0 _ _ _ _
  have f4 : ({ (p3).put 1 4098 with pc := 4100 } : St) = p4 := by
    rw [← hp3, ← hp4]
    first | exact kq_put1 _ _ _ _ | rfl | (rw [kq_put1]; rfl) | exact kq_put0 _ _ _ _
  have f5 : ({ p4 with pc := 4104 } : St) = p5 := by
    rw [← hp4, ← hp5]
    first | exact kq_put1 _ _ _ _ | rfl | (rw [kq_put1]; rfl) | exact kq_put0 _ _ _ _
  have f6 : ({ (p5).put 1 65540 with pc := 4108 } : St) = p6 := by
    rw [← hp5, ← hp6]
    first | exact kq_put1 _ _ _ _ | rfl | (rw [kq_put1]; rfl) | exact kq_put0 _ _ _ _
  have f7 : ({ p6 with pc := 4112 } : St) = p7 := by
    rw [← hp6, ← hp7]
    first | exact kq_put1 _ _ _ _ | rfl | (rw [kq_put1]; rfl) | exact kq_put0 _ _ _ _
  have f8 : ({ p7 with pc := 4116 } : St) = p8 := by
    rw [← hp7, ← hp8]
    first | exact kq_put1 _ _ _ _ | rfl | (rw [kq_put1]; rfl) | exact kq_put0 _ _ _ _
  have f9 : (({ p8 with pc := 4120 } : St)).put 0 9 = p9 := by
    rw [← hp8, ← hp9]
    first | exact kq_put1 _ _ _ _ | rfl | (rw [kq_put1]; rfl) | exact kq_put0 _ _ _ _
  have f10 : ({ p9 with pc := 65536 } : St) = p10 := by
    rw [← hp9, ← hp10]
    first | exact kq_put1 _ _ _ _ | rfl | (rw [kq_put1]; rfl) | exact kq_put0 _ _ _ _
  have f11 : ({ p10 with pc := 4097 } : St) = p11 := by
    rw [← hp10, ← hp11]
    first | exact kq_put1 _ _ _ _ | rfl | (rw [kq_put1]; rfl) | exact kq_put0 _ _ _ _
  obtain ⟨k0, e0⟩ : ∃ k, Rv.enc ⟨4, 1, 1, 0, 3⟩ = k := ⟨_, rfl⟩
  obtain ⟨k1, e1⟩ : ∃ k, Rv.enc ⟨13, 2, 1, 0, 0⟩ = k := ⟨_, rfl⟩
  obtain ⟨k2, e2⟩ : ∃ k, Rv.enc ⟨18, 0, 3, 1, 0⟩ = k := ⟨_, rfl⟩
  obtain ⟨k3, e3⟩ : ∃ k, Rv.enc ⟨19, 0, 0, 0, 7⟩ = k := ⟨_, rfl⟩
  unfold kW at hS hu
  rw [e0, e1, e2, e3] at hS hu
  rw [e0] at hW0
  rw [e1] at hW1
  rw [e2] at hW2
  rw [e3] at hW3
  clear e0 e1 e2 e3 hv9 hr1 hr2 hr9 hkS hp1 hp2 hp3 hp4 hp5 hp6 hp7 hp8 hp9 hp10 hp11
  unfold Rv.iv at hW0 hW1 hW2 hW3
  dsimp only at hW0 hW1 hW2 hW3
  have hE1 : ∀ w, (binOp .eql 35 (.agg #[.int .i64 0, .int .u32 0, .int .i64 0]) (.agg #[.int .i64 0, .int .u32 0, .int .i64 0])).run Tryd.prog w = .ok (.bool true) w := fun w => by rw [eqlEv]; rfl
  have hE3 : ∀ w, (binOp .eql 35 (.agg #[.int .i64 7, .int .u32 4102, .int .i64 0]) (.agg #[.int .i64 7, .int .u32 4102, .int .i64 0])).run Tryd.prog w = .ok (.bool true) w := fun w => by rw [eqlEv]; rfl
  have hE4 : ∀ w, (binOp .eql 35 (.agg #[.int .i64 2, .int .u32 4100, .int .i64 0]) (.agg #[.int .i64 2, .int .u32 4100, .int .i64 0])).run Tryd.prog w = .ok (.bool true) w := fun w => by rw [eqlEv]; rfl
  have hE5 : ∀ w, (binOp .eql 35 (.agg #[.int .i64 3, .int .u32 4098, .int .i64 3]) (.agg #[.int .i64 3, .int .u32 4098, .int .i64 3])).run Tryd.prog w = .ok (.bool true) w := fun w => by rw [eqlEv]; rfl
  have hE6 : ∀ w, (binOp .eql 35 (.agg #[.int .i64 4, .int .u32 65792, .int .i64 2]) (.agg #[.int .i64 4, .int .u32 65792, .int .i64 2])).run Tryd.prog w = .ok (.bool true) w := fun w => by rw [eqlEv]; rfl
  have hE7 : ∀ w, (binOp .eql 35 (.agg #[.int .i64 5, .int .u32 4112, .int .i64 0]) (.agg #[.int .i64 5, .int .u32 4112, .int .i64 0])).run Tryd.prog w = .ok (.bool true) w := fun w => by rw [eqlEv]; rfl
  have hE8 : ∀ w, (binOp .eql 35 (.agg #[.int .i64 6, .int .u32 4116, .int .i64 0]) (.agg #[.int .i64 6, .int .u32 4116, .int .i64 0])).run Tryd.prog w = .ok (.bool true) w := fun w => by rw [eqlEv]; rfl
  have hE10 : ∀ w, (binOp .eql 35 (.agg #[.int .i64 1, .int .u32 65536, .int .i64 2]) (.agg #[.int .i64 1, .int .u32 65536, .int .i64 2])).run Tryd.prog w = .ok (.bool true) w := fun w => by rw [eqlEv]; rfl
  have hE11 : ∀ w, (binOp .eql 35 (.agg #[.int .i64 1, .int .u32 4097, .int .i64 3]) (.agg #[.int .i64 1, .int .u32 4097, .int .i64 3])).run Tryd.prog w = .ok (.bool true) w := fun w => by rw [eqlEv]; rfl
  go_enter Tryd.func3, Tryd.ntmps3
  go_wp2_with fail
  refine hA.mono ?_
  rintro e w1 ⟨rfl, b1⟩
  clear hA
  have hX := hW0 _ b1
  clear hW0
  go_wp2_with fail
  refine hX.mono ?_
  rintro e w2 ⟨rfl, b2⟩
  replace b1 := b1.trans b2
  clear b2 hX
  have hX := hW1 _ b1
  clear hW1
  go_wp2_with fail
  refine hX.mono ?_
  rintro e w2 ⟨rfl, b2⟩
  replace b1 := b1.trans b2
  clear b2 hX
  have hX := hW2 _ b1
  clear hW2
  go_wp2_with fail
  refine hX.mono ?_
  rintro e w2 ⟨rfl, b2⟩
  replace b1 := b1.trans b2
  clear b2 hX
  have hX := hW3 _ b1
  clear hW3
  go_wp2_with fail
  refine hX.mono ?_
  rintro e w2 ⟨rfl, b2⟩
  replace b1 := b1.trans b2
  clear b2 hX
  have hX := madeL_c w2 [k0, 0, k1, k2, 115, 1048691, k3] (by simp) hu
  rw [hS] at hX
  clear hu hS
  go_wp2_with fail
  refine hX.mono ?_
  rintro e w3 ⟨mb, rfl, hM⟩
  clear hX
  replace hM : HasB W w3 mb 12288 S (fun i => i < w2.heap.size ∨ w3.heap.size ≤ i) := (hM.base b1).more (fun i hi => hi)
  have g3 : Bw W w3 := hM.bw
  have z03 : W.heap.size ≤ w3.heap.size := Below.size g3
  clear b1
  have hZ0 : Box (w3.alloc (.cells (cl zst).toArray 32)) w3.heap.size (cl zst) := Box.new w3 (cl zst) _
  have BX0 : BoxL w3 w3.heap.size [] := BoxL.nil _ _
  go_wp2_with (first
  | ((with_reducible refine at_store (ty := 32) ?_); refine wpStoreBox rfl 32 _ _ rfl w3.heap.size (l := cl zst) (l' := cl awS) rfl rfl hZ0 (by rw [cl_len, cl_len]) (infoL _) (cl_one _) ?_; intro w6 h6 q6; have s6 : SB w6 w3.heap.size awS := h6; have c1 := s6.c (i := 1) (by omega); have c2 := s6.c (i := 3) (by omega); have d1 := s6.f (i := 1) (by omega); have d2 := s6.f (i := 3) (by omega); have g6 : Bw w3 w6 := q6.toBw ((Bw.refl _).alloc _) (Nat.le_refl _); clear hZ0)
  | ((with_reducible refine at_load (ty := 32) ?_); refine wpLoadBox rfl 32 _ rfl w3.heap.size (l := cl p1) rfl (f1 ▸ s6.two (by omega) (by omega) 4097 65792) Tryd.underlying32 rfl (infoL _) ?_; go_loud (obtain ⟨Y1, hY1⟩ : ∃ Y, ((w6.setCell ⟨w3.heap.size, 1, none⟩ (.int .u32 4097)).setCell ⟨w3.heap.size, 3, none⟩ (.int .u32 65792)) = Y := ⟨_, rfl⟩; have s1 : SB Y1 w3.heap.size p1 := hY1 ▸ f1 ▸ s6.two (by omega) (by omega) 4097 65792; have g7 : Bw w3 Y1 := hY1 ▸ (g6.setCell (Nat.le_refl _) _).setCell (Nat.le_refl _) _; have hM1 := hM.on g7; have B1 : BoxL Y1 w3.heap.size [] := BoxL.nil _ _; rw [hY1]; clear hY1 s6 c1 c2 d1 d2 g6 q6 h6 hM g7))
  | fail)
  have hT := kstep_c hM1 ha ok1 hs1
  unfold arr at hT
  have l1 := s1.lt
  refine hT.mono ?_
  rintro e wS1 ⟨rfl, hMS1, kS1⟩
  clear hT hM1 hs1 ok1
  obtain ⟨hZ1, hY1⟩ := zbox wS1
  have z1 : w3.heap.size < wS1.heap.size := Nat.lt_of_lt_of_le l1 kS1.1
  go_wp2_with (first
  | ((with_reducible refine at_store (ty := 32) ?_); refine wpStoreBox rfl 32 _ _ rfl wS1.heap.size (l := cl zst) (l' := cl r1) rfl rfl hZ1 (by rw [cl_len, cl_len]) (infoL _) (cl_one _) ?_; intro wT1 h4 q4)
  | ((with_reducible refine at_store (ty := 35) ?_); refine wpStoreBox rfl 35 _ _ rfl (wS1.heap.size + 1) (l := [.int .i64 0, .int .u32 0, .int .i64 0]) (l' := [.int .i64 0, .int .u32 0, .int .i64 0]) rfl rfl (Box.q hY1 q4 (by omega)) rfl (by kernel_rfl) one3e ?_; intro wU1 h5 q5; go_loud (obtain ⟨hS1, bU1⟩ := two_aft h4 q4 h5 q5; have hMU1 := hMS1.on bU1; have kV : Kp (fun i => i < w2.heap.size ∨ w3.heap.size ≤ i) Y1 wU1 := kS1.trans (Kp.bw bU1); have sU1 : SB wU1 w3.heap.size p1 := s1.blk (kV.2 _ l1 (Or.inr (Nat.le_refl _))); have BU1 : BoxL wU1 w3.heap.size [(wS1.heap.size + 1, [.int .i64 0, .int .u32 0, .int .i64 0]), (wS1.heap.size, cl r1)] := ((B1.kp kV (fun i hi => Or.inr hi)).cons hS1 z1 hS1.lt).cons h5 (by omega) h5.lt; have c0 := sU1.c (i := 1) (by omega); have d0 := sU1.f (i := 1) (by omega); clear kV hZ1 hY1 h4 h5 q4 q5 hMS1 hS1 bU1 kS1 s1 B1))
  | ((with_reducible refine at_load (ty := 32) ?_); refine wpLoadBox rfl 32 _ rfl w3.heap.size (l := cl p2) rfl (f2 ▸ (sU1.put (r := 1) (by omega) 4098)) Tryd.underlying32 rfl (infoL _) ?_; go_loud (obtain ⟨Y2, hY2⟩ : ∃ Y, (wU1.setCell ⟨w3.heap.size, 1, none⟩ (.int .u32 4098)) = Y := ⟨_, rfl⟩; have s2 : SB Y2 w3.heap.size p2 := hY2 ▸ f2 ▸ (sU1.put (r := 1) (by omega) 4098); have hM2 : HasB W Y2 mb 12288 S (fun i => i < w2.heap.size ∨ w3.heap.size ≤ i) := hY2 ▸ (HasB.set hMU1 (Or.inr (Nat.le_refl _)) z03 1 (.int .u32 4098)); have B2 : BoxL Y2 w3.heap.size [(wS1.heap.size + 1, [.int .i64 0, .int .u32 0, .int .i64 0]), (wS1.heap.size, cl r1)] := hY2 ▸ (BoxL.set BU1 1 (.int .u32 4098)); rw [hY2]; clear hY2 sU1 hMU1 BU1 f2 c0 d0))
  | fail)
  have hT := kstep_c hM2 ha ok2 hs2
  unfold arr at hT
  have l2 := s2.lt
  refine hT.mono ?_
  rintro e wS2 ⟨rfl, hMS2, kS2⟩
  clear hT hM2 hs2 ok2
  obtain ⟨hZ2, hY2⟩ := zbox wS2
  have z2 : w3.heap.size < wS2.heap.size := Nat.lt_of_lt_of_le l2 kS2.1
  go_wp2_with (first
  | ((with_reducible refine at_store (ty := 32) ?_); refine wpStoreBox rfl 32 _ _ rfl wS2.heap.size (l := cl zst) (l' := cl r2) rfl rfl hZ2 (by rw [cl_len, cl_len]) (infoL _) (cl_one _) ?_; intro wT2 h4 q4)
  | ((with_reducible refine at_store (ty := 35) ?_); refine wpStoreBox rfl 35 _ _ rfl (wS2.heap.size + 1) (l := [.int .i64 0, .int .u32 0, .int .i64 0]) (l' := [.int .i64 0, .int .u32 0, .int .i64 0]) rfl rfl (Box.q hY2 q4 (by omega)) rfl (by kernel_rfl) one3e ?_; intro wU2 h5 q5; go_loud (obtain ⟨hS2, bU2⟩ := two_aft h4 q4 h5 q5; have hMU2 := hMS2.on bU2; have kV : Kp (fun i => i < w2.heap.size ∨ w3.heap.size ≤ i) Y2 wU2 := kS2.trans (Kp.bw bU2); have sU2 : SB wU2 w3.heap.size p2 := s2.blk (kV.2 _ l2 (Or.inr (Nat.le_refl _))); have BU2 : BoxL wU2 w3.heap.size [(wS2.heap.size + 1, [.int .i64 0, .int .u32 0, .int .i64 0]), (wS2.heap.size, cl r2), (wS1.heap.size + 1, [.int .i64 0, .int .u32 0, .int .i64 0]), (wS1.heap.size, cl r1)] := ((B2.kp kV (fun i hi => Or.inr hi)).cons hS2 z2 hS2.lt).cons h5 (by omega) h5.lt; have c0 := sU2.c (i := 1) (by omega); have d0 := sU2.f (i := 1) (by omega); clear kV hZ2 hY2 h4 h5 q4 q5 hMS2 hS2 bU2 kS2 s2 B2))
  | ((with_reducible refine at_load (ty := 32) ?_); refine wpLoadBox rfl 32 _ rfl w3.heap.size (l := cl p3) rfl (f3 ▸ (sU2.put (r := 1) (by omega) 4099)) Tryd.underlying32 rfl (infoL _) ?_; go_loud (obtain ⟨Y3, hY3⟩ : ∃ Y, (wU2.setCell ⟨w3.heap.size, 1, none⟩ (.int .u32 4099)) = Y := ⟨_, rfl⟩; have s3 : SB Y3 w3.heap.size p3 := hY3 ▸ f3 ▸ (sU2.put (r := 1) (by omega) 4099); have hM3 : HasB W Y3 mb 12288 S (fun i => i < w2.heap.size ∨ w3.heap.size ≤ i) := hY3 ▸ (HasB.set hMU2 (Or.inr (Nat.le_refl _)) z03 1 (.int .u32 4099)); have B3 : BoxL Y3 w3.heap.size [(wS2.heap.size + 1, [.int .i64 0, .int .u32 0, .int .i64 0]), (wS2.heap.size, cl r2), (wS1.heap.size + 1, [.int .i64 0, .int .u32 0, .int .i64 0]), (wS1.heap.size, cl r1)] := hY3 ▸ (BoxL.set BU2 1 (.int .u32 4099)); rw [hY3]; clear hY3 sU2 hMU2 BU2 f3 c0 d0))
  | fail)
  have hT := kstep_c hM3 ha ok3 hs3
  unfold arr at hT
  have l3 := s3.lt
  refine hT.mono ?_
  rintro e wS3 ⟨rfl, hMS3, kS3⟩
  clear hT hM3 hs3 ok3
  obtain ⟨hZ3, hY3⟩ := zbox wS3
  have z3 : w3.heap.size < wS3.heap.size := Nat.lt_of_lt_of_le l3 kS3.1
  go_wp2_with (first
  | ((with_reducible refine at_store (ty := 32) ?_); refine wpStoreBox rfl 32 _ _ rfl wS3.heap.size (l := cl zst) (l' := cl p3) rfl rfl hZ3 (by rw [cl_len, cl_len]) (infoL _) (cl_one _) ?_; intro wT3 h4 q4)
  | ((with_reducible refine at_store (ty := 35) ?_); refine wpStoreBox rfl 35 _ _ rfl (wS3.heap.size + 1) (l := [.int .i64 0, .int .u32 0, .int .i64 0]) (l' := [.int .i64 7, .int .u32 4102, .int .i64 0]) rfl rfl (Box.q hY3 q4 (by omega)) rfl (by kernel_rfl) one3e ?_; intro wU3 h5 q5; go_loud (obtain ⟨hS3, bU3⟩ := two_aft h4 q4 h5 q5; have hMU3 := hMS3.on bU3; have kV : Kp (fun i => i < w2.heap.size ∨ w3.heap.size ≤ i) Y3 wU3 := kS3.trans (Kp.bw bU3); have sU3 : SB wU3 w3.heap.size p3 := s3.blk (kV.2 _ l3 (Or.inr (Nat.le_refl _))); have BU3 : BoxL wU3 w3.heap.size [(wS3.heap.size + 1, [.int .i64 7, .int .u32 4102, .int .i64 0]), (wS3.heap.size, cl p3), (wS2.heap.size + 1, [.int .i64 0, .int .u32 0, .int .i64 0]), (wS2.heap.size, cl r2), (wS1.heap.size + 1, [.int .i64 0, .int .u32 0, .int .i64 0]), (wS1.heap.size, cl r1)] := ((B3.kp kV (fun i hi => Or.inr hi)).cons hS3 z3 hS3.lt).cons h5 (by omega) h5.lt; have c0 := sU3.c (i := 1) (by omega); have d0 := sU3.f (i := 1) (by omega); have c1 := sU3.pc; have d1 := sU3.f (i := 32) (by omega); clear kV hZ3 hY3 h4 h5 q4 q5 hMS3 hS3 bU3 kS3 s3 B3))
  | ((with_reducible refine at_load (ty := 32) ?_); refine wpLoadBox rfl 32 _ rfl w3.heap.size (l := cl p4) rfl (f4 ▸ ((sU3.put (r := 1) (by omega) 4098).setPc 4100)) Tryd.underlying32 rfl (infoL _) ?_; go_loud (obtain ⟨Y4, hY4⟩ : ∃ Y, ((wU3.setCell ⟨w3.heap.size, 1, none⟩ (.int .u32 4098)).setCell ⟨w3.heap.size, 32, none⟩ (.int .u32 4100)) = Y := ⟨_, rfl⟩; have s4 : SB Y4 w3.heap.size p4 := hY4 ▸ f4 ▸ ((sU3.put (r := 1) (by omega) 4098).setPc 4100); have hM4 : HasB W Y4 mb 12288 S (fun i => i < w2.heap.size ∨ w3.heap.size ≤ i) := hY4 ▸ (HasB.set (HasB.set hMU3 (Or.inr (Nat.le_refl _)) z03 1 (.int .u32 4098)) (Or.inr (Nat.le_refl _)) z03 32 (.int .u32 4100)); have B4 : BoxL Y4 w3.heap.size [(wS3.heap.size + 1, [.int .i64 7, .int .u32 4102, .int .i64 0]), (wS3.heap.size, cl p3), (wS2.heap.size + 1, [.int .i64 0, .int .u32 0, .int .i64 0]), (wS2.heap.size, cl r2), (wS1.heap.size + 1, [.int .i64 0, .int .u32 0, .int .i64 0]), (wS1.heap.size, cl r1)] := hY4 ▸ (BoxL.set (BoxL.set BU3 1 (.int .u32 4098)) 32 (.int .u32 4100)); rw [hY4]; clear hY4 sU3 hMU3 BU3 f4 c0 d0 c1 d1))
  | fail)
  have hT := kstep_c hM4 ha ok4 hs4
  unfold arr at hT
  have l4 := s4.lt
  refine hT.mono ?_
  rintro e wS4 ⟨rfl, hMS4, kS4⟩
  clear hT hM4 hs4 ok4
  obtain ⟨hZ4, hY4⟩ := zbox wS4
  have z4 : w3.heap.size < wS4.heap.size := Nat.lt_of_lt_of_le l4 kS4.1
  go_wp2_with (first
  | ((with_reducible refine at_store (ty := 32) ?_); refine wpStoreBox rfl 32 _ _ rfl wS4.heap.size (l := cl zst) (l' := cl p4) rfl rfl hZ4 (by rw [cl_len, cl_len]) (infoL _) (cl_one _) ?_; intro wT4 h4 q4)
  | ((with_reducible refine at_store (ty := 35) ?_); refine wpStoreBox rfl 35 _ _ rfl (wS4.heap.size + 1) (l := [.int .i64 0, .int .u32 0, .int .i64 0]) (l' := [.int .i64 2, .int .u32 4100, .int .i64 0]) rfl rfl (Box.q hY4 q4 (by omega)) rfl (by kernel_rfl) one3e ?_; intro wU4 h5 q5; go_loud (obtain ⟨hS4, bU4⟩ := two_aft h4 q4 h5 q5; have hMU4 := hMS4.on bU4; have kV : Kp (fun i => i < w2.heap.size ∨ w3.heap.size ≤ i) Y4 wU4 := kS4.trans (Kp.bw bU4); have sU4 : SB wU4 w3.heap.size p4 := s4.blk (kV.2 _ l4 (Or.inr (Nat.le_refl _))); have BU4 : BoxL wU4 w3.heap.size [(wS4.heap.size + 1, [.int .i64 2, .int .u32 4100, .int .i64 0]), (wS4.heap.size, cl p4), (wS3.heap.size + 1, [.int .i64 7, .int .u32 4102, .int .i64 0]), (wS3.heap.size, cl p3), (wS2.heap.size + 1, [.int .i64 0, .int .u32 0, .int .i64 0]), (wS2.heap.size, cl r2), (wS1.heap.size + 1, [.int .i64 0, .int .u32 0, .int .i64 0]), (wS1.heap.size, cl r1)] := ((B4.kp kV (fun i hi => Or.inr hi)).cons hS4 z4 hS4.lt).cons h5 (by omega) h5.lt; have c0 := sU4.pc; have d0 := sU4.f (i := 32) (by omega); clear kV hZ4 hY4 h4 h5 q4 q5 hMS4 hS4 bU4 kS4 s4 B4))
  | ((with_reducible refine at_load (ty := 32) ?_); refine wpLoadBox rfl 32 _ rfl w3.heap.size (l := cl p5) rfl (f5 ▸ (sU4.setPc 4104)) Tryd.underlying32 rfl (infoL _) ?_; go_loud (obtain ⟨Y5, hY5⟩ : ∃ Y, (wU4.setCell ⟨w3.heap.size, 32, none⟩ (.int .u32 4104)) = Y := ⟨_, rfl⟩; have s5 : SB Y5 w3.heap.size p5 := hY5 ▸ f5 ▸ (sU4.setPc 4104); have hM5 : HasB W Y5 mb 12288 S (fun i => i < w2.heap.size ∨ w3.heap.size ≤ i) := hY5 ▸ (HasB.set hMU4 (Or.inr (Nat.le_refl _)) z03 32 (.int .u32 4104)); have B5 : BoxL Y5 w3.heap.size [(wS4.heap.size + 1, [.int .i64 2, .int .u32 4100, .int .i64 0]), (wS4.heap.size, cl p4), (wS3.heap.size + 1, [.int .i64 7, .int .u32 4102, .int .i64 0]), (wS3.heap.size, cl p3), (wS2.heap.size + 1, [.int .i64 0, .int .u32 0, .int .i64 0]), (wS2.heap.size, cl r2), (wS1.heap.size + 1, [.int .i64 0, .int .u32 0, .int .i64 0]), (wS1.heap.size, cl r1)] := hY5 ▸ (BoxL.set BU4 32 (.int .u32 4104)); rw [hY5]; clear hY5 sU4 hMU4 BU4 f5 c0 d0))
  | fail)
  have hT := kstep_c hM5 ha ok5 hs5
  unfold arr at hT
  have l5 := s5.lt
  refine hT.mono ?_
  rintro e wS5 ⟨rfl, hMS5, kS5⟩
  clear hT hM5 hs5 ok5
  obtain ⟨hZ5, hY5⟩ := zbox wS5
  have z5 : w3.heap.size < wS5.heap.size := Nat.lt_of_lt_of_le l5 kS5.1
  go_wp2_with (first
  | ((with_reducible refine at_store (ty := 32) ?_); refine wpStoreBox rfl 32 _ _ rfl wS5.heap.size (l := cl zst) (l' := cl p5) rfl rfl hZ5 (by rw [cl_len, cl_len]) (infoL _) (cl_one _) ?_; intro wT5 h4 q4)
  | ((with_reducible refine at_store (ty := 35) ?_); refine wpStoreBox rfl 35 _ _ rfl (wS5.heap.size + 1) (l := [.int .i64 0, .int .u32 0, .int .i64 0]) (l' := [.int .i64 3, .int .u32 4098, .int .i64 3]) rfl rfl (Box.q hY5 q4 (by omega)) rfl (by kernel_rfl) one3e ?_; intro wU5 h5 q5; go_loud (obtain ⟨hS5, bU5⟩ := two_aft h4 q4 h5 q5; have hMU5 := hMS5.on bU5; have kV : Kp (fun i => i < w2.heap.size ∨ w3.heap.size ≤ i) Y5 wU5 := kS5.trans (Kp.bw bU5); have sU5 : SB wU5 w3.heap.size p5 := s5.blk (kV.2 _ l5 (Or.inr (Nat.le_refl _))); have BU5 : BoxL wU5 w3.heap.size [(wS5.heap.size + 1, [.int .i64 3, .int .u32 4098, .int .i64 3]), (wS5.heap.size, cl p5), (wS4.heap.size + 1, [.int .i64 2, .int .u32 4100, .int .i64 0]), (wS4.heap.size, cl p4), (wS3.heap.size + 1, [.int .i64 7, .int .u32 4102, .int .i64 0]), (wS3.heap.size, cl p3), (wS2.heap.size + 1, [.int .i64 0, .int .u32 0, .int .i64 0]), (wS2.heap.size, cl r2), (wS1.heap.size + 1, [.int .i64 0, .int .u32 0, .int .i64 0]), (wS1.heap.size, cl r1)] := ((B5.kp kV (fun i hi => Or.inr hi)).cons hS5 z5 hS5.lt).cons h5 (by omega) h5.lt; have c0 := sU5.c (i := 1) (by omega); have d0 := sU5.f (i := 1) (by omega); have c1 := sU5.pc; have d1 := sU5.f (i := 32) (by omega); clear kV hZ5 hY5 h4 h5 q4 q5 hMS5 hS5 bU5 kS5 s5 B5))
  | ((with_reducible refine at_load (ty := 32) ?_); refine wpLoadBox rfl 32 _ rfl w3.heap.size (l := cl p6) rfl (f6 ▸ ((sU5.put (r := 1) (by omega) 65540).setPc 4108)) Tryd.underlying32 rfl (infoL _) ?_; go_loud (obtain ⟨Y6, hY6⟩ : ∃ Y, ((wU5.setCell ⟨w3.heap.size, 1, none⟩ (.int .u32 65540)).setCell ⟨w3.heap.size, 32, none⟩ (.int .u32 4108)) = Y := ⟨_, rfl⟩; have s6 : SB Y6 w3.heap.size p6 := hY6 ▸ f6 ▸ ((sU5.put (r := 1) (by omega) 65540).setPc 4108); have hM6 : HasB W Y6 mb 12288 S (fun i => i < w2.heap.size ∨ w3.heap.size ≤ i) := hY6 ▸ (HasB.set (HasB.set hMU5 (Or.inr (Nat.le_refl _)) z03 1 (.int .u32 65540)) (Or.inr (Nat.le_refl _)) z03 32 (.int .u32 4108)); have B6 : BoxL Y6 w3.heap.size [(wS5.heap.size + 1, [.int .i64 3, .int .u32 4098, .int .i64 3]), (wS5.heap.size, cl p5), (wS4.heap.size + 1, [.int .i64 2, .int .u32 4100, .int .i64 0]), (wS4.heap.size, cl p4), (wS3.heap.size + 1, [.int .i64 7, .int .u32 4102, .int .i64 0]), (wS3.heap.size, cl p3), (wS2.heap.size + 1, [.int .i64 0, .int .u32 0, .int .i64 0]), (wS2.heap.size, cl r2), (wS1.heap.size + 1, [.int .i64 0, .int .u32 0, .int .i64 0]), (wS1.heap.size, cl r1)] := hY6 ▸ (BoxL.set (BoxL.set BU5 1 (.int .u32 65540)) 32 (.int .u32 4108)); rw [hY6]; clear hY6 sU5 hMU5 BU5 f6 c0 d0 c1 d1))
  | fail)
  have hT := kstep_c hM6 ha ok6 hs6
  unfold arr at hT
  have l6 := s6.lt
  refine hT.mono ?_
  rintro e wS6 ⟨rfl, hMS6, kS6⟩
  clear hT hM6 hs6 ok6
  obtain ⟨hZ6, hY6⟩ := zbox wS6
  have z6 : w3.heap.size < wS6.heap.size := Nat.lt_of_lt_of_le l6 kS6.1
  go_wp2_with (first
  | ((with_reducible refine at_store (ty := 32) ?_); refine wpStoreBox rfl 32 _ _ rfl wS6.heap.size (l := cl zst) (l' := cl p6) rfl rfl hZ6 (by rw [cl_len, cl_len]) (infoL _) (cl_one _) ?_; intro wT6 h4 q4)
  | ((with_reducible refine at_store (ty := 35) ?_); refine wpStoreBox rfl 35 _ _ rfl (wS6.heap.size + 1) (l := [.int .i64 0, .int .u32 0, .int .i64 0]) (l' := [.int .i64 4, .int .u32 65792, .int .i64 2]) rfl rfl (Box.q hY6 q4 (by omega)) rfl (by kernel_rfl) one3e ?_; intro wU6 h5 q5; go_loud (obtain ⟨hS6, bU6⟩ := two_aft h4 q4 h5 q5; have hMU6 := hMS6.on bU6; have kV : Kp (fun i => i < w2.heap.size ∨ w3.heap.size ≤ i) Y6 wU6 := kS6.trans (Kp.bw bU6); have sU6 : SB wU6 w3.heap.size p6 := s6.blk (kV.2 _ l6 (Or.inr (Nat.le_refl _))); have BU6 : BoxL wU6 w3.heap.size [(wS6.heap.size + 1, [.int .i64 4, .int .u32 65792, .int .i64 2]), (wS6.heap.size, cl p6), (wS5.heap.size + 1, [.int .i64 3, .int .u32 4098, .int .i64 3]), (wS5.heap.size, cl p5), (wS4.heap.size + 1, [.int .i64 2, .int .u32 4100, .int .i64 0]), (wS4.heap.size, cl p4), (wS3.heap.size + 1, [.int .i64 7, .int .u32 4102, .int .i64 0]), (wS3.heap.size, cl p3), (wS2.heap.size + 1, [.int .i64 0, .int .u32 0, .int .i64 0]), (wS2.heap.size, cl r2), (wS1.heap.size + 1, [.int .i64 0, .int .u32 0, .int .i64 0]), (wS1.heap.size, cl r1)] := ((B6.kp kV (fun i hi => Or.inr hi)).cons hS6 z6 hS6.lt).cons h5 (by omega) h5.lt; have c0 := sU6.pc; have d0 := sU6.f (i := 32) (by omega); clear kV hZ6 hY6 h4 h5 q4 q5 hMS6 hS6 bU6 kS6 s6 B6))
  | ((with_reducible refine at_load (ty := 32) ?_); refine wpLoadBox rfl 32 _ rfl w3.heap.size (l := cl p7) rfl (f7 ▸ (sU6.setPc 4112)) Tryd.underlying32 rfl (infoL _) ?_; go_loud (obtain ⟨Y7, hY7⟩ : ∃ Y, (wU6.setCell ⟨w3.heap.size, 32, none⟩ (.int .u32 4112)) = Y := ⟨_, rfl⟩; have s7 : SB Y7 w3.heap.size p7 := hY7 ▸ f7 ▸ (sU6.setPc 4112); have hM7 : HasB W Y7 mb 12288 S (fun i => i < w2.heap.size ∨ w3.heap.size ≤ i) := hY7 ▸ (HasB.set hMU6 (Or.inr (Nat.le_refl _)) z03 32 (.int .u32 4112)); have B7 : BoxL Y7 w3.heap.size [(wS6.heap.size + 1, [.int .i64 4, .int .u32 65792, .int .i64 2]), (wS6.heap.size, cl p6), (wS5.heap.size + 1, [.int .i64 3, .int .u32 4098, .int .i64 3]), (wS5.heap.size, cl p5), (wS4.heap.size + 1, [.int .i64 2, .int .u32 4100, .int .i64 0]), (wS4.heap.size, cl p4), (wS3.heap.size + 1, [.int .i64 7, .int .u32 4102, .int .i64 0]), (wS3.heap.size, cl p3), (wS2.heap.size + 1, [.int .i64 0, .int .u32 0, .int .i64 0]), (wS2.heap.size, cl r2), (wS1.heap.size + 1, [.int .i64 0, .int .u32 0, .int .i64 0]), (wS1.heap.size, cl r1)] := hY7 ▸ (BoxL.set BU6 32 (.int .u32 4112)); rw [hY7]; clear hY7 sU6 hMU6 BU6 f7 c0 d0))
  | fail)
  have hT := kstep_c hM7 ha ok7 hs7
  unfold arr at hT
  have l7 := s7.lt
  refine hT.mono ?_
  rintro e wS7 ⟨rfl, hMS7, kS7⟩
  clear hT hM7 hs7 ok7
  obtain ⟨hZ7, hY7⟩ := zbox wS7
  have z7 : w3.heap.size < wS7.heap.size := Nat.lt_of_lt_of_le l7 kS7.1
  go_wp2_with (first
  | ((with_reducible refine at_store (ty := 32) ?_); refine wpStoreBox rfl 32 _ _ rfl wS7.heap.size (l := cl zst) (l' := cl p7) rfl rfl hZ7 (by rw [cl_len, cl_len]) (infoL _) (cl_one _) ?_; intro wT7 h4 q4)
  | ((with_reducible refine at_store (ty := 35) ?_); refine wpStoreBox rfl 35 _ _ rfl (wS7.heap.size + 1) (l := [.int .i64 0, .int .u32 0, .int .i64 0]) (l' := [.int .i64 5, .int .u32 4112, .int .i64 0]) rfl rfl (Box.q hY7 q4 (by omega)) rfl (by kernel_rfl) one3e ?_; intro wU7 h5 q5; go_loud (obtain ⟨hS7, bU7⟩ := two_aft h4 q4 h5 q5; have hMU7 := hMS7.on bU7; have kV : Kp (fun i => i < w2.heap.size ∨ w3.heap.size ≤ i) Y7 wU7 := kS7.trans (Kp.bw bU7); have sU7 : SB wU7 w3.heap.size p7 := s7.blk (kV.2 _ l7 (Or.inr (Nat.le_refl _))); have BU7 : BoxL wU7 w3.heap.size [(wS7.heap.size + 1, [.int .i64 5, .int .u32 4112, .int .i64 0]), (wS7.heap.size, cl p7), (wS6.heap.size + 1, [.int .i64 4, .int .u32 65792, .int .i64 2]), (wS6.heap.size, cl p6), (wS5.heap.size + 1, [.int .i64 3, .int .u32 4098, .int .i64 3]), (wS5.heap.size, cl p5), (wS4.heap.size + 1, [.int .i64 2, .int .u32 4100, .int .i64 0]), (wS4.heap.size, cl p4), (wS3.heap.size + 1, [.int .i64 7, .int .u32 4102, .int .i64 0]), (wS3.heap.size, cl p3), (wS2.heap.size + 1, [.int .i64 0, .int .u32 0, .int .i64 0]), (wS2.heap.size, cl r2), (wS1.heap.size + 1, [.int .i64 0, .int .u32 0, .int .i64 0]), (wS1.heap.size, cl r1)] := ((B7.kp kV (fun i hi => Or.inr hi)).cons hS7 z7 hS7.lt).cons h5 (by omega) h5.lt; have c0 := sU7.pc; have d0 := sU7.f (i := 32) (by omega); clear kV hZ7 hY7 h4 h5 q4 q5 hMS7 hS7 bU7 kS7 s7 B7))
  | ((with_reducible refine at_load (ty := 32) ?_); refine wpLoadBox rfl 32 _ rfl w3.heap.size (l := cl p8) rfl (f8 ▸ (sU7.setPc 4116)) Tryd.underlying32 rfl (infoL _) ?_; go_loud (obtain ⟨Y8, hY8⟩ : ∃ Y, (wU7.setCell ⟨w3.heap.size, 32, none⟩ (.int .u32 4116)) = Y := ⟨_, rfl⟩; have s8 : SB Y8 w3.heap.size p8 := hY8 ▸ f8 ▸ (sU7.setPc 4116); have hM8 : HasB W Y8 mb 12288 S (fun i => i < w2.heap.size ∨ w3.heap.size ≤ i) := hY8 ▸ (HasB.set hMU7 (Or.inr (Nat.le_refl _)) z03 32 (.int .u32 4116)); have B8 : BoxL Y8 w3.heap.size [(wS7.heap.size + 1, [.int .i64 5, .int .u32 4112, .int .i64 0]), (wS7.heap.size, cl p7), (wS6.heap.size + 1, [.int .i64 4, .int .u32 65792, .int .i64 2]), (wS6.heap.size, cl p6), (wS5.heap.size + 1, [.int .i64 3, .int .u32 4098, .int .i64 3]), (wS5.heap.size, cl p5), (wS4.heap.size + 1, [.int .i64 2, .int .u32 4100, .int .i64 0]), (wS4.heap.size, cl p4), (wS3.heap.size + 1, [.int .i64 7, .int .u32 4102, .int .i64 0]), (wS3.heap.size, cl p3), (wS2.heap.size + 1, [.int .i64 0, .int .u32 0, .int .i64 0]), (wS2.heap.size, cl r2), (wS1.heap.size + 1, [.int .i64 0, .int .u32 0, .int .i64 0]), (wS1.heap.size, cl r1)] := hY8 ▸ (BoxL.set BU7 32 (.int .u32 4116)); rw [hY8]; clear hY8 sU7 hMU7 BU7 f8 c0 d0))
  | fail)
  have hT := kstep_c hM8 ha ok8 hs8
  unfold arr at hT
  have l8 := s8.lt
  refine hT.mono ?_
  rintro e wS8 ⟨rfl, hMS8, kS8⟩
  clear hT hM8 hs8 ok8
  obtain ⟨hZ8, hY8⟩ := zbox wS8
  have z8 : w3.heap.size < wS8.heap.size := Nat.lt_of_lt_of_le l8 kS8.1
  go_wp2_with (first
  | ((with_reducible refine at_store (ty := 32) ?_); refine wpStoreBox rfl 32 _ _ rfl wS8.heap.size (l := cl zst) (l' := cl p8) rfl rfl hZ8 (by rw [cl_len, cl_len]) (infoL _) (cl_one _) ?_; intro wT8 h4 q4)
  | ((with_reducible refine at_store (ty := 35) ?_); refine wpStoreBox rfl 35 _ _ rfl (wS8.heap.size + 1) (l := [.int .i64 0, .int .u32 0, .int .i64 0]) (l' := [.int .i64 6, .int .u32 4116, .int .i64 0]) rfl rfl (Box.q hY8 q4 (by omega)) rfl (by kernel_rfl) one3e ?_; intro wU8 h5 q5; go_loud (obtain ⟨hS8, bU8⟩ := two_aft h4 q4 h5 q5; have hMU8 := hMS8.on bU8; have kV : Kp (fun i => i < w2.heap.size ∨ w3.heap.size ≤ i) Y8 wU8 := kS8.trans (Kp.bw bU8); have sU8 : SB wU8 w3.heap.size p8 := s8.blk (kV.2 _ l8 (Or.inr (Nat.le_refl _))); have BU8 : BoxL wU8 w3.heap.size [(wS8.heap.size + 1, [.int .i64 6, .int .u32 4116, .int .i64 0]), (wS8.heap.size, cl p8), (wS7.heap.size + 1, [.int .i64 5, .int .u32 4112, .int .i64 0]), (wS7.heap.size, cl p7), (wS6.heap.size + 1, [.int .i64 4, .int .u32 65792, .int .i64 2]), (wS6.heap.size, cl p6), (wS5.heap.size + 1, [.int .i64 3, .int .u32 4098, .int .i64 3]), (wS5.heap.size, cl p5), (wS4.heap.size + 1, [.int .i64 2, .int .u32 4100, .int .i64 0]), (wS4.heap.size, cl p4), (wS3.heap.size + 1, [.int .i64 7, .int .u32 4102, .int .i64 0]), (wS3.heap.size, cl p3), (wS2.heap.size + 1, [.int .i64 0, .int .u32 0, .int .i64 0]), (wS2.heap.size, cl r2), (wS1.heap.size + 1, [.int .i64 0, .int .u32 0, .int .i64 0]), (wS1.heap.size, cl r1)] := ((B8.kp kV (fun i hi => Or.inr hi)).cons hS8 z8 hS8.lt).cons h5 (by omega) h5.lt; have c0 := sU8.pc; have d0 := sU8.f (i := 32) (by omega); have c1 := sU8.c (i := 0) (by omega); have d1 := sU8.f (i := 0) (by omega); clear kV hZ8 hY8 h4 h5 q4 q5 hMS8 hS8 bU8 kS8 s8 B8))
  | ((with_reducible refine at_load (ty := 32) ?_); refine wpLoadBox rfl 32 _ rfl w3.heap.size (l := cl p9) rfl (f9 ▸ ((sU8.setPc 4120).put (r := 0) (by omega) 9)) Tryd.underlying32 rfl (infoL _) ?_; go_loud (obtain ⟨Y9, hY9⟩ : ∃ Y, ((wU8.setCell ⟨w3.heap.size, 32, none⟩ (.int .u32 4120)).setCell ⟨w3.heap.size, 0, none⟩ (.int .u32 9)) = Y := ⟨_, rfl⟩; have s9 : SB Y9 w3.heap.size p9 := hY9 ▸ f9 ▸ ((sU8.setPc 4120).put (r := 0) (by omega) 9); have hM9 : HasB W Y9 mb 12288 S (fun i => i < w2.heap.size ∨ w3.heap.size ≤ i) := hY9 ▸ (HasB.set (HasB.set hMU8 (Or.inr (Nat.le_refl _)) z03 32 (.int .u32 4120)) (Or.inr (Nat.le_refl _)) z03 0 (.int .u32 9)); have B9 : BoxL Y9 w3.heap.size [(wS8.heap.size + 1, [.int .i64 6, .int .u32 4116, .int .i64 0]), (wS8.heap.size, cl p8), (wS7.heap.size + 1, [.int .i64 5, .int .u32 4112, .int .i64 0]), (wS7.heap.size, cl p7), (wS6.heap.size + 1, [.int .i64 4, .int .u32 65792, .int .i64 2]), (wS6.heap.size, cl p6), (wS5.heap.size + 1, [.int .i64 3, .int .u32 4098, .int .i64 3]), (wS5.heap.size, cl p5), (wS4.heap.size + 1, [.int .i64 2, .int .u32 4100, .int .i64 0]), (wS4.heap.size, cl p4), (wS3.heap.size + 1, [.int .i64 7, .int .u32 4102, .int .i64 0]), (wS3.heap.size, cl p3), (wS2.heap.size + 1, [.int .i64 0, .int .u32 0, .int .i64 0]), (wS2.heap.size, cl r2), (wS1.heap.size + 1, [.int .i64 0, .int .u32 0, .int .i64 0]), (wS1.heap.size, cl r1)] := hY9 ▸ (BoxL.set (BoxL.set BU8 32 (.int .u32 4120)) 0 (.int .u32 9)); rw [hY9]; clear hY9 sU8 hMU8 BU8 f9 c0 d0 c1 d1))
  | fail)
  have hT := kstep_c hM9 ha ok9 hs9
  unfold arr at hT
  have l9 := s9.lt
  refine hT.mono ?_
  rintro e wS9 ⟨rfl, hMS9, kS9⟩
  clear hT hM9 hs9 ok9
  obtain ⟨hZ9, hY9⟩ := zbox wS9
  have z9 : w3.heap.size < wS9.heap.size := Nat.lt_of_lt_of_le l9 kS9.1
  go_wp2_with (first
  | ((with_reducible refine at_store (ty := 32) ?_); refine wpStoreBox rfl 32 _ _ rfl wS9.heap.size (l := cl zst) (l' := cl r9) rfl rfl hZ9 (by rw [cl_len, cl_len]) (infoL _) (cl_one _) ?_; intro wT9 h4 q4)
  | ((with_reducible refine at_store (ty := 35) ?_); refine wpStoreBox rfl 35 _ _ rfl (wS9.heap.size + 1) (l := [.int .i64 0, .int .u32 0, .int .i64 0]) (l' := [.int .i64 0, .int .u32 0, .int .i64 0]) rfl rfl (Box.q hY9 q4 (by omega)) rfl (by kernel_rfl) one3e ?_; intro wU9 h5 q5; go_loud (obtain ⟨hS9, bU9⟩ := two_aft h4 q4 h5 q5; have hMU9 := hMS9.on bU9; have kV : Kp (fun i => i < w2.heap.size ∨ w3.heap.size ≤ i) Y9 wU9 := kS9.trans (Kp.bw bU9); have sU9 : SB wU9 w3.heap.size p9 := s9.blk (kV.2 _ l9 (Or.inr (Nat.le_refl _))); have BU9 : BoxL wU9 w3.heap.size [(wS9.heap.size + 1, [.int .i64 0, .int .u32 0, .int .i64 0]), (wS9.heap.size, cl r9), (wS8.heap.size + 1, [.int .i64 6, .int .u32 4116, .int .i64 0]), (wS8.heap.size, cl p8), (wS7.heap.size + 1, [.int .i64 5, .int .u32 4112, .int .i64 0]), (wS7.heap.size, cl p7), (wS6.heap.size + 1, [.int .i64 4, .int .u32 65792, .int .i64 2]), (wS6.heap.size, cl p6), (wS5.heap.size + 1, [.int .i64 3, .int .u32 4098, .int .i64 3]), (wS5.heap.size, cl p5), (wS4.heap.size + 1, [.int .i64 2, .int .u32 4100, .int .i64 0]), (wS4.heap.size, cl p4), (wS3.heap.size + 1, [.int .i64 7, .int .u32 4102, .int .i64 0]), (wS3.heap.size, cl p3), (wS2.heap.size + 1, [.int .i64 0, .int .u32 0, .int .i64 0]), (wS2.heap.size, cl r2), (wS1.heap.size + 1, [.int .i64 0, .int .u32 0, .int .i64 0]), (wS1.heap.size, cl r1)] := ((B9.kp kV (fun i hi => Or.inr hi)).cons hS9 z9 hS9.lt).cons h5 (by omega) h5.lt; have c0 := sU9.pc; have d0 := sU9.f (i := 32) (by omega); clear kV hZ9 hY9 h4 h5 q4 q5 hMS9 hS9 bU9 kS9 s9 B9))
  | ((with_reducible refine at_load (ty := 32) ?_); refine wpLoadBox rfl 32 _ rfl w3.heap.size (l := cl p10) rfl (f10 ▸ (sU9.setPc 65536)) Tryd.underlying32 rfl (infoL _) ?_; go_loud (obtain ⟨Y10, hY10⟩ : ∃ Y, (wU9.setCell ⟨w3.heap.size, 32, none⟩ (.int .u32 65536)) = Y := ⟨_, rfl⟩; have s10 : SB Y10 w3.heap.size p10 := hY10 ▸ f10 ▸ (sU9.setPc 65536); have hM10 : HasB W Y10 mb 12288 S (fun i => i < w2.heap.size ∨ w3.heap.size ≤ i) := hY10 ▸ (HasB.set hMU9 (Or.inr (Nat.le_refl _)) z03 32 (.int .u32 65536)); have B10 : BoxL Y10 w3.heap.size [(wS9.heap.size + 1, [.int .i64 0, .int .u32 0, .int .i64 0]), (wS9.heap.size, cl r9), (wS8.heap.size + 1, [.int .i64 6, .int .u32 4116, .int .i64 0]), (wS8.heap.size, cl p8), (wS7.heap.size + 1, [.int .i64 5, .int .u32 4112, .int .i64 0]), (wS7.heap.size, cl p7), (wS6.heap.size + 1, [.int .i64 4, .int .u32 65792, .int .i64 2]), (wS6.heap.size, cl p6), (wS5.heap.size + 1, [.int .i64 3, .int .u32 4098, .int .i64 3]), (wS5.heap.size, cl p5), (wS4.heap.size + 1, [.int .i64 2, .int .u32 4100, .int .i64 0]), (wS4.heap.size, cl p4), (wS3.heap.size + 1, [.int .i64 7, .int .u32 4102, .int .i64 0]), (wS3.heap.size, cl p3), (wS2.heap.size + 1, [.int .i64 0, .int .u32 0, .int .i64 0]), (wS2.heap.size, cl r2), (wS1.heap.size + 1, [.int .i64 0, .int .u32 0, .int .i64 0]), (wS1.heap.size, cl r1)] := hY10 ▸ (BoxL.set BU9 32 (.int .u32 65536)); rw [hY10]; clear hY10 sU9 hMU9 BU9 f10 c0 d0))
  | fail)
  have hT := kstep_c hM10 ha ok10 hs10
  unfold arr at hT
  have l10 := s10.lt
  refine hT.mono ?_
  rintro e wS10 ⟨rfl, hMS10, kS10⟩
  clear hT hM10 hs10 ok10
  obtain ⟨hZ10, hY10⟩ := zbox wS10
  have z10 : w3.heap.size < wS10.heap.size := Nat.lt_of_lt_of_le l10 kS10.1
  go_wp2_with (first
  | ((with_reducible refine at_store (ty := 32) ?_); refine wpStoreBox rfl 32 _ _ rfl wS10.heap.size (l := cl zst) (l' := cl p10) rfl rfl hZ10 (by rw [cl_len, cl_len]) (infoL _) (cl_one _) ?_; intro wT10 h4 q4)
  | ((with_reducible refine at_store (ty := 35) ?_); refine wpStoreBox rfl 35 _ _ rfl (wS10.heap.size + 1) (l := [.int .i64 0, .int .u32 0, .int .i64 0]) (l' := [.int .i64 1, .int .u32 65536, .int .i64 2]) rfl rfl (Box.q hY10 q4 (by omega)) rfl (by kernel_rfl) one3e ?_; intro wU10 h5 q5; go_loud (obtain ⟨hS10, bU10⟩ := two_aft h4 q4 h5 q5; have hMU10 := hMS10.on bU10; have kV : Kp (fun i => i < w2.heap.size ∨ w3.heap.size ≤ i) Y10 wU10 := kS10.trans (Kp.bw bU10); have sU10 : SB wU10 w3.heap.size p10 := s10.blk (kV.2 _ l10 (Or.inr (Nat.le_refl _))); have BU10 : BoxL wU10 w3.heap.size [(wS10.heap.size + 1, [.int .i64 1, .int .u32 65536, .int .i64 2]), (wS10.heap.size, cl p10), (wS9.heap.size + 1, [.int .i64 0, .int .u32 0, .int .i64 0]), (wS9.heap.size, cl r9), (wS8.heap.size + 1, [.int .i64 6, .int .u32 4116, .int .i64 0]), (wS8.heap.size, cl p8), (wS7.heap.size + 1, [.int .i64 5, .int .u32 4112, .int .i64 0]), (wS7.heap.size, cl p7), (wS6.heap.size + 1, [.int .i64 4, .int .u32 65792, .int .i64 2]), (wS6.heap.size, cl p6), (wS5.heap.size + 1, [.int .i64 3, .int .u32 4098, .int .i64 3]), (wS5.heap.size, cl p5), (wS4.heap.size + 1, [.int .i64 2, .int .u32 4100, .int .i64 0]), (wS4.heap.size, cl p4), (wS3.heap.size + 1, [.int .i64 7, .int .u32 4102, .int .i64 0]), (wS3.heap.size, cl p3), (wS2.heap.size + 1, [.int .i64 0, .int .u32 0, .int .i64 0]), (wS2.heap.size, cl r2), (wS1.heap.size + 1, [.int .i64 0, .int .u32 0, .int .i64 0]), (wS1.heap.size, cl r1)] := ((B10.kp kV (fun i hi => Or.inr hi)).cons hS10 z10 hS10.lt).cons h5 (by omega) h5.lt; have c0 := sU10.pc; have d0 := sU10.f (i := 32) (by omega); clear kV hZ10 hY10 h4 h5 q4 q5 hMS10 hS10 bU10 kS10 s10 B10))
  | ((with_reducible refine at_load (ty := 32) ?_); refine wpLoadBox rfl 32 _ rfl w3.heap.size (l := cl p11) rfl (f11 ▸ (sU10.setPc 4097)) Tryd.underlying32 rfl (infoL _) ?_; go_loud (obtain ⟨Y11, hY11⟩ : ∃ Y, (wU10.setCell ⟨w3.heap.size, 32, none⟩ (.int .u32 4097)) = Y := ⟨_, rfl⟩; have s11 : SB Y11 w3.heap.size p11 := hY11 ▸ f11 ▸ (sU10.setPc 4097); have hM11 : HasB W Y11 mb 12288 S (fun i => i < w2.heap.size ∨ w3.heap.size ≤ i) := hY11 ▸ (HasB.set hMU10 (Or.inr (Nat.le_refl _)) z03 32 (.int .u32 4097)); have B11 : BoxL Y11 w3.heap.size [(wS10.heap.size + 1, [.int .i64 1, .int .u32 65536, .int .i64 2]), (wS10.heap.size, cl p10), (wS9.heap.size + 1, [.int .i64 0, .int .u32 0, .int .i64 0]), (wS9.heap.size, cl r9), (wS8.heap.size + 1, [.int .i64 6, .int .u32 4116, .int .i64 0]), (wS8.heap.size, cl p8), (wS7.heap.size + 1, [.int .i64 5, .int .u32 4112, .int .i64 0]), (wS7.heap.size, cl p7), (wS6.heap.size + 1, [.int .i64 4, .int .u32 65792, .int .i64 2]), (wS6.heap.size, cl p6), (wS5.heap.size + 1, [.int .i64 3, .int .u32 4098, .int .i64 3]), (wS5.heap.size, cl p5), (wS4.heap.size + 1, [.int .i64 2, .int .u32 4100, .int .i64 0]), (wS4.heap.size, cl p4), (wS3.heap.size + 1, [.int .i64 7, .int .u32 4102, .int .i64 0]), (wS3.heap.size, cl p3), (wS2.heap.size + 1, [.int .i64 0, .int .u32 0, .int .i64 0]), (wS2.heap.size, cl r2), (wS1.heap.size + 1, [.int .i64 0, .int .u32 0, .int .i64 0]), (wS1.heap.size, cl r1)] := hY11 ▸ (BoxL.set BU10 32 (.int .u32 4097)); rw [hY11]; clear hY11 sU10 hMU10 BU10 f11 c0 d0))
  | fail)
  have hT := kstep_c hM11 ha ok11 hs11
  unfold arr at hT
  have l11 := s11.lt
  refine hT.mono ?_
  rintro e wS11 ⟨rfl, hMS11, kS11⟩
  clear hT hM11 hs11 ok11
  obtain ⟨hZ11, hY11⟩ := zbox wS11
  have z11 : w3.heap.size < wS11.heap.size := Nat.lt_of_lt_of_le l11 kS11.1
  go_wp2_with (first
  | ((with_reducible refine at_store (ty := 32) ?_); refine wpStoreBox rfl 32 _ _ rfl wS11.heap.size (l := cl zst) (l' := cl p11) rfl rfl hZ11 (by rw [cl_len, cl_len]) (infoL _) (cl_one _) ?_; intro wT11 h4 q4)
  | ((with_reducible refine at_store (ty := 35) ?_); refine wpStoreBox rfl 35 _ _ rfl (wS11.heap.size + 1) (l := [.int .i64 0, .int .u32 0, .int .i64 0]) (l' := [.int .i64 1, .int .u32 4097, .int .i64 3]) rfl rfl (Box.q hY11 q4 (by omega)) rfl (by kernel_rfl) one3e ?_; intro wU11 h5 q5; go_loud (obtain ⟨hS11, bU11⟩ := two_aft h4 q4 h5 q5; have hMU11 := hMS11.on bU11; have kV : Kp (fun i => i < w2.heap.size ∨ w3.heap.size ≤ i) Y11 wU11 := kS11.trans (Kp.bw bU11); have sU11 : SB wU11 w3.heap.size p11 := s11.blk (kV.2 _ l11 (Or.inr (Nat.le_refl _))); have BU11 : BoxL wU11 w3.heap.size [(wS11.heap.size + 1, [.int .i64 1, .int .u32 4097, .int .i64 3]), (wS11.heap.size, cl p11), (wS10.heap.size + 1, [.int .i64 1, .int .u32 65536, .int .i64 2]), (wS10.heap.size, cl p10), (wS9.heap.size + 1, [.int .i64 0, .int .u32 0, .int .i64 0]), (wS9.heap.size, cl r9), (wS8.heap.size + 1, [.int .i64 6, .int .u32 4116, .int .i64 0]), (wS8.heap.size, cl p8), (wS7.heap.size + 1, [.int .i64 5, .int .u32 4112, .int .i64 0]), (wS7.heap.size, cl p7), (wS6.heap.size + 1, [.int .i64 4, .int .u32 65792, .int .i64 2]), (wS6.heap.size, cl p6), (wS5.heap.size + 1, [.int .i64 3, .int .u32 4098, .int .i64 3]), (wS5.heap.size, cl p5), (wS4.heap.size + 1, [.int .i64 2, .int .u32 4100, .int .i64 0]), (wS4.heap.size, cl p4), (wS3.heap.size + 1, [.int .i64 7, .int .u32 4102, .int .i64 0]), (wS3.heap.size, cl p3), (wS2.heap.size + 1, [.int .i64 0, .int .u32 0, .int .i64 0]), (wS2.heap.size, cl r2), (wS1.heap.size + 1, [.int .i64 0, .int .u32 0, .int .i64 0]), (wS1.heap.size, cl r1)] := ((B11.kp kV (fun i hi => Or.inr hi)).cons hS11 z11 hS11.lt).cons h5 (by omega) h5.lt; have E1 := (BU11 _ (.tail _ (.tail _ (.tail _ (.tail _ (.tail _ (.tail _ (.tail _ (.tail _ (.tail _ (.tail _ (.tail _ (.tail _ (.tail _ (.tail _ (.tail _ (.tail _ (.tail _ (.tail _ (.tail _ (.tail _ (.head _)))))))))))))))))))))).2.2; have E2 := (BU11 _ (.tail _ (.tail _ (.tail _ (.tail _ (.tail _ (.tail _ (.tail _ (.tail _ (.tail _ (.tail _ (.tail _ (.tail _ (.tail _ (.tail _ (.tail _ (.tail _ (.tail _ (.tail _ (.head _)))))))))))))))))))).2.2; have E3 := (BU11 _ (.tail _ (.tail _ (.tail _ (.tail _ (.tail _ (.tail _ (.tail _ (.tail _ (.tail _ (.tail _ (.tail _ (.tail _ (.tail _ (.tail _ (.tail _ (.tail _ (.head _)))))))))))))))))).2.2; have E4 := (BU11 _ (.tail _ (.tail _ (.tail _ (.tail _ (.tail _ (.tail _ (.tail _ (.tail _ (.tail _ (.tail _ (.tail _ (.tail _ (.tail _ (.tail _ (.head _)))))))))))))))).2.2; have E5 := (BU11 _ (.tail _ (.tail _ (.tail _ (.tail _ (.tail _ (.tail _ (.tail _ (.tail _ (.tail _ (.tail _ (.tail _ (.tail _ (.head _)))))))))))))).2.2; have E6 := (BU11 _ (.tail _ (.tail _ (.tail _ (.tail _ (.tail _ (.tail _ (.tail _ (.tail _ (.tail _ (.tail _ (.head _)))))))))))).2.2; have E7 := (BU11 _ (.tail _ (.tail _ (.tail _ (.tail _ (.tail _ (.tail _ (.tail _ (.tail _ (.head _)))))))))).2.2; have E8 := (BU11 _ (.tail _ (.tail _ (.tail _ (.tail _ (.tail _ (.tail _ (.head _)))))))).2.2; have E9 := (BU11 _ (.tail _ (.tail _ (.tail _ (.tail _ (.head _)))))).2.2; have E10 := (BU11 _ (.tail _ (.tail _ (.head _)))).2.2; have E11 := (BU11 _ (.head _)).2.2; have Y1 : SB wU11 wS1.heap.size r1 := (BU11 _ (.tail _ (.tail _ (.tail _ (.tail _ (.tail _ (.tail _ (.tail _ (.tail _ (.tail _ (.tail _ (.tail _ (.tail _ (.tail _ (.tail _ (.tail _ (.tail _ (.tail _ (.tail _ (.tail _ (.tail _ (.tail _ (.head _))))))))))))))))))))))).2.2; have Y7 : SB wU11 wS7.heap.size p7 := (BU11 _ (.tail _ (.tail _ (.tail _ (.tail _ (.tail _ (.tail _ (.tail _ (.tail _ (.tail _ (.head _))))))))))).2.2; have Y9 : SB wU11 wS9.heap.size r9 := (BU11 _ (.tail _ (.tail _ (.tail _ (.tail _ (.tail _ (.head _))))))).2.2; have x1 := Y1.pc; have x2 := Y1.c (i := 1) (by omega); have x3 := Y7.ret; have x4 := Y9.c (i := 0) (by omega); rw [y1] at x1; rw [y2] at x2; rw [y3] at x3; rw [y4] at x4; clear BU11; clear kV hZ11 hY11 h4 h5 q4 q5 hMS11 hS11 bU11 kS11 s11 B11); change Hid _)
  | fail)
  unfold Hid
  go_step
  go_step
  go_step
  simp only [List.append]
  go_wp2_with (first
  | ((with_reducible refine at_load (ty := 35) ?_); refine wpLoadE (by kernel_rfl) _ rfl (wS1.heap.size + 1) rfl E1 ?_)
  | ((with_reducible refine at_load (ty := 35) ?_); refine wpLoadE (by kernel_rfl) _ rfl (wS2.heap.size + 1) rfl E2 ?_)
  | ((with_reducible refine at_load (ty := 35) ?_); refine wpLoadE (by kernel_rfl) _ rfl (wS3.heap.size + 1) rfl E3 ?_)
  | ((with_reducible refine at_load (ty := 35) ?_); refine wpLoadE (by kernel_rfl) _ rfl (wS4.heap.size + 1) rfl E4 ?_)
  | ((with_reducible refine at_load (ty := 35) ?_); refine wpLoadE (by kernel_rfl) _ rfl (wS5.heap.size + 1) rfl E5 ?_)
  | ((with_reducible refine at_load (ty := 35) ?_); refine wpLoadE (by kernel_rfl) _ rfl (wS6.heap.size + 1) rfl E6 ?_)
  | ((with_reducible refine at_load (ty := 35) ?_); refine wpLoadE (by kernel_rfl) _ rfl (wS7.heap.size + 1) rfl E7 ?_)
  | ((with_reducible refine at_load (ty := 35) ?_); refine wpLoadE (by kernel_rfl) _ rfl (wS8.heap.size + 1) rfl E8 ?_)
  | ((with_reducible refine at_load (ty := 35) ?_); refine wpLoadE (by kernel_rfl) _ rfl (wS9.heap.size + 1) rfl E9 ?_)
  | ((with_reducible refine at_load (ty := 35) ?_); refine wpLoadE (by kernel_rfl) _ rfl (wS10.heap.size + 1) rfl E10 ?_)
  | ((with_reducible refine at_load (ty := 35) ?_); refine wpLoadE (by kernel_rfl) _ rfl (wS11.heap.size + 1) rfl E11 ?_)
  | fail)
  go_returns
  exact ⟨rfl, hMU11.bw⟩
end Go.Proofs.YtbackacbdfgdoaaDoor
