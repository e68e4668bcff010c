/- PLAIN LAWS OF LAYER 1: what follows for the numbers; no Go but the model's 'bits'. -/
import Derived.Test.YtcpgfogijdmaoaaAluBits
namespace Go.Proofs.Ytcpgfogijdmaoaa.Alu
open Go.RowKit

theorem mk {a : Int} (h0 : 0 ≤ a) (h1 : a < 4294967296) : U32 a := ⟨h0, h1⟩

theorem mmod (x y : Int) : (x % 4294967296 * y) % 4294967296 = (x * y) % 4294967296 := by
  rw [Int.mul_emod, Int.emod_emod, ← Int.mul_emod]
theorem smod {b : Int} (x : Int) (hb : U32 b) : (x * b) % 4294967296 = (x * s32 b) % 4294967296 := by
  rw [Int.mul_emod, ← s32_mod hb, Int.emod_emod, ← Int.mul_emod, s32_mod hb]

/-! Quotients and rests -/
theorem divU {a b : Int} (ha : U32 a) (hb : U32 b) : val 0 (val 10 (val 15 a b) b) (val 17 a b) = a := by
  rw [val_0, val_10, val_15, val_17]
  unfold U32 at ha hb
  by_cases h : b = 0
  · subst h; simp; omega
  · rw [if_neg h, if_neg h]
    have e := Int.mul_ediv_add_emod a b
    rw [Int.mul_comm] at e
    omega
theorem divS {a b : Int} (ha : U32 a) (hb : U32 b) : val 0 (val 10 (val 14 a b) b) (val 16 a b) = a := by
  rw [val_0, val_10, val_14, val_16]
  by_cases h : b = 0
  · subst h; unfold U32 at ha; simp; omega
  · rw [if_neg h, if_neg h, mmod, smod _ hb]
    have e := Int.mul_tdiv_add_tmod (s32 a) (s32 b)
    rw [Int.mul_comm] at e
    have m := s32_mod ha
    omega
theorem remL {a b : Int} (hb : U32 b) (h : b ≠ 0) : val 17 a b < b := by
  rw [val_17, if_neg h]
  unfold U32 at hb
  exact Int.emod_lt_of_pos a (by omega)

/-! What is turned back -/
theorem add_sub {a : Int} (b : Int) (ha : U32 a) : val 1 (val 0 a b) b = a := by
  rw [val_1, val_0]; unfold U32 at ha; omega
theorem xor_xor {a b : Int} (ha : U32 a) : val 5 (val 5 a b) b = a := by
  rw [val_5, val_5]; unfold bx
  rw [Int.toNat_natCast, Nat.xor_assoc, Nat.xor_self, Nat.xor_zero]
  have := ha.1; omega
theorem and_self {a : Int} (ha : U32 a) : val 9 a a = a := by
  rw [val_9]; unfold ba; rw [Nat.and_self]; have := ha.1; omega
theorem or_self {a : Int} (ha : U32 a) : val 8 a a = a := by
  rw [val_8]; unfold bo; rw [Nat.or_self]; have := ha.1; omega
theorem sub_self (a : Int) : val 1 a a = 0 := by rw [val_1]; omega
theorem add_comm (a b : Int) : val 0 a b = val 0 b a := by rw [val_0, val_0, Int.add_comm]
theorem mul_comm (a b : Int) : val 10 a b = val 10 b a := by rw [val_10, val_10, Int.mul_comm]

theorem nat_or_and (n : Nat) : ∀ x y : Nat, x < 2 ^ n → y < 2 ^ n → (x ||| y) + (x &&& y) = x + y := by
  induction n with
  | zero => intro x y hx hy; have : x = 0 := by omega
            have : y = 0 := by omega
            subst x; subst y; rfl
  | succ n ih =>
    intro x y hx hy
    have h := ih (x / 2) (y / 2) (by omega) (by omega)
    have o1 : (x ||| y) / 2 = x / 2 ||| y / 2 := Nat.or_div_two
    have a1 : (x &&& y) / 2 = x / 2 &&& y / 2 := Nat.and_div_two
    have o2 : (x ||| y) % 2 = x % 2 ||| y % 2 := by
      have := Nat.or_mod_two_pow (a := x) (b := y) (n := 1)
      simpa using this
    have a2 : (x &&& y) % 2 = x % 2 &&& y % 2 := by
      have := Nat.and_mod_two_pow (a := x) (b := y) (n := 1)
      simpa using this
    have b2 : ∀ p q : Nat, p < 2 → q < 2 → (p ||| q) + (p &&& q) = p + q := by
      intro p q hp hq
      rcases (show p = 0 ∨ p = 1 by omega) with rfl | rfl <;> rcases (show q = 0 ∨ q = 1 by omega) with rfl | rfl <;> rfl
    have b3 := b2 (x % 2) (y % 2) (Nat.mod_lt _ (by decide)) (Nat.mod_lt _ (by decide))
    rw [← o1, ← a1] at h
    rw [← o2, ← a2] at b3
    omega
theorem or_and {a b : Int} (ha : U32 a) (hb : U32 b) : val 0 (val 8 a b) (val 9 a b) = val 0 a b := by
  rw [val_0, val_0, val_8, val_9]; unfold bo ba; unfold U32 at ha hb
  have := nat_or_and 32 a.toNat b.toNat (by omega) (by omega)
  congr 1
  omega

/-! Both halves -/
theorem join64 {h l : Int} (hh : U32 h) (hl : U32 l) : bits .or .u64 (h * 4294967296 % 18446744073709551616) l = h * 4294967296 + l := by
  unfold U32 at hh hl
  obtain ⟨x, rfl⟩ := Int.eq_ofNat_of_zero_le hh.1
  obtain ⟨y, rfl⟩ := Int.eq_ofNat_of_zero_le hl.1
  rw [show (x : Int) * 4294967296 % 18446744073709551616 = ((x * 4294967296 : Nat) : Int) by omega, u64_or_nat _ _ (by omega) (by omega), nat_join 32 _ _ (by omega) (by omega)]
  omega
theorem whole13 {a b : Int} : val 13 a b * 4294967296 + val 10 a b = a * b := by
  rw [val_13, val_10]; omega
theorem whole11 {a b : Int} (ha : U32 a) (hb : U32 b) : val 11 a b * 4294967296 + val 10 a b = (s32 a * s32 b) % 18446744073709551616 := by
  have e : val 10 a b = (s32 a * s32 b) % 4294967296 := by rw [val_10, smod _ hb, Int.mul_comm, smod _ ha, Int.mul_comm]
  rw [e, val_11]; omega
theorem whole12 {a b : Int} (ha : U32 a) : val 12 a b * 4294967296 + val 10 a b = (s32 a * b) % 18446744073709551616 := by
  have e : val 10 a b = (s32 a * b) % 4294967296 := by rw [val_10, Int.mul_comm, smod _ ha, Int.mul_comm]
  rw [e, val_12]; omega

/-! Shifts -/
theorem one_up (n : Int) : val 2 1 n = pw n := by
  rw [val_2]; have := pw_pos n; have := pw_bd n; omega
theorem up_mul (a n : Int) : val 2 a n = val 10 a (pw n) := by rw [val_2, val_10]
theorem down_div (a n : Int) : val 6 a n = val 15 a (pw n) := by
  rw [val_6, val_15, if_neg (by have := pw_pos n; omega)]
theorem s32_of_mod {x : Int} (h0 : -2147483648 ≤ x) (h1 : x ≤ 2147483647) : s32 (x % 4294967296) = x := by
  unfold s32; split <;> omega
theorem sh7 {a : Int} (n : Int) (ha : U32 a) : s32 (val 7 a n) = s32 a / pw n := by
  have hb := s32_bd ha
  have hp := pw_pos n
  rw [val_7]
  have h1 : s32 a / pw n ≤ 2147483647 := by
    by_cases h : 0 ≤ s32 a
    · have := Int.ediv_le_self (b := pw n) h; omega
    · have := Int.ediv_neg_of_neg_of_pos (show s32 a < 0 by omega) (show 0 < pw n by omega); omega
  have h2 : -2147483648 ≤ s32 a / pw n := by
    rw [Int.le_ediv_iff_mul_le (by omega)]
    have := Int.mul_le_mul_of_nonpos_left (a := -2147483648) (by omega) hp
    omega
  exact s32_of_mod h2 h1
theorem sign_kept {a : Int} (n : Int) (ha : U32 a) : val 3 (val 7 a n) 0 = val 3 a 0 := by
  rw [val_3, val_3, sh7 n ha]
  have hp := pw_pos n
  have e : s32 0 = 0 := rfl
  rw [e]
  congr 1
  rw [decide_eq_decide]
  constructor
  · intro h
    by_cases h0 : 0 ≤ s32 a
    · have := Int.ediv_nonneg (b := pw n) h0 (by omega); omega
    · omega
  · intro h
    exact Int.ediv_neg_of_neg_of_pos h (by omega)
theorem plain_down {a : Int} (n : Int) (ha : U32 a) (h : a < 2147483648) : val 7 a n = val 6 a n := by
  have e : s32 a = a := by unfold s32; rw [if_pos h]
  rw [val_7, val_6, e]
  have hp := pw_pos n
  have h1 := Int.ediv_nonneg ha.1 (show 0 ≤ pw n by omega)
  have h2 := Int.ediv_le_self (b := pw n) ha.1
  omega

/-! Negatives -/
theorem s32_neg {a : Int} (ha : U32 a) (h : a ≠ 2147483648) : s32 (val 1 0 a) = -s32 a := by
  rw [val_1]; unfold U32 at ha; unfold s32; split <;> split <;> omega
theorem neg_U {a : Int} : U32 (val 1 0 a) := by rw [val_1]; exact ⟨by omega, by omega⟩
theorem neg_zero {a : Int} (hb : U32 a) : val 1 0 a = 0 ↔ a = 0 := by
  rw [val_1]; unfold U32 at hb; omega
theorem neg_add (a : Int) : val 0 a (val 1 0 a) = 0 := by rw [val_0, val_1]; omega
theorem neg_div_l {a b : Int} (ha : U32 a) (h : a ≠ 2147483648) (hb0 : b ≠ 0) : val 14 (val 1 0 a) b = val 1 0 (val 14 a b) := by
  rw [val_14, if_neg hb0, s32_neg ha h, Int.neg_tdiv, val_14, if_neg hb0, val_1]; omega
theorem neg_div_r {a b : Int} (hb : U32 b) (h : b ≠ 2147483648) (hb0 : b ≠ 0) : val 14 a (val 1 0 b) = val 1 0 (val 14 a b) := by
  rw [val_14, if_neg (by rw [neg_zero hb]; exact hb0), s32_neg hb h, Int.tdiv_neg, val_14, if_neg hb0, val_1]; omega
theorem neg_rem_r {a b : Int} (hb : U32 b) (h : b ≠ 2147483648) (hb0 : b ≠ 0) : val 16 a (val 1 0 b) = val 16 a b := by
  rw [val_16, if_neg (by rw [neg_zero hb]; exact hb0), s32_neg hb h, Int.tmod_neg, val_16, if_neg hb0]
theorem neg_rem_l {a b : Int} (ha : U32 a) (h : a ≠ 2147483648) (hb0 : b ≠ 0) : val 16 (val 1 0 a) b = val 1 0 (val 16 a b) := by
  rw [val_16, if_neg hb0, s32_neg ha h, Int.neg_tmod, val_16, if_neg hb0, val_1]; omega

/-! Signs that are spread -/
theorem ext8 (v : Int) : ext v 8 = if v % 256 < 128 then v % 256 else v % 256 + 4294967040 := by unfold ext; rw [if_pos rfl]
theorem ext16 (v : Int) : ext v 16 = if v % 65536 < 32768 then v % 65536 else v % 65536 + 4294901760 := by unfold ext; rw [if_neg (by decide), if_pos rfl]
theorem ext8_8 (v : Int) : ext (ext v 8) 8 = ext v 8 := by
  rw [ext8 (ext v 8), ext8 v]; split <;> split <;> omega
theorem ext16_16 (v : Int) : ext (ext v 16) 16 = ext v 16 := by
  rw [ext16 (ext v 16), ext16 v]; split <;> split <;> omega
theorem ext8_16 (v : Int) : ext (ext v 8) 16 = ext v 8 := by
  rw [ext16 (ext v 8), ext8 v]; split <;> split <;> omega
theorem ext8_low (v : Int) : ext v 8 % 256 = v % 256 := by rw [ext8]; split <;> omega
theorem ext16_low (v : Int) : ext v 16 % 65536 = v % 65536 := by rw [ext16]; split <;> omega
theorem or_high {v : Int} (h : U32 v) : bits .or .u32 v 4294967040 = v % 256 + 4294967040 := by
  unfold U32 at h
  obtain ⟨x, rfl⟩ := Int.eq_ofNat_of_zero_le h.1
  rw [show (4294967040 : Int) = ((4294967040 : Nat) : Int) from rfl, u32_or_nat _ _ (by omega) (by omega)]
  have e := nat_or_and 32 x 4294967040 (by omega) (by decide)
  rw [nat_hi32_8] at e
  omega
end Go.Proofs.Ytcpgfogijdmaoaa.Alu
