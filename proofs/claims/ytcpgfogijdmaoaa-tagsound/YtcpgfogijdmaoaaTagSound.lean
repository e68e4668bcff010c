/- PLAIN MATHEMATICS OF LAYER 2: no label is lost. Numbers that are unlike in labelled bytes alone come to numbers that are unlike in labelled bytes alone. -/
import Derived.Test.YtcpgfogijdmaoaaTagFacts
import Derived.Test.YtcpgfogijdmaoaaAluMath
namespace Go.Proofs.Ytcpgfogijdmaoaa.Tag
set_option linter.unusedSimpArgs false

/-- Two numbers are alike in every byte that bears no label of l. -/
def ali (a x : Int) (s0 s1 s2 s3 l : BitVec 8) : Prop := ∀ i, i < 4 → g4 s0 s1 s2 s3 i &&& l = 0#8 → by4 a i = by4 x i

theorem by4_0 (a : Int) : by4 a 0 = a % 256 := by unfold by4; simp
theorem by4_1 (a : Int) : by4 a 1 = a / 256 % 256 := by unfold by4; rfl
theorem by4_2 (a : Int) : by4 a 2 = a / 65536 % 256 := by unfold by4; rfl
theorem by4_3 (a : Int) : by4 a 3 = a / 16777216 % 256 := by unfold by4; rfl
theorem four {i : Nat} (h : i < 4) : i = 0 ∨ i = 1 ∨ i = 2 ∨ i = 3 := by omega

/-- What is alike in the lowest bytes is alike modulo their power. -/
def low (a x : Int) : Nat → Prop
  | 0 => a % 256 = x % 256
  | 1 => a % 65536 = x % 65536
  | 2 => a % 16777216 = x % 16777216
  | _ => a % 4294967296 = x % 4294967296
theorem low_of {a x : Int} (j : Nat) (hj : j < 4) (h : ∀ i, i ≤ j → by4 a i = by4 x i) : low a x j := by
  have h0 := h 0 (by omega)
  rw [by4_0, by4_0] at h0
  rcases four hj with rfl | rfl | rfl | rfl
  · exact h0
  · have h1 := h 1 (by omega)
    rw [by4_1, by4_1] at h1
    show _ = _; omega
  · have h1 := h 1 (by omega)
    have h2 := h 2 (by omega)
    rw [by4_1, by4_1] at h1
    rw [by4_2, by4_2] at h2
    show _ = _; omega
  · have h1 := h 1 (by omega)
    have h2 := h 2 (by omega)
    have h3 := h 3 (by omega)
    rw [by4_1, by4_1] at h1
    rw [by4_2, by4_2] at h2
    rw [by4_3, by4_3] at h3
    show _ = _; omega
theorem of_low {a x : Int} (j : Nat) (hj : j < 4) (h : low a x j) : by4 a j = by4 x j := by
  rcases four hj with rfl | rfl | rfl | rfl
  · rw [by4_0, by4_0]; exact h
  · have h : a % 65536 = x % 65536 := h
    rw [by4_1, by4_1]; omega
  · have h : a % 16777216 = x % 16777216 := h
    rw [by4_2, by4_2]; omega
  · have h : a % 4294967296 = x % 4294967296 := h
    rw [by4_3, by4_3]; omega
theorem whole {a x : Int} (ha : Alu.U32 a) (hx : Alu.U32 x) (h : ∀ i, i < 4 → by4 a i = by4 x i) : a = x := by
  have : low a x 3 := low_of 3 (by omega) fun i hi => h i (by omega)
  have : a % 4294967296 = x % 4294967296 := this
  unfold Alu.U32 at *
  omega
theorem lowmod {a x : Int} {j : Nat} (hj : j < 4) (h : low a x j) : low (a % 4294967296) (x % 4294967296) j := by
  rcases four hj with rfl | rfl | rfl | rfl
  · have h : a % 256 = x % 256 := h
    show _ = _; omega
  · have h : a % 65536 = x % 65536 := h
    show _ = _; omega
  · have h : a % 16777216 = x % 16777216 := h
    show _ = _; omega
  · have h : a % 4294967296 = x % 4294967296 := h
    show _ = _; omega
theorem low_add {a x b y : Int} {j : Nat} (hj : j < 4) (h : low a x j) (k : low b y j) : low (a + b) (x + y) j := by
  rcases four hj with rfl | rfl | rfl | rfl
  · have h : a % 256 = x % 256 := h
    have k : b % 256 = y % 256 := k
    show _ = _; omega
  · have h : a % 65536 = x % 65536 := h
    have k : b % 65536 = y % 65536 := k
    show _ = _; omega
  · have h : a % 16777216 = x % 16777216 := h
    have k : b % 16777216 = y % 16777216 := k
    show _ = _; omega
  · have h : a % 4294967296 = x % 4294967296 := h
    have k : b % 4294967296 = y % 4294967296 := k
    show _ = _; omega
theorem low_sub {a x b y : Int} {j : Nat} (hj : j < 4) (h : low a x j) (k : low b y j) : low (a - b) (x - y) j := by
  rcases four hj with rfl | rfl | rfl | rfl
  · have h : a % 256 = x % 256 := h
    have k : b % 256 = y % 256 := k
    show _ = _; omega
  · have h : a % 65536 = x % 65536 := h
    have k : b % 65536 = y % 65536 := k
    show _ = _; omega
  · have h : a % 16777216 = x % 16777216 := h
    have k : b % 16777216 = y % 16777216 := k
    show _ = _; omega
  · have h : a % 4294967296 = x % 4294967296 := h
    have k : b % 4294967296 = y % 4294967296 := k
    show _ = _; omega
theorem mulmod (m : Int) {a x b y : Int} (h : a % m = x % m) (k : b % m = y % m) : (a * b) % m = (x * y) % m := by
  rw [Int.mul_emod, h, k, ← Int.mul_emod]
theorem low_mul {a x b y : Int} {j : Nat} (hj : j < 4) (h : low a x j) (k : low b y j) : low (a * b) (x * y) j := by
  rcases four hj with rfl | rfl | rfl | rfl <;> exact mulmod _ h k

theorem nat_xor_byte (a b k : Nat) : (a ^^^ b) / 2 ^ k % 256 = (a / 2 ^ k % 256) ^^^ (b / 2 ^ k % 256) := by
  rw [← Nat.shiftRight_eq_div_pow, ← Nat.shiftRight_eq_div_pow, ← Nat.shiftRight_eq_div_pow, Nat.shiftRight_xor_distrib]
  exact Nat.xor_mod_two_pow (n := 8)
theorem nat_or_byte (a b k : Nat) : (a ||| b) / 2 ^ k % 256 = (a / 2 ^ k % 256) ||| (b / 2 ^ k % 256) := by
  rw [← Nat.shiftRight_eq_div_pow, ← Nat.shiftRight_eq_div_pow, ← Nat.shiftRight_eq_div_pow, Nat.shiftRight_or_distrib]
  exact Nat.or_mod_two_pow (n := 8)
theorem nat_and_byte (a b k : Nat) : (a &&& b) / 2 ^ k % 256 = (a / 2 ^ k % 256) &&& (b / 2 ^ k % 256) := by
  rw [← Nat.shiftRight_eq_div_pow, ← Nat.shiftRight_eq_div_pow, ← Nat.shiftRight_eq_div_pow, Nat.shiftRight_and_distrib]
  exact Nat.and_mod_two_pow (n := 8)
theorem by4_nat (a : Nat) (j : Nat) : by4 (a : Int) j = ((a / 2 ^ (8 * j) % 256 : Nat) : Int) := by unfold by4; simp
theorem by4_bx {a b x y : Int} (ha : Alu.U32 a) (hb : Alu.U32 b) (hx : Alu.U32 x) (hy : Alu.U32 y) {j : Nat} (h : by4 a j = by4 x j) (k : by4 b j = by4 y j) : by4 (Alu.bx a b) j = by4 (Alu.bx x y) j := by
  obtain ⟨a, rfl⟩ := Int.eq_ofNat_of_zero_le ha.1
  obtain ⟨b, rfl⟩ := Int.eq_ofNat_of_zero_le hb.1
  obtain ⟨x, rfl⟩ := Int.eq_ofNat_of_zero_le hx.1
  obtain ⟨y, rfl⟩ := Int.eq_ofNat_of_zero_le hy.1
  rw [by4_nat, by4_nat] at h k
  unfold Alu.bx
  rw [by4_nat, by4_nat, Int.toNat_natCast, Int.toNat_natCast, Int.toNat_natCast, Int.toNat_natCast, nat_xor_byte, nat_xor_byte, Int.ofNat_inj.1 h, Int.ofNat_inj.1 k]
theorem by4_bo {a b x y : Int} (ha : Alu.U32 a) (hb : Alu.U32 b) (hx : Alu.U32 x) (hy : Alu.U32 y) {j : Nat} (h : by4 a j = by4 x j) (k : by4 b j = by4 y j) : by4 (Alu.bo a b) j = by4 (Alu.bo x y) j := by
  obtain ⟨a, rfl⟩ := Int.eq_ofNat_of_zero_le ha.1
  obtain ⟨b, rfl⟩ := Int.eq_ofNat_of_zero_le hb.1
  obtain ⟨x, rfl⟩ := Int.eq_ofNat_of_zero_le hx.1
  obtain ⟨y, rfl⟩ := Int.eq_ofNat_of_zero_le hy.1
  rw [by4_nat, by4_nat] at h k
  unfold Alu.bo
  rw [by4_nat, by4_nat, Int.toNat_natCast, Int.toNat_natCast, Int.toNat_natCast, Int.toNat_natCast, nat_or_byte, nat_or_byte, Int.ofNat_inj.1 h, Int.ofNat_inj.1 k]
theorem by4_ba {a b : Int} (ha : Alu.U32 a) (hb : Alu.U32 b) (j : Nat) : by4 (Alu.ba a b) j = (((by4 a j).toNat &&& (by4 b j).toNat : Nat) : Int) := by
  obtain ⟨a, rfl⟩ := Int.eq_ofNat_of_zero_le ha.1
  obtain ⟨b, rfl⟩ := Int.eq_ofNat_of_zero_le hb.1
  unfold Alu.ba
  rw [by4_nat, by4_nat, by4_nat, Int.toNat_natCast, Int.toNat_natCast, nat_and_byte, Int.toNat_natCast, Int.toNat_natCast]
end Go.Proofs.Ytcpgfogijdmaoaa.Tag
