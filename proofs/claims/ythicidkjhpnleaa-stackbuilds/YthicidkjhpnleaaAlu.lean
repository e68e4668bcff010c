/- PLAIN MATHEMATICS OF LAYER 1 (numbers of 32 bits): what alu.Do comes to at each kind, as integers; no Go in sight. -/
namespace Go.Proofs.Ythicidkjhpnleaa.Alu

/-- A number of 32 bits with its sign. -/
def s32 (a : Int) : Int := if a < 2147483648 then a else a - 4294967296

def U32 (a : Int) : Prop := 0 ≤ a ∧ a < 4294967296

/-- 2 to the power of a count from 0 to 31. -/
def pw (b : Int) : Int := 2 ^ (b % 32).toNat

def bx (a b : Int) : Int := ((a.toNat ^^^ b.toNat : Nat) : Int)
def bo (a b : Int) : Int := ((a.toNat ||| b.toNat : Nat) : Int)
def ba (a b : Int) : Int := ((a.toNat &&& b.toNat : Nat) : Int)

/-- What alu.Do answers (nought of another kind). -/
def val (k a b : Int) : Int :=
  if k = 0 then (a + b) % 4294967296
  else if k = 1 then (a - b) % 4294967296
  else if k = 2 then (a * pw b) % 4294967296
  else if k = 3 then (if s32 a < s32 b then 1 else 0)
  else if k = 4 then (if a < b then 1 else 0)
  else if k = 5 then bx a b
  else if k = 6 then a / pw b
  else if k = 7 then (s32 a / pw b) % 4294967296
  else if k = 8 then bo a b
  else if k = 9 then ba a b
  else if k = 10 then (a * b) % 4294967296
  else if k = 11 then (s32 a * s32 b / 4294967296) % 4294967296
  else if k = 12 then (s32 a * b / 4294967296) % 4294967296
  else if k = 13 then a * b / 4294967296
  else if k = 14 then (if b = 0 then 4294967295 else (s32 a).tdiv (s32 b) % 4294967296)
  else if k = 15 then (if b = 0 then 4294967295 else a / b)
  else if k = 16 then (if b = 0 then a else (s32 a).tmod (s32 b) % 4294967296)
  else if k = 17 then (if b = 0 then a else a % b)
  else 0

def num (t : Bool) : Int := if t then 1 else 0
theorem val_0 (a b : Int) : val 0 a b = (a + b) % 4294967296 := by simp [val]
theorem val_1 (a b : Int) : val 1 a b = (a - b) % 4294967296 := by simp [val]
theorem val_2 (a b : Int) : val 2 a b = (a * pw b) % 4294967296 := by simp [val]
theorem val_3 (a b : Int) : val 3 a b = num (decide (s32 a < s32 b)) := by simp [val, num]
theorem val_4 (a b : Int) : val 4 a b = num (decide (a < b)) := by simp [val, num]
theorem val_5 (a b : Int) : val 5 a b = bx a b := by simp [val]
theorem val_6 (a b : Int) : val 6 a b = a / pw b := by simp [val]
theorem val_7 (a b : Int) : val 7 a b = (s32 a / pw b) % 4294967296 := by simp [val]
theorem val_8 (a b : Int) : val 8 a b = bo a b := by simp [val]
theorem val_9 (a b : Int) : val 9 a b = ba a b := by simp [val]
theorem val_10 (a b : Int) : val 10 a b = (a * b) % 4294967296 := by simp [val]
theorem val_11 (a b : Int) : val 11 a b = (s32 a * s32 b / 4294967296) % 4294967296 := by simp [val]
theorem val_12 (a b : Int) : val 12 a b = (s32 a * b / 4294967296) % 4294967296 := by simp [val]
theorem val_13 (a b : Int) : val 13 a b = a * b / 4294967296 := by simp [val]
theorem val_14 (a b : Int) : val 14 a b = (if b = 0 then 4294967295 else (s32 a).tdiv (s32 b) % 4294967296) := by simp [val]
theorem val_15 (a b : Int) : val 15 a b = (if b = 0 then 4294967295 else a / b) := by simp [val]
theorem val_16 (a b : Int) : val 16 a b = (if b = 0 then a else (s32 a).tmod (s32 b) % 4294967296) := by simp [val]
theorem val_17 (a b : Int) : val 17 a b = (if b = 0 then a else a % b) := by simp [val]
theorem val_other (k a b : Int) (h : k < 0 ∨ 17 < k) : val k a b = 0 := by
  unfold val
  repeat rw [if_neg (by omega)]

/-- Is there such a kind? -/
def known (k : Int) : Bool := decide (0 ≤ k ∧ k ≤ 17)
def err (k : Int) : Int := if known k then 0 else 1

theorem s32_bd {a : Int} (h : U32 a) : -2147483648 ≤ s32 a ∧ s32 a ≤ 2147483647 := by
  unfold s32; unfold U32 at h; split <;> omega
theorem s32_eq (a : Int) : s32 a = a ∨ s32 a = a - 4294967296 := by
  unfold s32; split <;> omega
theorem s32_mod {a : Int} (h : U32 a) : s32 a % 4294967296 = a := by
  unfold s32; unfold U32 at h; split <;> omega
theorem s32_zero {a : Int} (h : U32 a) : s32 a = 0 ↔ a = 0 := by
  unfold s32; unfold U32 at h; split <;> omega

theorem mul_bd {x y m n : Int} (h1 : -m ≤ x) (h2 : x ≤ m) (h3 : -n ≤ y) (h4 : y ≤ n) : -(m * n) ≤ x * y ∧ x * y ≤ m * n := by
  have hm : 0 ≤ m := by omega
  have hn : 0 ≤ n := by omega
  have a1 : x.natAbs ≤ m.toNat := by omega
  have a2 : y.natAbs ≤ n.toNat := by omega
  have a3 := Nat.mul_le_mul a1 a2
  rw [← Int.natAbs_mul] at a3
  have a4 : ((m.toNat * n.toNat : Nat) : Int) = m * n := by
    rw [Int.natCast_mul, Int.toNat_of_nonneg hm, Int.toNat_of_nonneg hn]
  omega

theorem ss_bd {a b : Int} (ha : U32 a) (hb : U32 b) : -4611686018427387904 ≤ s32 a * s32 b ∧ s32 a * s32 b ≤ 4611686018427387904 := by
  have h1 := s32_bd ha
  have h2 := s32_bd hb
  have := mul_bd (x := s32 a) (y := s32 b) (m := 2147483648) (n := 2147483648) (by omega) (by omega) (by omega) (by omega)
  omega
theorem su_bd {a b : Int} (ha : U32 a) (hb : U32 b) : -9223372036854775808 ≤ s32 a * b ∧ s32 a * b ≤ 9223372036854775807 := by
  have h1 := s32_bd ha
  unfold U32 at hb
  have := mul_bd (x := s32 a) (y := b) (m := 2147483648) (n := 4294967295) (by omega) (by omega) (by omega) (by omega)
  omega
theorem uu_bd {a b : Int} (ha : U32 a) (hb : U32 b) : 0 ≤ a * b ∧ a * b ≤ 18446744065119617025 := by
  unfold U32 at ha hb
  have := mul_bd (x := a) (y := b) (m := 4294967295) (n := 4294967295) (by omega) (by omega) (by omega) (by omega)
  have h0 := Int.mul_nonneg ha.1 hb.1
  omega

theorem pw_pos (b : Int) : 1 ≤ pw b := by unfold pw; exact Int.pow_pos (by decide)
theorem pw_cases (b : Int) : ∃ n : Nat, n < 32 ∧ pw b = ((2 ^ n : Nat) : Int) := ⟨(b % 32).toNat, by omega, by unfold pw; simp⟩
theorem pw_bd (b : Int) : pw b ≤ 2147483648 := by
  obtain ⟨n, hn, h⟩ := pw_cases b
  have h2 : (2 : Nat) ^ n ≤ 2 ^ 31 := Nat.pow_le_pow_right (by decide) (by omega)
  rw [h]; omega

theorem bx_U32 {a b : Int} (ha : U32 a) (hb : U32 b) : U32 (bx a b) := by
  unfold U32 at *; unfold bx
  have h : a.toNat ^^^ b.toNat < 2 ^ 32 := Nat.xor_lt_two_pow (by omega) (by omega)
  omega
theorem bo_U32 {a b : Int} (ha : U32 a) (hb : U32 b) : U32 (bo a b) := by
  unfold U32 at *; unfold bo
  have h : a.toNat ||| b.toNat < 2 ^ 32 := Nat.or_lt_two_pow (by omega) (by omega)
  omega
theorem ba_U32 {a b : Int} (_ : U32 a) (hb : U32 b) : U32 (ba a b) := by
  unfold U32 at *; unfold ba
  have h : a.toNat &&& b.toNat < 2 ^ 32 := Nat.and_lt_two_pow _ (by omega)
  omega

theorem tdiv_bd {x y : Int} (h1 : -2147483648 ≤ x) (h2 : x ≤ 2147483647) : -2147483648 ≤ x.tdiv y ∧ x.tdiv y ≤ 2147483648 := by
  have h : (x.tdiv y).natAbs ≤ x.natAbs := by rw [Int.natAbs_tdiv]; exact Nat.div_le_self _ _
  omega
theorem tmod_bd {x y : Int} (h1 : -2147483648 ≤ x) (h2 : x ≤ 2147483647) : -2147483648 ≤ x.tmod y ∧ x.tmod y ≤ 2147483647 := by
  have h : (x.tmod y).natAbs ≤ x.natAbs := by rw [Int.natAbs_tmod]; exact Nat.mod_le _ _
  by_cases h0 : 0 ≤ x
  · have := Int.tmod_nonneg y h0; omega
  · have h3 := Int.tmod_nonneg y (show 0 ≤ -x by omega)
    rw [Int.neg_tmod] at h3; omega

theorem ite_U32 {p : Prop} [Decidable p] {x y : Int} (h1 : p → U32 x) (h2 : ¬ p → U32 y) : U32 (if p then x else y) := by
  split
  · exact h1 ‹_›
  · exact h2 ‹_›

theorem val_U32 (k : Int) {a b : Int} (ha : U32 a) (hb : U32 b) : U32 (val k a b) := by
  have m : ∀ x : Int, U32 (x % 4294967296) := fun x => ⟨by omega, by omega⟩
  have h0 : U32 0 := ⟨by omega, by omega⟩
  have h1 : U32 1 := ⟨by omega, by omega⟩
  have hf : U32 4294967295 := ⟨by omega, by omega⟩
  have p := pw_pos b
  have hd : U32 (a / pw b) := by
    unfold U32 at *
    exact ⟨Int.ediv_nonneg ha.1 (by omega), by have := Int.ediv_le_self (b := pw b) ha.1; omega⟩
  have hq : U32 (a / b) := by
    unfold U32 at *
    exact ⟨Int.ediv_nonneg ha.1 (by omega), by have := Int.ediv_le_self (b := b) ha.1; omega⟩
  have hr : b ≠ 0 → U32 (a % b) := fun h => by
    unfold U32 at *
    have := Int.emod_nonneg a h
    have := Int.emod_lt_of_pos a (show 0 < b by omega)
    omega
  have hh : U32 (a * b / 4294967296) := by
    have := uu_bd ha hb
    exact ⟨by omega, by omega⟩
  have hx := bx_U32 ha hb
  have ho := bo_U32 ha hb
  have hn := ba_U32 ha hb
  unfold val
  repeat' (refine ite_U32 (fun _ => ?_) (fun _ => ?_))
  all_goals first | exact m _ | assumption | (refine hr ?_; assumption)
theorem kinds (k : Int) : (k < 0 ∨ 17 < k) ∨ k = 0 ∨ k = 1 ∨ k = 2 ∨ k = 3 ∨ k = 4 ∨ k = 5 ∨ k = 6 ∨ k = 7 ∨ k = 8 ∨ k = 9 ∨ k = 10 ∨ k = 11 ∨ k = 12 ∨ k = 13 ∨ k = 14 ∨ k = 15 ∨ k = 16 ∨ k = 17 := by omega

/-- What alu.Test answers (false of another kind). -/
def tst (k a b : Int) : Bool :=
  if k = 0 then decide (a = b)
  else if k = 1 then decide (a ≠ b)
  else if k = 4 then decide (s32 a < s32 b)
  else if k = 5 then decide (s32 b ≤ s32 a)
  else if k = 6 then decide (a < b)
  else if k = 7 then decide (b ≤ a)
  else false
def tknown (k : Int) : Bool := decide (k = 0 ∨ k = 1 ∨ 4 ≤ k ∧ k ≤ 7)
def terr (k : Int) : Int := if tknown k then 0 else 1
theorem tkinds (k : Int) : (k < 0 ∨ k = 2 ∨ k = 3 ∨ 7 < k) ∨ k = 0 ∨ k = 1 ∨ k = 4 ∨ k = 5 ∨ k = 6 ∨ k = 7 := by omega

/-- What alu.Extend answers. -/
def ext (v bits : Int) : Int :=
  if bits = 8 then (if v % 256 < 128 then v % 256 else v % 256 + 4294967040)
  else if bits = 16 then (if v % 65536 < 32768 then v % 65536 else v % 65536 + 4294901760)
  else v
theorem ext_U32 {v : Int} (bits : Int) (h : U32 v) : U32 (ext v bits) := by
  unfold ext; unfold U32 at *
  repeat' split
  all_goals omega
end Go.Proofs.Ythicidkjhpnleaa.Alu
