/- PLAIN MATHEMATICS OF LAYER 1: bits of shifted numbers (no Go but the model's 'bits'). · THE WALKS OF THE DOCUMENT's OWN ANSWER FOR LAYER 1 (package tinctureref1): the same plain values. · THE WALKS OF THE DOCUMENT's OWN ANSWER FOR LAYER 1, its three entry points. -/
import Derived.Test.YtbackacbdfgdoaaDoorK1
import Derived.WalkKit
namespace Go.Proofs.YtbackacbdfgdoaaDoor.Alu
open Go.RowKit

theorem and1 {x : Int} (h : U32 x) : bits .and .u32 x 1 = x % 2 := by
  rw [u32_and x 1 h.1 h.2 (by omega) (by omega)]
  have : x.toNat &&& (1 : Int).toNat = x.toNat % 2 ^ 1 := Nat.and_two_pow_sub_one_eq_mod _ 1
  have h0 := h.1
  rw [this]; omega

theorem pow_i (k : Nat) : ((2 ^ k : Nat) : Int) = 2 ^ k := by simp
theorem pos_i (k : Nat) : (0 : Int) < 2 ^ k := Int.pow_pos (by decide)

/-- One bit more. -/
theorem or_step {X : Int} (h : U32 X) {k : Nat} (hk : k < 32) :
    bits .or .u32 (X % 2 ^ k) (X / 2 ^ k % 2 * 2 ^ k % 4294967296) = X % 2 ^ (k + 1) := by
  obtain ⟨x, rfl⟩ := Int.eq_ofNat_of_zero_le h.1
  have h2 : x < 4294967296 := by have := h.2; omega
  have hp : (2 : Nat) ^ k ≤ 2 ^ 31 := Nat.pow_le_pow_right (by decide) (by omega)
  have hp0 : 0 < (2 : Nat) ^ k := Nat.pow_pos (by decide)
  have e1 : ((x : Int) % 2 ^ k) = ((x % 2 ^ k : Nat) : Int) := by simp
  have e2 : ((x : Int) / 2 ^ k % 2 * 2 ^ k) = ((x / 2 ^ k % 2 * 2 ^ k : Nat) : Int) := by simp
  have e3 : ((x : Int) % 2 ^ (k + 1)) = ((x % 2 ^ (k + 1) : Nat) : Int) := by simp
  rw [e1, e2, e3]
  have b1 : x % 2 ^ k < 2 ^ k := Nat.mod_lt _ hp0
  have b2 : x / 2 ^ k % 2 * 2 ^ k ≤ 2 ^ 31 := by
    have h3 : x / 2 ^ k % 2 < 2 := Nat.mod_lt _ (by decide)
    have := Nat.mul_le_mul (show x / 2 ^ k % 2 ≤ 1 by omega) hp
    omega
  have e4 : ((x / 2 ^ k % 2 * 2 ^ k : Nat) : Int) % 4294967296 = ((x / 2 ^ k % 2 * 2 ^ k : Nat) : Int) := by omega
  rw [e4, u32_or_nat _ _ (by omega) (by omega), Nat.or_comm, nat_join k _ _ (by simp) b1, Nat.mod_pow_succ]
  have e5 : x / 2 ^ k % 2 * 2 ^ k + x % 2 ^ k = x % 2 ^ k + 2 ^ k * (x / 2 ^ k % 2) := by rw [Nat.mul_comm, Nat.add_comm]
  rw [e5]

/-- No bit there: all stays. -/
theorem or_none {X : Int} (h : U32 X) {k : Nat} (hz : X / 2 ^ k % 2 = 0) : bits .or .u32 (X % 2 ^ k) 0 = X % 2 ^ (k + 1) := by
  obtain ⟨x, rfl⟩ := Int.eq_ofNat_of_zero_le h.1
  have h2 : x < 4294967296 := by have := h.2; omega
  have e1 : ((x : Int) % 2 ^ k) = ((x % 2 ^ k : Nat) : Int) := by simp
  have e3 : ((x : Int) % 2 ^ (k + 1)) = ((x % 2 ^ (k + 1) : Nat) : Int) := by simp
  have hz2 : x / 2 ^ k % 2 = 0 := by
    have : ((x / 2 ^ k % 2 : Nat) : Int) = 0 := by simpa using hz
    omega
  have b1 : x % 2 ^ k ≤ x := Nat.mod_le _ _
  rw [e1, e3, show (0 : Int) = ((0 : Nat) : Int) from rfl, u32_or_nat _ _ (by omega) (by omega), Nat.mod_pow_succ, hz2]
  simp

theorem div_div (x : Int) (p q : Nat) : x / 2 ^ p / 2 ^ q = x / 2 ^ (p + q) := by
  rw [Int.ediv_ediv_of_nonneg (Int.le_of_lt (pos_i p)), ← Int.pow_add]

/-- A number modulo 2^32 has its lowest 32 bits. -/
theorem low_bit (x : Int) {k : Nat} (hk : k < 32) : x % 4294967296 / 2 ^ k % 2 = x / 2 ^ k % 2 := by
  have e : (4294967296 : Int) = 2 ^ k * (2 * 2 ^ (31 - k)) := by
    have : (4294967296 : Int) = 2 ^ (k + (1 + (31 - k))) := by rw [show k + (1 + (31 - k)) = 32 by omega]; rfl
    rw [this, Int.pow_add, Int.pow_add]; rfl
  have hd := Int.mul_ediv_add_emod x 4294967296
  have h1 : x / 2 ^ k = 2 * 2 ^ (31 - k) * (x / 4294967296) + x % 4294967296 / 2 ^ k := by
    conv => lhs; rw [← hd]
    rw [e, Int.mul_assoc, Int.mul_add_ediv_left _ _ (Int.ne_of_gt (pos_i k))]
  rw [h1, Int.mul_assoc]
  omega

/-- Shifted down: bit k. -/
theorem bit6 {a : Int} (ha : U32 a) (n k : Nat) (hk : ¬ k + n < 32) : a / 2 ^ n / 2 ^ k % 2 = 0 := by
  rw [div_div]
  have h1 : (2 : Nat) ^ 32 ≤ 2 ^ (n + k) := Nat.pow_le_pow_right (by decide) (by omega)
  have h2 : a < 2 ^ (n + k) := by rw [← pow_i]; have := ha.2; omega
  rw [Int.ediv_eq_zero_of_lt ha.1 h2]; rfl
theorem U6 {a : Int} (ha : U32 a) (n : Nat) : U32 (a / 2 ^ n) :=
  ⟨Int.ediv_nonneg ha.1 (Int.le_of_lt (pos_i n)), by have := Int.ediv_le_self (b := 2 ^ n) ha.1; have := ha.2; omega⟩

/-- Shifted up: bit k. -/
theorem bit2 (a : Int) {n k : Nat} (hk : k < 32) (h : n ≤ k) : a * 2 ^ n % 4294967296 / 2 ^ k % 2 = a / 2 ^ (k - n) % 2 := by
  rw [low_bit _ hk]
  conv => lhs; rw [show k = n + (k - n) by omega, ← div_div, Int.mul_ediv_cancel _ (Int.ne_of_gt (pos_i n))]
theorem bit2z (a : Int) {n k : Nat} (hk : k < 32) (h : k < n) : a * 2 ^ n % 4294967296 / 2 ^ k % 2 = 0 := by
  rw [low_bit _ hk]
  have e : a * 2 ^ n = 2 * (a * 2 ^ (n - k - 1)) * 2 ^ k := by
    have : (2 : Int) ^ n = 2 ^ (n - k - 1) * (2 * 2 ^ k) := by
      rw [show (2 : Int) * 2 ^ k = 2 ^ (k + 1) by rw [Int.pow_succ, Int.mul_comm], ← Int.pow_add]; congr 1; omega
    rw [this, ← Int.mul_assoc, ← Int.mul_assoc, Int.mul_comm 2 (a * 2 ^ (n - k - 1))]
  rw [e, Int.mul_ediv_cancel _ (Int.ne_of_gt (pos_i k))]
  omega

/-- Shifted down with the sign: bit k. -/
theorem bit7 {a : Int} {n k : Nat} (hk : k < 32) (h : k + n < 32) : s32 a / 2 ^ n % 4294967296 / 2 ^ k % 2 = a / 2 ^ (k + n) % 2 := by
  rw [low_bit _ hk, div_div, Nat.add_comm n k]
  rcases s32_eq a with e | e
  · rw [e]
  · rw [← low_bit (s32 a) h, e, show (a - 4294967296) % 4294967296 = a % 4294967296 by omega, low_bit a h]
theorem bit7s {a : Int} (ha : U32 a) {n k : Nat} (hk : k < 32) (h : ¬ k + n < 32) : s32 a / 2 ^ n % 4294967296 / 2 ^ k % 2 = a / 2147483648 := by
  rw [low_bit _ hk, div_div]
  have hb := s32_bd ha
  have h1 : (2 : Nat) ^ 32 ≤ 2 ^ (n + k) := Nat.pow_le_pow_right (by decide) (by omega)
  have h2 : (4294967296 : Int) ≤ 2 ^ (n + k) := by rw [← pow_i]; omega
  generalize (2 : Int) ^ (n + k) = p at h2
  have h3 := ha.1
  have h4 := ha.2
  by_cases hs : a < 2147483648
  · have e : s32 a = a := by unfold s32; rw [if_pos hs]
    rw [e, Int.ediv_eq_zero_of_lt h3 (by omega)]; omega
  · have e : s32 a = a - 4294967296 := by unfold s32; rw [if_neg hs]
    rw [e]
    have : (a - 4294967296) / p = -1 := by
      rw [Int.ediv_eq_iff_of_pos (by omega)]; omega
    rw [this]; omega
end Go.Proofs.YtbackacbdfgdoaaDoor.Alu
namespace Go.Proofs.YtbackacbdfgdoaaDoor
open Go.ChangeShapes Go.WideShapes Go.ChangeAt Go.RowKit

set_option maxHeartbeats 400000 in
theorem neg_c (v : Int) (hv : Alu.U32 v) (w : World) :
    Calls Tryd.prog 94 #[.int .u32 v] w fun e w' => e = .returned (.bool (decide (2147483648 ≤ v))) ∧ w' = w := by
  obtain ⟨h0, h1⟩ := hv
  go_enter Tryd.func94, Tryd.ntmps94
  go_wp2
  go_ret
  exact ⟨ret_bool (by rw [Bool.eq_iff_iff]; simp; omega), rfl⟩

set_option maxHeartbeats 400000 in
theorem wide_c (v : Int) (hv : Alu.U32 v) (w : World) :
    Calls Tryd.prog 75 #[.int .u32 v] w fun e w' => e = .returned (.int .i64 (Alu.s32 v)) ∧ w' = w := by
  obtain ⟨h0, h1⟩ := id hv
  by_cases h : 2147483648 ≤ v
  · have hd : decide (2147483648 ≤ v) = true := by simpa using h
    have E : Hid (Alu.s32 v = v - 4294967296) := by show _ = _; unfold Alu.s32; rw [if_neg (by omega)]
    go_enter Tryd.func75, Tryd.ntmps75
    go_wp2_with (go_at_call 94; refine (neg_c _ hv _).mono ?_; rintro e w' ⟨rfl, rfl⟩)
    go_ret
    exact ⟨ret_int E.out.symm, rfl⟩
  · have hd : decide (2147483648 ≤ v) = false := by simpa using h
    have E : Hid (Alu.s32 v = v) := by show _ = _; unfold Alu.s32; rw [if_pos (by omega)]
    go_enter Tryd.func75, Tryd.ntmps75
    go_wp2_with (go_at_call 94; refine (neg_c _ hv _).mono ?_; rintro e w' ⟨rfl, rfl⟩)
    go_ret
    exact ⟨ret_int E.out.symm, rfl⟩

theorem tn (k : Nat) {n : Int} (h : 0 ≤ n) : ((k : Int) + n).toNat = k + n.toNat := by omega
theorem ts {k : Nat} {n : Int} (h0 : 0 ≤ n) (h : n ≤ k) : ((k : Int) - n).toNat = k - n.toNat := by omega
theorem full {X : Int} (h : Alu.U32 X) {k : Nat} (h1 : k ≤ 32) (h2 : ¬ k < 32) : X % 2 ^ k = X := by
  have : k = 32 := by omega
  subst this
  have := h.1
  have := h.2
  show X % 4294967296 = X
  omega

set_option maxHeartbeats 1000000 in
theorem shift6_c (a n : Int) (ha : Alu.U32 a) (h0 : 0 ≤ n) (h1 : n < 32) (w : World) :
    Calls Tryd.prog 77 #[.int .i64 6, .int .u32 a, .int .i64 n] w fun e w' => e = .returned (.int .u32 (a / 2 ^ n.toNat)) ∧ w' = w := by
  obtain ⟨a0, a1⟩ := id ha
  go_enter Tryd.func77, Tryd.ntmps77
  go_wp2
  go_loop [7, 8] (fun r i => ∃ k : Nat, k ≤ 32 ∧ i = .int .i64 k ∧ r = .int .u32 (a / 2 ^ n.toNat % 2 ^ k)) (fun _ i => 32 - (intOf i).toNat)
  case atStart => exact ⟨0, by omega, rfl, by simp⟩
  case round =>
    obtain ⟨k, hk, rfl, rfl⟩ := hrel
    by_cases hlt : k < 32
    · by_cases hf : (k : Int) + n < 32
      · have hf1 : decide ((k : Int) + n < 32) = true := by simpa using hf
        go_wp2
        go_round
        case rel =>
          refine ⟨k + 1, by omega, by go_num, ?_⟩
          rw [Alu.and1 (Alu.U6 ha _), tn k h0, Nat.add_comm, ← Alu.div_div, Alu.or_step (Alu.U6 ha _) hlt]
        case measure => simp [intOf]; omega
      · have hf1 : decide ((k : Int) + n < 32) = false := by simpa using hf
        go_wp2
        go_round
        case rel =>
          refine ⟨k + 1, by omega, by go_num, ?_⟩
          rw [Alu.or_none (Alu.U6 ha _) (Alu.bit6 ha _ _ (by omega))]
        case measure => simp [intOf]; omega
    · go_wp2
      go_ret
      exact ⟨ret_int (full (Alu.U6 ha _) hk hlt), rfl⟩

theorem Um (x : Int) : Alu.U32 (x % 4294967296) := ⟨by omega, by omega⟩

set_option maxHeartbeats 1000000 in
theorem shift2_c (a n : Int) (ha : Alu.U32 a) (h0 : 0 ≤ n) (h1 : n < 32) (w : World) :
    Calls Tryd.prog 77 #[.int .i64 2, .int .u32 a, .int .i64 n] w fun e w' => e = .returned (.int .u32 (a * 2 ^ n.toNat % 4294967296)) ∧ w' = w := by
  obtain ⟨a0, a1⟩ := id ha
  go_enter Tryd.func77, Tryd.ntmps77
  go_wp2
  go_loop [7, 8] (fun r i => ∃ k : Nat, k ≤ 32 ∧ i = .int .i64 k ∧ r = .int .u32 (a * 2 ^ n.toNat % 4294967296 % 2 ^ k)) (fun _ i => 32 - (intOf i).toNat)
  case atStart => exact ⟨0, by omega, rfl, by simp⟩
  case round =>
    obtain ⟨k, hk, rfl, rfl⟩ := hrel
    by_cases hlt : k < 32
    · by_cases hf : n ≤ (k : Int)
      · have hf0 : 0 ≤ (k : Int) - n := by omega
        have hf2 : (k : Int) - n < 32 := by omega
        go_wp2
        go_round
        case rel =>
          refine ⟨k + 1, by omega, by go_num, ?_⟩
          rw [Alu.and1 (Alu.U6 ha _), ts h0 hf, ← Alu.bit2 a hlt (by omega), Alu.or_step (Um _) hlt]
        case measure => simp [intOf]; omega
      · have hf0 : ¬ 0 ≤ (k : Int) - n := by omega
        have hf1 : decide (0 ≤ (k : Int) - n) = false := by simpa using hf0
        go_wp2
        go_round
        case rel =>
          refine ⟨k + 1, by omega, by go_num, ?_⟩
          rw [Alu.or_none (Um _) (Alu.bit2z a hlt (by omega))]
        case measure => simp [intOf]; omega
    · go_wp2
      go_ret
      exact ⟨ret_int (full (Um _) hk hlt), rfl⟩

set_option maxHeartbeats 1000000 in
theorem shift7_c (a n : Int) (ha : Alu.U32 a) (h0 : 0 ≤ n) (h1 : n < 32) (w : World) :
    Calls Tryd.prog 77 #[.int .i64 7, .int .u32 a, .int .i64 n] w fun e w' => e = .returned (.int .u32 (Alu.s32 a / 2 ^ n.toNat % 4294967296)) ∧ w' = w := by
  obtain ⟨a0, a1⟩ := id ha
  go_enter Tryd.func77, Tryd.ntmps77
  go_wp2
  go_loop [7, 8] (fun r i => ∃ k : Nat, k ≤ 32 ∧ i = .int .i64 k ∧ r = .int .u32 (Alu.s32 a / 2 ^ n.toNat % 4294967296 % 2 ^ k)) (fun _ i => 32 - (intOf i).toNat)
  case atStart => exact ⟨0, by omega, rfl, by simp⟩
  case round =>
    obtain ⟨k, hk, rfl, rfl⟩ := hrel
    by_cases hlt : k < 32
    · by_cases hf : (k : Int) + n < 32
      · have hf1 : decide ((k : Int) + n < 32) = true := by simpa using hf
        go_wp2
        go_round
        case rel =>
          refine ⟨k + 1, by omega, by go_num, ?_⟩
          rw [Alu.and1 (Alu.U6 ha _), tn k h0, ← Alu.bit7 hlt (by omega), Alu.or_step (Um _) hlt]
        case measure => simp [intOf]; omega
      · have hf1 : decide ((k : Int) + n < 32) = false := by simpa using hf
        have hf2 : 32 ≤ (k : Int) + n := by omega
        go_wp2
        go_round
        case rel =>
          refine ⟨k + 1, by omega, by go_num, ?_⟩
          rw [← Alu.bit7s ha hlt (show ¬ k + n.toNat < 32 by omega), Alu.or_step (Um _) hlt]
        case measure => simp [intOf]; omega
    · go_wp2
      go_ret
      exact ⟨ret_int (full (Um _) hk hlt), rfl⟩

theorem hi_ns {a b : Int} (h : 2147483648 ≤ a) : Alu.s32 a * b = a * b + -b * 4294967296 := by
  have : Alu.s32 a = a - 4294967296 := by unfold Alu.s32; rw [if_neg (by omega)]
  rw [this, Int.sub_mul]; omega
theorem hi_ps {a b : Int} (h : ¬ 2147483648 ≤ a) : Alu.s32 a * b = a * b := by
  have : Alu.s32 a = a := by unfold Alu.s32; rw [if_pos (by omega)]
  rw [this]
theorem dvh (x y : Int) : (x + y * 4294967296) / 4294967296 = x / 4294967296 + y := by omega
theorem hi12n {a : Int} (b : Int) (h : 2147483648 ≤ a) : Alu.val 12 a b = (a * b / 4294967296 - b) % 4294967296 := by
  rw [Alu.val_12, hi_ns h, dvh]; omega
theorem hi12p {a : Int} (b : Int) (h : ¬ 2147483648 ≤ a) : Alu.val 12 a b = a * b / 4294967296 % 4294967296 := by
  rw [Alu.val_12, hi_ps h]
theorem hi11 (a : Int) {b : Int} : Alu.val 11 a b = if 2147483648 ≤ b then (Alu.val 12 a b - a) % 4294967296 else Alu.val 12 a b := by
  rw [Alu.val_11, Alu.val_12]
  split
  · rename_i h
    rw [Int.mul_comm (Alu.s32 a) (Alu.s32 b), hi_ns h, dvh, Int.mul_comm b]
    rcases Alu.s32_eq a with e | e <;> rw [e] <;> omega
  · rename_i h
    rw [Int.mul_comm (Alu.s32 a) (Alu.s32 b), hi_ps h, Int.mul_comm b]

set_option maxHeartbeats 1000000 in
theorem rhigh_c (k a b : Int) (hk : k = 11 ∨ k = 12 ∨ k = 13) (ha : Alu.U32 a) (hb : Alu.U32 b) (w : World) :
    Calls Tryd.prog 78 #[.int .i64 k, .int .u32 a, .int .u32 b] w fun e w' => e = .returned (.int .u32 (Alu.val k a b)) ∧ w' = w := by
  obtain ⟨a0, a1⟩ := id ha
  obtain ⟨b0, b1⟩ := id hb
  have hu := Alu.uu_bd ha hb
  by_cases ca : 2147483648 ≤ a
  · by_cases cb : 2147483648 ≤ b
    · have HA : Hid (Alu.val 12 a b = (a * b / 4294967296 - b) % 4294967296) := hi12n b ca
      have HB : Hid (Alu.val 11 a b = (Alu.val 12 a b - a) % 4294967296) := (hi11 a).trans (if_pos cb)
      have da : decide (2147483648 ≤ a) = true := by simpa using ca
      have db : decide (2147483648 ≤ b) = true := by simpa using cb
      rcases hk with rfl | rfl | rfl
      all_goals
        go_enter Tryd.func78, Tryd.ntmps78
        go_wp2_with (go_at_call 94; refine (neg_c _ (by assumption) _).mono ?_; rintro e w' ⟨rfl, rfl⟩)
        go_ret
        refine ⟨ret_int ?_, rfl⟩
        first | (rw [HB.out, HA.out]; (try omega); done) | (rw [HA.out]; (try omega); done) | (rw [Alu.val_13]; (try omega); done)
    · have HA : Hid (Alu.val 12 a b = (a * b / 4294967296 - b) % 4294967296) := hi12n b ca
      have HB : Hid (Alu.val 11 a b = Alu.val 12 a b) := (hi11 a).trans (if_neg cb)
      have da : decide (2147483648 ≤ a) = true := by simpa using ca
      have db : decide (2147483648 ≤ b) = false := by simpa using cb
      rcases hk with rfl | rfl | rfl
      all_goals
        go_enter Tryd.func78, Tryd.ntmps78
        go_wp2_with (go_at_call 94; refine (neg_c _ (by assumption) _).mono ?_; rintro e w' ⟨rfl, rfl⟩)
        go_ret
        refine ⟨ret_int ?_, rfl⟩
        first | (rw [HB.out, HA.out]; (try omega); done) | (rw [HA.out]; (try omega); done) | (rw [Alu.val_13]; (try omega); done)
  · by_cases cb : 2147483648 ≤ b
    · have HA : Hid (Alu.val 12 a b = a * b / 4294967296 % 4294967296) := hi12p b ca
      have HB : Hid (Alu.val 11 a b = (Alu.val 12 a b - a) % 4294967296) := (hi11 a).trans (if_pos cb)
      have da : decide (2147483648 ≤ a) = false := by simpa using ca
      have db : decide (2147483648 ≤ b) = true := by simpa using cb
      rcases hk with rfl | rfl | rfl
      all_goals
        go_enter Tryd.func78, Tryd.ntmps78
        go_wp2_with (go_at_call 94; refine (neg_c _ (by assumption) _).mono ?_; rintro e w' ⟨rfl, rfl⟩)
        go_ret
        refine ⟨ret_int ?_, rfl⟩
        first | (rw [HB.out, HA.out]; (try omega); done) | (rw [HA.out]; (try omega); done) | (rw [Alu.val_13]; (try omega); done)
    · have HA : Hid (Alu.val 12 a b = a * b / 4294967296 % 4294967296) := hi12p b ca
      have HB : Hid (Alu.val 11 a b = Alu.val 12 a b) := (hi11 a).trans (if_neg cb)
      have da : decide (2147483648 ≤ a) = false := by simpa using ca
      have db : decide (2147483648 ≤ b) = false := by simpa using cb
      rcases hk with rfl | rfl | rfl
      all_goals
        go_enter Tryd.func78, Tryd.ntmps78
        go_wp2_with (go_at_call 94; refine (neg_c _ (by assumption) _).mono ?_; rintro e w' ⟨rfl, rfl⟩)
        go_ret
        refine ⟨ret_int ?_, rfl⟩
        first | (rw [HB.out, HA.out]; (try omega); done) | (rw [HA.out]; (try omega); done) | (rw [Alu.val_13]; (try omega); done)

end Go.Proofs.YtbackacbdfgdoaaDoor
namespace Go.Proofs.YtbackacbdfgdoaaDoor
open Go.ChangeShapes Go.WideShapes Go.ChangeAt Go.RowKit

theorem ret_ib {k : IntKind} {a b : Int} {c d : Bool} (h : a = b) (h2 : c = d) : Ending.returned (.tuple #[.int k a, .bool c]) = .returned (.tuple #[.int k b, .bool d]) := by rw [h, h2]
theorem ret_bb {a b : Bool} {c d : Bool} (h : a = b) (h2 : c = d) : Ending.returned (.tuple #[.bool a, .bool c]) = .returned (.tuple #[.bool b, .bool d]) := by rw [h, h2]

theorem g3 (a b : Int) : (if Alu.s32 a < Alu.s32 b then (1 : Int) else 0) = Alu.val 3 a b := by rw [Alu.val_3]; simp [Alu.num]
theorem g4 (a b : Int) : (if a < b then (1 : Int) else 0) = Alu.val 4 a b := by rw [Alu.val_4]; simp [Alu.num]

set_option maxHeartbeats 2000000 in
theorem rDo_c (k a b : Int) (ha : Alu.U32 a) (hb : Alu.U32 b) (w : World) :
    Calls Tryd.prog 43 #[.int .i64 k, .int .u32 a, .int .u32 b] w fun e w' => e = .returned (.tuple #[.int .u32 (Alu.val k a b), .bool (Alu.known k)]) ∧ w' = w := by
  obtain ⟨a0, a1⟩ := id ha
  obtain ⟨b0, b1⟩ := id hb
  have hm0 : 0 ≤ b % 32 := by omega
  have hm1 : b % 32 < 32 := by omega
  have h31 := and31 hb
  rcases Alu.kinds k with h | rfl | rfl | rfl | rfl | rfl | rfl | rfl | rfl | rfl | rfl | rfl | rfl | rfl | rfl | rfl | rfl | rfl | rfl
  · have f : ∀ j : Int, 0 ≤ j → j ≤ 17 → (k == j) = false := fun j _ _ => by simp; omega
    have f0 := f 0 (by omega) (by omega)
    have f1 := f 1 (by omega) (by omega)
    have f2 := f 2 (by omega) (by omega)
    have f3 := f 3 (by omega) (by omega)
    have f4 := f 4 (by omega) (by omega)
    have f5 := f 5 (by omega) (by omega)
    have f6 := f 6 (by omega) (by omega)
    have f7 := f 7 (by omega) (by omega)
    have f8 := f 8 (by omega) (by omega)
    have f9 := f 9 (by omega) (by omega)
    have f10 := f 10 (by omega) (by omega)
    have f11 := f 11 (by omega) (by omega)
    have f12 := f 12 (by omega) (by omega)
    have f13 := f 13 (by omega) (by omega)
    have f14 := f 14 (by omega) (by omega)
    have f15 := f 15 (by omega) (by omega)
    have f16 := f 16 (by omega) (by omega)
    have f17 := f 17 (by omega) (by omega)
    clear f
    go_enter Tryd.func43, Tryd.ntmps43
    go_wp2
    go_ret2
    exact ⟨ret_ib (Alu.val_other k a b h).symm (by simp [Alu.known]; omega), rfl⟩
  · go_enter Tryd.func43, Tryd.ntmps43
    go_wp2
    go_ret2
    exact ⟨ret_ib ((Alu.val_0 a b).symm) (by decide), rfl⟩
  · go_enter Tryd.func43, Tryd.ntmps43
    go_wp2
    go_ret2
    exact ⟨ret_ib ((Alu.val_1 a b).symm) (by decide), rfl⟩
  · go_enter Tryd.func43, Tryd.ntmps43
    go_wp2_with (go_at_call 77; refine (shift2_c _ _ ha (by omega) (by omega) _).mono ?_; rintro e w' ⟨rfl, rfl⟩)
    go_ret2
    exact ⟨ret_ib (Alu.val_2 a b).symm (by decide), rfl⟩
  · by_cases hc : Alu.s32 a < Alu.s32 b
    · have E : Hid (Alu.val 3 a b = 1) := (g3 a b).symm.trans (if_pos hc)
      have hd : decide (Alu.s32 a < Alu.s32 b) = true := by simpa using hc
      go_enter Tryd.func43, Tryd.ntmps43
      go_wp2_with (first
        | (go_at_call 75; refine (wide_c _ (by assumption) _).mono ?_; rintro e w' ⟨rfl, rfl⟩)
        | (go_at_call 78; refine (rhigh_c _ _ _ (by omega) (by assumption) (by assumption) _).mono ?_; rintro e w' ⟨rfl, rfl⟩))
      go_ret2
      exact ⟨ret_ib E.out.symm (by decide), rfl⟩
    · have E : Hid (Alu.val 3 a b = 0) := (g3 a b).symm.trans (if_neg hc)
      have hd : decide (Alu.s32 a < Alu.s32 b) = false := by simpa using hc
      go_enter Tryd.func43, Tryd.ntmps43
      go_wp2_with (first
        | (go_at_call 75; refine (wide_c _ (by assumption) _).mono ?_; rintro e w' ⟨rfl, rfl⟩)
        | (go_at_call 78; refine (rhigh_c _ _ _ (by omega) (by assumption) (by assumption) _).mono ?_; rintro e w' ⟨rfl, rfl⟩))
      go_ret2
      exact ⟨ret_ib E.out.symm (by decide), rfl⟩
  · by_cases hc : a < b
    · have E : Hid (Alu.val 4 a b = 1) := (g4 a b).symm.trans (if_pos hc)
      have hd : decide (a < b) = true := by simpa using hc
      go_enter Tryd.func43, Tryd.ntmps43
      go_wp2_with (first
        | (go_at_call 75; refine (wide_c _ (by assumption) _).mono ?_; rintro e w' ⟨rfl, rfl⟩)
        | (go_at_call 78; refine (rhigh_c _ _ _ (by omega) (by assumption) (by assumption) _).mono ?_; rintro e w' ⟨rfl, rfl⟩))
      go_ret2
      exact ⟨ret_ib E.out.symm (by decide), rfl⟩
    · have E : Hid (Alu.val 4 a b = 0) := (g4 a b).symm.trans (if_neg hc)
      have hd : decide (a < b) = false := by simpa using hc
      go_enter Tryd.func43, Tryd.ntmps43
      go_wp2_with (first
        | (go_at_call 75; refine (wide_c _ (by assumption) _).mono ?_; rintro e w' ⟨rfl, rfl⟩)
        | (go_at_call 78; refine (rhigh_c _ _ _ (by omega) (by assumption) (by assumption) _).mono ?_; rintro e w' ⟨rfl, rfl⟩))
      go_ret2
      exact ⟨ret_ib E.out.symm (by decide), rfl⟩
  · go_enter Tryd.func43, Tryd.ntmps43
    go_wp2
    go_ret2
    exact ⟨ret_ib (f5 ha hb) (by decide), rfl⟩
  · go_enter Tryd.func43, Tryd.ntmps43
    go_wp2_with (go_at_call 77; refine (shift6_c _ _ ha (by omega) (by omega) _).mono ?_; rintro e w' ⟨rfl, rfl⟩)
    go_ret2
    exact ⟨ret_ib (Alu.val_6 a b).symm (by decide), rfl⟩
  · go_enter Tryd.func43, Tryd.ntmps43
    go_wp2_with (go_at_call 77; refine (shift7_c _ _ ha (by omega) (by omega) _).mono ?_; rintro e w' ⟨rfl, rfl⟩)
    go_ret2
    exact ⟨ret_ib (Alu.val_7 a b).symm (by decide), rfl⟩
  · go_enter Tryd.func43, Tryd.ntmps43
    go_wp2
    go_ret2
    exact ⟨ret_ib (f8 ha hb) (by decide), rfl⟩
  · go_enter Tryd.func43, Tryd.ntmps43
    go_wp2
    go_ret2
    exact ⟨ret_ib (f9 ha hb) (by decide), rfl⟩
  · go_enter Tryd.func43, Tryd.ntmps43
    go_wp2
    go_ret2
    exact ⟨ret_ib ((Alu.val_10 a b).symm) (by decide), rfl⟩
  · go_enter Tryd.func43, Tryd.ntmps43
    go_wp2_with (first
      | (go_at_call 75; refine (wide_c _ (by assumption) _).mono ?_; rintro e w' ⟨rfl, rfl⟩)
      | (go_at_call 78; refine (rhigh_c _ _ _ (by omega) (by assumption) (by assumption) _).mono ?_; rintro e w' ⟨rfl, rfl⟩))
    go_ret2
    exact ⟨ret_ib rfl (by decide), rfl⟩
  · go_enter Tryd.func43, Tryd.ntmps43
    go_wp2_with (first
      | (go_at_call 75; refine (wide_c _ (by assumption) _).mono ?_; rintro e w' ⟨rfl, rfl⟩)
      | (go_at_call 78; refine (rhigh_c _ _ _ (by omega) (by assumption) (by assumption) _).mono ?_; rintro e w' ⟨rfl, rfl⟩))
    go_ret2
    exact ⟨ret_ib rfl (by decide), rfl⟩
  · go_enter Tryd.func43, Tryd.ntmps43
    go_wp2_with (first
      | (go_at_call 75; refine (wide_c _ (by assumption) _).mono ?_; rintro e w' ⟨rfl, rfl⟩)
      | (go_at_call 78; refine (rhigh_c _ _ _ (by omega) (by assumption) (by assumption) _).mono ?_; rintro e w' ⟨rfl, rfl⟩))
    go_ret2
    exact ⟨ret_ib rfl (by decide), rfl⟩
  · by_cases h : b = 0
    · subst h
      go_enter Tryd.func43, Tryd.ntmps43
      go_wp2
      go_ret2
      exact ⟨ret_ib (by rw [Alu.val_14, if_pos rfl]) (by decide), rfl⟩
    · have hz : (b == 0) = false := by simpa using h
      have hs : ¬ Alu.s32 b = 0 := by simpa [Alu.s32_zero hb] using h
      go_enter Tryd.func43, Tryd.ntmps43
      go_wp2_with (first
        | (go_at_call 75; refine (wide_c _ (by assumption) _).mono ?_; rintro e w' ⟨rfl, rfl⟩)
        | (go_at_call 78; refine (rhigh_c _ _ _ (by omega) (by assumption) (by assumption) _).mono ?_; rintro e w' ⟨rfl, rfl⟩))
      go_ret2
      exact ⟨ret_ib (by rw [Alu.val_14, if_neg h, wrap64_tdiv ha]) (by decide), rfl⟩
  · by_cases h : b = 0
    · subst h
      go_enter Tryd.func43, Tryd.ntmps43
      go_wp2
      go_ret2
      exact ⟨ret_ib (by rw [Alu.val_15, if_pos rfl]) (by decide), rfl⟩
    · have hz : (b == 0) = false := by simpa using h
      have hs : ¬ Alu.s32 b = 0 := by simpa [Alu.s32_zero hb] using h
      go_enter Tryd.func43, Tryd.ntmps43
      go_wp2_with (first
        | (go_at_call 75; refine (wide_c _ (by assumption) _).mono ?_; rintro e w' ⟨rfl, rfl⟩)
        | (go_at_call 78; refine (rhigh_c _ _ _ (by omega) (by assumption) (by assumption) _).mono ?_; rintro e w' ⟨rfl, rfl⟩))
      go_ret2
      exact ⟨ret_ib (by rw [Alu.val_15, if_neg h]) (by decide), rfl⟩
  · by_cases h : b = 0
    · subst h
      go_enter Tryd.func43, Tryd.ntmps43
      go_wp2
      go_ret2
      exact ⟨ret_ib (by rw [Alu.val_16, if_pos rfl]) (by decide), rfl⟩
    · have hz : (b == 0) = false := by simpa using h
      have hs : ¬ Alu.s32 b = 0 := by simpa [Alu.s32_zero hb] using h
      go_enter Tryd.func43, Tryd.ntmps43
      go_wp2_with (first
        | (go_at_call 75; refine (wide_c _ (by assumption) _).mono ?_; rintro e w' ⟨rfl, rfl⟩)
        | (go_at_call 78; refine (rhigh_c _ _ _ (by omega) (by assumption) (by assumption) _).mono ?_; rintro e w' ⟨rfl, rfl⟩))
      go_ret2
      exact ⟨ret_ib (by rw [Alu.val_16, if_neg h]) (by decide), rfl⟩
  · by_cases h : b = 0
    · subst h
      go_enter Tryd.func43, Tryd.ntmps43
      go_wp2
      go_ret2
      exact ⟨ret_ib (by rw [Alu.val_17, if_pos rfl]) (by decide), rfl⟩
    · have hz : (b == 0) = false := by simpa using h
      have hs : ¬ Alu.s32 b = 0 := by simpa [Alu.s32_zero hb] using h
      go_enter Tryd.func43, Tryd.ntmps43
      go_wp2_with (first
        | (go_at_call 75; refine (wide_c _ (by assumption) _).mono ?_; rintro e w' ⟨rfl, rfl⟩)
        | (go_at_call 78; refine (rhigh_c _ _ _ (by omega) (by assumption) (by assumption) _).mono ?_; rintro e w' ⟨rfl, rfl⟩))
      go_ret2
      exact ⟨ret_ib (by rw [Alu.val_17, if_neg h]) (by decide), rfl⟩

set_option maxHeartbeats 1000000 in
theorem rTest_c (k a b : Int) (ha : Alu.U32 a) (hb : Alu.U32 b) (w : World) :
    Calls Tryd.prog 38 #[.int .i64 k, .int .u32 a, .int .u32 b] w fun e w' => e = .returned (.tuple #[.bool (Alu.tst k a b), .bool (Alu.tknown k)]) ∧ w' = w := by
  rcases Alu.tkinds k with h | rfl | rfl | rfl | rfl | rfl | rfl
  · have f : ∀ j : Int, j = 0 ∨ j = 1 ∨ 4 ≤ j ∧ j ≤ 7 → (k == j) = false := fun j _ => by simp; omega
    have f0 := f 0 (by omega)
    have f1 := f 1 (by omega)
    have f4 := f 4 (by omega)
    have f5 := f 5 (by omega)
    have f6 := f 6 (by omega)
    have f7 := f 7 (by omega)
    clear f
    have E1 : Hid (Alu.tst k a b = false) := by
      show _ = _
      unfold Alu.tst
      repeat rw [if_neg (by omega)]
    have E2 : Hid (Alu.tknown k = false) := by
      show _ = _
      unfold Alu.tknown; simp; omega
    go_enter Tryd.func38, Tryd.ntmps38
    go_wp2
    go_ret2
    exact ⟨ret_bb E1.out.symm E2.out.symm, rfl⟩
  all_goals
    go_enter Tryd.func38, Tryd.ntmps38
    go_wp2_with (go_at_call 75; refine (wide_c _ (by assumption) _).mono ?_; rintro e w' ⟨rfl, rfl⟩)
    go_ret2
    refine ⟨ret_bb (b := Alu.tst _ _ _) ?_ (by decide), rfl⟩
    simp [Alu.tst, dec_eq, dec_ne]

theorem and255 {b : Int} (h : Alu.U32 b) : bits .and .u32 b 255 = b % 256 := by
  obtain ⟨h0, h1⟩ := h
  rw [u32_and b 255 h0 h1 (by omega) (by omega)]
  have : b.toNat &&& (255 : Int).toNat = b.toNat % 2 ^ 8 := Nat.and_two_pow_sub_one_eq_mod _ 8
  rw [this]; omega
theorem and65535 {b : Int} (h : Alu.U32 b) : bits .and .u32 b 65535 = b % 65536 := by
  obtain ⟨h0, h1⟩ := h
  rw [u32_and b 65535 h0 h1 (by omega) (by omega)]
  have : b.toNat &&& (65535 : Int).toNat = b.toNat % 2 ^ 16 := Nat.and_two_pow_sub_one_eq_mod _ 16
  rw [this]; omega
theorem or8 {x : Int} (h0 : 0 ≤ x) (h1 : x < 256) : bits .or .u32 x 4294967040 = x + 4294967040 := by
  rw [u32_or x 4294967040 h0 (by omega) (by omega) (by omega), Nat.or_comm, nat_join 8 _ _ (by decide) (by omega)]; omega
theorem or16 {x : Int} (h0 : 0 ≤ x) (h1 : x < 65536) : bits .or .u32 x 4294901760 = x + 4294901760 := by
  rw [u32_or x 4294901760 h0 (by omega) (by omega) (by omega), Nat.or_comm, nat_join 16 _ _ (by decide) (by omega)]; omega

set_option maxHeartbeats 400000 in
theorem rExtend_c (v bs : Int) (hv : Alu.U32 v) (w : World) :
    Calls Tryd.prog 40 #[.int .u32 v, .int .i64 bs] w fun e w' => e = .returned (.int .u32 (Alu.ext v bs)) ∧ w' = w := by
  obtain ⟨h0, h1⟩ := id hv
  have m8 := and255 hv
  have m16 := and65535 hv
  by_cases h8 : bs = 8
  · subst h8
    have o8 := or8 (x := v % 256) (by omega) (by omega)
    by_cases hs : 128 ≤ v % 256
    · have E : Hid (Alu.ext v 8 = v % 256 + 4294967040) := by show _ = _; unfold Alu.ext; rw [if_pos rfl, if_neg (by omega)]
      go_enter Tryd.func40, Tryd.ntmps40
      go_wp2
      go_ret
      exact ⟨ret_int E.out.symm, rfl⟩
    · have E : Hid (Alu.ext v 8 = v % 256) := by show _ = _; unfold Alu.ext; rw [if_pos rfl, if_pos (by omega)]
      go_enter Tryd.func40, Tryd.ntmps40
      go_wp2
      go_ret
      exact ⟨ret_int E.out.symm, rfl⟩
  · by_cases h16 : bs = 16
    · subst h16
      have o16 := or16 (x := v % 65536) (by omega) (by omega)
      by_cases hs : 32768 ≤ v % 65536
      · have E : Hid (Alu.ext v 16 = v % 65536 + 4294901760) := by show _ = _; unfold Alu.ext; rw [if_neg (by decide), if_pos rfl, if_neg (by omega)]
        go_enter Tryd.func40, Tryd.ntmps40
        go_wp2
        go_ret
        exact ⟨ret_int E.out.symm, rfl⟩
      · have E : Hid (Alu.ext v 16 = v % 65536) := by show _ = _; unfold Alu.ext; rw [if_neg (by decide), if_pos rfl, if_pos (by omega)]
        go_enter Tryd.func40, Tryd.ntmps40
        go_wp2
        go_ret
        exact ⟨ret_int E.out.symm, rfl⟩
    · have f8 : (bs == 8) = false := by simpa using h8
      have f16 : (bs == 16) = false := by simpa using h16
      have E : Hid (Alu.ext v bs = v) := by show _ = _; unfold Alu.ext; rw [if_neg h8, if_neg h16]
      go_enter Tryd.func40, Tryd.ntmps40
      go_wp2
      go_ret
      exact ⟨ret_int E.out.symm, rfl⟩

end Go.Proofs.YtbackacbdfgdoaaDoor
