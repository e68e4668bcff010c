/- THE WALKS OF THE DOCUMENT's OWN ANSWER FOR LAYER 1 (package tinctureref1): the same plain values. -/
import Derived.Test.YtgbdiijnjphmaaaAluWalks
import Derived.Test.YtgbdiijnjphmaaaAluBits
namespace Go.Proofs.Ytgbdiijnjphmaaa
open Go.ChangeShapes Go.WideShapes Go.ChangeAt Go.RowKit

set_option maxHeartbeats 400000 in
theorem neg_c (v : Int) (hv : Alu.U32 v) (w : World) :
    Calls Try.prog 32 #[.int .u32 v] w fun e w' => e = .returned (.bool (decide (2147483648 ≤ v))) ∧ w' = w := by
  obtain ⟨h0, h1⟩ := hv
  go_enter Try.func32, Try.ntmps32
  go_wp2
  go_ret
  exact ⟨ret_bool (by rw [Bool.eq_iff_iff]; simp; omega), rfl⟩

set_option maxHeartbeats 400000 in
theorem wide_c (v : Int) (hv : Alu.U32 v) (w : World) :
    Calls Try.prog 30 #[.int .u32 v] w fun e w' => e = .returned (.int .i64 (Alu.s32 v)) ∧ w' = w := by
  obtain ⟨h0, h1⟩ := id hv
  by_cases h : 2147483648 ≤ v
  · have hd : decide (2147483648 ≤ v) = true := by simpa using h
    have E : Hid (Alu.s32 v = v - 4294967296) := by show _ = _; unfold Alu.s32; rw [if_neg (by omega)]
    go_enter Try.func30, Try.ntmps30
    go_wp2_with (go_at_call 32; refine (neg_c _ hv _).mono ?_; rintro e w' ⟨rfl, rfl⟩)
    go_ret
    exact ⟨ret_int E.out.symm, rfl⟩
  · have hd : decide (2147483648 ≤ v) = false := by simpa using h
    have E : Hid (Alu.s32 v = v) := by show _ = _; unfold Alu.s32; rw [if_pos (by omega)]
    go_enter Try.func30, Try.ntmps30
    go_wp2_with (go_at_call 32; refine (neg_c _ hv _).mono ?_; rintro e w' ⟨rfl, rfl⟩)
    go_ret
    exact ⟨ret_int E.out.symm, rfl⟩

theorem tn (k : Nat) {n : Int} (h : 0 ≤ n) : ((k : Int) + n).toNat = k + n.toNat := by omega
theorem ts {k : Nat} {n : Int} (h0 : 0 ≤ n) (h : n ≤ k) : ((k : Int) - n).toNat = k - n.toNat := by omega
theorem full {X : Int} (h : Alu.U32 X) {k : Nat} (h1 : k ≤ 32) (h2 : ¬ k < 32) : X % 2 ^ k = X := by
  have : k = 32 := by omega
  subst this
  have := h.1
  have := h.2
  show X % 4294967296 = X
  omega

set_option maxHeartbeats 1000000 in
theorem shift6_c (a n : Int) (ha : Alu.U32 a) (h0 : 0 ≤ n) (h1 : n < 32) (w : World) :
    Calls Try.prog 29 #[.int .i64 6, .int .u32 a, .int .i64 n] w fun e w' => e = .returned (.int .u32 (a / 2 ^ n.toNat)) ∧ w' = w := by
  obtain ⟨a0, a1⟩ := id ha
  go_enter Try.func29, Try.ntmps29
  go_wp2
  go_loop [7, 8] (fun r i => ∃ k : Nat, k ≤ 32 ∧ i = .int .i64 k ∧ r = .int .u32 (a / 2 ^ n.toNat % 2 ^ k)) (fun _ i => 32 - (intOf i).toNat)
  case atStart => exact ⟨0, by omega, rfl, by simp⟩
  case round =>
    obtain ⟨k, hk, rfl, rfl⟩ := hrel
    by_cases hlt : k < 32
    · by_cases hf : (k : Int) + n < 32
      · have hf1 : decide ((k : Int) + n < 32) = true := by simpa using hf
        go_wp2
        go_round
        case rel =>
          refine ⟨k + 1, by omega, by go_num, ?_⟩
          rw [Alu.and1 (Alu.U6 ha _), tn k h0, Nat.add_comm, ← Alu.div_div, Alu.or_step (Alu.U6 ha _) hlt]
        case measure => simp [intOf]; omega
      · have hf1 : decide ((k : Int) + n < 32) = false := by simpa using hf
        go_wp2
        go_round
        case rel =>
          refine ⟨k + 1, by omega, by go_num, ?_⟩
          rw [Alu.or_none (Alu.U6 ha _) (Alu.bit6 ha _ _ (by omega))]
        case measure => simp [intOf]; omega
    · go_wp2
      go_ret
      exact ⟨ret_int (full (Alu.U6 ha _) hk hlt), rfl⟩

theorem Um (x : Int) : Alu.U32 (x % 4294967296) := ⟨by omega, by omega⟩

set_option maxHeartbeats 1000000 in
theorem shift2_c (a n : Int) (ha : Alu.U32 a) (h0 : 0 ≤ n) (h1 : n < 32) (w : World) :
    Calls Try.prog 29 #[.int .i64 2, .int .u32 a, .int .i64 n] w fun e w' => e = .returned (.int .u32 (a * 2 ^ n.toNat % 4294967296)) ∧ w' = w := by
  obtain ⟨a0, a1⟩ := id ha
  go_enter Try.func29, Try.ntmps29
  go_wp2
  go_loop [7, 8] (fun r i => ∃ k : Nat, k ≤ 32 ∧ i = .int .i64 k ∧ r = .int .u32 (a * 2 ^ n.toNat % 4294967296 % 2 ^ k)) (fun _ i => 32 - (intOf i).toNat)
  case atStart => exact ⟨0, by omega, rfl, by simp⟩
  case round =>
    obtain ⟨k, hk, rfl, rfl⟩ := hrel
    by_cases hlt : k < 32
    · by_cases hf : n ≤ (k : Int)
      · have hf0 : 0 ≤ (k : Int) - n := by omega
        have hf2 : (k : Int) - n < 32 := by omega
        go_wp2
        go_round
        case rel =>
          refine ⟨k + 1, by omega, by go_num, ?_⟩
          rw [Alu.and1 (Alu.U6 ha _), ts h0 hf, ← Alu.bit2 a hlt (by omega), Alu.or_step (Um _) hlt]
        case measure => simp [intOf]; omega
      · have hf0 : ¬ 0 ≤ (k : Int) - n := by omega
        have hf1 : decide (0 ≤ (k : Int) - n) = false := by simpa using hf0
        go_wp2
        go_round
        case rel =>
          refine ⟨k + 1, by omega, by go_num, ?_⟩
          rw [Alu.or_none (Um _) (Alu.bit2z a hlt (by omega))]
        case measure => simp [intOf]; omega
    · go_wp2
      go_ret
      exact ⟨ret_int (full (Um _) hk hlt), rfl⟩

set_option maxHeartbeats 1000000 in
theorem shift7_c (a n : Int) (ha : Alu.U32 a) (h0 : 0 ≤ n) (h1 : n < 32) (w : World) :
    Calls Try.prog 29 #[.int .i64 7, .int .u32 a, .int .i64 n] w fun e w' => e = .returned (.int .u32 (Alu.s32 a / 2 ^ n.toNat % 4294967296)) ∧ w' = w := by
  obtain ⟨a0, a1⟩ := id ha
  go_enter Try.func29, Try.ntmps29
  go_wp2
  go_loop [7, 8] (fun r i => ∃ k : Nat, k ≤ 32 ∧ i = .int .i64 k ∧ r = .int .u32 (Alu.s32 a / 2 ^ n.toNat % 4294967296 % 2 ^ k)) (fun _ i => 32 - (intOf i).toNat)
  case atStart => exact ⟨0, by omega, rfl, by simp⟩
  case round =>
    obtain ⟨k, hk, rfl, rfl⟩ := hrel
    by_cases hlt : k < 32
    · by_cases hf : (k : Int) + n < 32
      · have hf1 : decide ((k : Int) + n < 32) = true := by simpa using hf
        go_wp2
        go_round
        case rel =>
          refine ⟨k + 1, by omega, by go_num, ?_⟩
          rw [Alu.and1 (Alu.U6 ha _), tn k h0, ← Alu.bit7 hlt (by omega), Alu.or_step (Um _) hlt]
        case measure => simp [intOf]; omega
      · have hf1 : decide ((k : Int) + n < 32) = false := by simpa using hf
        have hf2 : 32 ≤ (k : Int) + n := by omega
        go_wp2
        go_round
        case rel =>
          refine ⟨k + 1, by omega, by go_num, ?_⟩
          rw [← Alu.bit7s ha hlt (show ¬ k + n.toNat < 32 by omega), Alu.or_step (Um _) hlt]
        case measure => simp [intOf]; omega
    · go_wp2
      go_ret
      exact ⟨ret_int (full (Um _) hk hlt), rfl⟩

theorem hi_ns {a b : Int} (h : 2147483648 ≤ a) : Alu.s32 a * b = a * b + -b * 4294967296 := by
  have : Alu.s32 a = a - 4294967296 := by unfold Alu.s32; rw [if_neg (by omega)]
  rw [this, Int.sub_mul]; omega
theorem hi_ps {a b : Int} (h : ¬ 2147483648 ≤ a) : Alu.s32 a * b = a * b := by
  have : Alu.s32 a = a := by unfold Alu.s32; rw [if_pos (by omega)]
  rw [this]
theorem dvh (x y : Int) : (x + y * 4294967296) / 4294967296 = x / 4294967296 + y := by omega
theorem hi12n {a : Int} (b : Int) (h : 2147483648 ≤ a) : Alu.val 12 a b = (a * b / 4294967296 - b) % 4294967296 := by
  rw [Alu.val_12, hi_ns h, dvh]; omega
theorem hi12p {a : Int} (b : Int) (h : ¬ 2147483648 ≤ a) : Alu.val 12 a b = a * b / 4294967296 % 4294967296 := by
  rw [Alu.val_12, hi_ps h]
theorem hi11 (a : Int) {b : Int} : Alu.val 11 a b = if 2147483648 ≤ b then (Alu.val 12 a b - a) % 4294967296 else Alu.val 12 a b := by
  rw [Alu.val_11, Alu.val_12]
  split
  · rename_i h
    rw [Int.mul_comm (Alu.s32 a) (Alu.s32 b), hi_ns h, dvh, Int.mul_comm b]
    rcases Alu.s32_eq a with e | e <;> rw [e] <;> omega
  · rename_i h
    rw [Int.mul_comm (Alu.s32 a) (Alu.s32 b), hi_ps h, Int.mul_comm b]

set_option maxHeartbeats 1000000 in
theorem rhigh_c (k a b : Int) (hk : k = 11 ∨ k = 12 ∨ k = 13) (ha : Alu.U32 a) (hb : Alu.U32 b) (w : World) :
    Calls Try.prog 31 #[.int .i64 k, .int .u32 a, .int .u32 b] w fun e w' => e = .returned (.int .u32 (Alu.val k a b)) ∧ w' = w := by
  obtain ⟨a0, a1⟩ := id ha
  obtain ⟨b0, b1⟩ := id hb
  have hu := Alu.uu_bd ha hb
  by_cases ca : 2147483648 ≤ a
  · by_cases cb : 2147483648 ≤ b
    · have HA : Hid (Alu.val 12 a b = (a * b / 4294967296 - b) % 4294967296) := hi12n b ca
      have HB : Hid (Alu.val 11 a b = (Alu.val 12 a b - a) % 4294967296) := (hi11 a).trans (if_pos cb)
      have da : decide (2147483648 ≤ a) = true := by simpa using ca
      have db : decide (2147483648 ≤ b) = true := by simpa using cb
      rcases hk with rfl | rfl | rfl
      all_goals
        go_enter Try.func31, Try.ntmps31
        go_wp2_with (go_at_call 32; refine (neg_c _ (by assumption) _).mono ?_; rintro e w' ⟨rfl, rfl⟩)
        go_ret
        refine ⟨ret_int ?_, rfl⟩
        first | (rw [HB.out, HA.out]; (try omega); done) | (rw [HA.out]; (try omega); done) | (rw [Alu.val_13]; (try omega); done)
    · have HA : Hid (Alu.val 12 a b = (a * b / 4294967296 - b) % 4294967296) := hi12n b ca
      have HB : Hid (Alu.val 11 a b = Alu.val 12 a b) := (hi11 a).trans (if_neg cb)
      have da : decide (2147483648 ≤ a) = true := by simpa using ca
      have db : decide (2147483648 ≤ b) = false := by simpa using cb
      rcases hk with rfl | rfl | rfl
      all_goals
        go_enter Try.func31, Try.ntmps31
        go_wp2_with (go_at_call 32; refine (neg_c _ (by assumption) _).mono ?_; rintro e w' ⟨rfl, rfl⟩)
        go_ret
        refine ⟨ret_int ?_, rfl⟩
        first | (rw [HB.out, HA.out]; (try omega); done) | (rw [HA.out]; (try omega); done) | (rw [Alu.val_13]; (try omega); done)
  · by_cases cb : 2147483648 ≤ b
    · have HA : Hid (Alu.val 12 a b = a * b / 4294967296 % 4294967296) := hi12p b ca
      have HB : Hid (Alu.val 11 a b = (Alu.val 12 a b - a) % 4294967296) := (hi11 a).trans (if_pos cb)
      have da : decide (2147483648 ≤ a) = false := by simpa using ca
      have db : decide (2147483648 ≤ b) = true := by simpa using cb
      rcases hk with rfl | rfl | rfl
      all_goals
        go_enter Try.func31, Try.ntmps31
        go_wp2_with (go_at_call 32; refine (neg_c _ (by assumption) _).mono ?_; rintro e w' ⟨rfl, rfl⟩)
        go_ret
        refine ⟨ret_int ?_, rfl⟩
        first | (rw [HB.out, HA.out]; (try omega); done) | (rw [HA.out]; (try omega); done) | (rw [Alu.val_13]; (try omega); done)
    · have HA : Hid (Alu.val 12 a b = a * b / 4294967296 % 4294967296) := hi12p b ca
      have HB : Hid (Alu.val 11 a b = Alu.val 12 a b) := (hi11 a).trans (if_neg cb)
      have da : decide (2147483648 ≤ a) = false := by simpa using ca
      have db : decide (2147483648 ≤ b) = false := by simpa using cb
      rcases hk with rfl | rfl | rfl
      all_goals
        go_enter Try.func31, Try.ntmps31
        go_wp2_with (go_at_call 32; refine (neg_c _ (by assumption) _).mono ?_; rintro e w' ⟨rfl, rfl⟩)
        go_ret
        refine ⟨ret_int ?_, rfl⟩
        first | (rw [HB.out, HA.out]; (try omega); done) | (rw [HA.out]; (try omega); done) | (rw [Alu.val_13]; (try omega); done)

end Go.Proofs.Ytgbdiijnjphmaaa
