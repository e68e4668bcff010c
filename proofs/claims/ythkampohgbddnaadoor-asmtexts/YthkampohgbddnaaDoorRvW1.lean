/- LAYER 5's walks: the numbers that lie in pieces; layouts. -/
import Derived.Test.YthkampohgbddnaaDoorRvBits
namespace Go.Proofs.YthkampohgbddnaaDoor
open Go.ChangeShapes Go.WideShapes Go.ChangeAt Go.RowKit

theorem Rv.fb_7_5 (v : Int) : Rv.fb v 7 5 = v / 128 % 32 := by simp [Rv.fb]
theorem Rv.fb_15_5 (v : Int) : Rv.fb v 15 5 = v / 32768 % 32 := by simp [Rv.fb]
theorem Rv.fb_20_5 (v : Int) : Rv.fb v 20 5 = v / 1048576 % 32 := by simp [Rv.fb]
theorem Rv.fb_12_20 (v : Int) : Rv.fb v 12 20 = v / 4096 % 1048576 := by simp [Rv.fb]
theorem Rv.fb_12_3 (v : Int) : Rv.fb v 12 3 = v / 4096 % 8 := by simp [Rv.fb]
theorem Rv.fb_25_7 (v : Int) : Rv.fb v 25 7 = v / 33554432 % 128 := by simp [Rv.fb]
theorem Rv.fb_0_7 (v : Int) : Rv.fb v 0 7 = v % 128 := by simp [Rv.fb]
theorem Rv.fb_12_8 (v : Int) : Rv.fb v 12 8 = v / 4096 % 256 := by simp [Rv.fb]
theorem Rv.fb_20_1 (v : Int) : Rv.fb v 20 1 = v / 1048576 % 2 := by simp [Rv.fb]
theorem Rv.fb_21_10 (v : Int) : Rv.fb v 21 10 = v / 2097152 % 1024 := by simp [Rv.fb]
theorem Rv.fb_7_1 (v : Int) : Rv.fb v 7 1 = v / 128 % 2 := by simp [Rv.fb]
theorem Rv.fb_25_6 (v : Int) : Rv.fb v 25 6 = v / 33554432 % 64 := by simp [Rv.fb]
theorem Rv.fb_8_4 (v : Int) : Rv.fb v 8 4 = v / 256 % 16 := by simp [Rv.fb]
theorem Rv.fb_0_5 (v : Int) : Rv.fb v 0 5 = v % 32 := by simp [Rv.fb]
theorem Rv.fb_1_10 (v : Int) : Rv.fb v 1 10 = v / 2 % 1024 := by simp [Rv.fb]
theorem Rv.fb_11_1 (v : Int) : Rv.fb v 11 1 = v / 2048 % 2 := by simp [Rv.fb]
theorem Rv.fb_12_1 (v : Int) : Rv.fb v 12 1 = v / 4096 % 2 := by simp [Rv.fb]
theorem Rv.fb_5_6 (v : Int) : Rv.fb v 5 6 = v / 32 % 64 := by simp [Rv.fb]
theorem Rv.fb_1_4 (v : Int) : Rv.fb v 1 4 = v / 2 % 16 := by simp [Rv.fb]
theorem Rv.fb_5_7 (v : Int) : Rv.fb v 5 7 = v / 32 % 128 := by simp [Rv.fb]
theorem Rv.fb_0_12 (v : Int) : Rv.fb v 0 12 = v % 4096 := by simp [Rv.fb]
theorem Rv.or32_20 {x y : Int} (hx0 : -2147483648 ≤ x) (hx1 : x < 2147483648) (hx : x % 1048576 = 0) (hy0 : 0 ≤ y) (hy : y < 1048576) : bits .or .i32 x y = x + y := by
  show IntKind.i32.wrap ((BitVec.ofInt 32 x ||| BitVec.ofInt 32 y).toNat : Int) = _
  obtain ⟨a, ha⟩ : ∃ a, (BitVec.ofInt 32 x).toNat = a := ⟨_, rfl⟩
  have ha2 : a = (x % 4294967296).toNat := by rw [← ha, BitVec.toNat_ofInt]; rfl
  have hb : (BitVec.ofInt 32 y).toNat = y.toNat := by rw [BitVec.toNat_ofInt]; show (y % 4294967296).toNat = y.toNat; omega
  have hq : a = 2 ^ 20 * (a / 1048576) := by omega
  have hb' : y.toNat < 2 ^ 20 := by omega
  rw [BitVec.toNat_or, ha, hb, hq, ← Nat.two_pow_add_eq_or_of_lt hb' (a / 1048576), ← hq, IntKind.wrap_i32]
  omega
theorem Rv.or32_12 {x y : Int} (hx0 : -2147483648 ≤ x) (hx1 : x < 2147483648) (hx : x % 4096 = 0) (hy0 : 0 ≤ y) (hy : y < 4096) : bits .or .i32 x y = x + y := by
  show IntKind.i32.wrap ((BitVec.ofInt 32 x ||| BitVec.ofInt 32 y).toNat : Int) = _
  obtain ⟨a, ha⟩ : ∃ a, (BitVec.ofInt 32 x).toNat = a := ⟨_, rfl⟩
  have ha2 : a = (x % 4294967296).toNat := by rw [← ha, BitVec.toNat_ofInt]; rfl
  have hb : (BitVec.ofInt 32 y).toNat = y.toNat := by rw [BitVec.toNat_ofInt]; show (y % 4294967296).toNat = y.toNat; omega
  have hq : a = 2 ^ 12 * (a / 4096) := by omega
  have hb' : y.toNat < 2 ^ 12 := by omega
  rw [BitVec.toNat_or, ha, hb, hq, ← Nat.two_pow_add_eq_or_of_lt hb' (a / 4096), ← hq, IntKind.wrap_i32]
  omega
theorem Rv.or32_5 {x y : Int} (hx0 : -2147483648 ≤ x) (hx1 : x < 2147483648) (hx : x % 32 = 0) (hy0 : 0 ≤ y) (hy : y < 32) : bits .or .i32 x y = x + y := by
  show IntKind.i32.wrap ((BitVec.ofInt 32 x ||| BitVec.ofInt 32 y).toNat : Int) = _
  obtain ⟨a, ha⟩ : ∃ a, (BitVec.ofInt 32 x).toNat = a := ⟨_, rfl⟩
  have ha2 : a = (x % 4294967296).toNat := by rw [← ha, BitVec.toNat_ofInt]; rfl
  have hb : (BitVec.ofInt 32 y).toNat = y.toNat := by rw [BitVec.toNat_ofInt]; show (y % 4294967296).toNat = y.toNat; omega
  have hq : a = 2 ^ 5 * (a / 32) := by omega
  have hb' : y.toNat < 2 ^ 5 := by omega
  rw [BitVec.toNat_or, ha, hb, hq, ← Nat.two_pow_add_eq_or_of_lt hb' (a / 32), ← hq, IntKind.wrap_i32]
  omega

theorem Rv.w32 {v : Int} (h0 : 0 ≤ v) (h1 : v < 4294967296) : wrap32 v = v - 4294967296 * (v / 2147483648) := by unfold wrap32; omega
theorem Rv.w32_id {v : Int} (h0 : -2147483648 ≤ v) (h1 : v < 2147483648) : wrap32 v = v := by unfold wrap32; omega

theorem jumpImm_c (v : Int) (h0 : 0 ≤ v) (h1 : v < 4294967296) (w : World) :
    Calls Tryd.prog 61 #[.int .u32 v] w fun e w' => e = .returned (.int .i32 (Rv.immJ v)) ∧ w' = w := by
  go_enter Tryd.func61, Tryd.ntmps61
  go_wp2_with (go_at_call 58; refine (bits_c v _ _ h0 h1 (by decide) _).mono ?_; rintro e w' ⟨rfl, rfl⟩)
  go_ret
  refine ⟨Rv.ret_int ?_, rfl⟩
  rw [Rv.fb_12_8, Rv.fb_20_1, Rv.fb_21_10]
  have a1 : v / 4096 % 256 * 4096 % 4294967296 = 4096 * (v / 4096 % 256) := by omega
  have a2 : v / 1048576 % 2 * 2048 % 4294967296 = 2048 * (v / 1048576 % 2) := by omega
  have a3 : v / 2097152 % 1024 * 2 % 4294967296 = 2 * (v / 2097152 % 1024) := by omega
  have a4 : wrap32 (wrap32 v / 2147483648 * 1048576) = - 1048576 * (v / 2147483648) := by
    rw [Rv.w32 h0 h1, Rv.w32_id (by omega) (by omega)]; omega
  have b1 : 0 ≤ v / 4096 % 256 ∧ v / 4096 % 256 < 256 := by omega
  have b2 : 0 ≤ v / 1048576 % 2 ∧ v / 1048576 % 2 < 2 := by omega
  have b3 : 0 ≤ v / 2097152 % 1024 ∧ v / 2097152 % 1024 < 1024 := by omega
  have b4 : 0 ≤ v / 2147483648 ∧ v / 2147483648 < 2 := by omega
  rw [a1, a2, a3, a4]; unfold Rv.immJ
  generalize v / 4096 % 256 = p1 at *; generalize v / 1048576 % 2 = p2 at *; generalize v / 2097152 % 1024 = p3 at *; generalize v / 2147483648 = p4 at *
  rw [Rv.ormul (x := 4096 * p1) (y := 2048 * p2) 12 (by omega) (by omega) (by omega) (by omega) (by omega) (by omega), Rv.ormul 11 (by omega) (by omega) (by omega) (by omega) (by omega) (by omega), Rv.w32_id (by omega) (by omega), Rv.or32_20 (by omega) (by omega) (by omega) (by omega) (by omega)]
  omega
theorem branchImm_c (v : Int) (h0 : 0 ≤ v) (h1 : v < 4294967296) (w : World) :
    Calls Tryd.prog 62 #[.int .u32 v] w fun e w' => e = .returned (.int .i32 (Rv.immB v)) ∧ w' = w := by
  go_enter Tryd.func62, Tryd.ntmps62
  go_wp2_with (go_at_call 58; refine (bits_c v _ _ h0 h1 (by decide) _).mono ?_; rintro e w' ⟨rfl, rfl⟩)
  go_ret
  refine ⟨Rv.ret_int ?_, rfl⟩
  rw [Rv.fb_7_1, Rv.fb_25_6, Rv.fb_8_4]
  have a1 : v / 128 % 2 * 2048 % 4294967296 = 2048 * (v / 128 % 2) := by omega
  have a2 : v / 33554432 % 64 * 32 % 4294967296 = 32 * (v / 33554432 % 64) := by omega
  have a3 : v / 256 % 16 * 2 % 4294967296 = 2 * (v / 256 % 16) := by omega
  have a4 : wrap32 (wrap32 v / 2147483648 * 4096) = - 4096 * (v / 2147483648) := by
    rw [Rv.w32 h0 h1, Rv.w32_id (by omega) (by omega)]; omega
  have b1 : 0 ≤ v / 128 % 2 ∧ v / 128 % 2 < 2 := by omega
  have b2 : 0 ≤ v / 33554432 % 64 ∧ v / 33554432 % 64 < 64 := by omega
  have b3 : 0 ≤ v / 256 % 16 ∧ v / 256 % 16 < 16 := by omega
  have b4 : 0 ≤ v / 2147483648 ∧ v / 2147483648 < 2 := by omega
  rw [a1, a2, a3, a4]; unfold Rv.immB
  generalize v / 128 % 2 = p1 at *; generalize v / 33554432 % 64 = p2 at *; generalize v / 256 % 16 = p3 at *; generalize v / 2147483648 = p4 at *
  rw [Rv.ormul (x := 2048 * p1) (y := 32 * p2) 11 (by omega) (by omega) (by omega) (by omega) (by omega) (by omega), Rv.ormul 5 (by omega) (by omega) (by omega) (by omega) (by omega) (by omega), Rv.w32_id (by omega) (by omega), Rv.or32_12 (by omega) (by omega) (by omega) (by omega) (by omega)]
  omega
theorem storeImm_c (v : Int) (h0 : 0 ≤ v) (h1 : v < 4294967296) (w : World) :
    Calls Tryd.prog 63 #[.int .u32 v] w fun e w' => e = .returned (.int .i32 (Rv.immS v)) ∧ w' = w := by
  go_enter Tryd.func63, Tryd.ntmps63
  go_wp2_with (go_at_call 58; refine (bits_c v _ _ h0 h1 (by decide) _).mono ?_; rintro e w' ⟨rfl, rfl⟩)
  go_ret
  refine ⟨Rv.ret_int ?_, rfl⟩
  rw [Rv.fb_7_5, Rv.w32 h0 h1, Rv.w32_id (v := v / 128 % 32) (by omega) (by omega)]
  have a1 : (v - 4294967296 * (v / 2147483648)) / 33554432 = v / 33554432 % 64 - 64 * (v / 2147483648) := by omega
  have b1 : 0 ≤ v / 128 % 32 ∧ v / 128 % 32 < 32 := by omega
  have b2 : 0 ≤ v / 33554432 % 64 ∧ v / 33554432 % 64 < 64 := by omega
  have b4 : 0 ≤ v / 2147483648 ∧ v / 2147483648 < 2 := by omega
  rw [a1]; unfold Rv.immS
  generalize v / 128 % 32 = p1 at *; generalize v / 33554432 % 64 = p2 at *; generalize v / 2147483648 = p4 at *
  rw [Rv.w32_id (by omega) (by omega), Rv.or32_5 (by omega) (by omega) (by omega) (by omega) (by omega)]
  omega

theorem Rv.beqF {a b : Int} (h : a ≠ b) : (a == b) = false := by simpa using h
set_option maxHeartbeats 800000 in
theorem layout_c (op : Int) (w : World) :
    Calls Tryd.prog 59 #[.int .i64 op] w fun e w' => e = .returned (.int .i64 (Rv.lay op)) ∧ w' = w := by
  rcases Rv.lay_cases op with ⟨l, c⟩ | ⟨l, c⟩ | ⟨l, c⟩ | ⟨l, c⟩ | ⟨l, c⟩ | ⟨l, c⟩ | ⟨l, c⟩ | ⟨l, c⟩
  · rw [l]; clear l
    rcases c with rfl | rfl
    all_goals
      go_enter Tryd.func59, Tryd.ntmps59
      go_wp2
      go_ret
      exact ⟨rfl, rfl⟩
  · rw [l]; clear l; subst c
    go_enter Tryd.func59, Tryd.ntmps59
    go_wp2
    go_ret
    exact ⟨rfl, rfl⟩
  · rw [l]; clear l; obtain ⟨c0, c1⟩ := c
    have e1 := Rv.beqF (show op ≠ 1 by omega); have e2 := Rv.beqF (show op ≠ 2 by omega); have e3 := Rv.beqF (show op ≠ 3 by omega)
    go_enter Tryd.func59, Tryd.ntmps59
    go_wp2
    go_ret
    exact ⟨rfl, rfl⟩
  · rw [l]; clear l; obtain ⟨c0, c1⟩ := c
    have e1 := Rv.beqF (show op ≠ 1 by omega); have e2 := Rv.beqF (show op ≠ 2 by omega); have e3 := Rv.beqF (show op ≠ 3 by omega)
    go_enter Tryd.func59, Tryd.ntmps59
    go_wp2
    go_ret
    exact ⟨rfl, rfl⟩
  · rw [l]; clear l
    rcases c with rfl | ⟨c0, c1⟩ | ⟨c0, c1⟩
    · go_enter Tryd.func59, Tryd.ntmps59
      go_wp2
      go_ret
      exact ⟨rfl, rfl⟩
    all_goals
      have e1 := Rv.beqF (show op ≠ 1 by omega); have e2 := Rv.beqF (show op ≠ 2 by omega); have e3 := Rv.beqF (show op ≠ 3 by omega); have e4 := Rv.beqF (show op ≠ 4 by omega)
      go_enter Tryd.func59, Tryd.ntmps59
      go_wp2
      go_ret
      exact ⟨rfl, rfl⟩
  · rw [l]; clear l; obtain ⟨c0, c1⟩ := c
    have e1 := Rv.beqF (show op ≠ 1 by omega); have e2 := Rv.beqF (show op ≠ 2 by omega); have e3 := Rv.beqF (show op ≠ 3 by omega); have e4 := Rv.beqF (show op ≠ 4 by omega)
    go_enter Tryd.func59, Tryd.ntmps59
    go_wp2
    go_ret
    exact ⟨rfl, rfl⟩
  · rw [l]; clear l; obtain ⟨c0, c1⟩ := c
    have e1 := Rv.beqF (show op ≠ 1 by omega); have e2 := Rv.beqF (show op ≠ 2 by omega); have e3 := Rv.beqF (show op ≠ 3 by omega); have e4 := Rv.beqF (show op ≠ 4 by omega)
    go_enter Tryd.func59, Tryd.ntmps59
    go_wp2
    go_ret
    exact ⟨rfl, rfl⟩
  · rw [l]; clear l
    have e1 := Rv.beqF (show op ≠ 1 by omega); have e2 := Rv.beqF (show op ≠ 2 by omega); have e3 := Rv.beqF (show op ≠ 3 by omega); have e4 := Rv.beqF (show op ≠ 4 by omega)
    rcases c with c | c
    all_goals
      go_enter Tryd.func59, Tryd.ntmps59
      go_wp2
      go_ret
      exact ⟨rfl, rfl⟩

theorem known_c (op : Int) (w : World) :
    Calls Tryd.prog 34 #[.int .i64 op] w fun e w' => e = .returned (.bool (decide (1 ≤ op ∧ op ≤ 49))) ∧ w' = w := by
  by_cases h1 : 1 ≤ op
  · by_cases h2 : op ≤ 49
    · go_enter Tryd.func34, Tryd.ntmps34
      go_wp2
      go_ret
      exact ⟨Rv.ret_bool (by simp; omega), rfl⟩
    · go_enter Tryd.func34, Tryd.ntmps34
      go_wp2
      go_ret
      exact ⟨Rv.ret_bool (by simp; omega), rfl⟩
  · go_enter Tryd.func34, Tryd.ntmps34
    go_wp2
    go_ret
    exact ⟨Rv.ret_bool (by simp; omega), rfl⟩
theorem onlyIf_c (b : Bool) (op : Int) (w : World) :
    Calls Tryd.prog 80 #[.bool b, .int .i64 op] w fun e w' => e = .returned (.int .i64 (if b then op else 0)) ∧ w' = w := by
  cases b
  all_goals
    go_enter Tryd.func80, Tryd.ntmps80
    go_wp2
    go_ret
    exact ⟨rfl, rfl⟩
end Go.Proofs.YthkampohgbddnaaDoor
