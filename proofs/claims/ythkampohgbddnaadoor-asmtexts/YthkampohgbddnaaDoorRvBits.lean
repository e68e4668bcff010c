/- LAYER 5's walks: the bits of a word. -/
import Derived.Test.YthkampohgbddnaaDoorRows
import Derived.Test.YthkampohgbddnaaDoorBase
import Derived.Test.YthkampohgbddnaaDoorRvMath
import Derived.WalkKit
import Derived.ProofKit
import Derived.OpenShut
import Derived.WalkLawsBesides
namespace Go.Proofs.YthkampohgbddnaaDoor
open Go.ChangeShapes Go.WideShapes Go.ChangeAt Go.RowKit

theorem Rv.ret_int {k : IntKind} {a b : Int} (h : a = b) : Ending.returned (.int k a) = .returned (.int k b) := by rw [h]
theorem Rv.ret_bool {a b : Bool} (h : a = b) : Ending.returned (.bool a) = .returned (.bool b) := by rw [h]
theorem Rv.andm {v : Int} (h0 : 0 ≤ v) (h1 : v < 4294967296) (i : Nat) (hi : i ≤ 32) : bits .and .u32 v (2 ^ i - 1) = v % 2 ^ i :=
  bits_mask .u32 32 (by decide) (fun n a b => by rw [IntKind.wrap_u32]; omega) i hi v h0 h1
theorem Rv.ormul {x y : Int} (i : Nat) (hx0 : 0 ≤ x) (hx : x % 2 ^ i = 0) (hx1 : x < 4294967296) (hy0 : 0 ≤ y) (hy : y < 2 ^ i) (hy1 : y < 4294967296) : bits .or .u32 x y = x + y :=
  bits_join .u32 32 (by decide) (fun n a b => by rw [IntKind.wrap_u32]; omega) i x y hx0 hx hx1 hy0 hy hy1
theorem Rv.orcomm {x y : Int} (hx0 : 0 ≤ x) (hx1 : x < 4294967296) (hy0 : 0 ≤ y) (hy1 : y < 4294967296) : bits .or .u32 x y = bits .or .u32 y x := by
  rw [u32_or x y hx0 hx1 hy0 hy1, u32_or y x hy0 hy1 hx0 hx1, Nat.or_comm]
theorem bits_7_5 (v : Int) (h0 : 0 ≤ v) (h1 : v < 4294967296) (w : World) :
    Calls Tryd.prog 58 #[.int .u32 v, .int .u32 7, .int .u32 5] w fun e w' => e = .returned (.int .u32 (v / 128 % 32)) ∧ w' = w := by
  go_enter Tryd.func58, Tryd.ntmps58
  go_wp2
  go_ret
  exact ⟨Rv.ret_int (Rv.andm (v := v / 128) (by omega) (by omega) 5 (by decide)), rfl⟩
theorem bits_15_5 (v : Int) (h0 : 0 ≤ v) (h1 : v < 4294967296) (w : World) :
    Calls Tryd.prog 58 #[.int .u32 v, .int .u32 15, .int .u32 5] w fun e w' => e = .returned (.int .u32 (v / 32768 % 32)) ∧ w' = w := by
  go_enter Tryd.func58, Tryd.ntmps58
  go_wp2
  go_ret
  exact ⟨Rv.ret_int (Rv.andm (v := v / 32768) (by omega) (by omega) 5 (by decide)), rfl⟩
theorem bits_20_5 (v : Int) (h0 : 0 ≤ v) (h1 : v < 4294967296) (w : World) :
    Calls Tryd.prog 58 #[.int .u32 v, .int .u32 20, .int .u32 5] w fun e w' => e = .returned (.int .u32 (v / 1048576 % 32)) ∧ w' = w := by
  go_enter Tryd.func58, Tryd.ntmps58
  go_wp2
  go_ret
  exact ⟨Rv.ret_int (Rv.andm (v := v / 1048576) (by omega) (by omega) 5 (by decide)), rfl⟩
theorem bits_12_20 (v : Int) (h0 : 0 ≤ v) (h1 : v < 4294967296) (w : World) :
    Calls Tryd.prog 58 #[.int .u32 v, .int .u32 12, .int .u32 20] w fun e w' => e = .returned (.int .u32 (v / 4096 % 1048576)) ∧ w' = w := by
  go_enter Tryd.func58, Tryd.ntmps58
  go_wp2
  go_ret
  exact ⟨Rv.ret_int (Rv.andm (v := v / 4096) (by omega) (by omega) 20 (by decide)), rfl⟩
theorem bits_12_3 (v : Int) (h0 : 0 ≤ v) (h1 : v < 4294967296) (w : World) :
    Calls Tryd.prog 58 #[.int .u32 v, .int .u32 12, .int .u32 3] w fun e w' => e = .returned (.int .u32 (v / 4096 % 8)) ∧ w' = w := by
  go_enter Tryd.func58, Tryd.ntmps58
  go_wp2
  go_ret
  exact ⟨Rv.ret_int (Rv.andm (v := v / 4096) (by omega) (by omega) 3 (by decide)), rfl⟩
theorem bits_25_7 (v : Int) (h0 : 0 ≤ v) (h1 : v < 4294967296) (w : World) :
    Calls Tryd.prog 58 #[.int .u32 v, .int .u32 25, .int .u32 7] w fun e w' => e = .returned (.int .u32 (v / 33554432 % 128)) ∧ w' = w := by
  go_enter Tryd.func58, Tryd.ntmps58
  go_wp2
  go_ret
  exact ⟨Rv.ret_int (Rv.andm (v := v / 33554432) (by omega) (by omega) 7 (by decide)), rfl⟩
theorem bits_0_7 (v : Int) (h0 : 0 ≤ v) (h1 : v < 4294967296) (w : World) :
    Calls Tryd.prog 58 #[.int .u32 v, .int .u32 0, .int .u32 7] w fun e w' => e = .returned (.int .u32 (v % 128)) ∧ w' = w := by
  go_enter Tryd.func58, Tryd.ntmps58
  go_wp2
  go_ret
  exact ⟨Rv.ret_int (Rv.andm (v := v) (by omega) (by omega) 7 (by decide)), rfl⟩
theorem bits_12_8 (v : Int) (h0 : 0 ≤ v) (h1 : v < 4294967296) (w : World) :
    Calls Tryd.prog 58 #[.int .u32 v, .int .u32 12, .int .u32 8] w fun e w' => e = .returned (.int .u32 (v / 4096 % 256)) ∧ w' = w := by
  go_enter Tryd.func58, Tryd.ntmps58
  go_wp2
  go_ret
  exact ⟨Rv.ret_int (Rv.andm (v := v / 4096) (by omega) (by omega) 8 (by decide)), rfl⟩
theorem bits_20_1 (v : Int) (h0 : 0 ≤ v) (h1 : v < 4294967296) (w : World) :
    Calls Tryd.prog 58 #[.int .u32 v, .int .u32 20, .int .u32 1] w fun e w' => e = .returned (.int .u32 (v / 1048576 % 2)) ∧ w' = w := by
  go_enter Tryd.func58, Tryd.ntmps58
  go_wp2
  go_ret
  exact ⟨Rv.ret_int (Rv.andm (v := v / 1048576) (by omega) (by omega) 1 (by decide)), rfl⟩
theorem bits_21_10 (v : Int) (h0 : 0 ≤ v) (h1 : v < 4294967296) (w : World) :
    Calls Tryd.prog 58 #[.int .u32 v, .int .u32 21, .int .u32 10] w fun e w' => e = .returned (.int .u32 (v / 2097152 % 1024)) ∧ w' = w := by
  go_enter Tryd.func58, Tryd.ntmps58
  go_wp2
  go_ret
  exact ⟨Rv.ret_int (Rv.andm (v := v / 2097152) (by omega) (by omega) 10 (by decide)), rfl⟩
theorem bits_7_1 (v : Int) (h0 : 0 ≤ v) (h1 : v < 4294967296) (w : World) :
    Calls Tryd.prog 58 #[.int .u32 v, .int .u32 7, .int .u32 1] w fun e w' => e = .returned (.int .u32 (v / 128 % 2)) ∧ w' = w := by
  go_enter Tryd.func58, Tryd.ntmps58
  go_wp2
  go_ret
  exact ⟨Rv.ret_int (Rv.andm (v := v / 128) (by omega) (by omega) 1 (by decide)), rfl⟩
theorem bits_25_6 (v : Int) (h0 : 0 ≤ v) (h1 : v < 4294967296) (w : World) :
    Calls Tryd.prog 58 #[.int .u32 v, .int .u32 25, .int .u32 6] w fun e w' => e = .returned (.int .u32 (v / 33554432 % 64)) ∧ w' = w := by
  go_enter Tryd.func58, Tryd.ntmps58
  go_wp2
  go_ret
  exact ⟨Rv.ret_int (Rv.andm (v := v / 33554432) (by omega) (by omega) 6 (by decide)), rfl⟩
theorem bits_8_4 (v : Int) (h0 : 0 ≤ v) (h1 : v < 4294967296) (w : World) :
    Calls Tryd.prog 58 #[.int .u32 v, .int .u32 8, .int .u32 4] w fun e w' => e = .returned (.int .u32 (v / 256 % 16)) ∧ w' = w := by
  go_enter Tryd.func58, Tryd.ntmps58
  go_wp2
  go_ret
  exact ⟨Rv.ret_int (Rv.andm (v := v / 256) (by omega) (by omega) 4 (by decide)), rfl⟩
theorem bits_0_5 (v : Int) (h0 : 0 ≤ v) (h1 : v < 4294967296) (w : World) :
    Calls Tryd.prog 58 #[.int .u32 v, .int .u32 0, .int .u32 5] w fun e w' => e = .returned (.int .u32 (v % 32)) ∧ w' = w := by
  go_enter Tryd.func58, Tryd.ntmps58
  go_wp2
  go_ret
  exact ⟨Rv.ret_int (Rv.andm (v := v) (by omega) (by omega) 5 (by decide)), rfl⟩
theorem bits_1_10 (v : Int) (h0 : 0 ≤ v) (h1 : v < 4294967296) (w : World) :
    Calls Tryd.prog 58 #[.int .u32 v, .int .u32 1, .int .u32 10] w fun e w' => e = .returned (.int .u32 (v / 2 % 1024)) ∧ w' = w := by
  go_enter Tryd.func58, Tryd.ntmps58
  go_wp2
  go_ret
  exact ⟨Rv.ret_int (Rv.andm (v := v / 2) (by omega) (by omega) 10 (by decide)), rfl⟩
theorem bits_11_1 (v : Int) (h0 : 0 ≤ v) (h1 : v < 4294967296) (w : World) :
    Calls Tryd.prog 58 #[.int .u32 v, .int .u32 11, .int .u32 1] w fun e w' => e = .returned (.int .u32 (v / 2048 % 2)) ∧ w' = w := by
  go_enter Tryd.func58, Tryd.ntmps58
  go_wp2
  go_ret
  exact ⟨Rv.ret_int (Rv.andm (v := v / 2048) (by omega) (by omega) 1 (by decide)), rfl⟩
theorem bits_12_1 (v : Int) (h0 : 0 ≤ v) (h1 : v < 4294967296) (w : World) :
    Calls Tryd.prog 58 #[.int .u32 v, .int .u32 12, .int .u32 1] w fun e w' => e = .returned (.int .u32 (v / 4096 % 2)) ∧ w' = w := by
  go_enter Tryd.func58, Tryd.ntmps58
  go_wp2
  go_ret
  exact ⟨Rv.ret_int (Rv.andm (v := v / 4096) (by omega) (by omega) 1 (by decide)), rfl⟩
theorem bits_5_6 (v : Int) (h0 : 0 ≤ v) (h1 : v < 4294967296) (w : World) :
    Calls Tryd.prog 58 #[.int .u32 v, .int .u32 5, .int .u32 6] w fun e w' => e = .returned (.int .u32 (v / 32 % 64)) ∧ w' = w := by
  go_enter Tryd.func58, Tryd.ntmps58
  go_wp2
  go_ret
  exact ⟨Rv.ret_int (Rv.andm (v := v / 32) (by omega) (by omega) 6 (by decide)), rfl⟩
theorem bits_1_4 (v : Int) (h0 : 0 ≤ v) (h1 : v < 4294967296) (w : World) :
    Calls Tryd.prog 58 #[.int .u32 v, .int .u32 1, .int .u32 4] w fun e w' => e = .returned (.int .u32 (v / 2 % 16)) ∧ w' = w := by
  go_enter Tryd.func58, Tryd.ntmps58
  go_wp2
  go_ret
  exact ⟨Rv.ret_int (Rv.andm (v := v / 2) (by omega) (by omega) 4 (by decide)), rfl⟩
theorem bits_5_7 (v : Int) (h0 : 0 ≤ v) (h1 : v < 4294967296) (w : World) :
    Calls Tryd.prog 58 #[.int .u32 v, .int .u32 5, .int .u32 7] w fun e w' => e = .returned (.int .u32 (v / 32 % 128)) ∧ w' = w := by
  go_enter Tryd.func58, Tryd.ntmps58
  go_wp2
  go_ret
  exact ⟨Rv.ret_int (Rv.andm (v := v / 32) (by omega) (by omega) 7 (by decide)), rfl⟩
theorem bits_0_12 (v : Int) (h0 : 0 ≤ v) (h1 : v < 4294967296) (w : World) :
    Calls Tryd.prog 58 #[.int .u32 v, .int .u32 0, .int .u32 12] w fun e w' => e = .returned (.int .u32 (v % 4096)) ∧ w' = w := by
  go_enter Tryd.func58, Tryd.ntmps58
  go_wp2
  go_ret
  exact ⟨Rv.ret_int (Rv.andm (v := v) (by omega) (by omega) 12 (by decide)), rfl⟩

/-- The bits of a number from 'lo' on. -/
def Rv.fb (v lo n : Int) : Int := v / 2 ^ lo.toNat % 2 ^ n.toNat
def Rv.pairs : List (Int × Int) := [(7, 5), (15, 5), (20, 5), (12, 20), (12, 3), (25, 7), (0, 7), (12, 8), (20, 1), (21, 10), (7, 1), (25, 6), (8, 4), (0, 5), (1, 10), (11, 1), (12, 1), (5, 6), (1, 4), (5, 7), (0, 12)]
theorem bits_c (v lo n : Int) (h0 : 0 ≤ v) (h1 : v < 4294967296) (h : (lo, n) ∈ Rv.pairs) (w : World) :
    Calls Tryd.prog 58 #[.int .u32 v, .int .u32 lo, .int .u32 n] w fun e w' => e = .returned (.int .u32 (Rv.fb v lo n)) ∧ w' = w := by
  simp only [Rv.pairs, List.mem_cons, List.not_mem_nil, or_false, Prod.mk.injEq] at h
  rcases h with ⟨rfl, rfl⟩ | ⟨rfl, rfl⟩ | ⟨rfl, rfl⟩ | ⟨rfl, rfl⟩ | ⟨rfl, rfl⟩ | ⟨rfl, rfl⟩ | ⟨rfl, rfl⟩ | ⟨rfl, rfl⟩ | ⟨rfl, rfl⟩ | ⟨rfl, rfl⟩ | ⟨rfl, rfl⟩ | ⟨rfl, rfl⟩ | ⟨rfl, rfl⟩ | ⟨rfl, rfl⟩ | ⟨rfl, rfl⟩ | ⟨rfl, rfl⟩ | ⟨rfl, rfl⟩ | ⟨rfl, rfl⟩ | ⟨rfl, rfl⟩ | ⟨rfl, rfl⟩ | ⟨rfl, rfl⟩
  · exact (bits_7_5 v h0 h1 w).mono fun _ _ h => ⟨h.1.trans (Rv.ret_int (by simp [Rv.fb])), h.2⟩
  · exact (bits_15_5 v h0 h1 w).mono fun _ _ h => ⟨h.1.trans (Rv.ret_int (by simp [Rv.fb])), h.2⟩
  · exact (bits_20_5 v h0 h1 w).mono fun _ _ h => ⟨h.1.trans (Rv.ret_int (by simp [Rv.fb])), h.2⟩
  · exact (bits_12_20 v h0 h1 w).mono fun _ _ h => ⟨h.1.trans (Rv.ret_int (by simp [Rv.fb])), h.2⟩
  · exact (bits_12_3 v h0 h1 w).mono fun _ _ h => ⟨h.1.trans (Rv.ret_int (by simp [Rv.fb])), h.2⟩
  · exact (bits_25_7 v h0 h1 w).mono fun _ _ h => ⟨h.1.trans (Rv.ret_int (by simp [Rv.fb])), h.2⟩
  · exact (bits_0_7 v h0 h1 w).mono fun _ _ h => ⟨h.1.trans (Rv.ret_int (by simp [Rv.fb])), h.2⟩
  · exact (bits_12_8 v h0 h1 w).mono fun _ _ h => ⟨h.1.trans (Rv.ret_int (by simp [Rv.fb])), h.2⟩
  · exact (bits_20_1 v h0 h1 w).mono fun _ _ h => ⟨h.1.trans (Rv.ret_int (by simp [Rv.fb])), h.2⟩
  · exact (bits_21_10 v h0 h1 w).mono fun _ _ h => ⟨h.1.trans (Rv.ret_int (by simp [Rv.fb])), h.2⟩
  · exact (bits_7_1 v h0 h1 w).mono fun _ _ h => ⟨h.1.trans (Rv.ret_int (by simp [Rv.fb])), h.2⟩
  · exact (bits_25_6 v h0 h1 w).mono fun _ _ h => ⟨h.1.trans (Rv.ret_int (by simp [Rv.fb])), h.2⟩
  · exact (bits_8_4 v h0 h1 w).mono fun _ _ h => ⟨h.1.trans (Rv.ret_int (by simp [Rv.fb])), h.2⟩
  · exact (bits_0_5 v h0 h1 w).mono fun _ _ h => ⟨h.1.trans (Rv.ret_int (by simp [Rv.fb])), h.2⟩
  · exact (bits_1_10 v h0 h1 w).mono fun _ _ h => ⟨h.1.trans (Rv.ret_int (by simp [Rv.fb])), h.2⟩
  · exact (bits_11_1 v h0 h1 w).mono fun _ _ h => ⟨h.1.trans (Rv.ret_int (by simp [Rv.fb])), h.2⟩
  · exact (bits_12_1 v h0 h1 w).mono fun _ _ h => ⟨h.1.trans (Rv.ret_int (by simp [Rv.fb])), h.2⟩
  · exact (bits_5_6 v h0 h1 w).mono fun _ _ h => ⟨h.1.trans (Rv.ret_int (by simp [Rv.fb])), h.2⟩
  · exact (bits_1_4 v h0 h1 w).mono fun _ _ h => ⟨h.1.trans (Rv.ret_int (by simp [Rv.fb])), h.2⟩
  · exact (bits_5_7 v h0 h1 w).mono fun _ _ h => ⟨h.1.trans (Rv.ret_int (by simp [Rv.fb])), h.2⟩
  · exact (bits_0_12 v h0 h1 w).mono fun _ _ h => ⟨h.1.trans (Rv.ret_int (by simp [Rv.fb])), h.2⟩
end Go.Proofs.YthkampohgbddnaaDoor
