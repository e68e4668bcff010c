/- LAYER 5: the document's own answer: numbers in pieces. -/
import Derived.Test.YthkampohgbddnaaDoorRvRef1
namespace Go.Proofs.YthkampohgbddnaaDoor
open Go.ChangeShapes Go.WideShapes Go.ChangeAt Go.RowKit

theorem Rv.and_hi {v : Int} (h0 : 0 ≤ v) (h1 : v < 4294967296) : bits .and .u32 v 4294963200 = v - v % 4096 := by
  rw [u32_and v 4294963200 h0 h1 (by decide) (by decide)]
  obtain ⟨x, rfl⟩ := Int.eq_ofNat_of_zero_le h0
  rw [Int.toNat_natCast, show (4294963200 : Int).toNat = 4294963200 from rfl]
  have hx : x < 2 ^ 32 := by omega
  have p : x &&& 4095 = x % 4096 := Nat.and_two_pow_sub_one_eq_mod x 12
  have o : (x &&& 4095) ||| (x &&& 4294963200) = x := by
    rw [← Nat.and_or_distrib_left, show 4095 ||| 4294963200 = 2 ^ 32 - 1 by decide, Nat.and_two_pow_sub_one_eq_mod, Nat.mod_eq_of_lt hx]
  have hd : x &&& 4294963200 = 2 ^ 12 * ((x &&& 4294963200) / 2 ^ 12) := by
    have : (x &&& 4294963200) % 2 ^ 12 = 0 := by
      rw [← Nat.and_two_pow_sub_one_eq_mod, Nat.and_assoc, show 4294963200 &&& (2 ^ 12 - 1) = 0 by decide, Nat.and_zero]
    have := Nat.div_add_mod (x &&& 4294963200) (2 ^ 12)
    omega
  have s : (x &&& 4294963200) + x % 4096 = x := by
    have e := Nat.two_pow_add_eq_or_of_lt (i := 12) (b := x % 4096) (by omega) ((x &&& 4294963200) / 2 ^ 12)
    rw [← hd, ← p, Nat.or_comm, o] at e
    rw [← p]; exact e
  omega
theorem Rv.jor {v : Int} (h0 : 0 ≤ v) (h1 : v < 4294967296) : bits .or .u32 (bits .or .u32 (bits .or .u32 (v / 2147483648 * 1048576) (bits .and .u32 (v / 4096) 255 * 4096 % 4294967296)) (bits .and .u32 (v / 1048576) 1 * 2048 % 4294967296)) (bits .and .u32 (v / 2097152) 1023 * 2 % 4294967296) =
    1048576 * (v / 2147483648) + 4096 * (v / 4096 % 256) + 2048 * (v / 1048576 % 2) + 2 * (v / 2097152 % 1024) := by
  have c1 : bits .and .u32 (v / 4096) 255 = v / 4096 % 256 := Rv.andm (by omega) (by omega) 8 (by decide)
  have c2 : bits .and .u32 (v / 1048576) 1 = v / 1048576 % 2 := Rv.andm (by omega) (by omega) 1 (by decide)
  have c3 : bits .and .u32 (v / 2097152) 1023 = v / 2097152 % 1024 := Rv.andm (by omega) (by omega) 10 (by decide)
  rw [c1, c2, c3]
  have b1 : 0 ≤ v / 4096 % 256 ∧ v / 4096 % 256 < 256 := by omega
  have b2 : 0 ≤ v / 1048576 % 2 ∧ v / 1048576 % 2 < 2 := by omega
  have b3 : 0 ≤ v / 2097152 % 1024 ∧ v / 2097152 % 1024 < 1024 := by omega
  have b4 : 0 ≤ v / 2147483648 ∧ v / 2147483648 < 2 := by omega
  generalize v / 4096 % 256 = p1 at *; generalize v / 1048576 % 2 = p2 at *; generalize v / 2097152 % 1024 = p3 at *; generalize v / 2147483648 = p4 at *
  have a1 : p1 * 4096 % 4294967296 = 4096 * p1 := by omega
  have a2 : p2 * 2048 % 4294967296 = 2048 * p2 := by omega
  have a3 : p3 * 2 % 4294967296 = 2 * p3 := by omega
  rw [a1, a2, a3]
  rw [Rv.orhole (x := p4 * 1048576) (y := 4096 * p1) 12 20 (by decide) (by omega) (by omega) (by omega) (by omega) (by omega) (by omega) (by omega)]
  rw [Rv.orhole (x := p4 * 1048576 + 4096 * p1) (y := 2048 * p2) 11 12 (by decide) (by omega) (by omega) (by omega) (by omega) (by omega) (by omega) (by omega)]
  rw [Rv.orhole (y := 2 * p3) 1 11 (by decide) (by omega) (by omega) (by omega) (by omega) (by omega) (by omega) (by omega)]; omega
theorem Rv.bor {v : Int} (h0 : 0 ≤ v) (h1 : v < 4294967296) : bits .or .u32 (bits .or .u32 (bits .or .u32 (v / 2147483648 * 4096) (bits .and .u32 (v / 128) 1 * 2048 % 4294967296)) (bits .and .u32 (v / 33554432) 63 * 32 % 4294967296)) (bits .and .u32 (v / 256) 15 * 2 % 4294967296) =
    4096 * (v / 2147483648) + 2048 * (v / 128 % 2) + 32 * (v / 33554432 % 64) + 2 * (v / 256 % 16) := by
  have c1 : bits .and .u32 (v / 128) 1 = v / 128 % 2 := Rv.andm (by omega) (by omega) 1 (by decide)
  have c2 : bits .and .u32 (v / 33554432) 63 = v / 33554432 % 64 := Rv.andm (by omega) (by omega) 6 (by decide)
  have c3 : bits .and .u32 (v / 256) 15 = v / 256 % 16 := Rv.andm (by omega) (by omega) 4 (by decide)
  rw [c1, c2, c3]
  have b1 : 0 ≤ v / 128 % 2 ∧ v / 128 % 2 < 2 := by omega
  have b2 : 0 ≤ v / 33554432 % 64 ∧ v / 33554432 % 64 < 64 := by omega
  have b3 : 0 ≤ v / 256 % 16 ∧ v / 256 % 16 < 16 := by omega
  have b4 : 0 ≤ v / 2147483648 ∧ v / 2147483648 < 2 := by omega
  generalize v / 128 % 2 = p1 at *; generalize v / 33554432 % 64 = p2 at *; generalize v / 256 % 16 = p3 at *; generalize v / 2147483648 = p4 at *
  have a1 : p1 * 2048 % 4294967296 = 2048 * p1 := by omega
  have a2 : p2 * 32 % 4294967296 = 32 * p2 := by omega
  have a3 : p3 * 2 % 4294967296 = 2 * p3 := by omega
  rw [a1, a2, a3]
  rw [Rv.orhole (x := p4 * 4096) (y := 2048 * p1) 11 12 (by decide) (by omega) (by omega) (by omega) (by omega) (by omega) (by omega) (by omega)]
  rw [Rv.orhole (x := p4 * 4096 + 2048 * p1) (y := 32 * p2) 5 11 (by decide) (by omega) (by omega) (by omega) (by omega) (by omega) (by omega) (by omega)]
  rw [Rv.orhole (y := 2 * p3) 1 5 (by decide) (by omega) (by omega) (by omega) (by omega) (by omega) (by omega) (by omega)]; omega
theorem Rv.sor {v : Int} (h0 : 0 ≤ v) (h1 : v < 4294967296) : bits .or .u32 (v / 33554432 * 32) (v / 128 % 32) = 32 * (v / 33554432) + v / 128 % 32 := by
  have b1 : 0 ≤ v / 128 % 32 ∧ v / 128 % 32 < 32 := by omega
  have b2 : 0 ≤ v / 33554432 ∧ v / 33554432 < 128 := by omega
  generalize v / 128 % 32 = p1 at *; generalize v / 33554432 = p2 at *
  rw [Rv.orhole 0 5 (by decide) (by omega) (by omega) (by omega) (by omega) (by omega) (by omega) (by omega)]; omega
theorem Rv.jimm {v : Int} (h0 : 0 ≤ v) (h1 : v < 4294967296) : (1048576 * (v / 2147483648) + 4096 * (v / 4096 % 256) + 2048 * (v / 1048576 % 2) + 2 * (v / 2097152 % 1024)) - 2097152 * ((1048576 * (v / 2147483648) + 4096 * (v / 4096 % 256) + 2048 * (v / 1048576 % 2) + 2 * (v / 2097152 % 1024)) / 1048576) = Rv.immJ v := by
  unfold Rv.immJ
  have b1 : 0 ≤ v / 4096 % 256 ∧ v / 4096 % 256 < 256 := by omega
  have b2 : 0 ≤ v / 1048576 % 2 ∧ v / 1048576 % 2 < 2 := by omega
  have b3 : 0 ≤ v / 2097152 % 1024 ∧ v / 2097152 % 1024 < 1024 := by omega
  have b4 : 0 ≤ v / 2147483648 ∧ v / 2147483648 < 2 := by omega
  generalize v / 4096 % 256 = p1 at *; generalize v / 1048576 % 2 = p2 at *; generalize v / 2097152 % 1024 = p3 at *; generalize v / 2147483648 = p4 at *
  omega
theorem Rv.bimm {v : Int} (h0 : 0 ≤ v) (h1 : v < 4294967296) : (4096 * (v / 2147483648) + 2048 * (v / 128 % 2) + 32 * (v / 33554432 % 64) + 2 * (v / 256 % 16)) - 8192 * ((4096 * (v / 2147483648) + 2048 * (v / 128 % 2) + 32 * (v / 33554432 % 64) + 2 * (v / 256 % 16)) / 4096) = Rv.immB v := by
  unfold Rv.immB
  have b1 : 0 ≤ v / 128 % 2 ∧ v / 128 % 2 < 2 := by omega
  have b2 : 0 ≤ v / 33554432 % 64 ∧ v / 33554432 % 64 < 64 := by omega
  have b3 : 0 ≤ v / 256 % 16 ∧ v / 256 % 16 < 16 := by omega
  have b4 : 0 ≤ v / 2147483648 ∧ v / 2147483648 < 2 := by omega
  generalize v / 128 % 2 = p1 at *; generalize v / 33554432 % 64 = p2 at *; generalize v / 256 % 16 = p3 at *; generalize v / 2147483648 = p4 at *
  omega
theorem Rv.simm {v : Int} (h0 : 0 ≤ v) (h1 : v < 4294967296) : (32 * (v / 33554432) + v / 128 % 32) - 4096 * ((32 * (v / 33554432) + v / 128 % 32) / 2048) = Rv.immS v := by
  unfold Rv.immS
  have b1 : 0 ≤ v / 128 % 32 ∧ v / 128 % 32 < 32 := by omega
  have b2 : 0 ≤ v / 33554432 ∧ v / 33554432 < 128 := by omega
  have b3 : v / 2147483648 = v / 33554432 / 64 := by omega
  rw [b3]
  generalize v / 128 % 32 = p1 at *; generalize v / 33554432 = p2 at *
  omega
theorem Rv.iimm {v : Int} (_ : 0 ≤ v) (_ : v < 4294967296) : v / 1048576 - 4096 * (v / 1048576 / 2048) = Rv.immI v := by unfold Rv.immI; omega
theorem Rv.uimm {v : Int} (h0 : 0 ≤ v) (h1 : v < 4294967296) : wrap32 (bits .and .u32 v 4294963200) = Rv.immU v := by
  rw [Rv.and_hi h0 h1]; unfold Rv.immU wrap32; omega

end Go.Proofs.YthkampohgbddnaaDoor
