/- LAYER 5's walks: what an instruction chooses of a word. · LAYER 5's walks: Encode. · LAYER 5's walks: Name, Kind, Ends. -/
import Derived.Test.YtllgkofibkobnaaDoorR1
import Derived.Deep.RegionHeld3
namespace Go.Proofs.YtllgkofibkobnaaDoor
open Go.ChangeShapes Go.WideShapes Go.ChangeAt Go.RowKit

/-- 'or' with what lies in a hole is the sum. -/
theorem Rv.orhole {x y : Int} (lo hi : Nat) (hl : lo ≤ hi) (hx0 : 0 ≤ x) (hx1 : x < 4294967296) (hx : x % 2 ^ hi < 2 ^ lo) (hy0 : 0 ≤ y) (hy1 : y < 4294967296) (hy : y % 2 ^ lo = 0) (hy2 : y < 2 ^ hi) : bits .or .u32 x y = x + y := by
  rw [u32_or x y hx0 hx1 hy0 hy1]
  obtain ⟨a, rfl⟩ := Int.eq_ofNat_of_zero_le hx0
  obtain ⟨b, rfl⟩ := Int.eq_ofNat_of_zero_le hy0
  have hx' : a % 2 ^ hi < 2 ^ lo := by exact_mod_cast hx
  have hy' : b % 2 ^ lo = 0 := by exact_mod_cast hy
  have hy2' : b < 2 ^ hi := by exact_mod_cast hy2
  simp only [Int.toNat_natCast]
  have e1 : a = 2 ^ hi * (a / 2 ^ hi) ||| a % 2 ^ hi := by
    rw [← Nat.two_pow_add_eq_or_of_lt (Nat.mod_lt _ (Nat.two_pow_pos hi))]; exact (Nat.div_add_mod a (2 ^ hi)).symm
  have hb : b = 2 ^ lo * (b / 2 ^ lo) := by have := Nat.div_add_mod b (2 ^ lo); omega
  have e2 : a % 2 ^ hi ||| b = b + a % 2 ^ hi := by
    rw [Nat.or_comm, hb, ← Nat.two_pow_add_eq_or_of_lt hx']
  have hp : 2 ^ hi = 2 ^ lo * 2 ^ (hi - lo) := by rw [← Nat.pow_add]; congr 1; omega
  have e3 : b + a % 2 ^ hi < 2 ^ hi := by
    have h1 : b / 2 ^ lo < 2 ^ (hi - lo) := by
      rw [Nat.div_lt_iff_lt_mul (Nat.two_pow_pos lo), Nat.mul_comm, ← hp]; exact hy2'
    have h2 : b + 2 ^ lo ≤ 2 ^ hi := by
      rw [hp]; calc b + 2 ^ lo = 2 ^ lo * (b / 2 ^ lo + 1) := by rw [Nat.mul_add, Nat.mul_one, ← hb]
        _ ≤ 2 ^ lo * 2 ^ (hi - lo) := Nat.mul_le_mul_left _ h1
    omega
  have e4 : a ||| b = a + b := by
    conv => lhs; rw [e1]
    rw [Nat.or_assoc, e2, ← Nat.two_pow_add_eq_or_of_lt e3]
    have := Nat.div_add_mod a (2 ^ hi); omega
  rw [e4]; simp

theorem Rv.fm_0_5 (m : Int) : Rv.fb (m % 4294967296) 0 5 = m % 32 := by rw [Rv.fb_0_5]; omega
theorem Rv.fm_12_20 (m : Int) : Rv.fb (m % 4294967296) 12 20 = m / 4096 % 1048576 := by rw [Rv.fb_12_20]; omega
theorem Rv.fm_20_1 (m : Int) : Rv.fb (m % 4294967296) 20 1 = m / 1048576 % 2 := by rw [Rv.fb_20_1]; omega
theorem Rv.fm_1_10 (m : Int) : Rv.fb (m % 4294967296) 1 10 = m / 2 % 1024 := by rw [Rv.fb_1_10]; omega
theorem Rv.fm_11_1 (m : Int) : Rv.fb (m % 4294967296) 11 1 = m / 2048 % 2 := by rw [Rv.fb_11_1]; omega
theorem Rv.fm_12_8 (m : Int) : Rv.fb (m % 4294967296) 12 8 = m / 4096 % 256 := by rw [Rv.fb_12_8]; omega
theorem Rv.fm_12_1 (m : Int) : Rv.fb (m % 4294967296) 12 1 = m / 4096 % 2 := by rw [Rv.fb_12_1]; omega
theorem Rv.fm_5_6 (m : Int) : Rv.fb (m % 4294967296) 5 6 = m / 32 % 64 := by rw [Rv.fb_5_6]; omega
theorem Rv.fm_1_4 (m : Int) : Rv.fb (m % 4294967296) 1 4 = m / 2 % 16 := by rw [Rv.fb_1_4]; omega
theorem Rv.fm_5_7 (m : Int) : Rv.fb (m % 4294967296) 5 7 = m / 32 % 128 := by rw [Rv.fb_5_7]; omega
theorem Rv.fm_0_12 (m : Int) : Rv.fb (m % 4294967296) 0 12 = m % 4096 := by rw [Rv.fb_0_12]; omega

set_option maxHeartbeats 1600000 in
theorem chosen_c (i : Rv.Ins) (w : World) :
    Calls Tryd.prog 46 #[Rv.iv i] w fun e w' => e = .returned (.int .u32 (Rv.cho i)) ∧ Gr w w' := by
  rcases Rv.lay_cases i.op with ⟨l, c⟩ | ⟨l, c⟩ | ⟨l, c⟩ | ⟨l, c⟩ | ⟨l, c⟩ | ⟨l, c⟩ | ⟨l, c⟩ | ⟨l, c⟩
  · clear c
    unfold Rv.iv
    go_enter Tryd.func46, Tryd.ntmps46
    go_wp2_with (first | (go_at_call 63; refine (bits_c _ _ _ (by omega) (by omega) (by decide) _).mono ?_; rintro e w' ⟨rfl, rfl⟩) | (go_at_call 64; refine (layout_c _ _).mono ?_; rintro e w' ⟨rfl, rfl⟩; rw [l]))
    go_ret
    refine ⟨Rv.ret_int ?_, by (repeat' (first | (with_reducible assumption) | (with_reducible exact Gr.refl _) | (with_reducible refine Gr.alloc ?_ _ _) | (with_reducible refine Gr.drew ?_) | (with_reducible refine Gr.drewN ?_ _) | (with_reducible refine Gr.setCell ?_ ?_ _) | (with_reducible refine Gr.trans ?_ (by assumption)) | omega | (dsimp only; omega) | (simp; done) | (simp; omega)))⟩
    rw [Rv.cho_1 l, Rv.fm_0_5, Rv.fm_12_20]
    have b1 : 0 ≤ i.rd % 32 ∧ i.rd % 32 < 32 := by omega
    have b2 : 0 ≤ i.imm / 4096 % 1048576 ∧ i.imm / 4096 % 1048576 < 1048576 := by omega
    generalize i.rd % 32 = r at *; generalize i.imm / 4096 % 1048576 = p1 at *
    rw [Rv.orhole 12 32 (by decide) (by omega) (by omega) (by omega) (by omega) (by omega) (by omega) (by omega)]; omega
  · clear c
    unfold Rv.iv
    go_enter Tryd.func46, Tryd.ntmps46
    go_wp2_with (first | (go_at_call 63; refine (bits_c _ _ _ (by omega) (by omega) (by decide) _).mono ?_; rintro e w' ⟨rfl, rfl⟩) | (go_at_call 64; refine (layout_c _ _).mono ?_; rintro e w' ⟨rfl, rfl⟩; rw [l]))
    go_ret
    refine ⟨Rv.ret_int ?_, by (repeat' (first | (with_reducible assumption) | (with_reducible exact Gr.refl _) | (with_reducible refine Gr.alloc ?_ _ _) | (with_reducible refine Gr.drew ?_) | (with_reducible refine Gr.drewN ?_ _) | (with_reducible refine Gr.setCell ?_ ?_ _) | (with_reducible refine Gr.trans ?_ (by assumption)) | omega | (dsimp only; omega) | (simp; done) | (simp; omega)))⟩
    rw [Rv.cho_2 l, Rv.fm_0_5, Rv.fm_20_1, Rv.fm_1_10, Rv.fm_11_1, Rv.fm_12_8]
    have b1 : 0 ≤ i.rd % 32 ∧ i.rd % 32 < 32 := by omega
    have b2 : 0 ≤ i.imm / 4096 % 256 ∧ i.imm / 4096 % 256 < 256 := by omega
    have b3 : 0 ≤ i.imm / 2048 % 2 ∧ i.imm / 2048 % 2 < 2 := by omega
    have b4 : 0 ≤ i.imm / 2 % 1024 ∧ i.imm / 2 % 1024 < 1024 := by omega
    have b5 : 0 ≤ i.imm / 1048576 % 2 ∧ i.imm / 1048576 % 2 < 2 := by omega
    generalize i.rd % 32 = r at *; generalize i.imm / 4096 % 256 = p1 at *; generalize i.imm / 2048 % 2 = p2 at *; generalize i.imm / 2 % 1024 = p3 at *; generalize i.imm / 1048576 % 2 = p4 at *
    have a0 : r * 128 % 4294967296 = 128 * r := by omega
    have a1 : p1 * 4096 % 4294967296 = 4096 * p1 := by omega
    have a2 : p2 * 1048576 % 4294967296 = 1048576 * p2 := by omega
    have a3 : p3 * 2097152 % 4294967296 = 2097152 * p3 := by omega
    have a4 : p4 * 2147483648 % 4294967296 = 2147483648 * p4 := by omega
    rw [a0, a1, a2, a3, a4]
    rw [Rv.orhole (x := 128 * r) (y := 2147483648 * p4) 31 32 (by decide) (by omega) (by omega) (by omega) (by omega) (by omega) (by omega) (by omega)]
    rw [Rv.orhole (x := 128 * r + 2147483648 * p4) (y := 2097152 * p3) 21 31 (by decide) (by omega) (by omega) (by omega) (by omega) (by omega) (by omega) (by omega)]
    rw [Rv.orhole (x := 128 * r + 2147483648 * p4 + 2097152 * p3) (y := 1048576 * p2) 20 21 (by decide) (by omega) (by omega) (by omega) (by omega) (by omega) (by omega) (by omega)]
    rw [Rv.orhole (y := 4096 * p1) 12 20 (by decide) (by omega) (by omega) (by omega) (by omega) (by omega) (by omega) (by omega)]; omega
  · clear c
    unfold Rv.iv
    go_enter Tryd.func46, Tryd.ntmps46
    go_wp2_with (first | (go_at_call 63; refine (bits_c _ _ _ (by omega) (by omega) (by decide) _).mono ?_; rintro e w' ⟨rfl, rfl⟩) | (go_at_call 64; refine (layout_c _ _).mono ?_; rintro e w' ⟨rfl, rfl⟩; rw [l]))
    go_ret
    refine ⟨Rv.ret_int ?_, by (repeat' (first | (with_reducible assumption) | (with_reducible exact Gr.refl _) | (with_reducible refine Gr.alloc ?_ _ _) | (with_reducible refine Gr.drew ?_) | (with_reducible refine Gr.drewN ?_ _) | (with_reducible refine Gr.setCell ?_ ?_ _) | (with_reducible refine Gr.trans ?_ (by assumption)) | omega | (dsimp only; omega) | (simp; done) | (simp; omega)))⟩
    rw [Rv.cho_3 l, Rv.fm_0_5, Rv.fm_0_5, Rv.fm_12_1, Rv.fm_5_6, Rv.fm_1_4, Rv.fm_11_1]
    have b0 : 0 ≤ i.rs1 % 32 ∧ i.rs1 % 32 < 32 := by omega
    have b1 : 0 ≤ i.rs2 % 32 ∧ i.rs2 % 32 < 32 := by omega
    have b2 : 0 ≤ i.imm / 4096 % 2 ∧ i.imm / 4096 % 2 < 2 := by omega
    have b3 : 0 ≤ i.imm / 32 % 64 ∧ i.imm / 32 % 64 < 64 := by omega
    have b4 : 0 ≤ i.imm / 2 % 16 ∧ i.imm / 2 % 16 < 16 := by omega
    have b5 : 0 ≤ i.imm / 2048 % 2 ∧ i.imm / 2048 % 2 < 2 := by omega
    generalize i.rs1 % 32 = s at *; generalize i.rs2 % 32 = t at *; generalize i.imm / 4096 % 2 = p4 at *; generalize i.imm / 32 % 64 = p3 at *; generalize i.imm / 2 % 16 = p2 at *; generalize i.imm / 2048 % 2 = p1 at *
    have a0 : s * 32768 % 4294967296 = 32768 * s := by omega
    have a1 : t * 1048576 % 4294967296 = 1048576 * t := by omega
    have a2 : p4 * 2147483648 % 4294967296 = 2147483648 * p4 := by omega
    have a3 : p3 * 33554432 % 4294967296 = 33554432 * p3 := by omega
    have a4 : p2 * 256 % 4294967296 = 256 * p2 := by omega
    have a5 : p1 * 128 % 4294967296 = 128 * p1 := by omega
    rw [a0, a1, a2, a3, a4, a5]
    rw [Rv.orhole (x := 32768 * s) (y := 1048576 * t) 20 32 (by decide) (by omega) (by omega) (by omega) (by omega) (by omega) (by omega) (by omega)]
    rw [Rv.orhole (x := 32768 * s + 1048576 * t) (y := 2147483648 * p4) 31 32 (by decide) (by omega) (by omega) (by omega) (by omega) (by omega) (by omega) (by omega)]
    rw [Rv.orhole (x := 32768 * s + 1048576 * t + 2147483648 * p4) (y := 33554432 * p3) 25 31 (by decide) (by omega) (by omega) (by omega) (by omega) (by omega) (by omega) (by omega)]
    rw [Rv.orhole (x := 32768 * s + 1048576 * t + 2147483648 * p4 + 33554432 * p3) (y := 256 * p2) 8 12 (by decide) (by omega) (by omega) (by omega) (by omega) (by omega) (by omega) (by omega)]
    rw [Rv.orhole (y := 128 * p1) 7 8 (by decide) (by omega) (by omega) (by omega) (by omega) (by omega) (by omega) (by omega)]; omega
  · clear c
    unfold Rv.iv
    go_enter Tryd.func46, Tryd.ntmps46
    go_wp2_with (first | (go_at_call 63; refine (bits_c _ _ _ (by omega) (by omega) (by decide) _).mono ?_; rintro e w' ⟨rfl, rfl⟩) | (go_at_call 64; refine (layout_c _ _).mono ?_; rintro e w' ⟨rfl, rfl⟩; rw [l]))
    go_ret
    refine ⟨Rv.ret_int ?_, by (repeat' (first | (with_reducible assumption) | (with_reducible exact Gr.refl _) | (with_reducible refine Gr.alloc ?_ _ _) | (with_reducible refine Gr.drew ?_) | (with_reducible refine Gr.drewN ?_ _) | (with_reducible refine Gr.setCell ?_ ?_ _) | (with_reducible refine Gr.trans ?_ (by assumption)) | omega | (dsimp only; omega) | (simp; done) | (simp; omega)))⟩
    rw [Rv.cho_4 l, Rv.fm_0_5, Rv.fm_0_5, Rv.fm_0_5, Rv.fm_5_7]
    have b0 : 0 ≤ i.rs1 % 32 ∧ i.rs1 % 32 < 32 := by omega
    have b1 : 0 ≤ i.rs2 % 32 ∧ i.rs2 % 32 < 32 := by omega
    have b2 : 0 ≤ i.imm / 32 % 128 ∧ i.imm / 32 % 128 < 128 := by omega
    have b3 : 0 ≤ i.imm % 32 ∧ i.imm % 32 < 32 := by omega
    generalize i.rs1 % 32 = s at *; generalize i.rs2 % 32 = t at *; generalize i.imm / 32 % 128 = p2 at *; generalize i.imm % 32 = p1 at *
    have a0 : s * 32768 % 4294967296 = 32768 * s := by omega
    have a1 : t * 1048576 % 4294967296 = 1048576 * t := by omega
    have a3 : p2 * 33554432 % 4294967296 = 33554432 * p2 := by omega
    have a5 : p1 * 128 % 4294967296 = 128 * p1 := by omega
    rw [a0, a1, a3, a5]
    rw [Rv.orhole (x := 32768 * s) (y := 1048576 * t) 20 32 (by decide) (by omega) (by omega) (by omega) (by omega) (by omega) (by omega) (by omega)]
    rw [Rv.orhole (x := 32768 * s + 1048576 * t) (y := 33554432 * p2) 25 32 (by decide) (by omega) (by omega) (by omega) (by omega) (by omega) (by omega) (by omega)]
    rw [Rv.orhole (y := 128 * p1) 7 12 (by decide) (by omega) (by omega) (by omega) (by omega) (by omega) (by omega) (by omega)]; omega
  · clear c
    unfold Rv.iv
    go_enter Tryd.func46, Tryd.ntmps46
    go_wp2_with (first | (go_at_call 63; refine (bits_c _ _ _ (by omega) (by omega) (by decide) _).mono ?_; rintro e w' ⟨rfl, rfl⟩) | (go_at_call 64; refine (layout_c _ _).mono ?_; rintro e w' ⟨rfl, rfl⟩; rw [l]))
    go_ret
    refine ⟨Rv.ret_int ?_, by (repeat' (first | (with_reducible assumption) | (with_reducible exact Gr.refl _) | (with_reducible refine Gr.alloc ?_ _ _) | (with_reducible refine Gr.drew ?_) | (with_reducible refine Gr.drewN ?_ _) | (with_reducible refine Gr.setCell ?_ ?_ _) | (with_reducible refine Gr.trans ?_ (by assumption)) | omega | (dsimp only; omega) | (simp; done) | (simp; omega)))⟩
    rw [Rv.cho_5 l, Rv.fm_0_5, Rv.fm_0_5, Rv.fm_0_12]
    have b0 : 0 ≤ i.rd % 32 ∧ i.rd % 32 < 32 := by omega
    have b1 : 0 ≤ i.rs1 % 32 ∧ i.rs1 % 32 < 32 := by omega
    have b2 : 0 ≤ i.imm % 4096 ∧ i.imm % 4096 < 4096 := by omega
    generalize i.rd % 32 = r at *; generalize i.rs1 % 32 = s at *; generalize i.imm % 4096 = p at *
    have a0 : r * 128 % 4294967296 = 128 * r := by omega
    have a1 : s * 32768 % 4294967296 = 32768 * s := by omega
    have a2 : p * 1048576 % 4294967296 = 1048576 * p := by omega
    rw [a0, a1, a2]
    rw [Rv.orhole (x := 128 * r) (y := 32768 * s) 15 32 (by decide) (by omega) (by omega) (by omega) (by omega) (by omega) (by omega) (by omega)]
    rw [Rv.orhole (y := 1048576 * p) 20 32 (by decide) (by omega) (by omega) (by omega) (by omega) (by omega) (by omega) (by omega)]
  · clear c
    unfold Rv.iv
    go_enter Tryd.func46, Tryd.ntmps46
    go_wp2_with (first | (go_at_call 63; refine (bits_c _ _ _ (by omega) (by omega) (by decide) _).mono ?_; rintro e w' ⟨rfl, rfl⟩) | (go_at_call 64; refine (layout_c _ _).mono ?_; rintro e w' ⟨rfl, rfl⟩; rw [l]))
    go_ret
    refine ⟨Rv.ret_int ?_, by (repeat' (first | (with_reducible assumption) | (with_reducible exact Gr.refl _) | (with_reducible refine Gr.alloc ?_ _ _) | (with_reducible refine Gr.drew ?_) | (with_reducible refine Gr.drewN ?_ _) | (with_reducible refine Gr.setCell ?_ ?_ _) | (with_reducible refine Gr.trans ?_ (by assumption)) | omega | (dsimp only; omega) | (simp; done) | (simp; omega)))⟩
    rw [Rv.cho_6 l, Rv.fm_0_5, Rv.fm_0_5, Rv.fm_0_5]
    have b0 : 0 ≤ i.rd % 32 ∧ i.rd % 32 < 32 := by omega
    have b1 : 0 ≤ i.rs1 % 32 ∧ i.rs1 % 32 < 32 := by omega
    have b2 : 0 ≤ i.imm % 32 ∧ i.imm % 32 < 32 := by omega
    generalize i.rd % 32 = r at *; generalize i.rs1 % 32 = s at *; generalize i.imm % 32 = p at *
    have a0 : r * 128 % 4294967296 = 128 * r := by omega
    have a1 : s * 32768 % 4294967296 = 32768 * s := by omega
    have a2 : p * 1048576 % 4294967296 = 1048576 * p := by omega
    rw [a0, a1, a2]
    rw [Rv.orhole (x := 128 * r) (y := 32768 * s) 15 32 (by decide) (by omega) (by omega) (by omega) (by omega) (by omega) (by omega) (by omega)]
    rw [Rv.orhole (y := 1048576 * p) 20 32 (by decide) (by omega) (by omega) (by omega) (by omega) (by omega) (by omega) (by omega)]
  · clear c
    unfold Rv.iv
    go_enter Tryd.func46, Tryd.ntmps46
    go_wp2_with (first | (go_at_call 63; refine (bits_c _ _ _ (by omega) (by omega) (by decide) _).mono ?_; rintro e w' ⟨rfl, rfl⟩) | (go_at_call 64; refine (layout_c _ _).mono ?_; rintro e w' ⟨rfl, rfl⟩; rw [l]))
    go_ret
    refine ⟨Rv.ret_int ?_, by (repeat' (first | (with_reducible assumption) | (with_reducible exact Gr.refl _) | (with_reducible refine Gr.alloc ?_ _ _) | (with_reducible refine Gr.drew ?_) | (with_reducible refine Gr.drewN ?_ _) | (with_reducible refine Gr.setCell ?_ ?_ _) | (with_reducible refine Gr.trans ?_ (by assumption)) | omega | (dsimp only; omega) | (simp; done) | (simp; omega)))⟩
    rw [Rv.cho_7 l, Rv.fm_0_5, Rv.fm_0_5, Rv.fm_0_5]
    have b0 : 0 ≤ i.rd % 32 ∧ i.rd % 32 < 32 := by omega
    have b1 : 0 ≤ i.rs1 % 32 ∧ i.rs1 % 32 < 32 := by omega
    have b2 : 0 ≤ i.rs2 % 32 ∧ i.rs2 % 32 < 32 := by omega
    generalize i.rd % 32 = r at *; generalize i.rs1 % 32 = s at *; generalize i.rs2 % 32 = p at *
    have a0 : r * 128 % 4294967296 = 128 * r := by omega
    have a1 : s * 32768 % 4294967296 = 32768 * s := by omega
    have a2 : p * 1048576 % 4294967296 = 1048576 * p := by omega
    rw [a0, a1, a2]
    rw [Rv.orhole (x := 128 * r) (y := 32768 * s) 15 32 (by decide) (by omega) (by omega) (by omega) (by omega) (by omega) (by omega) (by omega)]
    rw [Rv.orhole (y := 1048576 * p) 20 32 (by decide) (by omega) (by omega) (by omega) (by omega) (by omega) (by omega) (by omega)]
  · clear c
    unfold Rv.iv
    go_enter Tryd.func46, Tryd.ntmps46
    go_wp2_with (first | (go_at_call 63; refine (bits_c _ _ _ (by omega) (by omega) (by decide) _).mono ?_; rintro e w' ⟨rfl, rfl⟩) | (go_at_call 64; refine (layout_c _ _).mono ?_; rintro e w' ⟨rfl, rfl⟩; rw [l]))
    go_ret
    refine ⟨Rv.ret_int ?_, by (repeat' (first | (with_reducible assumption) | (with_reducible exact Gr.refl _) | (with_reducible refine Gr.alloc ?_ _ _) | (with_reducible refine Gr.drew ?_) | (with_reducible refine Gr.drewN ?_ _) | (with_reducible refine Gr.setCell ?_ ?_ _) | (with_reducible refine Gr.trans ?_ (by assumption)) | omega | (dsimp only; omega) | (simp; done) | (simp; omega)))⟩
    rw [Rv.cho_0 l]
end Go.Proofs.YtllgkofibkobnaaDoor
namespace Go.Proofs.YtllgkofibkobnaaDoor
open Go.ChangeShapes Go.WideShapes Go.ChangeAt Go.RowKit

theorem Rv.dropGr {w w1 : World} {c : Array Value} {t : TypeId} (h : Gr (w.alloc (.cells c t)) w1) : Gr w w1 := ((Gr.refl w).alloc c t).trans h
theorem Rv.ibox {w w1 : World} {T : TypeId} {i : Rv.Ins} (h : Gr (w.alloc (.cells #[.int .i64 i.op, .int .i64 i.rd, .int .i64 i.rs1, .int .i64 i.rs2, .int .i32 i.imm] T)) w1) :
    w1.cell? ⟨w.heap.size, 0, none⟩ = some (.int .i64 i.op) ∧ w1.cell? ⟨w.heap.size, 1, none⟩ = some (.int .i64 i.rd) ∧ w1.cell? ⟨w.heap.size, 2, none⟩ = some (.int .i64 i.rs1) ∧ w1.cell? ⟨w.heap.size, 3, none⟩ = some (.int .i64 i.rs2) ∧ w1.cell? ⟨w.heap.size, 4, none⟩ = some (.int .i32 i.imm) := by
  refine ⟨?_, ?_, ?_, ?_, ?_⟩ <;> (apply h.keep; simp [go_sem])

theorem Rv.or_two {X A B : Int} (m : Nat) (x0 : 0 ≤ X) (x1 : X < 4294967296) (a0 : 0 ≤ A) (b0 : 0 ≤ B) (ab : A + B < 4294967296) (ha : A < 2 ^ m) (hb : B % 2 ^ m = 0) :
    bits .or .u32 X (A + B) = bits .or .u32 (bits .or .u32 X A) B := by
  have e : A + B = bits .or .u32 B A := by rw [Rv.ormul m b0 hb (by omega) a0 ha (by omega)]; omega
  rw [e, u32_or B A b0 (by omega) a0 (by omega), u32_or X A x0 x1 a0 (by omega)]
  obtain ⟨x, rfl⟩ := Int.eq_ofNat_of_zero_le x0
  obtain ⟨y, rfl⟩ := Int.eq_ofNat_of_zero_le a0
  obtain ⟨z, rfl⟩ := Int.eq_ofNat_of_zero_le b0
  simp only [Int.toNat_natCast]
  have h1 : z ||| y < 2 ^ 32 := Nat.or_lt_two_pow (by omega) (by omega)
  have h2 : x ||| y < 2 ^ 32 := Nat.or_lt_two_pow (by omega) (by omega)
  rw [u32_or_nat x (z ||| y) (by omega) h1, u32_or_nat (x ||| y) z h2 (by omega), Nat.or_assoc, Nat.or_comm z y]
theorem Rv.or_enc {i : Rv.Ins} (h : 1 ≤ i.op ∧ i.op ≤ 49) : bits .or .u32 (Rv.wo i.op) (Rv.cho i) = Rv.enc i := by
  unfold Rv.enc
  rcases Rv.lay_cases i.op with ⟨l, c⟩ | ⟨l, c⟩ | ⟨l, c⟩ | ⟨l, c⟩ | ⟨l, c⟩ | ⟨l, c⟩ | ⟨l, c⟩ | ⟨l, c⟩
  · obtain ⟨n, o, f3, f7, _, _, _, _, _, _, _, e, bo, b3, b7, z3, z7⟩ := Rv.wo_parts h.1 (by omega)
    have z3' := z3 (by omega); have z7' := z7 (by omega)
    rw [Rv.cho_1 l, e]
    obtain ⟨A, hA⟩ : ∃ A, i.rd % 32 = A := ⟨_, rfl⟩
    obtain ⟨B, hB⟩ : ∃ B, i.imm / 4096 % 1048576 = B := ⟨_, rfl⟩
    rw [hA, hB, Rv.or_two 12 (by omega) (by omega) (by omega) (by omega) (by omega) (by omega) (by omega)]
    rw [Rv.orhole (y := 128 * A) 7 12 (by decide) (by omega) (by omega) (by omega) (by omega) (by omega) (by omega) (by omega)]
    rw [Rv.orhole 12 32 (by decide) (by omega) (by omega) (by omega) (by omega) (by omega) (by omega) (by omega)]; omega
  · obtain ⟨n, o, f3, f7, _, _, _, _, _, _, _, e, bo, b3, b7, z3, z7⟩ := Rv.wo_parts h.1 (by omega)
    have z3' := z3 (by omega); have z7' := z7 (by omega)
    rw [Rv.cho_2 l, e]
    obtain ⟨A, hA⟩ : ∃ A, i.rd % 32 = A := ⟨_, rfl⟩
    obtain ⟨B, hB⟩ : ∃ B, i.imm / 4096 % 256 + 256 * (i.imm / 2048 % 2) + 512 * (i.imm / 2 % 1024) + 524288 * (i.imm / 1048576 % 2) = B := ⟨_, rfl⟩
    have hb : 0 ≤ B ∧ B < 1048576 := by omega
    have e2 : 128 * (i.rd % 32) + 4096 * (i.imm / 4096 % 256) + 1048576 * (i.imm / 2048 % 2) + 2097152 * (i.imm / 2 % 1024) + 2147483648 * (i.imm / 1048576 % 2) = 128 * A + 4096 * B := by omega
    have ha : 0 ≤ A ∧ A < 32 := by omega
    rw [e2]; clear e2 hA hB
    rw [Rv.or_two 12 (by omega) (by omega) (by omega) (by omega) (by omega) (by omega) (by omega)]
    rw [Rv.orhole (y := 128 * A) 7 12 (by decide) (by omega) (by omega) (by omega) (by omega) (by omega) (by omega) (by omega)]
    rw [Rv.orhole 12 32 (by decide) (by omega) (by omega) (by omega) (by omega) (by omega) (by omega) (by omega)]; omega
  · obtain ⟨n, o, f3, f7, _, _, _, _, _, _, _, e, bo, b3, b7, z3, z7⟩ := Rv.wo_parts h.1 (by omega)
    have z7' := z7 (by omega)
    rw [Rv.cho_3 l, e]
    obtain ⟨A, hA⟩ : ∃ A, i.imm / 2048 % 2 + 2 * (i.imm / 2 % 16) = A := ⟨_, rfl⟩
    obtain ⟨B, hB⟩ : ∃ B, i.rs1 % 32 + 32 * (i.rs2 % 32) + 1024 * (i.imm / 32 % 64) + 65536 * (i.imm / 4096 % 2) = B := ⟨_, rfl⟩
    have hb : 0 ≤ B ∧ B < 131072 := by omega
    have e2 : 128 * (i.imm / 2048 % 2) + 256 * (i.imm / 2 % 16) + 32768 * (i.rs1 % 32) + 1048576 * (i.rs2 % 32) + 33554432 * (i.imm / 32 % 64) + 2147483648 * (i.imm / 4096 % 2) = 128 * A + 32768 * B := by omega
    have ha : 0 ≤ A ∧ A < 32 := by omega
    rw [e2]; clear e2 hA hB
    rw [Rv.or_two 15 (by omega) (by omega) (by omega) (by omega) (by omega) (by omega) (by omega)]
    rw [Rv.orhole (y := 128 * A) 7 12 (by decide) (by omega) (by omega) (by omega) (by omega) (by omega) (by omega) (by omega)]
    rw [Rv.orhole 15 32 (by decide) (by omega) (by omega) (by omega) (by omega) (by omega) (by omega) (by omega)]; omega
  · obtain ⟨n, o, f3, f7, _, _, _, _, _, _, _, e, bo, b3, b7, z3, z7⟩ := Rv.wo_parts h.1 (by omega)
    have z7' := z7 (by omega)
    rw [Rv.cho_4 l, e]
    obtain ⟨A, hA⟩ : ∃ A, i.imm % 32 = A := ⟨_, rfl⟩
    obtain ⟨B, hB⟩ : ∃ B, i.rs1 % 32 + 32 * (i.rs2 % 32) + 1024 * (i.imm / 32 % 128) = B := ⟨_, rfl⟩
    have hb : 0 ≤ B ∧ B < 131072 := by omega
    have e2 : 128 * (i.imm % 32) + 32768 * (i.rs1 % 32) + 1048576 * (i.rs2 % 32) + 33554432 * (i.imm / 32 % 128) = 128 * A + 32768 * B := by omega
    have ha : 0 ≤ A ∧ A < 32 := by omega
    rw [e2]; clear e2 hA hB
    rw [Rv.or_two 15 (by omega) (by omega) (by omega) (by omega) (by omega) (by omega) (by omega)]
    rw [Rv.orhole (y := 128 * A) 7 12 (by decide) (by omega) (by omega) (by omega) (by omega) (by omega) (by omega) (by omega)]
    rw [Rv.orhole 15 32 (by decide) (by omega) (by omega) (by omega) (by omega) (by omega) (by omega) (by omega)]; omega
  · obtain ⟨n, o, f3, f7, _, _, _, _, _, _, _, e, bo, b3, b7, z3, z7⟩ := Rv.wo_parts h.1 (by omega)
    have z7' := z7 (by omega)
    rw [Rv.cho_5 l, e]
    obtain ⟨A, hA⟩ : ∃ A, i.rd % 32 = A := ⟨_, rfl⟩
    obtain ⟨B, hB⟩ : ∃ B, i.rs1 % 32 + 32 * (i.imm % 4096) = B := ⟨_, rfl⟩
    have hb : 0 ≤ B ∧ B < 131072 := by omega
    have e2 : 128 * (i.rd % 32) + 32768 * (i.rs1 % 32) + 1048576 * (i.imm % 4096) = 128 * A + 32768 * B := by omega
    have ha : 0 ≤ A ∧ A < 32 := by omega
    rw [e2]; clear e2 hA hB
    rw [Rv.or_two 15 (by omega) (by omega) (by omega) (by omega) (by omega) (by omega) (by omega)]
    rw [Rv.orhole (y := 128 * A) 7 12 (by decide) (by omega) (by omega) (by omega) (by omega) (by omega) (by omega) (by omega)]
    rw [Rv.orhole 15 32 (by decide) (by omega) (by omega) (by omega) (by omega) (by omega) (by omega) (by omega)]; omega
  · obtain ⟨n, o, f3, f7, _, _, _, _, _, _, _, e, bo, b3, b7, z3, z7⟩ := Rv.wo_parts h.1 (by omega)
    rw [Rv.cho_6 l, e]
    obtain ⟨A, hA⟩ : ∃ A, i.rd % 32 = A := ⟨_, rfl⟩
    obtain ⟨B, hB⟩ : ∃ B, i.rs1 % 32 + 32 * (i.imm % 32) = B := ⟨_, rfl⟩
    have hb : 0 ≤ B ∧ B < 1024 := by omega
    have e2 : 128 * (i.rd % 32) + 32768 * (i.rs1 % 32) + 1048576 * (i.imm % 32) = 128 * A + 32768 * B := by omega
    have ha : 0 ≤ A ∧ A < 32 := by omega
    rw [e2]; clear e2 hA hB
    rw [Rv.or_two 15 (by omega) (by omega) (by omega) (by omega) (by omega) (by omega) (by omega)]
    rw [Rv.orhole (y := 128 * A) 7 12 (by decide) (by omega) (by omega) (by omega) (by omega) (by omega) (by omega) (by omega)]
    rw [Rv.orhole 15 25 (by decide) (by omega) (by omega) (by omega) (by omega) (by omega) (by omega) (by omega)]; omega
  · obtain ⟨n, o, f3, f7, _, _, _, _, _, _, _, e, bo, b3, b7, z3, z7⟩ := Rv.wo_parts h.1 (by omega)
    rw [Rv.cho_7 l, e]
    obtain ⟨A, hA⟩ : ∃ A, i.rd % 32 = A := ⟨_, rfl⟩
    obtain ⟨B, hB⟩ : ∃ B, i.rs1 % 32 + 32 * (i.rs2 % 32) = B := ⟨_, rfl⟩
    have hb : 0 ≤ B ∧ B < 1024 := by omega
    have e2 : 128 * (i.rd % 32) + 32768 * (i.rs1 % 32) + 1048576 * (i.rs2 % 32) = 128 * A + 32768 * B := by omega
    have ha : 0 ≤ A ∧ A < 32 := by omega
    rw [e2]; clear e2 hA hB
    rw [Rv.or_two 15 (by omega) (by omega) (by omega) (by omega) (by omega) (by omega) (by omega)]
    rw [Rv.orhole (y := 128 * A) 7 12 (by decide) (by omega) (by omega) (by omega) (by omega) (by omega) (by omega) (by omega)]
    rw [Rv.orhole 15 25 (by decide) (by omega) (by omega) (by omega) (by omega) (by omega) (by omega) (by omega)]; omega
  · rw [Rv.cho_0 l]
    obtain h | h | h | h : i.op = 46 ∨ i.op = 47 ∨ i.op = 48 ∨ i.op = 49 := by omega
    all_goals (rw [h]; decide +kernel)
theorem Rv.eqlIns (i k : Rv.Ins) (w : World) : (Op.equalIn 10000 29 (.agg #[.int .i64 i.op, .int .i64 i.rd, .int .i64 i.rs1, .int .i64 i.rs2, .int .i32 i.imm]) (.agg #[.int .i64 k.op, .int .i64 k.rd, .int .i64 k.rs1, .int .i64 k.rs2, .int .i32 k.imm])).run Tryd.prog w = .ok (i.op == k.op && i.rd == k.rd && i.rs1 == k.rs1 && i.rs2 == k.rs2 && i.imm == k.imm) w := by
  rw [show (10000 : Nat) = 9999 + 1 from rfl]
  go_simp
  by_cases h0 : i.op = k.op <;> by_cases h1 : i.rd = k.rd <;> by_cases h2 : i.rs1 = k.rs1 <;> by_cases h3 : i.rs2 = k.rs2 <;> by_cases h4 : i.imm = k.imm <;> simp [h0, h1, h2, h3, h4]
theorem Rv.eqF {i k : Rv.Ins} (h : ¬ i = k) : (i.op == k.op && i.rd == k.rd && i.rs1 == k.rs1 && i.rs2 == k.rs2 && i.imm == k.imm) = false := by
  rw [Rv.Ins.ext_iff] at h
  cases hx : (i.op == k.op && i.rd == k.rd && i.rs1 == k.rs1 && i.rs2 == k.rs2 && i.imm == k.imm)
  · rfl
  · simp at hx; exact absurd ⟨hx.1.1.1.1, hx.1.1.1.2, hx.1.1.2, hx.1.2, hx.2⟩ h
theorem Rv.neqIns {i k : Rv.Ins} (h : ¬ i = k) (w : World) : (binOp .neq 29 (.agg #[.int .i64 i.op, .int .i64 i.rd, .int .i64 i.rs1, .int .i64 i.rs2, .int .i32 i.imm]) (.agg #[.int .i64 k.op, .int .i64 k.rd, .int .i64 k.rs1, .int .i64 k.rs2, .int .i32 k.imm])).run Tryd.prog w = .ok (.bool true) w := by
  rw [run_neq_struct, Rv.eqlIns, Rv.eqF h]; rfl
theorem Rv.eqlInsF {i k : Rv.Ins} (h : ¬ i = k) (w : World) : (binOp .eql 29 (.agg #[.int .i64 i.op, .int .i64 i.rd, .int .i64 i.rs1, .int .i64 i.rs2, .int .i32 i.imm]) (.agg #[.int .i64 k.op, .int .i64 k.rd, .int .i64 k.rs1, .int .i64 k.rs2, .int .i32 k.imm])).run Tryd.prog w = .ok (.bool false) w := by
  rw [run_eql_struct, Rv.eqlIns, Rv.eqF h]; rfl
theorem Encode_unknown (i : Rv.Ins) (w : World) (h : ¬ (1 ≤ i.op ∧ i.op ≤ 49)) :
    Calls Tryd.prog 20 #[Rv.iv i] w fun e w' => e = .returned (.tuple #[.int .u32 0, .int .i64 1]) ∧ Gr w w' := by
  unfold Rv.iv
  have hk : decide (1 ≤ i.op ∧ i.op ≤ 49) = false := by simpa using h
  go_enter Tryd.func20, Tryd.ntmps20
  go_wp2_with (go_at_call 45; refine (known_c _ _).mono ?_; rintro e w' ⟨rfl, rfl⟩; rw [hk])
  go_returns
  exact ⟨rfl, by (repeat' (first | (with_reducible assumption) | (with_reducible exact Gr.refl _) | (with_reducible refine Gr.alloc ?_ _ _) | (with_reducible refine Gr.drew ?_) | (with_reducible refine Gr.drewN ?_ _) | (with_reducible refine Gr.setCell ?_ ?_ _) | (with_reducible refine Gr.trans ?_ (by assumption)) | omega | (dsimp only; omega) | (simp; done) | (simp; omega)))⟩

theorem Encode_good (i : Rv.Ins) (w : World) (ht : Tabs w) (hm : -2147483648 ≤ i.imm ∧ i.imm < 2147483648) (h : Rv.good i) :
    Calls Tryd.prog 20 #[Rv.iv i] w fun e w' => e = .returned (.tuple #[.int .u32 (Rv.enc i), .int .i64 0]) ∧ Gr w w' := by
  unfold Rv.iv
  have hk : decide (1 ≤ i.op ∧ i.op ≤ 49) = true := by simpa using h.1
  have o0 : 0 ≤ i.op := by have := h.1; omega
  have o1 : i.op < 50 := by have := h.1; omega
  have hu := Rv.enc_U32 h.1
  have hd := Rv.dec_enc h hm
  have hwo : w.cell? ⟨0, i.op.toNat, none⟩ = some (.int .u32 (Rv.wo i.op)) := ht.wo i.op.toNat (by omega)
  have hor : bits .or .u32 (Rv.wo i.op) (Rv.cho i) = Rv.enc i := Rv.or_enc h.1
  go_enter Tryd.func20, Tryd.ntmps20
  go_wp2_with (go_at_call 45; refine (known_c _ _).mono ?_; rintro e w' ⟨rfl, rfl⟩; rw [hk])
  have g1 := Gr.refl (w.alloc (.cells #[.int .i64 i.op, .int .i64 i.rd, .int .i64 i.rs1, .int .i64 i.rs2, .int .i32 i.imm] 29))
  go_region_held3 (fun wr => wr.cell? ⟨0, i.op.toNat, none⟩ = some (.int .u32 (Rv.wo i.op)) ∧ wr.cell? ⟨w.heap.size, 0, none⟩ = some (.int .i64 i.op) ∧ wr.cell? ⟨w.heap.size, 1, none⟩ = some (.int .i64 i.rd) ∧ wr.cell? ⟨w.heap.size, 2, none⟩ = some (.int .i64 i.rs1) ∧ wr.cell? ⟨w.heap.size, 3, none⟩ = some (.int .i64 i.rs2) ∧ wr.cell? ⟨w.heap.size, 4, none⟩ = some (.int .i32 i.imm))
    (first | exact ⟨(Rv.dropGr g1).keep hwo, Rv.ibox g1⟩ | exact ⟨(Rv.dropGr g1.drew).keep hwo, Rv.ibox g1.drew⟩)
    (first | (go_at_call 46; refine (chosen_c i _).mono ?_; rintro e w2 ⟨rfl, h2⟩; (first | replace g1 := g1.trans h2 | replace g1 := g1.drew.trans h2); clear h2))
  go_wp2_with fail
  go_region_held3 (fun wr => wr.cell? ⟨w.heap.size, 0, none⟩ = some (.int .i64 i.op) ∧ wr.cell? ⟨w.heap.size, 1, none⟩ = some (.int .i64 i.rd) ∧ wr.cell? ⟨w.heap.size, 2, none⟩ = some (.int .i64 i.rs1) ∧ wr.cell? ⟨w.heap.size, 3, none⟩ = some (.int .i64 i.rs2) ∧ wr.cell? ⟨w.heap.size, 4, none⟩ = some (.int .i32 i.imm))
    (first | exact Rv.ibox g1 | exact Rv.ibox g1.drew)
    (first | (go_at_call 47; refine (Decode_c _ hu.1 hu.2 _ (ht.gr (Rv.dropGr g1).drew)).mono ?_; rintro e w2 ⟨rfl, h2⟩; rw [hd]; unfold Rv.iv; (first | replace g1 := g1.trans h2 | replace g1 := g1.drew.trans h2); clear h2))
  go_wp2
  go_returns
  exact ⟨rfl, Rv.dropGr g1⟩
theorem Encode_known (i : Rv.Ins) (w : World) (ht : Tabs w) (hm : -2147483648 ≤ i.imm ∧ i.imm < 2147483648) (hop : 1 ≤ i.op ∧ i.op ≤ 49) (h : ¬ Rv.good i) :
    Calls Tryd.prog 20 #[Rv.iv i] w fun e w' => e = .returned (.tuple #[.int .u32 0, .int .i64 1]) ∧ Gr w w' := by
  unfold Rv.iv
  have hk : decide (1 ≤ i.op ∧ i.op ≤ 49) = true := by simpa using hop
  have o0 : 0 ≤ i.op := by have := hop; omega
  have o1 : i.op < 50 := by have := hop; omega
  have hu := Rv.enc_U32 hop
  have hne : ¬ Rv.dec (Rv.enc i) = i := fun e => h ((Rv.dec_enc_iff hop hm).1 e)
  obtain ⟨d, hd⟩ : ∃ d, Rv.dec (Rv.enc i) = d := ⟨_, rfl⟩
  rw [hd] at hne
  have hq := fun w => Rv.neqIns hne w
  clear hne
  have hwo : w.cell? ⟨0, i.op.toNat, none⟩ = some (.int .u32 (Rv.wo i.op)) := ht.wo i.op.toNat (by omega)
  have hor : bits .or .u32 (Rv.wo i.op) (Rv.cho i) = Rv.enc i := Rv.or_enc hop
  go_enter Tryd.func20, Tryd.ntmps20
  go_wp2_with (go_at_call 45; refine (known_c _ _).mono ?_; rintro e w' ⟨rfl, rfl⟩; rw [hk])
  have g1 := Gr.refl (w.alloc (.cells #[.int .i64 i.op, .int .i64 i.rd, .int .i64 i.rs1, .int .i64 i.rs2, .int .i32 i.imm] 29))
  go_region_held3 (fun wr => wr.cell? ⟨0, i.op.toNat, none⟩ = some (.int .u32 (Rv.wo i.op)) ∧ wr.cell? ⟨w.heap.size, 0, none⟩ = some (.int .i64 i.op) ∧ wr.cell? ⟨w.heap.size, 1, none⟩ = some (.int .i64 i.rd) ∧ wr.cell? ⟨w.heap.size, 2, none⟩ = some (.int .i64 i.rs1) ∧ wr.cell? ⟨w.heap.size, 3, none⟩ = some (.int .i64 i.rs2) ∧ wr.cell? ⟨w.heap.size, 4, none⟩ = some (.int .i32 i.imm))
    (first | exact ⟨(Rv.dropGr g1).keep hwo, Rv.ibox g1⟩ | exact ⟨(Rv.dropGr g1.drew).keep hwo, Rv.ibox g1.drew⟩)
    (first | (go_at_call 46; refine (chosen_c i _).mono ?_; rintro e w2 ⟨rfl, h2⟩; (first | replace g1 := g1.trans h2 | replace g1 := g1.drew.trans h2); clear h2))
  go_wp2_with fail
  go_region_held3 (fun wr => wr.cell? ⟨w.heap.size, 0, none⟩ = some (.int .i64 i.op) ∧ wr.cell? ⟨w.heap.size, 1, none⟩ = some (.int .i64 i.rd) ∧ wr.cell? ⟨w.heap.size, 2, none⟩ = some (.int .i64 i.rs1) ∧ wr.cell? ⟨w.heap.size, 3, none⟩ = some (.int .i64 i.rs2) ∧ wr.cell? ⟨w.heap.size, 4, none⟩ = some (.int .i32 i.imm))
    (first | exact Rv.ibox g1 | exact Rv.ibox g1.drew)
    (first | (go_at_call 47; refine (Decode_c _ hu.1 hu.2 _ (ht.gr (Rv.dropGr g1).drew)).mono ?_; rintro e w2 ⟨rfl, h2⟩; rw [hd]; unfold Rv.iv; (first | replace g1 := g1.trans h2 | replace g1 := g1.drew.trans h2); clear h2))
  go_wp2
  go_returns
  exact ⟨rfl, Rv.dropGr g1⟩

theorem Encode_bad (i : Rv.Ins) (w : World) (ht : Tabs w) (hm : -2147483648 ≤ i.imm ∧ i.imm < 2147483648) (h : ¬ Rv.good i) :
    Calls Tryd.prog 20 #[Rv.iv i] w fun e w' => e = .returned (.tuple #[.int .u32 0, .int .i64 1]) ∧ Gr w w' := by
  by_cases hop : 1 ≤ i.op ∧ i.op ≤ 49
  · exact Encode_known i w ht hm hop h
  · exact Encode_unknown i w hop
end Go.Proofs.YtllgkofibkobnaaDoor
namespace Go.Proofs.YtllgkofibkobnaaDoor
open Go.ChangeShapes Go.WideShapes Go.ChangeAt Go.RowKit

def Rv.nmT : List (List UInt8) := [[], [108, 117, 105], [97, 117, 105, 112, 99], [106, 97, 108], [106, 97, 108, 114], [98, 101, 113], [98, 110, 101], [98, 108, 116], [98, 103, 101], [98, 108, 116, 117], [98, 103, 101, 117], [108, 98], [108, 104], [108, 119], [108, 98, 117], [108, 104, 117], [115, 98], [115, 104], [115, 119], [97, 100, 100, 105], [115, 108, 116, 105], [115, 108, 116, 105, 117], [120, 111, 114, 105], [111, 114, 105], [97, 110, 100, 105], [115, 108, 108, 105], [115, 114, 108, 105], [115, 114, 97, 105], [97, 100, 100], [115, 117, 98], [115, 108, 108], [115, 108, 116], [115, 108, 116, 117], [120, 111, 114], [115, 114, 108], [115, 114, 97], [111, 114], [97, 110, 100], [109, 117, 108], [109, 117, 108, 104], [109, 117, 108, 104, 115, 117], [109, 117, 108, 104, 117], [100, 105, 118], [100, 105, 118, 117], [114, 101, 109], [114, 101, 109, 117], [102, 101, 110, 99, 101], [102, 101, 110, 99, 101, 46, 105], [101, 99, 97, 108, 108], [101, 98, 114, 101, 97, 107]]
def Rv.nmS (i : Nat) : ByteArray := ⟨(Rv.nmT.getD i []).toArray⟩
def Rv.name (op : Int) : ByteArray := if 1 ≤ op ∧ op ≤ 49 then Rv.nmS op.toNat else ByteArray.empty
/-- Package rv's names hold what their text says. -/
def NTab (w : World) : Prop := ∀ i : Nat, i < 50 → w.cell? ⟨1, i, none⟩ = some (.string (Rv.nmS i))
theorem NTab.gr {w w' : World} (h : NTab w) (g : Gr w w') : NTab w' := fun i hi => g.keep (h i hi)
theorem Rv.ret_str {a b : ByteArray} (h : a = b) : Ending.returned (.string a) = .returned (.string b) := by rw [h]

theorem Name_c (op : Int) (w : World) (ht : NTab w) :
    Calls Tryd.prog 21 #[.int .i64 op] w fun e w' => e = .returned (.string (Rv.name op)) ∧ w' = w := by
  by_cases h : 1 ≤ op ∧ op ≤ 49
  · have hk : decide (1 ≤ op ∧ op ≤ 49) = true := by simpa using h
    have hc := ht op.toNat (by omega)
    have hn : Rv.name op = Rv.nmS op.toNat := by unfold Rv.name; rw [if_pos h]
    rw [hn]
    generalize Rv.nmS op.toNat = s at hc
    have o0 : 0 ≤ op := by omega
    have o1 : op < 50 := by omega
    clear h
    go_enter Tryd.func21, Tryd.ntmps21
    go_wp2_with (go_at_call 45; refine (known_c _ _).mono ?_; rintro e w' ⟨rfl, rfl⟩; rw [hk])
    go_ret
    exact ⟨rfl, rfl⟩
  · have hk : decide (1 ≤ op ∧ op ≤ 49) = false := by simpa using h
    have hn : Rv.name op = ByteArray.empty := by unfold Rv.name; rw [if_neg h]
    rw [hn]; clear h
    go_enter Tryd.func21, Tryd.ntmps21
    go_wp2_with (go_at_call 45; refine (known_c _ _).mono ?_; rintro e w' ⟨rfl, rfl⟩; rw [hk])
    go_ret
    exact ⟨rfl, rfl⟩
end Go.Proofs.YtllgkofibkobnaaDoor
