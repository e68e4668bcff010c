/- LAYER 5's walks: what an instruction chooses of a word. -/
import Derived.Test.YthkampohgbddnaaDoorRvDec
namespace Go.Proofs.YthkampohgbddnaaDoor
open Go.ChangeShapes Go.WideShapes Go.ChangeAt Go.RowKit

/-- 'or' with what lies in a hole is the sum. -/
theorem Rv.orhole {x y : Int} (lo hi : Nat) (hl : lo ≤ hi) (hx0 : 0 ≤ x) (hx1 : x < 4294967296) (hx : x % 2 ^ hi < 2 ^ lo) (hy0 : 0 ≤ y) (hy1 : y < 4294967296) (hy : y % 2 ^ lo = 0) (hy2 : y < 2 ^ hi) : bits .or .u32 x y = x + y := by
  rw [u32_or x y hx0 hx1 hy0 hy1]
  obtain ⟨a, rfl⟩ := Int.eq_ofNat_of_zero_le hx0
  obtain ⟨b, rfl⟩ := Int.eq_ofNat_of_zero_le hy0
  have hx' : a % 2 ^ hi < 2 ^ lo := by exact_mod_cast hx
  have hy' : b % 2 ^ lo = 0 := by exact_mod_cast hy
  have hy2' : b < 2 ^ hi := by exact_mod_cast hy2
  simp only [Int.toNat_natCast]
  have e1 : a = 2 ^ hi * (a / 2 ^ hi) ||| a % 2 ^ hi := by
    rw [← Nat.two_pow_add_eq_or_of_lt (Nat.mod_lt _ (Nat.two_pow_pos hi))]; exact (Nat.div_add_mod a (2 ^ hi)).symm
  have hb : b = 2 ^ lo * (b / 2 ^ lo) := by have := Nat.div_add_mod b (2 ^ lo); omega
  have e2 : a % 2 ^ hi ||| b = b + a % 2 ^ hi := by
    rw [Nat.or_comm, hb, ← Nat.two_pow_add_eq_or_of_lt hx']
  have hp : 2 ^ hi = 2 ^ lo * 2 ^ (hi - lo) := by rw [← Nat.pow_add]; congr 1; omega
  have e3 : b + a % 2 ^ hi < 2 ^ hi := by
    have h1 : b / 2 ^ lo < 2 ^ (hi - lo) := by
      rw [Nat.div_lt_iff_lt_mul (Nat.two_pow_pos lo), Nat.mul_comm, ← hp]; exact hy2'
    have h2 : b + 2 ^ lo ≤ 2 ^ hi := by
      rw [hp]; calc b + 2 ^ lo = 2 ^ lo * (b / 2 ^ lo + 1) := by rw [Nat.mul_add, Nat.mul_one, ← hb]
        _ ≤ 2 ^ lo * 2 ^ (hi - lo) := Nat.mul_le_mul_left _ h1
    omega
  have e4 : a ||| b = a + b := by
    conv => lhs; rw [e1]
    rw [Nat.or_assoc, e2, ← Nat.two_pow_add_eq_or_of_lt e3]
    have := Nat.div_add_mod a (2 ^ hi); omega
  rw [e4]; simp

theorem Rv.fm_0_5 (m : Int) : Rv.fb (m % 4294967296) 0 5 = m % 32 := by rw [Rv.fb_0_5]; omega
theorem Rv.fm_12_20 (m : Int) : Rv.fb (m % 4294967296) 12 20 = m / 4096 % 1048576 := by rw [Rv.fb_12_20]; omega
theorem Rv.fm_20_1 (m : Int) : Rv.fb (m % 4294967296) 20 1 = m / 1048576 % 2 := by rw [Rv.fb_20_1]; omega
theorem Rv.fm_1_10 (m : Int) : Rv.fb (m % 4294967296) 1 10 = m / 2 % 1024 := by rw [Rv.fb_1_10]; omega
theorem Rv.fm_11_1 (m : Int) : Rv.fb (m % 4294967296) 11 1 = m / 2048 % 2 := by rw [Rv.fb_11_1]; omega
theorem Rv.fm_12_8 (m : Int) : Rv.fb (m % 4294967296) 12 8 = m / 4096 % 256 := by rw [Rv.fb_12_8]; omega
theorem Rv.fm_12_1 (m : Int) : Rv.fb (m % 4294967296) 12 1 = m / 4096 % 2 := by rw [Rv.fb_12_1]; omega
theorem Rv.fm_5_6 (m : Int) : Rv.fb (m % 4294967296) 5 6 = m / 32 % 64 := by rw [Rv.fb_5_6]; omega
theorem Rv.fm_1_4 (m : Int) : Rv.fb (m % 4294967296) 1 4 = m / 2 % 16 := by rw [Rv.fb_1_4]; omega
theorem Rv.fm_5_7 (m : Int) : Rv.fb (m % 4294967296) 5 7 = m / 32 % 128 := by rw [Rv.fb_5_7]; omega
theorem Rv.fm_0_12 (m : Int) : Rv.fb (m % 4294967296) 0 12 = m % 4096 := by rw [Rv.fb_0_12]; omega

set_option maxHeartbeats 1600000 in
theorem chosen_c (i : Rv.Ins) (w : World) :
    Calls Tryd.prog 35 #[Rv.iv i] w fun e w' => e = .returned (.int .u32 (Rv.cho i)) ∧ Gr w w' := by
  rcases Rv.lay_cases i.op with ⟨l, c⟩ | ⟨l, c⟩ | ⟨l, c⟩ | ⟨l, c⟩ | ⟨l, c⟩ | ⟨l, c⟩ | ⟨l, c⟩ | ⟨l, c⟩
  · clear c
    unfold Rv.iv
    go_enter Tryd.func35, Tryd.ntmps35
    go_wp2_with (first | (go_at_call 58; refine (bits_c _ _ _ (by omega) (by omega) (by decide) _).mono ?_; rintro e w' ⟨rfl, rfl⟩) | (go_at_call 59; refine (layout_c _ _).mono ?_; rintro e w' ⟨rfl, rfl⟩; rw [l]))
    go_ret
    refine ⟨Rv.ret_int ?_, by (repeat' (first | (with_reducible assumption) | (with_reducible exact Gr.refl _) | (with_reducible refine Gr.alloc ?_ _ _) | (with_reducible refine Gr.drew ?_) | (with_reducible refine Gr.drewN ?_ _) | (with_reducible refine Gr.setCell ?_ ?_ _) | (with_reducible refine Gr.trans ?_ (by assumption)) | omega | (dsimp only; omega) | (simp; done) | (simp; omega)))⟩
    rw [Rv.cho_1 l, Rv.fm_0_5, Rv.fm_12_20]
    have b1 : 0 ≤ i.rd % 32 ∧ i.rd % 32 < 32 := by omega
    have b2 : 0 ≤ i.imm / 4096 % 1048576 ∧ i.imm / 4096 % 1048576 < 1048576 := by omega
    generalize i.rd % 32 = r at *; generalize i.imm / 4096 % 1048576 = p1 at *
    rw [Rv.orhole 12 32 (by decide) (by omega) (by omega) (by omega) (by omega) (by omega) (by omega) (by omega)]; omega
  · clear c
    unfold Rv.iv
    go_enter Tryd.func35, Tryd.ntmps35
    go_wp2_with (first | (go_at_call 58; refine (bits_c _ _ _ (by omega) (by omega) (by decide) _).mono ?_; rintro e w' ⟨rfl, rfl⟩) | (go_at_call 59; refine (layout_c _ _).mono ?_; rintro e w' ⟨rfl, rfl⟩; rw [l]))
    go_ret
    refine ⟨Rv.ret_int ?_, by (repeat' (first | (with_reducible assumption) | (with_reducible exact Gr.refl _) | (with_reducible refine Gr.alloc ?_ _ _) | (with_reducible refine Gr.drew ?_) | (with_reducible refine Gr.drewN ?_ _) | (with_reducible refine Gr.setCell ?_ ?_ _) | (with_reducible refine Gr.trans ?_ (by assumption)) | omega | (dsimp only; omega) | (simp; done) | (simp; omega)))⟩
    rw [Rv.cho_2 l, Rv.fm_0_5, Rv.fm_20_1, Rv.fm_1_10, Rv.fm_11_1, Rv.fm_12_8]
    have b1 : 0 ≤ i.rd % 32 ∧ i.rd % 32 < 32 := by omega
    have b2 : 0 ≤ i.imm / 4096 % 256 ∧ i.imm / 4096 % 256 < 256 := by omega
    have b3 : 0 ≤ i.imm / 2048 % 2 ∧ i.imm / 2048 % 2 < 2 := by omega
    have b4 : 0 ≤ i.imm / 2 % 1024 ∧ i.imm / 2 % 1024 < 1024 := by omega
    have b5 : 0 ≤ i.imm / 1048576 % 2 ∧ i.imm / 1048576 % 2 < 2 := by omega
    generalize i.rd % 32 = r at *; generalize i.imm / 4096 % 256 = p1 at *; generalize i.imm / 2048 % 2 = p2 at *; generalize i.imm / 2 % 1024 = p3 at *; generalize i.imm / 1048576 % 2 = p4 at *
    have a0 : r * 128 % 4294967296 = 128 * r := by omega
    have a1 : p1 * 4096 % 4294967296 = 4096 * p1 := by omega
    have a2 : p2 * 1048576 % 4294967296 = 1048576 * p2 := by omega
    have a3 : p3 * 2097152 % 4294967296 = 2097152 * p3 := by omega
    have a4 : p4 * 2147483648 % 4294967296 = 2147483648 * p4 := by omega
    rw [a0, a1, a2, a3, a4]
    rw [Rv.orhole (x := 128 * r) (y := 2147483648 * p4) 31 32 (by decide) (by omega) (by omega) (by omega) (by omega) (by omega) (by omega) (by omega)]
    rw [Rv.orhole (x := 128 * r + 2147483648 * p4) (y := 2097152 * p3) 21 31 (by decide) (by omega) (by omega) (by omega) (by omega) (by omega) (by omega) (by omega)]
    rw [Rv.orhole (x := 128 * r + 2147483648 * p4 + 2097152 * p3) (y := 1048576 * p2) 20 21 (by decide) (by omega) (by omega) (by omega) (by omega) (by omega) (by omega) (by omega)]
    rw [Rv.orhole (y := 4096 * p1) 12 20 (by decide) (by omega) (by omega) (by omega) (by omega) (by omega) (by omega) (by omega)]; omega
  · clear c
    unfold Rv.iv
    go_enter Tryd.func35, Tryd.ntmps35
    go_wp2_with (first | (go_at_call 58; refine (bits_c _ _ _ (by omega) (by omega) (by decide) _).mono ?_; rintro e w' ⟨rfl, rfl⟩) | (go_at_call 59; refine (layout_c _ _).mono ?_; rintro e w' ⟨rfl, rfl⟩; rw [l]))
    go_ret
    refine ⟨Rv.ret_int ?_, by (repeat' (first | (with_reducible assumption) | (with_reducible exact Gr.refl _) | (with_reducible refine Gr.alloc ?_ _ _) | (with_reducible refine Gr.drew ?_) | (with_reducible refine Gr.drewN ?_ _) | (with_reducible refine Gr.setCell ?_ ?_ _) | (with_reducible refine Gr.trans ?_ (by assumption)) | omega | (dsimp only; omega) | (simp; done) | (simp; omega)))⟩
    rw [Rv.cho_3 l, Rv.fm_0_5, Rv.fm_0_5, Rv.fm_12_1, Rv.fm_5_6, Rv.fm_1_4, Rv.fm_11_1]
    have b0 : 0 ≤ i.rs1 % 32 ∧ i.rs1 % 32 < 32 := by omega
    have b1 : 0 ≤ i.rs2 % 32 ∧ i.rs2 % 32 < 32 := by omega
    have b2 : 0 ≤ i.imm / 4096 % 2 ∧ i.imm / 4096 % 2 < 2 := by omega
    have b3 : 0 ≤ i.imm / 32 % 64 ∧ i.imm / 32 % 64 < 64 := by omega
    have b4 : 0 ≤ i.imm / 2 % 16 ∧ i.imm / 2 % 16 < 16 := by omega
    have b5 : 0 ≤ i.imm / 2048 % 2 ∧ i.imm / 2048 % 2 < 2 := by omega
    generalize i.rs1 % 32 = s at *; generalize i.rs2 % 32 = t at *; generalize i.imm / 4096 % 2 = p4 at *; generalize i.imm / 32 % 64 = p3 at *; generalize i.imm / 2 % 16 = p2 at *; generalize i.imm / 2048 % 2 = p1 at *
    have a0 : s * 32768 % 4294967296 = 32768 * s := by omega
    have a1 : t * 1048576 % 4294967296 = 1048576 * t := by omega
    have a2 : p4 * 2147483648 % 4294967296 = 2147483648 * p4 := by omega
    have a3 : p3 * 33554432 % 4294967296 = 33554432 * p3 := by omega
    have a4 : p2 * 256 % 4294967296 = 256 * p2 := by omega
    have a5 : p1 * 128 % 4294967296 = 128 * p1 := by omega
    rw [a0, a1, a2, a3, a4, a5]
    rw [Rv.orhole (x := 32768 * s) (y := 1048576 * t) 20 32 (by decide) (by omega) (by omega) (by omega) (by omega) (by omega) (by omega) (by omega)]
    rw [Rv.orhole (x := 32768 * s + 1048576 * t) (y := 2147483648 * p4) 31 32 (by decide) (by omega) (by omega) (by omega) (by omega) (by omega) (by omega) (by omega)]
    rw [Rv.orhole (x := 32768 * s + 1048576 * t + 2147483648 * p4) (y := 33554432 * p3) 25 31 (by decide) (by omega) (by omega) (by omega) (by omega) (by omega) (by omega) (by omega)]
    rw [Rv.orhole (x := 32768 * s + 1048576 * t + 2147483648 * p4 + 33554432 * p3) (y := 256 * p2) 8 12 (by decide) (by omega) (by omega) (by omega) (by omega) (by omega) (by omega) (by omega)]
    rw [Rv.orhole (y := 128 * p1) 7 8 (by decide) (by omega) (by omega) (by omega) (by omega) (by omega) (by omega) (by omega)]; omega
  · clear c
    unfold Rv.iv
    go_enter Tryd.func35, Tryd.ntmps35
    go_wp2_with (first | (go_at_call 58; refine (bits_c _ _ _ (by omega) (by omega) (by decide) _).mono ?_; rintro e w' ⟨rfl, rfl⟩) | (go_at_call 59; refine (layout_c _ _).mono ?_; rintro e w' ⟨rfl, rfl⟩; rw [l]))
    go_ret
    refine ⟨Rv.ret_int ?_, by (repeat' (first | (with_reducible assumption) | (with_reducible exact Gr.refl _) | (with_reducible refine Gr.alloc ?_ _ _) | (with_reducible refine Gr.drew ?_) | (with_reducible refine Gr.drewN ?_ _) | (with_reducible refine Gr.setCell ?_ ?_ _) | (with_reducible refine Gr.trans ?_ (by assumption)) | omega | (dsimp only; omega) | (simp; done) | (simp; omega)))⟩
    rw [Rv.cho_4 l, Rv.fm_0_5, Rv.fm_0_5, Rv.fm_0_5, Rv.fm_5_7]
    have b0 : 0 ≤ i.rs1 % 32 ∧ i.rs1 % 32 < 32 := by omega
    have b1 : 0 ≤ i.rs2 % 32 ∧ i.rs2 % 32 < 32 := by omega
    have b2 : 0 ≤ i.imm / 32 % 128 ∧ i.imm / 32 % 128 < 128 := by omega
    have b3 : 0 ≤ i.imm % 32 ∧ i.imm % 32 < 32 := by omega
    generalize i.rs1 % 32 = s at *; generalize i.rs2 % 32 = t at *; generalize i.imm / 32 % 128 = p2 at *; generalize i.imm % 32 = p1 at *
    have a0 : s * 32768 % 4294967296 = 32768 * s := by omega
    have a1 : t * 1048576 % 4294967296 = 1048576 * t := by omega
    have a3 : p2 * 33554432 % 4294967296 = 33554432 * p2 := by omega
    have a5 : p1 * 128 % 4294967296 = 128 * p1 := by omega
    rw [a0, a1, a3, a5]
    rw [Rv.orhole (x := 32768 * s) (y := 1048576 * t) 20 32 (by decide) (by omega) (by omega) (by omega) (by omega) (by omega) (by omega) (by omega)]
    rw [Rv.orhole (x := 32768 * s + 1048576 * t) (y := 33554432 * p2) 25 32 (by decide) (by omega) (by omega) (by omega) (by omega) (by omega) (by omega) (by omega)]
    rw [Rv.orhole (y := 128 * p1) 7 12 (by decide) (by omega) (by omega) (by omega) (by omega) (by omega) (by omega) (by omega)]; omega
  · clear c
    unfold Rv.iv
    go_enter Tryd.func35, Tryd.ntmps35
    go_wp2_with (first | (go_at_call 58; refine (bits_c _ _ _ (by omega) (by omega) (by decide) _).mono ?_; rintro e w' ⟨rfl, rfl⟩) | (go_at_call 59; refine (layout_c _ _).mono ?_; rintro e w' ⟨rfl, rfl⟩; rw [l]))
    go_ret
    refine ⟨Rv.ret_int ?_, by (repeat' (first | (with_reducible assumption) | (with_reducible exact Gr.refl _) | (with_reducible refine Gr.alloc ?_ _ _) | (with_reducible refine Gr.drew ?_) | (with_reducible refine Gr.drewN ?_ _) | (with_reducible refine Gr.setCell ?_ ?_ _) | (with_reducible refine Gr.trans ?_ (by assumption)) | omega | (dsimp only; omega) | (simp; done) | (simp; omega)))⟩
    rw [Rv.cho_5 l, Rv.fm_0_5, Rv.fm_0_5, Rv.fm_0_12]
    have b0 : 0 ≤ i.rd % 32 ∧ i.rd % 32 < 32 := by omega
    have b1 : 0 ≤ i.rs1 % 32 ∧ i.rs1 % 32 < 32 := by omega
    have b2 : 0 ≤ i.imm % 4096 ∧ i.imm % 4096 < 4096 := by omega
    generalize i.rd % 32 = r at *; generalize i.rs1 % 32 = s at *; generalize i.imm % 4096 = p at *
    have a0 : r * 128 % 4294967296 = 128 * r := by omega
    have a1 : s * 32768 % 4294967296 = 32768 * s := by omega
    have a2 : p * 1048576 % 4294967296 = 1048576 * p := by omega
    rw [a0, a1, a2]
    rw [Rv.orhole (x := 128 * r) (y := 32768 * s) 15 32 (by decide) (by omega) (by omega) (by omega) (by omega) (by omega) (by omega) (by omega)]
    rw [Rv.orhole (y := 1048576 * p) 20 32 (by decide) (by omega) (by omega) (by omega) (by omega) (by omega) (by omega) (by omega)]
  · clear c
    unfold Rv.iv
    go_enter Tryd.func35, Tryd.ntmps35
    go_wp2_with (first | (go_at_call 58; refine (bits_c _ _ _ (by omega) (by omega) (by decide) _).mono ?_; rintro e w' ⟨rfl, rfl⟩) | (go_at_call 59; refine (layout_c _ _).mono ?_; rintro e w' ⟨rfl, rfl⟩; rw [l]))
    go_ret
    refine ⟨Rv.ret_int ?_, by (repeat' (first | (with_reducible assumption) | (with_reducible exact Gr.refl _) | (with_reducible refine Gr.alloc ?_ _ _) | (with_reducible refine Gr.drew ?_) | (with_reducible refine Gr.drewN ?_ _) | (with_reducible refine Gr.setCell ?_ ?_ _) | (with_reducible refine Gr.trans ?_ (by assumption)) | omega | (dsimp only; omega) | (simp; done) | (simp; omega)))⟩
    rw [Rv.cho_6 l, Rv.fm_0_5, Rv.fm_0_5, Rv.fm_0_5]
    have b0 : 0 ≤ i.rd % 32 ∧ i.rd % 32 < 32 := by omega
    have b1 : 0 ≤ i.rs1 % 32 ∧ i.rs1 % 32 < 32 := by omega
    have b2 : 0 ≤ i.imm % 32 ∧ i.imm % 32 < 32 := by omega
    generalize i.rd % 32 = r at *; generalize i.rs1 % 32 = s at *; generalize i.imm % 32 = p at *
    have a0 : r * 128 % 4294967296 = 128 * r := by omega
    have a1 : s * 32768 % 4294967296 = 32768 * s := by omega
    have a2 : p * 1048576 % 4294967296 = 1048576 * p := by omega
    rw [a0, a1, a2]
    rw [Rv.orhole (x := 128 * r) (y := 32768 * s) 15 32 (by decide) (by omega) (by omega) (by omega) (by omega) (by omega) (by omega) (by omega)]
    rw [Rv.orhole (y := 1048576 * p) 20 32 (by decide) (by omega) (by omega) (by omega) (by omega) (by omega) (by omega) (by omega)]
  · clear c
    unfold Rv.iv
    go_enter Tryd.func35, Tryd.ntmps35
    go_wp2_with (first | (go_at_call 58; refine (bits_c _ _ _ (by omega) (by omega) (by decide) _).mono ?_; rintro e w' ⟨rfl, rfl⟩) | (go_at_call 59; refine (layout_c _ _).mono ?_; rintro e w' ⟨rfl, rfl⟩; rw [l]))
    go_ret
    refine ⟨Rv.ret_int ?_, by (repeat' (first | (with_reducible assumption) | (with_reducible exact Gr.refl _) | (with_reducible refine Gr.alloc ?_ _ _) | (with_reducible refine Gr.drew ?_) | (with_reducible refine Gr.drewN ?_ _) | (with_reducible refine Gr.setCell ?_ ?_ _) | (with_reducible refine Gr.trans ?_ (by assumption)) | omega | (dsimp only; omega) | (simp; done) | (simp; omega)))⟩
    rw [Rv.cho_7 l, Rv.fm_0_5, Rv.fm_0_5, Rv.fm_0_5]
    have b0 : 0 ≤ i.rd % 32 ∧ i.rd % 32 < 32 := by omega
    have b1 : 0 ≤ i.rs1 % 32 ∧ i.rs1 % 32 < 32 := by omega
    have b2 : 0 ≤ i.rs2 % 32 ∧ i.rs2 % 32 < 32 := by omega
    generalize i.rd % 32 = r at *; generalize i.rs1 % 32 = s at *; generalize i.rs2 % 32 = p at *
    have a0 : r * 128 % 4294967296 = 128 * r := by omega
    have a1 : s * 32768 % 4294967296 = 32768 * s := by omega
    have a2 : p * 1048576 % 4294967296 = 1048576 * p := by omega
    rw [a0, a1, a2]
    rw [Rv.orhole (x := 128 * r) (y := 32768 * s) 15 32 (by decide) (by omega) (by omega) (by omega) (by omega) (by omega) (by omega) (by omega)]
    rw [Rv.orhole (y := 1048576 * p) 20 32 (by decide) (by omega) (by omega) (by omega) (by omega) (by omega) (by omega) (by omega)]
  · clear c
    unfold Rv.iv
    go_enter Tryd.func35, Tryd.ntmps35
    go_wp2_with (first | (go_at_call 58; refine (bits_c _ _ _ (by omega) (by omega) (by decide) _).mono ?_; rintro e w' ⟨rfl, rfl⟩) | (go_at_call 59; refine (layout_c _ _).mono ?_; rintro e w' ⟨rfl, rfl⟩; rw [l]))
    go_ret
    refine ⟨Rv.ret_int ?_, by (repeat' (first | (with_reducible assumption) | (with_reducible exact Gr.refl _) | (with_reducible refine Gr.alloc ?_ _ _) | (with_reducible refine Gr.drew ?_) | (with_reducible refine Gr.drewN ?_ _) | (with_reducible refine Gr.setCell ?_ ?_ _) | (with_reducible refine Gr.trans ?_ (by assumption)) | omega | (dsimp only; omega) | (simp; done) | (simp; omega)))⟩
    rw [Rv.cho_0 l]
end Go.Proofs.YthkampohgbddnaaDoor
