/- LAYER 5's walks: Decode. · LAYER 5's walks: what an instruction chooses of a word. · LAYER 5's walks: Encode. · LAYER 5's walks: Name, Kind, Ends. · LAYER 5: the listed tables, off the row's condition. -/
import Derived.Test.YtbackacbdfgdoaaDoorK2
import Derived.Deep.RegionHeld3
import Derived.LaidMore
import Derived.Stop.Joined
import Derived.Lib.LaidTab
namespace Go.Proofs.YtbackacbdfgdoaaDoor
open Go.ChangeShapes Go.WideShapes Go.ChangeAt Go.RowKit

/-- An instruction as Go holds it. -/
def Rv.iv (i : Rv.Ins) : Value := .agg #[.int .i64 i.op, .int .i64 i.rd, .int .i64 i.rs1, .int .i64 i.rs2, .int .i32 i.imm]
theorem Rv.ret_iv {a b c d e : Int} {i : Rv.Ins} (h : i = ⟨a, b, c, d, e⟩) : Ending.returned (.agg #[.int .i64 a, .int .i64 b, .int .i64 c, .int .i64 d, .int .i32 e]) = .returned (Rv.iv i) := by rw [h]; rfl

set_option maxHeartbeats 1600000 in
theorem Decode_c (v : Int) (h0 : 0 ≤ v) (h1 : v < 4294967296) (w : World) (ht : Tabs w) :
    Calls Tryd.prog 32 #[.int .u32 v] w fun e w' => e = .returned (Rv.iv (Rv.dec v)) ∧ Gr w w' := by
  have hd : 0 ≤ Rv.fb v 7 5 ∧ Rv.fb v 7 5 < 32 := by rw [Rv.fb_7_5]; omega
  have hs : 0 ≤ Rv.fb v 15 5 ∧ Rv.fb v 15 5 < 32 := by rw [Rv.fb_15_5]; omega
  have h5 : 0 ≤ Rv.fb v 20 5 ∧ Rv.fb v 20 5 < 32 := by rw [Rv.fb_20_5]; omega
  obtain ⟨hd0, hd1⟩ := hd; obtain ⟨hs0, hs1⟩ := hs; obtain ⟨ht0, ht1⟩ := h5
  have ed : Rv.fb v 7 5 = Rv.fd v := by rw [Rv.fb_7_5]; rfl
  have es : Rv.fb v 15 5 = Rv.fs v := by rw [Rv.fb_15_5]; rfl
  have et : Rv.fb v 20 5 = Rv.ft v := by rw [Rv.fb_20_5]; rfl
  rcases Rv.lay_cases (Rv.opI v) with ⟨l, c⟩ | ⟨l, c⟩ | ⟨l, c⟩ | ⟨l, c⟩ | ⟨l, c⟩ | ⟨l, c⟩ | ⟨l, c⟩ | ⟨l, c⟩
  · clear c
    go_enter Tryd.func32, Tryd.ntmps32
    go_wp2_with (first | (go_at_call 66; refine (opOf_c v h0 h1 _ (ht.gr (Gr.alloc (Gr.refl _) _ _))).mono ?_; rintro e w' ⟨rfl, rfl⟩) | (go_at_call 67; refine (bits_c v _ _ h0 h1 (by decide) _).mono ?_; rintro e w' ⟨rfl, rfl⟩) | (go_at_call 68; refine (layout_c _ _).mono ?_; rintro e w' ⟨rfl, rfl⟩; rw [l]))
    go_returns
    refine ⟨Rv.ret_iv ?_, by (repeat' (first | (with_reducible assumption) | (with_reducible exact Gr.refl _) | (with_reducible refine Gr.alloc ?_ _ _) | (with_reducible refine Gr.drew ?_) | (with_reducible refine Gr.drewN ?_ _) | (with_reducible refine Gr.setCell ?_ ?_ _) | (with_reducible refine Gr.trans ?_ (by assumption)) | omega | (dsimp only; omega) | (simp; done) | (simp; omega)))⟩
    rw [Rv.dec_1 l]; refine Rv.Ins.ext_iff.2 ⟨rfl, rfl, rfl, rfl, ?_⟩; dsimp only; rw [Rv.fb_12_20]; unfold Rv.immU wrap32; omega
  · clear c
    go_enter Tryd.func32, Tryd.ntmps32
    go_wp2_with (first | (go_at_call 66; refine (opOf_c v h0 h1 _ (ht.gr (Gr.alloc (Gr.refl _) _ _))).mono ?_; rintro e w' ⟨rfl, rfl⟩) | (go_at_call 67; refine (bits_c v _ _ h0 h1 (by decide) _).mono ?_; rintro e w' ⟨rfl, rfl⟩) | (go_at_call 68; refine (layout_c _ _).mono ?_; rintro e w' ⟨rfl, rfl⟩; rw [l]) | (go_at_call 69; refine (jumpImm_c v h0 h1 _).mono ?_; rintro e w' ⟨rfl, rfl⟩))
    go_returns
    refine ⟨Rv.ret_iv ?_, by (repeat' (first | (with_reducible assumption) | (with_reducible exact Gr.refl _) | (with_reducible refine Gr.alloc ?_ _ _) | (with_reducible refine Gr.drew ?_) | (with_reducible refine Gr.drewN ?_ _) | (with_reducible refine Gr.setCell ?_ ?_ _) | (with_reducible refine Gr.trans ?_ (by assumption)) | omega | (dsimp only; omega) | (simp; done) | (simp; omega)))⟩
    rw [Rv.dec_2 l]
  · clear c
    go_enter Tryd.func32, Tryd.ntmps32
    go_wp2_with (first | (go_at_call 66; refine (opOf_c v h0 h1 _ (ht.gr (Gr.alloc (Gr.refl _) _ _))).mono ?_; rintro e w' ⟨rfl, rfl⟩) | (go_at_call 67; refine (bits_c v _ _ h0 h1 (by decide) _).mono ?_; rintro e w' ⟨rfl, rfl⟩) | (go_at_call 68; refine (layout_c _ _).mono ?_; rintro e w' ⟨rfl, rfl⟩; rw [l]) | (go_at_call 70; refine (branchImm_c v h0 h1 _).mono ?_; rintro e w' ⟨rfl, rfl⟩))
    go_returns
    refine ⟨Rv.ret_iv ?_, by (repeat' (first | (with_reducible assumption) | (with_reducible exact Gr.refl _) | (with_reducible refine Gr.alloc ?_ _ _) | (with_reducible refine Gr.drew ?_) | (with_reducible refine Gr.drewN ?_ _) | (with_reducible refine Gr.setCell ?_ ?_ _) | (with_reducible refine Gr.trans ?_ (by assumption)) | omega | (dsimp only; omega) | (simp; done) | (simp; omega)))⟩
    rw [Rv.dec_3 l]
  · clear c
    go_enter Tryd.func32, Tryd.ntmps32
    go_wp2_with (first | (go_at_call 66; refine (opOf_c v h0 h1 _ (ht.gr (Gr.alloc (Gr.refl _) _ _))).mono ?_; rintro e w' ⟨rfl, rfl⟩) | (go_at_call 67; refine (bits_c v _ _ h0 h1 (by decide) _).mono ?_; rintro e w' ⟨rfl, rfl⟩) | (go_at_call 68; refine (layout_c _ _).mono ?_; rintro e w' ⟨rfl, rfl⟩; rw [l]) | (go_at_call 71; refine (storeImm_c v h0 h1 _).mono ?_; rintro e w' ⟨rfl, rfl⟩))
    go_returns
    refine ⟨Rv.ret_iv ?_, by (repeat' (first | (with_reducible assumption) | (with_reducible exact Gr.refl _) | (with_reducible refine Gr.alloc ?_ _ _) | (with_reducible refine Gr.drew ?_) | (with_reducible refine Gr.drewN ?_ _) | (with_reducible refine Gr.setCell ?_ ?_ _) | (with_reducible refine Gr.trans ?_ (by assumption)) | omega | (dsimp only; omega) | (simp; done) | (simp; omega)))⟩
    rw [Rv.dec_4 l]
  · clear c
    go_enter Tryd.func32, Tryd.ntmps32
    go_wp2_with (first | (go_at_call 66; refine (opOf_c v h0 h1 _ (ht.gr (Gr.alloc (Gr.refl _) _ _))).mono ?_; rintro e w' ⟨rfl, rfl⟩) | (go_at_call 67; refine (bits_c v _ _ h0 h1 (by decide) _).mono ?_; rintro e w' ⟨rfl, rfl⟩) | (go_at_call 68; refine (layout_c _ _).mono ?_; rintro e w' ⟨rfl, rfl⟩; rw [l]))
    go_returns
    refine ⟨Rv.ret_iv ?_, by (repeat' (first | (with_reducible assumption) | (with_reducible exact Gr.refl _) | (with_reducible refine Gr.alloc ?_ _ _) | (with_reducible refine Gr.drew ?_) | (with_reducible refine Gr.drewN ?_ _) | (with_reducible refine Gr.setCell ?_ ?_ _) | (with_reducible refine Gr.trans ?_ (by assumption)) | omega | (dsimp only; omega) | (simp; done) | (simp; omega)))⟩
    rw [Rv.dec_5 l]; refine Rv.Ins.ext_iff.2 ⟨rfl, rfl, rfl, rfl, ?_⟩; dsimp only; unfold Rv.immI wrap32; omega
  · clear c
    go_enter Tryd.func32, Tryd.ntmps32
    go_wp2_with (first | (go_at_call 66; refine (opOf_c v h0 h1 _ (ht.gr (Gr.alloc (Gr.refl _) _ _))).mono ?_; rintro e w' ⟨rfl, rfl⟩) | (go_at_call 67; refine (bits_c v _ _ h0 h1 (by decide) _).mono ?_; rintro e w' ⟨rfl, rfl⟩) | (go_at_call 68; refine (layout_c _ _).mono ?_; rintro e w' ⟨rfl, rfl⟩; rw [l]))
    go_returns
    refine ⟨Rv.ret_iv ?_, by (repeat' (first | (with_reducible assumption) | (with_reducible exact Gr.refl _) | (with_reducible refine Gr.alloc ?_ _ _) | (with_reducible refine Gr.drew ?_) | (with_reducible refine Gr.drewN ?_ _) | (with_reducible refine Gr.setCell ?_ ?_ _) | (with_reducible refine Gr.trans ?_ (by assumption)) | omega | (dsimp only; omega) | (simp; done) | (simp; omega)))⟩
    rw [Rv.dec_6 l]
  · clear c
    go_enter Tryd.func32, Tryd.ntmps32
    go_wp2_with (first | (go_at_call 66; refine (opOf_c v h0 h1 _ (ht.gr (Gr.alloc (Gr.refl _) _ _))).mono ?_; rintro e w' ⟨rfl, rfl⟩) | (go_at_call 67; refine (bits_c v _ _ h0 h1 (by decide) _).mono ?_; rintro e w' ⟨rfl, rfl⟩) | (go_at_call 68; refine (layout_c _ _).mono ?_; rintro e w' ⟨rfl, rfl⟩; rw [l]))
    go_returns
    refine ⟨Rv.ret_iv ?_, by (repeat' (first | (with_reducible assumption) | (with_reducible exact Gr.refl _) | (with_reducible refine Gr.alloc ?_ _ _) | (with_reducible refine Gr.drew ?_) | (with_reducible refine Gr.drewN ?_ _) | (with_reducible refine Gr.setCell ?_ ?_ _) | (with_reducible refine Gr.trans ?_ (by assumption)) | omega | (dsimp only; omega) | (simp; done) | (simp; omega)))⟩
    rw [Rv.dec_7 l]
  · clear c
    go_enter Tryd.func32, Tryd.ntmps32
    go_wp2_with (first | (go_at_call 66; refine (opOf_c v h0 h1 _ (ht.gr (Gr.alloc (Gr.refl _) _ _))).mono ?_; rintro e w' ⟨rfl, rfl⟩) | (go_at_call 67; refine (bits_c v _ _ h0 h1 (by decide) _).mono ?_; rintro e w' ⟨rfl, rfl⟩) | (go_at_call 68; refine (layout_c _ _).mono ?_; rintro e w' ⟨rfl, rfl⟩; rw [l]))
    go_returns
    refine ⟨Rv.ret_iv ?_, by (repeat' (first | (with_reducible assumption) | (with_reducible exact Gr.refl _) | (with_reducible refine Gr.alloc ?_ _ _) | (with_reducible refine Gr.drew ?_) | (with_reducible refine Gr.drewN ?_ _) | (with_reducible refine Gr.setCell ?_ ?_ _) | (with_reducible refine Gr.trans ?_ (by assumption)) | omega | (dsimp only; omega) | (simp; done) | (simp; omega)))⟩
    rw [Rv.dec_0 l]
end Go.Proofs.YtbackacbdfgdoaaDoor
namespace Go.Proofs.YtbackacbdfgdoaaDoor
open Go.ChangeShapes Go.WideShapes Go.ChangeAt Go.RowKit

/-- 'or' with what lies in a hole is the sum. -/
theorem Rv.orhole {x y : Int} (lo hi : Nat) (hl : lo ≤ hi) (hx0 : 0 ≤ x) (hx1 : x < 4294967296) (hx : x % 2 ^ hi < 2 ^ lo) (hy0 : 0 ≤ y) (hy1 : y < 4294967296) (hy : y % 2 ^ lo = 0) (hy2 : y < 2 ^ hi) : bits .or .u32 x y = x + y := by
  rw [u32_or x y hx0 hx1 hy0 hy1]
  obtain ⟨a, rfl⟩ := Int.eq_ofNat_of_zero_le hx0
  obtain ⟨b, rfl⟩ := Int.eq_ofNat_of_zero_le hy0
  have hx' : a % 2 ^ hi < 2 ^ lo := by exact_mod_cast hx
  have hy' : b % 2 ^ lo = 0 := by exact_mod_cast hy
  have hy2' : b < 2 ^ hi := by exact_mod_cast hy2
  simp only [Int.toNat_natCast]
  have e1 : a = 2 ^ hi * (a / 2 ^ hi) ||| a % 2 ^ hi := by
    rw [← Nat.two_pow_add_eq_or_of_lt (Nat.mod_lt _ (Nat.two_pow_pos hi))]; exact (Nat.div_add_mod a (2 ^ hi)).symm
  have hb : b = 2 ^ lo * (b / 2 ^ lo) := by have := Nat.div_add_mod b (2 ^ lo); omega
  have e2 : a % 2 ^ hi ||| b = b + a % 2 ^ hi := by
    rw [Nat.or_comm, hb, ← Nat.two_pow_add_eq_or_of_lt hx']
  have hp : 2 ^ hi = 2 ^ lo * 2 ^ (hi - lo) := by rw [← Nat.pow_add]; congr 1; omega
  have e3 : b + a % 2 ^ hi < 2 ^ hi := by
    have h1 : b / 2 ^ lo < 2 ^ (hi - lo) := by
      rw [Nat.div_lt_iff_lt_mul (Nat.two_pow_pos lo), Nat.mul_comm, ← hp]; exact hy2'
    have h2 : b + 2 ^ lo ≤ 2 ^ hi := by
      rw [hp]; calc b + 2 ^ lo = 2 ^ lo * (b / 2 ^ lo + 1) := by rw [Nat.mul_add, Nat.mul_one, ← hb]
        _ ≤ 2 ^ lo * 2 ^ (hi - lo) := Nat.mul_le_mul_left _ h1
    omega
  have e4 : a ||| b = a + b := by
    conv => lhs; rw [e1]
    rw [Nat.or_assoc, e2, ← Nat.two_pow_add_eq_or_of_lt e3]
    have := Nat.div_add_mod a (2 ^ hi); omega
  rw [e4]; simp

theorem Rv.fm_0_5 (m : Int) : Rv.fb (m % 4294967296) 0 5 = m % 32 := by rw [Rv.fb_0_5]; omega
theorem Rv.fm_12_20 (m : Int) : Rv.fb (m % 4294967296) 12 20 = m / 4096 % 1048576 := by rw [Rv.fb_12_20]; omega
theorem Rv.fm_20_1 (m : Int) : Rv.fb (m % 4294967296) 20 1 = m / 1048576 % 2 := by rw [Rv.fb_20_1]; omega
theorem Rv.fm_1_10 (m : Int) : Rv.fb (m % 4294967296) 1 10 = m / 2 % 1024 := by rw [Rv.fb_1_10]; omega
theorem Rv.fm_11_1 (m : Int) : Rv.fb (m % 4294967296) 11 1 = m / 2048 % 2 := by rw [Rv.fb_11_1]; omega
theorem Rv.fm_12_8 (m : Int) : Rv.fb (m % 4294967296) 12 8 = m / 4096 % 256 := by rw [Rv.fb_12_8]; omega
theorem Rv.fm_12_1 (m : Int) : Rv.fb (m % 4294967296) 12 1 = m / 4096 % 2 := by rw [Rv.fb_12_1]; omega
theorem Rv.fm_5_6 (m : Int) : Rv.fb (m % 4294967296) 5 6 = m / 32 % 64 := by rw [Rv.fb_5_6]; omega
theorem Rv.fm_1_4 (m : Int) : Rv.fb (m % 4294967296) 1 4 = m / 2 % 16 := by rw [Rv.fb_1_4]; omega
theorem Rv.fm_5_7 (m : Int) : Rv.fb (m % 4294967296) 5 7 = m / 32 % 128 := by rw [Rv.fb_5_7]; omega
theorem Rv.fm_0_12 (m : Int) : Rv.fb (m % 4294967296) 0 12 = m % 4096 := by rw [Rv.fb_0_12]; omega

set_option maxHeartbeats 1600000 in
theorem chosen_c (i : Rv.Ins) (w : World) :
    Calls Tryd.prog 59 #[Rv.iv i] w fun e w' => e = .returned (.int .u32 (Rv.cho i)) ∧ Gr w w' := by
  rcases Rv.lay_cases i.op with ⟨l, c⟩ | ⟨l, c⟩ | ⟨l, c⟩ | ⟨l, c⟩ | ⟨l, c⟩ | ⟨l, c⟩ | ⟨l, c⟩ | ⟨l, c⟩
  · clear c
    unfold Rv.iv
    go_enter Tryd.func59, Tryd.ntmps59
    go_wp2_with (first | (go_at_call 67; refine (bits_c _ _ _ (by omega) (by omega) (by decide) _).mono ?_; rintro e w' ⟨rfl, rfl⟩) | (go_at_call 68; refine (layout_c _ _).mono ?_; rintro e w' ⟨rfl, rfl⟩; rw [l]))
    go_ret
    refine ⟨Rv.ret_int ?_, by (repeat' (first | (with_reducible assumption) | (with_reducible exact Gr.refl _) | (with_reducible refine Gr.alloc ?_ _ _) | (with_reducible refine Gr.drew ?_) | (with_reducible refine Gr.drewN ?_ _) | (with_reducible refine Gr.setCell ?_ ?_ _) | (with_reducible refine Gr.trans ?_ (by assumption)) | omega | (dsimp only; omega) | (simp; done) | (simp; omega)))⟩
    rw [Rv.cho_1 l, Rv.fm_0_5, Rv.fm_12_20]
    have b1 : 0 ≤ i.rd % 32 ∧ i.rd % 32 < 32 := by omega
    have b2 : 0 ≤ i.imm / 4096 % 1048576 ∧ i.imm / 4096 % 1048576 < 1048576 := by omega
    generalize i.rd % 32 = r at *; generalize i.imm / 4096 % 1048576 = p1 at *
    rw [Rv.orhole 12 32 (by decide) (by omega) (by omega) (by omega) (by omega) (by omega) (by omega) (by omega)]; omega
  · clear c
    unfold Rv.iv
    go_enter Tryd.func59, Tryd.ntmps59
    go_wp2_with (first | (go_at_call 67; refine (bits_c _ _ _ (by omega) (by omega) (by decide) _).mono ?_; rintro e w' ⟨rfl, rfl⟩) | (go_at_call 68; refine (layout_c _ _).mono ?_; rintro e w' ⟨rfl, rfl⟩; rw [l]))
    go_ret
    refine ⟨Rv.ret_int ?_, by (repeat' (first | (with_reducible assumption) | (with_reducible exact Gr.refl _) | (with_reducible refine Gr.alloc ?_ _ _) | (with_reducible refine Gr.drew ?_) | (with_reducible refine Gr.drewN ?_ _) | (with_reducible refine Gr.setCell ?_ ?_ _) | (with_reducible refine Gr.trans ?_ (by assumption)) | omega | (dsimp only; omega) | (simp; done) | (simp; omega)))⟩
    rw [Rv.cho_2 l, Rv.fm_0_5, Rv.fm_20_1, Rv.fm_1_10, Rv.fm_11_1, Rv.fm_12_8]
    have b1 : 0 ≤ i.rd % 32 ∧ i.rd % 32 < 32 := by omega
    have b2 : 0 ≤ i.imm / 4096 % 256 ∧ i.imm / 4096 % 256 < 256 := by omega
    have b3 : 0 ≤ i.imm / 2048 % 2 ∧ i.imm / 2048 % 2 < 2 := by omega
    have b4 : 0 ≤ i.imm / 2 % 1024 ∧ i.imm / 2 % 1024 < 1024 := by omega
    have b5 : 0 ≤ i.imm / 1048576 % 2 ∧ i.imm / 1048576 % 2 < 2 := by omega
    generalize i.rd % 32 = r at *; generalize i.imm / 4096 % 256 = p1 at *; generalize i.imm / 2048 % 2 = p2 at *; generalize i.imm / 2 % 1024 = p3 at *; generalize i.imm / 1048576 % 2 = p4 at *
    have a0 : r * 128 % 4294967296 = 128 * r := by omega
    have a1 : p1 * 4096 % 4294967296 = 4096 * p1 := by omega
    have a2 : p2 * 1048576 % 4294967296 = 1048576 * p2 := by omega
    have a3 : p3 * 2097152 % 4294967296 = 2097152 * p3 := by omega
    have a4 : p4 * 2147483648 % 4294967296 = 2147483648 * p4 := by omega
    rw [a0, a1, a2, a3, a4]
    rw [Rv.orhole (x := 128 * r) (y := 2147483648 * p4) 31 32 (by decide) (by omega) (by omega) (by omega) (by omega) (by omega) (by omega) (by omega)]
    rw [Rv.orhole (x := 128 * r + 2147483648 * p4) (y := 2097152 * p3) 21 31 (by decide) (by omega) (by omega) (by omega) (by omega) (by omega) (by omega) (by omega)]
    rw [Rv.orhole (x := 128 * r + 2147483648 * p4 + 2097152 * p3) (y := 1048576 * p2) 20 21 (by decide) (by omega) (by omega) (by omega) (by omega) (by omega) (by omega) (by omega)]
    rw [Rv.orhole (y := 4096 * p1) 12 20 (by decide) (by omega) (by omega) (by omega) (by omega) (by omega) (by omega) (by omega)]; omega
  · clear c
    unfold Rv.iv
    go_enter Tryd.func59, Tryd.ntmps59
    go_wp2_with (first | (go_at_call 67; refine (bits_c _ _ _ (by omega) (by omega) (by decide) _).mono ?_; rintro e w' ⟨rfl, rfl⟩) | (go_at_call 68; refine (layout_c _ _).mono ?_; rintro e w' ⟨rfl, rfl⟩; rw [l]))
    go_ret
    refine ⟨Rv.ret_int ?_, by (repeat' (first | (with_reducible assumption) | (with_reducible exact Gr.refl _) | (with_reducible refine Gr.alloc ?_ _ _) | (with_reducible refine Gr.drew ?_) | (with_reducible refine Gr.drewN ?_ _) | (with_reducible refine Gr.setCell ?_ ?_ _) | (with_reducible refine Gr.trans ?_ (by assumption)) | omega | (dsimp only; omega) | (simp; done) | (simp; omega)))⟩
    rw [Rv.cho_3 l, Rv.fm_0_5, Rv.fm_0_5, Rv.fm_12_1, Rv.fm_5_6, Rv.fm_1_4, Rv.fm_11_1]
    have b0 : 0 ≤ i.rs1 % 32 ∧ i.rs1 % 32 < 32 := by omega
    have b1 : 0 ≤ i.rs2 % 32 ∧ i.rs2 % 32 < 32 := by omega
    have b2 : 0 ≤ i.imm / 4096 % 2 ∧ i.imm / 4096 % 2 < 2 := by omega
    have b3 : 0 ≤ i.imm / 32 % 64 ∧ i.imm / 32 % 64 < 64 := by omega
    have b4 : 0 ≤ i.imm / 2 % 16 ∧ i.imm / 2 % 16 < 16 := by omega
    have b5 : 0 ≤ i.imm / 2048 % 2 ∧ i.imm / 2048 % 2 < 2 := by omega
    generalize i.rs1 % 32 = s at *; generalize i.rs2 % 32 = t at *; generalize i.imm / 4096 % 2 = p4 at *; generalize i.imm / 32 % 64 = p3 at *; generalize i.imm / 2 % 16 = p2 at *; generalize i.imm / 2048 % 2 = p1 at *
    have a0 : s * 32768 % 4294967296 = 32768 * s := by omega
    have a1 : t * 1048576 % 4294967296 = 1048576 * t := by omega
    have a2 : p4 * 2147483648 % 4294967296 = 2147483648 * p4 := by omega
    have a3 : p3 * 33554432 % 4294967296 = 33554432 * p3 := by omega
    have a4 : p2 * 256 % 4294967296 = 256 * p2 := by omega
    have a5 : p1 * 128 % 4294967296 = 128 * p1 := by omega
    rw [a0, a1, a2, a3, a4, a5]
    rw [Rv.orhole (x := 32768 * s) (y := 1048576 * t) 20 32 (by decide) (by omega) (by omega) (by omega) (by omega) (by omega) (by omega) (by omega)]
    rw [Rv.orhole (x := 32768 * s + 1048576 * t) (y := 2147483648 * p4) 31 32 (by decide) (by omega) (by omega) (by omega) (by omega) (by omega) (by omega) (by omega)]
    rw [Rv.orhole (x := 32768 * s + 1048576 * t + 2147483648 * p4) (y := 33554432 * p3) 25 31 (by decide) (by omega) (by omega) (by omega) (by omega) (by omega) (by omega) (by omega)]
    rw [Rv.orhole (x := 32768 * s + 1048576 * t + 2147483648 * p4 + 33554432 * p3) (y := 256 * p2) 8 12 (by decide) (by omega) (by omega) (by omega) (by omega) (by omega) (by omega) (by omega)]
    rw [Rv.orhole (y := 128 * p1) 7 8 (by decide) (by omega) (by omega) (by omega) (by omega) (by omega) (by omega) (by omega)]; omega
  · clear c
    unfold Rv.iv
    go_enter Tryd.func59, Tryd.ntmps59
    go_wp2_with (first | (go_at_call 67; refine (bits_c _ _ _ (by omega) (by omega) (by decide) _).mono ?_; rintro e w' ⟨rfl, rfl⟩) | (go_at_call 68; refine (layout_c _ _).mono ?_; rintro e w' ⟨rfl, rfl⟩; rw [l]))
    go_ret
    refine ⟨Rv.ret_int ?_, by (repeat' (first | (with_reducible assumption) | (with_reducible exact Gr.refl _) | (with_reducible refine Gr.alloc ?_ _ _) | (with_reducible refine Gr.drew ?_) | (with_reducible refine Gr.drewN ?_ _) | (with_reducible refine Gr.setCell ?_ ?_ _) | (with_reducible refine Gr.trans ?_ (by assumption)) | omega | (dsimp only; omega) | (simp; done) | (simp; omega)))⟩
    rw [Rv.cho_4 l, Rv.fm_0_5, Rv.fm_0_5, Rv.fm_0_5, Rv.fm_5_7]
    have b0 : 0 ≤ i.rs1 % 32 ∧ i.rs1 % 32 < 32 := by omega
    have b1 : 0 ≤ i.rs2 % 32 ∧ i.rs2 % 32 < 32 := by omega
    have b2 : 0 ≤ i.imm / 32 % 128 ∧ i.imm / 32 % 128 < 128 := by omega
    have b3 : 0 ≤ i.imm % 32 ∧ i.imm % 32 < 32 := by omega
    generalize i.rs1 % 32 = s at *; generalize i.rs2 % 32 = t at *; generalize i.imm / 32 % 128 = p2 at *; generalize i.imm % 32 = p1 at *
    have a0 : s * 32768 % 4294967296 = 32768 * s := by omega
    have a1 : t * 1048576 % 4294967296 = 1048576 * t := by omega
    have a3 : p2 * 33554432 % 4294967296 = 33554432 * p2 := by omega
    have a5 : p1 * 128 % 4294967296 = 128 * p1 := by omega
    rw [a0, a1, a3, a5]
    rw [Rv.orhole (x := 32768 * s) (y := 1048576 * t) 20 32 (by decide) (by omega) (by omega) (by omega) (by omega) (by omega) (by omega) (by omega)]
    rw [Rv.orhole (x := 32768 * s + 1048576 * t) (y := 33554432 * p2) 25 32 (by decide) (by omega) (by omega) (by omega) (by omega) (by omega) (by omega) (by omega)]
    rw [Rv.orhole (y := 128 * p1) 7 12 (by decide) (by omega) (by omega) (by omega) (by omega) (by omega) (by omega) (by omega)]; omega
  · clear c
    unfold Rv.iv
    go_enter Tryd.func59, Tryd.ntmps59
    go_wp2_with (first | (go_at_call 67; refine (bits_c _ _ _ (by omega) (by omega) (by decide) _).mono ?_; rintro e w' ⟨rfl, rfl⟩) | (go_at_call 68; refine (layout_c _ _).mono ?_; rintro e w' ⟨rfl, rfl⟩; rw [l]))
    go_ret
    refine ⟨Rv.ret_int ?_, by (repeat' (first | (with_reducible assumption) | (with_reducible exact Gr.refl _) | (with_reducible refine Gr.alloc ?_ _ _) | (with_reducible refine Gr.drew ?_) | (with_reducible refine Gr.drewN ?_ _) | (with_reducible refine Gr.setCell ?_ ?_ _) | (with_reducible refine Gr.trans ?_ (by assumption)) | omega | (dsimp only; omega) | (simp; done) | (simp; omega)))⟩
    rw [Rv.cho_5 l, Rv.fm_0_5, Rv.fm_0_5, Rv.fm_0_12]
    have b0 : 0 ≤ i.rd % 32 ∧ i.rd % 32 < 32 := by omega
    have b1 : 0 ≤ i.rs1 % 32 ∧ i.rs1 % 32 < 32 := by omega
    have b2 : 0 ≤ i.imm % 4096 ∧ i.imm % 4096 < 4096 := by omega
    generalize i.rd % 32 = r at *; generalize i.rs1 % 32 = s at *; generalize i.imm % 4096 = p at *
    have a0 : r * 128 % 4294967296 = 128 * r := by omega
    have a1 : s * 32768 % 4294967296 = 32768 * s := by omega
    have a2 : p * 1048576 % 4294967296 = 1048576 * p := by omega
    rw [a0, a1, a2]
    rw [Rv.orhole (x := 128 * r) (y := 32768 * s) 15 32 (by decide) (by omega) (by omega) (by omega) (by omega) (by omega) (by omega) (by omega)]
    rw [Rv.orhole (y := 1048576 * p) 20 32 (by decide) (by omega) (by omega) (by omega) (by omega) (by omega) (by omega) (by omega)]
  · clear c
    unfold Rv.iv
    go_enter Tryd.func59, Tryd.ntmps59
    go_wp2_with (first | (go_at_call 67; refine (bits_c _ _ _ (by omega) (by omega) (by decide) _).mono ?_; rintro e w' ⟨rfl, rfl⟩) | (go_at_call 68; refine (layout_c _ _).mono ?_; rintro e w' ⟨rfl, rfl⟩; rw [l]))
    go_ret
    refine ⟨Rv.ret_int ?_, by (repeat' (first | (with_reducible assumption) | (with_reducible exact Gr.refl _) | (with_reducible refine Gr.alloc ?_ _ _) | (with_reducible refine Gr.drew ?_) | (with_reducible refine Gr.drewN ?_ _) | (with_reducible refine Gr.setCell ?_ ?_ _) | (with_reducible refine Gr.trans ?_ (by assumption)) | omega | (dsimp only; omega) | (simp; done) | (simp; omega)))⟩
    rw [Rv.cho_6 l, Rv.fm_0_5, Rv.fm_0_5, Rv.fm_0_5]
    have b0 : 0 ≤ i.rd % 32 ∧ i.rd % 32 < 32 := by omega
    have b1 : 0 ≤ i.rs1 % 32 ∧ i.rs1 % 32 < 32 := by omega
    have b2 : 0 ≤ i.imm % 32 ∧ i.imm % 32 < 32 := by omega
    generalize i.rd % 32 = r at *; generalize i.rs1 % 32 = s at *; generalize i.imm % 32 = p at *
    have a0 : r * 128 % 4294967296 = 128 * r := by omega
    have a1 : s * 32768 % 4294967296 = 32768 * s := by omega
    have a2 : p * 1048576 % 4294967296 = 1048576 * p := by omega
    rw [a0, a1, a2]
    rw [Rv.orhole (x := 128 * r) (y := 32768 * s) 15 32 (by decide) (by omega) (by omega) (by omega) (by omega) (by omega) (by omega) (by omega)]
    rw [Rv.orhole (y := 1048576 * p) 20 32 (by decide) (by omega) (by omega) (by omega) (by omega) (by omega) (by omega) (by omega)]
  · clear c
    unfold Rv.iv
    go_enter Tryd.func59, Tryd.ntmps59
    go_wp2_with (first | (go_at_call 67; refine (bits_c _ _ _ (by omega) (by omega) (by decide) _).mono ?_; rintro e w' ⟨rfl, rfl⟩) | (go_at_call 68; refine (layout_c _ _).mono ?_; rintro e w' ⟨rfl, rfl⟩; rw [l]))
    go_ret
    refine ⟨Rv.ret_int ?_, by (repeat' (first | (with_reducible assumption) | (with_reducible exact Gr.refl _) | (with_reducible refine Gr.alloc ?_ _ _) | (with_reducible refine Gr.drew ?_) | (with_reducible refine Gr.drewN ?_ _) | (with_reducible refine Gr.setCell ?_ ?_ _) | (with_reducible refine Gr.trans ?_ (by assumption)) | omega | (dsimp only; omega) | (simp; done) | (simp; omega)))⟩
    rw [Rv.cho_7 l, Rv.fm_0_5, Rv.fm_0_5, Rv.fm_0_5]
    have b0 : 0 ≤ i.rd % 32 ∧ i.rd % 32 < 32 := by omega
    have b1 : 0 ≤ i.rs1 % 32 ∧ i.rs1 % 32 < 32 := by omega
    have b2 : 0 ≤ i.rs2 % 32 ∧ i.rs2 % 32 < 32 := by omega
    generalize i.rd % 32 = r at *; generalize i.rs1 % 32 = s at *; generalize i.rs2 % 32 = p at *
    have a0 : r * 128 % 4294967296 = 128 * r := by omega
    have a1 : s * 32768 % 4294967296 = 32768 * s := by omega
    have a2 : p * 1048576 % 4294967296 = 1048576 * p := by omega
    rw [a0, a1, a2]
    rw [Rv.orhole (x := 128 * r) (y := 32768 * s) 15 32 (by decide) (by omega) (by omega) (by omega) (by omega) (by omega) (by omega) (by omega)]
    rw [Rv.orhole (y := 1048576 * p) 20 32 (by decide) (by omega) (by omega) (by omega) (by omega) (by omega) (by omega) (by omega)]
  · clear c
    unfold Rv.iv
    go_enter Tryd.func59, Tryd.ntmps59
    go_wp2_with (first | (go_at_call 67; refine (bits_c _ _ _ (by omega) (by omega) (by decide) _).mono ?_; rintro e w' ⟨rfl, rfl⟩) | (go_at_call 68; refine (layout_c _ _).mono ?_; rintro e w' ⟨rfl, rfl⟩; rw [l]))
    go_ret
    refine ⟨Rv.ret_int ?_, by (repeat' (first | (with_reducible assumption) | (with_reducible exact Gr.refl _) | (with_reducible refine Gr.alloc ?_ _ _) | (with_reducible refine Gr.drew ?_) | (with_reducible refine Gr.drewN ?_ _) | (with_reducible refine Gr.setCell ?_ ?_ _) | (with_reducible refine Gr.trans ?_ (by assumption)) | omega | (dsimp only; omega) | (simp; done) | (simp; omega)))⟩
    rw [Rv.cho_0 l]
end Go.Proofs.YtbackacbdfgdoaaDoor
namespace Go.Proofs.YtbackacbdfgdoaaDoor
open Go.ChangeShapes Go.WideShapes Go.ChangeAt Go.RowKit

theorem Rv.dropGr {w w1 : World} {c : Array Value} {t : TypeId} (h : Gr (w.alloc (.cells c t)) w1) : Gr w w1 := ((Gr.refl w).alloc c t).trans h
theorem Rv.ibox {w w1 : World} {T : TypeId} {i : Rv.Ins} (h : Gr (w.alloc (.cells #[.int .i64 i.op, .int .i64 i.rd, .int .i64 i.rs1, .int .i64 i.rs2, .int .i32 i.imm] T)) w1) :
    w1.cell? ⟨w.heap.size, 0, none⟩ = some (.int .i64 i.op) ∧ w1.cell? ⟨w.heap.size, 1, none⟩ = some (.int .i64 i.rd) ∧ w1.cell? ⟨w.heap.size, 2, none⟩ = some (.int .i64 i.rs1) ∧ w1.cell? ⟨w.heap.size, 3, none⟩ = some (.int .i64 i.rs2) ∧ w1.cell? ⟨w.heap.size, 4, none⟩ = some (.int .i32 i.imm) := by
  refine ⟨?_, ?_, ?_, ?_, ?_⟩ <;> (apply h.keep; simp [go_sem])

theorem Rv.or_two {X A B : Int} (m : Nat) (x0 : 0 ≤ X) (x1 : X < 4294967296) (a0 : 0 ≤ A) (b0 : 0 ≤ B) (ab : A + B < 4294967296) (ha : A < 2 ^ m) (hb : B % 2 ^ m = 0) :
    bits .or .u32 X (A + B) = bits .or .u32 (bits .or .u32 X A) B := by
  have e : A + B = bits .or .u32 B A := by rw [Rv.ormul m b0 hb (by omega) a0 ha (by omega)]; omega
  rw [e, u32_or B A b0 (by omega) a0 (by omega), u32_or X A x0 x1 a0 (by omega)]
  obtain ⟨x, rfl⟩ := Int.eq_ofNat_of_zero_le x0
  obtain ⟨y, rfl⟩ := Int.eq_ofNat_of_zero_le a0
  obtain ⟨z, rfl⟩ := Int.eq_ofNat_of_zero_le b0
  simp only [Int.toNat_natCast]
  have h1 : z ||| y < 2 ^ 32 := Nat.or_lt_two_pow (by omega) (by omega)
  have h2 : x ||| y < 2 ^ 32 := Nat.or_lt_two_pow (by omega) (by omega)
  rw [u32_or_nat x (z ||| y) (by omega) h1, u32_or_nat (x ||| y) z h2 (by omega), Nat.or_assoc, Nat.or_comm z y]
theorem Rv.or_enc {i : Rv.Ins} (h : 1 ≤ i.op ∧ i.op ≤ 49) : bits .or .u32 (Rv.wo i.op) (Rv.cho i) = Rv.enc i := by
  unfold Rv.enc
  rcases Rv.lay_cases i.op with ⟨l, c⟩ | ⟨l, c⟩ | ⟨l, c⟩ | ⟨l, c⟩ | ⟨l, c⟩ | ⟨l, c⟩ | ⟨l, c⟩ | ⟨l, c⟩
  · obtain ⟨n, o, f3, f7, _, _, _, _, _, _, _, e, bo, b3, b7, z3, z7⟩ := Rv.wo_parts h.1 (by omega)
    have z3' := z3 (by omega); have z7' := z7 (by omega)
    rw [Rv.cho_1 l, e]
    obtain ⟨A, hA⟩ : ∃ A, i.rd % 32 = A := ⟨_, rfl⟩
    obtain ⟨B, hB⟩ : ∃ B, i.imm / 4096 % 1048576 = B := ⟨_, rfl⟩
    rw [hA, hB, Rv.or_two 12 (by omega) (by omega) (by omega) (by omega) (by omega) (by omega) (by omega)]
    rw [Rv.orhole (y := 128 * A) 7 12 (by decide) (by omega) (by omega) (by omega) (by omega) (by omega) (by omega) (by omega)]
    rw [Rv.orhole 12 32 (by decide) (by omega) (by omega) (by omega) (by omega) (by omega) (by omega) (by omega)]; omega
  · obtain ⟨n, o, f3, f7, _, _, _, _, _, _, _, e, bo, b3, b7, z3, z7⟩ := Rv.wo_parts h.1 (by omega)
    have z3' := z3 (by omega); have z7' := z7 (by omega)
    rw [Rv.cho_2 l, e]
    obtain ⟨A, hA⟩ : ∃ A, i.rd % 32 = A := ⟨_, rfl⟩
    obtain ⟨B, hB⟩ : ∃ B, i.imm / 4096 % 256 + 256 * (i.imm / 2048 % 2) + 512 * (i.imm / 2 % 1024) + 524288 * (i.imm / 1048576 % 2) = B := ⟨_, rfl⟩
    have hb : 0 ≤ B ∧ B < 1048576 := by omega
    have e2 : 128 * (i.rd % 32) + 4096 * (i.imm / 4096 % 256) + 1048576 * (i.imm / 2048 % 2) + 2097152 * (i.imm / 2 % 1024) + 2147483648 * (i.imm / 1048576 % 2) = 128 * A + 4096 * B := by omega
    have ha : 0 ≤ A ∧ A < 32 := by omega
    rw [e2]; clear e2 hA hB
    rw [Rv.or_two 12 (by omega) (by omega) (by omega) (by omega) (by omega) (by omega) (by omega)]
    rw [Rv.orhole (y := 128 * A) 7 12 (by decide) (by omega) (by omega) (by omega) (by omega) (by omega) (by omega) (by omega)]
    rw [Rv.orhole 12 32 (by decide) (by omega) (by omega) (by omega) (by omega) (by omega) (by omega) (by omega)]; omega
  · obtain ⟨n, o, f3, f7, _, _, _, _, _, _, _, e, bo, b3, b7, z3, z7⟩ := Rv.wo_parts h.1 (by omega)
    have z7' := z7 (by omega)
    rw [Rv.cho_3 l, e]
    obtain ⟨A, hA⟩ : ∃ A, i.imm / 2048 % 2 + 2 * (i.imm / 2 % 16) = A := ⟨_, rfl⟩
    obtain ⟨B, hB⟩ : ∃ B, i.rs1 % 32 + 32 * (i.rs2 % 32) + 1024 * (i.imm / 32 % 64) + 65536 * (i.imm / 4096 % 2) = B := ⟨_, rfl⟩
    have hb : 0 ≤ B ∧ B < 131072 := by omega
    have e2 : 128 * (i.imm / 2048 % 2) + 256 * (i.imm / 2 % 16) + 32768 * (i.rs1 % 32) + 1048576 * (i.rs2 % 32) + 33554432 * (i.imm / 32 % 64) + 2147483648 * (i.imm / 4096 % 2) = 128 * A + 32768 * B := by omega
    have ha : 0 ≤ A ∧ A < 32 := by omega
    rw [e2]; clear e2 hA hB
    rw [Rv.or_two 15 (by omega) (by omega) (by omega) (by omega) (by omega) (by omega) (by omega)]
    rw [Rv.orhole (y := 128 * A) 7 12 (by decide) (by omega) (by omega) (by omega) (by omega) (by omega) (by omega) (by omega)]
    rw [Rv.orhole 15 32 (by decide) (by omega) (by omega) (by omega) (by omega) (by omega) (by omega) (by omega)]; omega
  · obtain ⟨n, o, f3, f7, _, _, _, _, _, _, _, e, bo, b3, b7, z3, z7⟩ := Rv.wo_parts h.1 (by omega)
    have z7' := z7 (by omega)
    rw [Rv.cho_4 l, e]
    obtain ⟨A, hA⟩ : ∃ A, i.imm % 32 = A := ⟨_, rfl⟩
    obtain ⟨B, hB⟩ : ∃ B, i.rs1 % 32 + 32 * (i.rs2 % 32) + 1024 * (i.imm / 32 % 128) = B := ⟨_, rfl⟩
    have hb : 0 ≤ B ∧ B < 131072 := by omega
    have e2 : 128 * (i.imm % 32) + 32768 * (i.rs1 % 32) + 1048576 * (i.rs2 % 32) + 33554432 * (i.imm / 32 % 128) = 128 * A + 32768 * B := by omega
    have ha : 0 ≤ A ∧ A < 32 := by omega
    rw [e2]; clear e2 hA hB
    rw [Rv.or_two 15 (by omega) (by omega) (by omega) (by omega) (by omega) (by omega) (by omega)]
    rw [Rv.orhole (y := 128 * A) 7 12 (by decide) (by omega) (by omega) (by omega) (by omega) (by omega) (by omega) (by omega)]
    rw [Rv.orhole 15 32 (by decide) (by omega) (by omega) (by omega) (by omega) (by omega) (by omega) (by omega)]; omega
  · obtain ⟨n, o, f3, f7, _, _, _, _, _, _, _, e, bo, b3, b7, z3, z7⟩ := Rv.wo_parts h.1 (by omega)
    have z7' := z7 (by omega)
    rw [Rv.cho_5 l, e]
    obtain ⟨A, hA⟩ : ∃ A, i.rd % 32 = A := ⟨_, rfl⟩
    obtain ⟨B, hB⟩ : ∃ B, i.rs1 % 32 + 32 * (i.imm % 4096) = B := ⟨_, rfl⟩
    have hb : 0 ≤ B ∧ B < 131072 := by omega
    have e2 : 128 * (i.rd % 32) + 32768 * (i.rs1 % 32) + 1048576 * (i.imm % 4096) = 128 * A + 32768 * B := by omega
    have ha : 0 ≤ A ∧ A < 32 := by omega
    rw [e2]; clear e2 hA hB
    rw [Rv.or_two 15 (by omega) (by omega) (by omega) (by omega) (by omega) (by omega) (by omega)]
    rw [Rv.orhole (y := 128 * A) 7 12 (by decide) (by omega) (by omega) (by omega) (by omega) (by omega) (by omega) (by omega)]
    rw [Rv.orhole 15 32 (by decide) (by omega) (by omega) (by omega) (by omega) (by omega) (by omega) (by omega)]; omega
  · obtain ⟨n, o, f3, f7, _, _, _, _, _, _, _, e, bo, b3, b7, z3, z7⟩ := Rv.wo_parts h.1 (by omega)
    rw [Rv.cho_6 l, e]
    obtain ⟨A, hA⟩ : ∃ A, i.rd % 32 = A := ⟨_, rfl⟩
    obtain ⟨B, hB⟩ : ∃ B, i.rs1 % 32 + 32 * (i.imm % 32) = B := ⟨_, rfl⟩
    have hb : 0 ≤ B ∧ B < 1024 := by omega
    have e2 : 128 * (i.rd % 32) + 32768 * (i.rs1 % 32) + 1048576 * (i.imm % 32) = 128 * A + 32768 * B := by omega
    have ha : 0 ≤ A ∧ A < 32 := by omega
    rw [e2]; clear e2 hA hB
    rw [Rv.or_two 15 (by omega) (by omega) (by omega) (by omega) (by omega) (by omega) (by omega)]
    rw [Rv.orhole (y := 128 * A) 7 12 (by decide) (by omega) (by omega) (by omega) (by omega) (by omega) (by omega) (by omega)]
    rw [Rv.orhole 15 25 (by decide) (by omega) (by omega) (by omega) (by omega) (by omega) (by omega) (by omega)]; omega
  · obtain ⟨n, o, f3, f7, _, _, _, _, _, _, _, e, bo, b3, b7, z3, z7⟩ := Rv.wo_parts h.1 (by omega)
    rw [Rv.cho_7 l, e]
    obtain ⟨A, hA⟩ : ∃ A, i.rd % 32 = A := ⟨_, rfl⟩
    obtain ⟨B, hB⟩ : ∃ B, i.rs1 % 32 + 32 * (i.rs2 % 32) = B := ⟨_, rfl⟩
    have hb : 0 ≤ B ∧ B < 1024 := by omega
    have e2 : 128 * (i.rd % 32) + 32768 * (i.rs1 % 32) + 1048576 * (i.rs2 % 32) = 128 * A + 32768 * B := by omega
    have ha : 0 ≤ A ∧ A < 32 := by omega
    rw [e2]; clear e2 hA hB
    rw [Rv.or_two 15 (by omega) (by omega) (by omega) (by omega) (by omega) (by omega) (by omega)]
    rw [Rv.orhole (y := 128 * A) 7 12 (by decide) (by omega) (by omega) (by omega) (by omega) (by omega) (by omega) (by omega)]
    rw [Rv.orhole 15 25 (by decide) (by omega) (by omega) (by omega) (by omega) (by omega) (by omega) (by omega)]; omega
  · rw [Rv.cho_0 l]
    obtain h | h | h | h : i.op = 46 ∨ i.op = 47 ∨ i.op = 48 ∨ i.op = 49 := by omega
    all_goals (rw [h]; decide +kernel)
theorem Rv.eqlIns (i k : Rv.Ins) (w : World) : (Op.equalIn 10000 28 (.agg #[.int .i64 i.op, .int .i64 i.rd, .int .i64 i.rs1, .int .i64 i.rs2, .int .i32 i.imm]) (.agg #[.int .i64 k.op, .int .i64 k.rd, .int .i64 k.rs1, .int .i64 k.rs2, .int .i32 k.imm])).run Tryd.prog w = .ok (i.op == k.op && i.rd == k.rd && i.rs1 == k.rs1 && i.rs2 == k.rs2 && i.imm == k.imm) w := by
  rw [show (10000 : Nat) = 9999 + 1 from rfl]
  go_simp
  by_cases h0 : i.op = k.op <;> by_cases h1 : i.rd = k.rd <;> by_cases h2 : i.rs1 = k.rs1 <;> by_cases h3 : i.rs2 = k.rs2 <;> by_cases h4 : i.imm = k.imm <;> simp [h0, h1, h2, h3, h4]
theorem Rv.eqF {i k : Rv.Ins} (h : ¬ i = k) : (i.op == k.op && i.rd == k.rd && i.rs1 == k.rs1 && i.rs2 == k.rs2 && i.imm == k.imm) = false := by
  rw [Rv.Ins.ext_iff] at h
  cases hx : (i.op == k.op && i.rd == k.rd && i.rs1 == k.rs1 && i.rs2 == k.rs2 && i.imm == k.imm)
  · rfl
  · simp at hx; exact absurd ⟨hx.1.1.1.1, hx.1.1.1.2, hx.1.1.2, hx.1.2, hx.2⟩ h
theorem Rv.neqIns {i k : Rv.Ins} (h : ¬ i = k) (w : World) : (binOp .neq 28 (.agg #[.int .i64 i.op, .int .i64 i.rd, .int .i64 i.rs1, .int .i64 i.rs2, .int .i32 i.imm]) (.agg #[.int .i64 k.op, .int .i64 k.rd, .int .i64 k.rs1, .int .i64 k.rs2, .int .i32 k.imm])).run Tryd.prog w = .ok (.bool true) w := by
  rw [run_neq_struct, Rv.eqlIns, Rv.eqF h]; rfl
theorem Rv.eqlInsF {i k : Rv.Ins} (h : ¬ i = k) (w : World) : (binOp .eql 28 (.agg #[.int .i64 i.op, .int .i64 i.rd, .int .i64 i.rs1, .int .i64 i.rs2, .int .i32 i.imm]) (.agg #[.int .i64 k.op, .int .i64 k.rd, .int .i64 k.rs1, .int .i64 k.rs2, .int .i32 k.imm])).run Tryd.prog w = .ok (.bool false) w := by
  rw [run_eql_struct, Rv.eqlIns, Rv.eqF h]; rfl
theorem Encode_unknown (i : Rv.Ins) (w : World) (h : ¬ (1 ≤ i.op ∧ i.op ≤ 49)) :
    Calls Tryd.prog 27 #[Rv.iv i] w fun e w' => e = .returned (.tuple #[.int .u32 0, .int .i64 1]) ∧ Gr w w' := by
  unfold Rv.iv
  have hk : decide (1 ≤ i.op ∧ i.op ≤ 49) = false := by simpa using h
  go_enter Tryd.func27, Tryd.ntmps27
  go_wp2_with (go_at_call 58; refine (known_c _ _).mono ?_; rintro e w' ⟨rfl, rfl⟩; rw [hk])
  go_returns
  exact ⟨rfl, by (repeat' (first | (with_reducible assumption) | (with_reducible exact Gr.refl _) | (with_reducible refine Gr.alloc ?_ _ _) | (with_reducible refine Gr.drew ?_) | (with_reducible refine Gr.drewN ?_ _) | (with_reducible refine Gr.setCell ?_ ?_ _) | (with_reducible refine Gr.trans ?_ (by assumption)) | omega | (dsimp only; omega) | (simp; done) | (simp; omega)))⟩

theorem Encode_good (i : Rv.Ins) (w : World) (ht : Tabs w) (hm : -2147483648 ≤ i.imm ∧ i.imm < 2147483648) (h : Rv.good i) :
    Calls Tryd.prog 27 #[Rv.iv i] w fun e w' => e = .returned (.tuple #[.int .u32 (Rv.enc i), .int .i64 0]) ∧ Gr w w' := by
  unfold Rv.iv
  have hk : decide (1 ≤ i.op ∧ i.op ≤ 49) = true := by simpa using h.1
  have o0 : 0 ≤ i.op := by have := h.1; omega
  have o1 : i.op < 50 := by have := h.1; omega
  have hu := Rv.enc_U32 h.1
  have hd := Rv.dec_enc h hm
  have hwo : w.cell? ⟨1, i.op.toNat, none⟩ = some (.int .u32 (Rv.wo i.op)) := ht.wo i.op.toNat (by omega)
  have hor : bits .or .u32 (Rv.wo i.op) (Rv.cho i) = Rv.enc i := Rv.or_enc h.1
  go_enter Tryd.func27, Tryd.ntmps27
  go_wp2_with (go_at_call 58; refine (known_c _ _).mono ?_; rintro e w' ⟨rfl, rfl⟩; rw [hk])
  have g1 := Gr.refl (w.alloc (.cells #[.int .i64 i.op, .int .i64 i.rd, .int .i64 i.rs1, .int .i64 i.rs2, .int .i32 i.imm] 28))
  go_region_held3 (fun wr => wr.cell? ⟨1, i.op.toNat, none⟩ = some (.int .u32 (Rv.wo i.op)) ∧ wr.cell? ⟨w.heap.size, 0, none⟩ = some (.int .i64 i.op) ∧ wr.cell? ⟨w.heap.size, 1, none⟩ = some (.int .i64 i.rd) ∧ wr.cell? ⟨w.heap.size, 2, none⟩ = some (.int .i64 i.rs1) ∧ wr.cell? ⟨w.heap.size, 3, none⟩ = some (.int .i64 i.rs2) ∧ wr.cell? ⟨w.heap.size, 4, none⟩ = some (.int .i32 i.imm))
    (first | exact ⟨(Rv.dropGr g1).keep hwo, Rv.ibox g1⟩ | exact ⟨(Rv.dropGr g1.drew).keep hwo, Rv.ibox g1.drew⟩)
    (first | (go_at_call 59; refine (chosen_c i _).mono ?_; rintro e w2 ⟨rfl, h2⟩; (first | replace g1 := g1.trans h2 | replace g1 := g1.drew.trans h2); clear h2))
  go_wp2_with fail
  go_region_held3 (fun wr => wr.cell? ⟨w.heap.size, 0, none⟩ = some (.int .i64 i.op) ∧ wr.cell? ⟨w.heap.size, 1, none⟩ = some (.int .i64 i.rd) ∧ wr.cell? ⟨w.heap.size, 2, none⟩ = some (.int .i64 i.rs1) ∧ wr.cell? ⟨w.heap.size, 3, none⟩ = some (.int .i64 i.rs2) ∧ wr.cell? ⟨w.heap.size, 4, none⟩ = some (.int .i32 i.imm))
    (first | exact Rv.ibox g1 | exact Rv.ibox g1.drew)
    (first | (go_at_call 32; refine (Decode_c _ hu.1 hu.2 _ (ht.gr (Rv.dropGr g1).drew)).mono ?_; rintro e w2 ⟨rfl, h2⟩; rw [hd]; unfold Rv.iv; (first | replace g1 := g1.trans h2 | replace g1 := g1.drew.trans h2); clear h2))
  go_wp2
  go_returns
  exact ⟨rfl, Rv.dropGr g1⟩
theorem Encode_known (i : Rv.Ins) (w : World) (ht : Tabs w) (hm : -2147483648 ≤ i.imm ∧ i.imm < 2147483648) (hop : 1 ≤ i.op ∧ i.op ≤ 49) (h : ¬ Rv.good i) :
    Calls Tryd.prog 27 #[Rv.iv i] w fun e w' => e = .returned (.tuple #[.int .u32 0, .int .i64 1]) ∧ Gr w w' := by
  unfold Rv.iv
  have hk : decide (1 ≤ i.op ∧ i.op ≤ 49) = true := by simpa using hop
  have o0 : 0 ≤ i.op := by have := hop; omega
  have o1 : i.op < 50 := by have := hop; omega
  have hu := Rv.enc_U32 hop
  have hne : ¬ Rv.dec (Rv.enc i) = i := fun e => h ((Rv.dec_enc_iff hop hm).1 e)
  obtain ⟨d, hd⟩ : ∃ d, Rv.dec (Rv.enc i) = d := ⟨_, rfl⟩
  rw [hd] at hne
  have hq := fun w => Rv.neqIns hne w
  clear hne
  have hwo : w.cell? ⟨1, i.op.toNat, none⟩ = some (.int .u32 (Rv.wo i.op)) := ht.wo i.op.toNat (by omega)
  have hor : bits .or .u32 (Rv.wo i.op) (Rv.cho i) = Rv.enc i := Rv.or_enc hop
  go_enter Tryd.func27, Tryd.ntmps27
  go_wp2_with (go_at_call 58; refine (known_c _ _).mono ?_; rintro e w' ⟨rfl, rfl⟩; rw [hk])
  have g1 := Gr.refl (w.alloc (.cells #[.int .i64 i.op, .int .i64 i.rd, .int .i64 i.rs1, .int .i64 i.rs2, .int .i32 i.imm] 28))
  go_region_held3 (fun wr => wr.cell? ⟨1, i.op.toNat, none⟩ = some (.int .u32 (Rv.wo i.op)) ∧ wr.cell? ⟨w.heap.size, 0, none⟩ = some (.int .i64 i.op) ∧ wr.cell? ⟨w.heap.size, 1, none⟩ = some (.int .i64 i.rd) ∧ wr.cell? ⟨w.heap.size, 2, none⟩ = some (.int .i64 i.rs1) ∧ wr.cell? ⟨w.heap.size, 3, none⟩ = some (.int .i64 i.rs2) ∧ wr.cell? ⟨w.heap.size, 4, none⟩ = some (.int .i32 i.imm))
    (first | exact ⟨(Rv.dropGr g1).keep hwo, Rv.ibox g1⟩ | exact ⟨(Rv.dropGr g1.drew).keep hwo, Rv.ibox g1.drew⟩)
    (first | (go_at_call 59; refine (chosen_c i _).mono ?_; rintro e w2 ⟨rfl, h2⟩; (first | replace g1 := g1.trans h2 | replace g1 := g1.drew.trans h2); clear h2))
  go_wp2_with fail
  go_region_held3 (fun wr => wr.cell? ⟨w.heap.size, 0, none⟩ = some (.int .i64 i.op) ∧ wr.cell? ⟨w.heap.size, 1, none⟩ = some (.int .i64 i.rd) ∧ wr.cell? ⟨w.heap.size, 2, none⟩ = some (.int .i64 i.rs1) ∧ wr.cell? ⟨w.heap.size, 3, none⟩ = some (.int .i64 i.rs2) ∧ wr.cell? ⟨w.heap.size, 4, none⟩ = some (.int .i32 i.imm))
    (first | exact Rv.ibox g1 | exact Rv.ibox g1.drew)
    (first | (go_at_call 32; refine (Decode_c _ hu.1 hu.2 _ (ht.gr (Rv.dropGr g1).drew)).mono ?_; rintro e w2 ⟨rfl, h2⟩; rw [hd]; unfold Rv.iv; (first | replace g1 := g1.trans h2 | replace g1 := g1.drew.trans h2); clear h2))
  go_wp2
  go_returns
  exact ⟨rfl, Rv.dropGr g1⟩

theorem Encode_bad (i : Rv.Ins) (w : World) (ht : Tabs w) (hm : -2147483648 ≤ i.imm ∧ i.imm < 2147483648) (h : ¬ Rv.good i) :
    Calls Tryd.prog 27 #[Rv.iv i] w fun e w' => e = .returned (.tuple #[.int .u32 0, .int .i64 1]) ∧ Gr w w' := by
  by_cases hop : 1 ≤ i.op ∧ i.op ≤ 49
  · exact Encode_known i w ht hm hop h
  · exact Encode_unknown i w hop
end Go.Proofs.YtbackacbdfgdoaaDoor
namespace Go.Proofs.YtbackacbdfgdoaaDoor
open Go.ChangeShapes Go.WideShapes Go.ChangeAt Go.RowKit

def Rv.nmT : List (List UInt8) := [[], [108, 117, 105], [97, 117, 105, 112, 99], [106, 97, 108], [106, 97, 108, 114], [98, 101, 113], [98, 110, 101], [98, 108, 116], [98, 103, 101], [98, 108, 116, 117], [98, 103, 101, 117], [108, 98], [108, 104], [108, 119], [108, 98, 117], [108, 104, 117], [115, 98], [115, 104], [115, 119], [97, 100, 100, 105], [115, 108, 116, 105], [115, 108, 116, 105, 117], [120, 111, 114, 105], [111, 114, 105], [97, 110, 100, 105], [115, 108, 108, 105], [115, 114, 108, 105], [115, 114, 97, 105], [97, 100, 100], [115, 117, 98], [115, 108, 108], [115, 108, 116], [115, 108, 116, 117], [120, 111, 114], [115, 114, 108], [115, 114, 97], [111, 114], [97, 110, 100], [109, 117, 108], [109, 117, 108, 104], [109, 117, 108, 104, 115, 117], [109, 117, 108, 104, 117], [100, 105, 118], [100, 105, 118, 117], [114, 101, 109], [114, 101, 109, 117], [102, 101, 110, 99, 101], [102, 101, 110, 99, 101, 46, 105], [101, 99, 97, 108, 108], [101, 98, 114, 101, 97, 107]]
def Rv.nmS (i : Nat) : ByteArray := ⟨(Rv.nmT.getD i []).toArray⟩
def Rv.name (op : Int) : ByteArray := if 1 ≤ op ∧ op ≤ 49 then Rv.nmS op.toNat else ByteArray.empty
def KTab (w : World) : Prop := ∀ i : Nat, i < 9 → w.cell? ⟨0, i, none⟩ = some (.int .i64 ((Rv.kdT.getD i 0 : Nat) : Int))
theorem KTab.gr {w w' : World} (h : KTab w) (g : Gr w w') : KTab w' := fun i hi => g.keep (h i hi)
def Rv.kd (op : Int) : Int := if 19 ≤ op ∧ op ≤ 27 then ((Rv.kdT.getD (op - 19).toNat 0 : Nat) : Int) else if 28 ≤ op ∧ op ≤ 45 then op - 28 else 0
def Rv.kb (op : Int) : Bool := decide (19 ≤ op ∧ op ≤ 45)
theorem Rv.ret_kb {a c : Int} {b d : Bool} (h : a = c) (h2 : b = d) : Ending.returned (.tuple #[.int .i64 a, .bool b]) = .returned (.tuple #[.int .i64 c, .bool d]) := by rw [h, h2]
theorem Kind_c (op : Int) (hop : -9223372036854775808 ≤ op ∧ op ≤ 9223372036854775807) (w : World) (ht : KTab w) :
    Calls Tryd.prog 21 #[.int .i64 op] w fun e w' => e = .returned (.tuple #[.int .i64 (Rv.kd op), .bool (Rv.kb op)]) ∧ w' = w := by
  by_cases h1 : 19 ≤ op ∧ op ≤ 27
  · have hb : Rv.kb op = true := by unfold Rv.kb; simp; omega
    have hk : Rv.kd op = ((Rv.kdT.getD (op - 19).toNat 0 : Nat) : Int) := by unfold Rv.kd; rw [if_pos h1]
    rw [hb, hk]
    have hc := ht (op - 19).toNat (by omega)
    generalize Rv.kdT.getD (op - 19).toNat 0 = x at hc
    obtain ⟨a0, a1⟩ := h1
    go_enter Tryd.func21, Tryd.ntmps21
    go_wp2
    go_returns
    exact ⟨rfl, rfl⟩
  by_cases h2 : 28 ≤ op ∧ op ≤ 45
  · have hb : Rv.kb op = true := by unfold Rv.kb; simp; omega
    have hk : Rv.kd op = op - 28 := by unfold Rv.kd; rw [if_neg h1, if_pos h2]
    rw [hb, hk]
    obtain ⟨a0, a1⟩ := h2
    clear h1
    go_enter Tryd.func21, Tryd.ntmps21
    go_wp2
    go_returns
    exact ⟨rfl, rfl⟩
  · have hb : Rv.kb op = false := by unfold Rv.kb; simp; omega
    have hk : Rv.kd op = 0 := by unfold Rv.kd; rw [if_neg h1, if_neg h2]
    rw [hb, hk]
    obtain h | h : op < 19 ∨ 45 < op := by omega
    all_goals
      clear h1 h2
      go_enter Tryd.func21, Tryd.ntmps21
      go_wp2
      go_returns
      exact ⟨rfl, rfl⟩
end Go.Proofs.YtbackacbdfgdoaaDoor
namespace Go.Proofs.YtbackacbdfgdoaaDoor
open Go.ChangeShapes Go.WideShapes Go.ChangeAt Go.WideMaps Go.WideElems Go.RowKit

/-- One listed variable's reading, wherever it stands on the list. -/
def Reads (P : Program) (w : World) (n : String) (d : DataW Unit) : Prop :=
  ∃ g t cs fuel p, P.globalNamed n = some g ∧ (P.globals[g]?).map (·.type) = some t ∧ w.var? P n = some cs ∧ DataW.trod (fun _ => ()) P w 0 (fun _ => true) false fuel t cs.toList = some (d, p)
theorem reads_of {P : Program} {w : World} : ∀ {l : List (String × DataW Unit)} {ps : List MemPlace}, DataW.LaidVars P w l ps → ∀ n d, (n, d) ∈ l → Reads P w n d
  | [], _, _, _, _, hm => by cases hm
  | (n', d') :: r, ps, h, n, d, hm => by
    obtain ⟨g, t, cs, fuel, p, q, h1, h2, h3, h4, h5, _⟩ := h
    rcases List.mem_cons.1 hm with e | e
    · cases e
      exact ⟨g, t, cs, fuel, p, h1, h2, h3, h4⟩
    · exact reads_of h5 n d e
theorem laid_reads {P : Program} {w : World} {l : List (String × DataW Unit)} (h : laidMetH P l w) (hp : (l.all fun x => x.2.handleName?.isNone) = true) {n : String} {d : DataW Unit} (hm : (n, d) ∈ l) : Reads P w n d := by
  rw [MakeChecks.laidMetH_plain _ _ _ hp] at h
  obtain ⟨_, hv, _⟩ := h
  exact reads_of hv n d hm
theorem ints_at {P : Program} {W : World} {name : String} {k : IntKind} {zs : List Int} {g : Nat} {t e : TypeId} {n : Nat} (h : Reads P W name (Lib.tabData k zs))
    (hg : P.globalNamed name = some g) (hty : (P.globals[g]?).map (·.type) = some t) (ht : P.underlying t = some (.array n e)) (he : P.underlying e = some (.int k)) (hce : P.cellsOf e = 1) (hct : P.cellsOf t = n) (i : Nat) (hi : i < zs.length) :
    W.cell? ⟨g, i, none⟩ = some (.int k (zs.getD i 0)) := by
  obtain ⟨g', t', cs, fuel, p, hg', ht', hvar, hd⟩ := h
  obtain rfl := Option.some.inj (hg.symm.trans hg')
  obtain rfl := Option.some.inj (hty.symm.trans ht')
  have hT : Lib.TabIs P W name k zs := by unfold Lib.TabIs; rw [hvar, ← Lib.cells_of_tab ht he hce hct hd]
  exact hT.cell hg i hi
/-- A table of strings. -/
def strData {H : Type} (zs : List (List UInt8)) : DataW H := .agg (zs.map fun z => .lit (.string z))
theorem strs_cells {H : Type} {enc : TypeId × Value → H} {P : Program} {w : World} {base : Nat} {sp : Nat → Bool} {held : Bool} {fuel : Nat} {t e : TypeId} {n : Nat} {cs : List Value} {zs : List (List UInt8)} {p : List MemPlace}
    (ht : P.underlying t = some (.array n e)) (he : P.underlying e = some .string) (hce : P.cellsOf e = 1) (hct : P.cellsOf t = n)
    (h : DataW.trod enc P w base sp held fuel t cs = some (strData zs, p)) : cs = zs.map fun z => Value.string ⟨z.toArray⟩ := by
  cases fuel with
  | zero => simp [DataW.trod] at h
  | succ fuel =>
    simp only [DataW.trod, ht, hce, hct, Nat.mul_one] at h
    split at h
    · rename_i hl
      obtain ⟨xs, hm, hx⟩ := Option.map_eq_some_iff.1 h
      have hxs : xs.map (·.1) = zs.map fun z => (DataW.lit (.string z) : DataW H) := by
        have := congrArg Prod.fst hx
        simpa [strData] using this
      have hxl : xs.length = n := by simpa using Lib.mapM_length hm
      have hzl : zs.length = n := by
        have := congrArg List.length hxs
        simp at this
        omega
      apply List.ext_getElem?
      intro i
      by_cases hi : i < n
      · obtain ⟨b, hb, hf⟩ := Lib.mapM_at hm i i (by simp [hi])
        obtain ⟨z, hc, rfl, _⟩ := DataW.trod_string he hf
        have h1 : cs[i]? = some (.string z) := by
          have := congrArg (·[0]?) hc
          simpa [List.getElem?_take, List.getElem?_drop] using this
        have h2 : (xs.map (·.1))[i]? = some (DataW.lit (.string z.data.toList) : DataW H) := by simp [hb]
        rw [hxs] at h2
        simp only [List.getElem?_map, Option.map_eq_some_iff, DataW.lit.injEq, Lit.string.injEq] at h2
        obtain ⟨z', hz', rfl⟩ := h2
        simp [h1, hz']
      · rw [List.getElem?_eq_none (by omega), List.getElem?_eq_none (by simp; omega)]
    · cases h
theorem strs_at {P : Program} {W : World} {name : String} {zs : List (List UInt8)} {g : Nat} {t e : TypeId} {n : Nat} (h : Reads P W name (strData zs))
    (hg : P.globalNamed name = some g) (hty : (P.globals[g]?).map (·.type) = some t) (ht : P.underlying t = some (.array n e)) (he : P.underlying e = some .string) (hce : P.cellsOf e = 1) (hct : P.cellsOf t = n) (i : Nat) (hi : i < zs.length) :
    W.cell? ⟨g, i, none⟩ = some (.string ⟨(zs.getD i []).toArray⟩) := by
  obtain ⟨g', t', cs, fuel, p, hg', ht', hvar, hd⟩ := h
  obtain rfl := Option.some.inj (hg.symm.trans hg')
  obtain rfl := Option.some.inj (hty.symm.trans ht')
  have := World.var?_cell hg hvar i
  rw [← Array.getElem?_toList, strs_cells ht he hce hct hd] at this
  simpa [List.getD, hi] using this

theorem nat_ints {P : Program} {W : World} {name : String} {k : IntKind} {zs : List Nat} {g : Nat} {t e : TypeId} {n : Nat} (h : Reads P W name (Lib.tabData k (zs.map fun z : Nat => ((z : Nat) : Int))))
    (hg : P.globalNamed name = some g) (hty : (P.globals[g]?).map (·.type) = some t) (ht : P.underlying t = some (.array n e)) (he : P.underlying e = some (.int k)) (hce : P.cellsOf e = 1) (hct : P.cellsOf t = n) (i : Nat) (hi : i < zs.length) :
    W.cell? ⟨g, i, none⟩ = some (.int k ((zs.getD i 0 : Nat) : Int)) := by
  rw [ints_at h hg hty ht he hce hct i (by simpa using hi)]
  simp [List.getD, hi]

/-- The six tables that Decode and Encode read. -/
def laid6 : List (String × DataW Unit) := [("tincture/rv.words", Rows.laid_tincture_rv_words), ("tincture/rv.branches", Rows.laid_tincture_rv_branches), ("tincture/rv.loads", Rows.laid_tincture_rv_loads), ("tincture/rv.stores", Rows.laid_tincture_rv_stores), ("tincture/rv.immediates", Rows.laid_tincture_rv_immediates), ("tincture/rv.registers", Rows.laid_tincture_rv_registers)]
theorem tabs6_of {W : World} {l : List (String × DataW Unit)} (h : laidMetH Tryd.prog l W) (hp : (l.all fun x => x.2.handleName?.isNone) = true) (hs : ∀ x ∈ laid6, x ∈ l) : Tabs W := by
  refine ⟨?_, ?_, ?_, ?_, ?_, ?_⟩
  · exact fun i hi => nat_ints (zs := Rv.woT) (laid_reads h hp (n := "tincture/rv.words") (d := Rows.laid_tincture_rv_words) (hs _ (by simp [laid6]))) (by kernel_rfl) (by kernel_rfl) Tryd.underlying115 Tryd.underlying25 (by kernel_rfl) (by kernel_rfl) i hi
  · exact fun i hi => nat_ints (zs := Rv.brT) (laid_reads h hp (n := "tincture/rv.branches") (d := Rows.laid_tincture_rv_branches) (hs _ (by simp [laid6]))) (by kernel_rfl) (by kernel_rfl) Tryd.underlying154 Tryd.underlying3 (by kernel_rfl) (by kernel_rfl) i hi
  · exact fun i hi => nat_ints (zs := Rv.ldT) (laid_reads h hp (n := "tincture/rv.loads") (d := Rows.laid_tincture_rv_loads) (hs _ (by simp [laid6]))) (by kernel_rfl) (by kernel_rfl) Tryd.underlying154 Tryd.underlying3 (by kernel_rfl) (by kernel_rfl) i hi
  · exact fun i hi => nat_ints (zs := Rv.stT) (laid_reads h hp (n := "tincture/rv.stores") (d := Rows.laid_tincture_rv_stores) (hs _ (by simp [laid6]))) (by kernel_rfl) (by kernel_rfl) Tryd.underlying154 Tryd.underlying3 (by kernel_rfl) (by kernel_rfl) i hi
  · exact fun i hi => nat_ints (zs := Rv.imT) (laid_reads h hp (n := "tincture/rv.immediates") (d := Rows.laid_tincture_rv_immediates) (hs _ (by simp [laid6]))) (by kernel_rfl) (by kernel_rfl) Tryd.underlying154 Tryd.underlying3 (by kernel_rfl) (by kernel_rfl) i hi
  · exact fun i hi => nat_ints (zs := Rv.rgT) (laid_reads h hp (n := "tincture/rv.registers") (d := Rows.laid_tincture_rv_registers) (hs _ (by simp [laid6]))) (by kernel_rfl) (by kernel_rfl) Tryd.underlying154 Tryd.underlying3 (by kernel_rfl) (by kernel_rfl) i hi
theorem kinds_of {W : World} {l : List (String × DataW Unit)} (h : laidMetH Tryd.prog l W) (hp : (l.all fun x => x.2.handleName?.isNone) = true) (hs : ("tincture/rv.kinds", Rows.laid_tincture_rv_kinds) ∈ l) : KTab W :=
  fun i hi => nat_ints (zs := Rv.kdT) (laid_reads h hp hs) (by kernel_rfl) (by kernel_rfl) Tryd.underlying92 Tryd.underlying3 (by kernel_rfl) (by kernel_rfl) i hi
end Go.Proofs.YtbackacbdfgdoaaDoor
