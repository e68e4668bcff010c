/- THE LAWS OF LAYER 3: MemKnown. -/
import Derived.Test.YtlnfgdbondmglaaMemLaws3
namespace Go.Proofs.Ytlnfgdbondmglaa
open Go.ChangeShapes Go.WideShapes Go.ChangeAt Go.RowKit
set_option linter.unusedSimpArgs false
set_option linter.unusedVariables false

def kn1 : MS := (MS.new 2).mapS 4294967040 1 1
def kn2 : MS := kn1.put 4294967295 1 (fun _ => 9)
def kn3 : MS := kn2.unmap 16777215 1
theorem kn_pg : kn1.pg 16777215 = some (Pg.fresh 1 1) := new_pg (by decide +kernel) (by omega) (by omega)
theorem kn_may : May kn1 4294967040 256 1 := by
  refine ⟨by omega, fun j hj => ?_⟩
  have : cnt 4294967040 256 = 1 := by decide +kernel
  obtain rfl : j = 0 := by omega
  exact ⟨_, kn_pg, by decide +kernel⟩
theorem kn_may2 : ¬ May kn1 4294967041 256 1 := fun h => by have := h.1; omega
theorem kn_may3 : May kn1 4294967295 1 0 := (may_one (by omega)).2 ⟨_, kn_pg, by decide +kernel⟩
theorem u4d (a : Int) (h : 0 ≤ a ∧ a < 4294967296) : U4 a := h

set_option maxRecDepth 100000 in
set_option maxHeartbeats 4000000 in
theorem MemKnown_w (w : World) : Calls Try.prog 3 #[] w fun e w' => e = .returned (.bool true) ∧ Gr w w' := by
  have f1 : (MS.new 2).mapE 1 256 3 = 1 := by decide +kernel
  have f2 : (MS.new 2).mapE 0 0 3 = 1 := by decide +kernel
  have f3 : (MS.new 2).mapE 4294967040 257 3 = 1 := by decide +kernel
  have f4 : (MS.new 2).mapE 0 513 3 = 6 := by decide +kernel
  have f5 : (MS.new 2).mapE 4294967040 1 1 = 0 := by decide +kernel
  have f6 : kn1.mapE 4294967040 256 3 = 5 := by decide +kernel
  have f7 : kn1.ask 4294967041 2 1 = 3 := by decide +kernel
  have f8 : kn1.ask 0 4 1 = 1 := by decide +kernel
  have f9 : kn1.ask 4294967040 1 2 = 2 := by decide +kernel
  have f10 : kn1.ask 4294967040 3 0 = 3 := by decide +kernel
  have f11 : kn1.store 4294967040 1 1 = kn1 := by unfold MS.store; rw [if_neg (by rw [f9]; omega)]
  have f12 : lb kn1.th (0 / 256 + ((1 : Nat) : Int)) ≠ lb kn1.th (0 / 256) + 1 := by decide +kernel
  have f13 : kn2.permOf 4294967295 = 1 := by decide +kernel
  have f14 : (kn2.pg (4294967295 / 256)).isSome = true := by decide +kernel
  have f15 : kn2.gen 4294967040 = 2 := by decide +kernel
  have f16 : kn3.gen 4294967040 = 3 := by decide +kernel
  have f17 : kn3.th.length = 0 := by decide +kernel
  have f18 : kn1.load 4294967041 2 1 = 0 := by decide +kernel
  have f19 : kn1.load 0 4 1 = 0 := by decide +kernel
  have f20 : kn1.load 4294967040 3 0 = 0 := by decide +kernel
  go_enter Try.func3, Try.ntmps3
  go_wp2_with fail
  refine (awake_c _).mono ?_
  rintro e w1 ⟨rfl, g1⟩
  go_wp2_with fail
  refine (New_bad 0 (by omega) _).mono ?_
  rintro e w1' ⟨rfl, rfl⟩
  go_wp2_with fail
  refine (New_h g1 2 (by omega)).mono ?_
  rintro e w2 ⟨mb, rfl, h0⟩
  go_wp2_with fail
  refine (Map_hn h0 1 256 3 1 (u4d _ (by omega)) (u4d _ (by omega)) (by unfold maxLen; omega) f1 (by omega)).mono ?_
  rintro e w3 ⟨rfl, h1⟩
  go_wp2_with fail
  refine (Map_hn h1 0 0 3 1 (u4d _ (by omega)) (u4d _ (by omega)) (by unfold maxLen; omega) f2 (by omega)).mono ?_
  rintro e w4 ⟨rfl, h2⟩
  go_wp2_with fail
  refine (Map_hn h2 4294967040 257 3 1 (u4d _ (by omega)) (u4d _ (by omega)) (by unfold maxLen; omega) f3 (by omega)).mono ?_
  rintro e w5 ⟨rfl, h3⟩
  go_wp2_with fail
  refine (Map_hn h3 0 513 3 6 (u4d _ (by omega)) (u4d _ (by omega)) (by unfold maxLen; omega) f4 (by omega)).mono ?_
  rintro e w6 ⟨rfl, h4⟩
  go_wp2_with fail
  refine (Map_h h4 4294967040 1 1 (u4d _ (by omega)) (u4d _ (by omega)) (by unfold maxLen; omega) (fun _ => new_ins _ _)).mono ?_
  rw [f5]
  rintro e w7 ⟨rfl, h5⟩
  replace h5 : Has w w7 mb _ kn1 := h5
  clear h0 h1 h2 h3 h4
  go_wp2_with fail
  refine (Map_hn h5 4294967040 256 3 5 (u4d _ (by omega)) (u4d _ (by omega)) (by unfold maxLen; omega) f6 (by omega)).mono ?_
  rintro e w8 ⟨rfl, h6⟩
  go_wp2_with fail
  refine (Load_h h6 4294967041 2 1 (u4d _ (by omega))).mono ?_
  rw [f7, f18]
  rintro e w9 ⟨rfl, rfl⟩
  go_wp2_with fail
  refine (Load_h h6 0 4 1 (u4d _ (by omega))).mono ?_
  rw [f8, f19]
  rintro e w10 ⟨rfl, rfl⟩
  go_wp2_with fail
  refine (Store_h h6 4294967040 1 1 (u4d _ (by omega)) (u4d _ (by omega))).mono ?_
  rw [f9, f11]
  rintro e w11 ⟨rfl, h7⟩
  go_wp2_with fail
  refine (Load_h h7 4294967040 3 0 (u4d _ (by omega))).mono ?_
  rw [f10, f20]
  rintro e w12 ⟨rfl, rfl⟩
  go_wp2_with fail
  refine (Read_hy h7 4294967040 256 (u4d _ (by omega)) (by omega) kn_may).mono ?_
  rintro e w13 ⟨vx, rfl, _, h8, hrow, _⟩
  obtain ⟨qx, cx, rfl⟩ := row_shape hrow
  clear hrow
  go_wp2_with fail
  refine (Read_hn h8 4294967041 256 (u4d _ (by omega)) (by omega) kn_may2).mono ?_
  rintro e w14 ⟨rfl, _, h9⟩
  go_wp2_with fail
  refine (Protect_h4 h9 0 256 1 (u4d _ (by omega)) (u4d _ (by omega)) (by unfold StOk; omega) (by omega) 1 (by omega) f12).mono ?_
  rintro e w15 ⟨rfl, h10⟩
  go_wp2_with fail
  refine (Protect_h1 h10 4294967040 256 8 (u4d _ (by omega)) (u4d _ (by omega)) (by omega)).mono ?_
  rintro e w16 ⟨rfl, h11⟩
  go_wp2_with fail
  refine (Poke_hy (w1 := w16.alloc (.cells #[.int .u8 9] 5)) h11 ((Gr.refl w16).alloc _ _) 4294967295 1 (u4d _ (by omega)) (by omega) (by omega) kn_may3 w16.heap.size 0 1 (fun _ => 9) (by omega) (fun i hi => by
    obtain rfl : i = 0 := by omega
    simp) (by omega) (.inr (by omega))).mono ?_
  rintro e w17 ⟨rfl, h12⟩
  replace h12 : Has w w17 mb _ kn2 := h12
  clear h5 h6 h7 h8 h9 h10 h11
  go_wp2_with fail
  refine (Perm_h h12 4294967295 (u4d _ (by omega))).mono ?_
  rw [f13, f14]
  rintro e w18 ⟨rfl, rfl⟩
  go_wp2_with fail
  refine (Gen_h h12 4294967040 (u4d _ (by omega))).mono ?_
  rw [f15]
  rintro e w19 ⟨rfl, rfl⟩
  go_wp2_with fail
  refine (Unmap_h h12 4294967040 256 (u4d _ (by omega)) (u4d _ (by omega)) (by unfold StOk; omega) 1 (by omega) (by unfold maxLen; omega)).mono ?_
  rintro e w20 ⟨rfl, h13⟩
  replace h13 : Has w w20 mb _ kn3 := h13
  go_wp2_with fail
  refine (Gen_h h13 4294967040 (u4d _ (by omega))).mono ?_
  rw [f16]
  rintro e w21 ⟨rfl, rfl⟩
  go_wp2_with fail
  refine (Pages_h h13).mono ?_
  rw [f17]
  rintro e w22 ⟨rfl, h14⟩
  go_wp2_with fail
  go_returns
  exact ⟨rfl, h14.gr⟩
end Go.Proofs.Ytlnfgdbondmglaa
