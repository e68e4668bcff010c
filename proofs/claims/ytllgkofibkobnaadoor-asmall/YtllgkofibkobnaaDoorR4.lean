/- LAYER 5: the document's own answer: Encode. · LAYER 5: the document's own answer: Encode. · LAYER 5: the document's own answer: Encode. -/
import Derived.Test.YtllgkofibkobnaaDoorR3
namespace Go.Proofs.YtllgkofibkobnaaDoor
open Go.ChangeShapes Go.WideShapes Go.ChangeAt Go.RowKit
set_option linter.unusedVariables false

set_option maxHeartbeats 3200000 in
set_option maxRecDepth 100000 in
theorem rEnc_1 (op rd rs1 rs2 imm : Int) (w : World) (h0 : 1 ≤ op) (h1 : op ≤ 49) (d0 : 0 ≤ rd) (d1 : rd < 32) (s0 : 0 ≤ rs1) (s1 : rs1 < 32) (t0 : 0 ≤ rs2) (t1 : rs2 < 32) (m0 : -2147483648 ≤ imm) (m1 : imm < 2147483648) (c1 : op ≤ 2)
    (o f3 f7 : Int) (hf : ∀ w, Calls Tryd.prog 41 #[.int .i64 op] w fun e w' => e = .returned (.tuple #[.int .u32 o, .int .u32 f3, .int .u32 f7]) ∧ Gr w w') (o0 : 0 ≤ o) (o1 : o < 128) (a0 : 0 ≤ f3) (a1 : f3 < 8) (a2 : 0 ≤ f7) (a3 : f7 < 128)
    (C : Prop) (hC : Hid (C ↔ (rs1 = 0 ∧ rs2 = 0 ∧ imm % 4096 = 0))) (V : Int) (hV : Hid (V = o + 128 * rd + 4096 * (imm / 4096 % 1048576))) :
    Calls Tryd.prog 18 #[Rv.iv ⟨op, rd, rs1, rs2, imm⟩] w fun e w' => Rv.EncPost C V w e w' := by
  unfold Rv.iv; dsimp only
  have g1 := Gr.refl (w.alloc (.cells #[.int .i64 op, .int .i64 rd, .int .i64 rs1, .int .i64 rs2, .int .i32 imm] 45))
  have kr : ∀ r : Int, 0 ≤ r → r < 32 → decide (0 ≤ r ∧ r < 32) = true := fun r a b => by simp [a, b]
  have kd := kr rd d0 d1
  have ks := kr rs1 s0 s1
  have kt := kr rs2 t0 t1
  clear kr
  go_enter Tryd.func18, Tryd.ntmps18
  go_wp2_with (go_at_call 40; refine (rreg_c _ _).mono ?_; rintro e w' ⟨rfl, rfl⟩; (first | rw [kd] | rw [ks] | rw [kt]))
  refine (hf _).mono ?_
  rintro e w2 ⟨rfl, g2⟩
  replace g1 := g1.trans g2
  have hb := Rv.ibox (i := ⟨_, rd, rs1, rs2, imm⟩) g1
  go_wp2_with fail
  go_region
  go_wp2_with (go_at_call 42; refine (rlow_c _ _ _ _ (by omega) _).mono ?_; rintro e w' ⟨rfl, rfl⟩)
  all_goals (try (go_region; go_wp2_with (go_at_call 42; refine (rlow_c _ _ _ _ (by omega) _).mono ?_; rintro e w' ⟨rfl, rfl⟩)))
  all_goals go_returns
  all_goals clear hf hb kd ks kt g2
  all_goals unfold Rv.EncPost
  all_goals refine ⟨_, _, rfl, by first | exact Rv.dropGr g1 | exact (Rv.dropGr g1).drew | exact (Rv.dropGr g1).drew.drew, ?_, ?_⟩
  all_goals first
    | (rw [hC.out]; unfold Rv.lowb; rw [decide_eq_true_iff]; omega)
    | (rw [hC.out]; simp; omega)
    | (rw [hC.out, Rv.and12, beq_iff_eq]; omega)
    | (rw [hC.out, beq_iff_eq])
    | (intro hc; rw [hC.out] at hc; rw [hV.out]; exact Rv.e1 o0 o1 d0 d1 hc.2.2)
set_option maxHeartbeats 3200000 in
set_option maxRecDepth 100000 in
theorem rEnc_2 (op rd rs1 rs2 imm : Int) (w : World) (h0 : 1 ≤ op) (h1 : op ≤ 49) (d0 : 0 ≤ rd) (d1 : rd < 32) (s0 : 0 ≤ rs1) (s1 : rs1 < 32) (t0 : 0 ≤ rs2) (t1 : rs2 < 32) (m0 : -2147483648 ≤ imm) (m1 : imm < 2147483648) (c0 : 3 ≤ op) (c1 : op ≤ 3)
    (o f3 f7 : Int) (hf : ∀ w, Calls Tryd.prog 41 #[.int .i64 op] w fun e w' => e = .returned (.tuple #[.int .u32 o, .int .u32 f3, .int .u32 f7]) ∧ Gr w w') (o0 : 0 ≤ o) (o1 : o < 128) (a0 : 0 ≤ f3) (a1 : f3 < 8) (a2 : 0 ≤ f7) (a3 : f7 < 128)
    (C : Prop) (hC : Hid (C ↔ (rs1 = 0 ∧ rs2 = 0 ∧ -1048576 ≤ imm ∧ imm ≤ 1048574 ∧ imm % 2 = 0))) (V : Int) (hV : Hid (V = o + 128 * rd + 4096 * (imm / 4096 % 256) + 1048576 * (imm / 2048 % 2) + 2097152 * (imm / 2 % 1024) + 2147483648 * (imm / 1048576 % 2))) :
    Calls Tryd.prog 18 #[Rv.iv ⟨op, rd, rs1, rs2, imm⟩] w fun e w' => Rv.EncPost C V w e w' := by
  unfold Rv.iv; dsimp only
  have g1 := Gr.refl (w.alloc (.cells #[.int .i64 op, .int .i64 rd, .int .i64 rs1, .int .i64 rs2, .int .i32 imm] 45))
  have x3 : (op == 3) = true := by simp; omega
  have kr : ∀ r : Int, 0 ≤ r → r < 32 → decide (0 ≤ r ∧ r < 32) = true := fun r a b => by simp [a, b]
  have kd := kr rd d0 d1
  have ks := kr rs1 s0 s1
  have kt := kr rs2 t0 t1
  clear kr
  go_enter Tryd.func18, Tryd.ntmps18
  go_wp2_with (go_at_call 40; refine (rreg_c _ _).mono ?_; rintro e w' ⟨rfl, rfl⟩; (first | rw [kd] | rw [ks] | rw [kt]))
  refine (hf _).mono ?_
  rintro e w2 ⟨rfl, g2⟩
  replace g1 := g1.trans g2
  have hb := Rv.ibox (i := ⟨_, rd, rs1, rs2, imm⟩) g1
  go_wp2_with fail
  go_region
  go_wp2_with (go_at_call 42; refine (rlow_c _ _ _ _ (by omega) _).mono ?_; rintro e w' ⟨rfl, rfl⟩)
  all_goals (try (go_region; go_wp2_with (go_at_call 42; refine (rlow_c _ _ _ _ (by omega) _).mono ?_; rintro e w' ⟨rfl, rfl⟩)))
  all_goals go_returns
  all_goals clear hf hb kd ks kt g2
  all_goals unfold Rv.EncPost
  all_goals refine ⟨_, _, rfl, by first | exact Rv.dropGr g1 | exact (Rv.dropGr g1).drew | exact (Rv.dropGr g1).drew.drew, ?_, ?_⟩
  all_goals first
    | (rw [hC.out]; unfold Rv.lowb; rw [decide_eq_true_iff]; omega)
    | (rw [hC.out]; simp; omega)
    | (rw [hC.out, Rv.and12, beq_iff_eq]; omega)
    | (rw [hC.out, beq_iff_eq])
    | (intro hc; rw [hC.out] at hc; rw [hV.out]; exact Rv.e2 o0 o1 d0 d1)
set_option maxHeartbeats 3200000 in
set_option maxRecDepth 100000 in
theorem rEnc_6 (op rd rs1 rs2 imm : Int) (w : World) (h0 : 1 ≤ op) (h1 : op ≤ 49) (d0 : 0 ≤ rd) (d1 : rd < 32) (s0 : 0 ≤ rs1) (s1 : rs1 < 32) (t0 : 0 ≤ rs2) (t1 : rs2 < 32) (m0 : -2147483648 ≤ imm) (m1 : imm < 2147483648) (c0 : 25 ≤ op) (c1 : op ≤ 27)
    (o f3 f7 : Int) (hf : ∀ w, Calls Tryd.prog 41 #[.int .i64 op] w fun e w' => e = .returned (.tuple #[.int .u32 o, .int .u32 f3, .int .u32 f7]) ∧ Gr w w') (o0 : 0 ≤ o) (o1 : o < 128) (a0 : 0 ≤ f3) (a1 : f3 < 8) (a2 : 0 ≤ f7) (a3 : f7 < 128)
    (C : Prop) (hC : Hid (C ↔ (rs2 = 0 ∧ 0 ≤ imm ∧ imm ≤ 31))) (V : Int) (hV : Hid (V = o + 4096 * f3 + 128 * rd + 32768 * rs1 + 1048576 * (imm % 32) + 33554432 * f7)) :
    Calls Tryd.prog 18 #[Rv.iv ⟨op, rd, rs1, rs2, imm⟩] w fun e w' => Rv.EncPost C V w e w' := by
  unfold Rv.iv; dsimp only
  have g1 := Gr.refl (w.alloc (.cells #[.int .i64 op, .int .i64 rd, .int .i64 rs1, .int .i64 rs2, .int .i32 imm] 45))
  have x3 := Rv.beqF (show op ≠ 3 by omega)
  have x4 := Rv.beqF (show op ≠ 4 by omega)
  have kr : ∀ r : Int, 0 ≤ r → r < 32 → decide (0 ≤ r ∧ r < 32) = true := fun r a b => by simp [a, b]
  have kd := kr rd d0 d1
  have ks := kr rs1 s0 s1
  have kt := kr rs2 t0 t1
  clear kr
  go_enter Tryd.func18, Tryd.ntmps18
  go_wp2_with (go_at_call 40; refine (rreg_c _ _).mono ?_; rintro e w' ⟨rfl, rfl⟩; (first | rw [kd] | rw [ks] | rw [kt]))
  refine (hf _).mono ?_
  rintro e w2 ⟨rfl, g2⟩
  replace g1 := g1.trans g2
  have hb := Rv.ibox (i := ⟨_, rd, rs1, rs2, imm⟩) g1
  go_wp2_with fail
  go_region
  go_wp2_with (go_at_call 42; refine (rlow_c _ _ _ _ (by omega) _).mono ?_; rintro e w' ⟨rfl, rfl⟩)
  all_goals (try (go_region; go_wp2_with (go_at_call 42; refine (rlow_c _ _ _ _ (by omega) _).mono ?_; rintro e w' ⟨rfl, rfl⟩)))
  all_goals go_returns
  all_goals clear hf hb kd ks kt g2
  all_goals unfold Rv.EncPost
  all_goals refine ⟨_, _, rfl, by first | exact Rv.dropGr g1 | exact (Rv.dropGr g1).drew | exact (Rv.dropGr g1).drew.drew, ?_, ?_⟩
  all_goals first
    | (rw [hC.out]; unfold Rv.lowb; rw [decide_eq_true_iff]; omega)
    | (rw [hC.out]; simp; omega)
    | (rw [hC.out, Rv.and12, beq_iff_eq]; omega)
    | (rw [hC.out, beq_iff_eq])
    | (intro hc; rw [hC.out] at hc; rw [hV.out]; exact Rv.e6 o0 o1 a0 a1 d0 d1 s0 s1 a2 a3)
end Go.Proofs.YtllgkofibkobnaaDoor
namespace Go.Proofs.YtllgkofibkobnaaDoor
open Go.ChangeShapes Go.WideShapes Go.ChangeAt Go.RowKit
set_option linter.unusedVariables false

set_option maxHeartbeats 3200000 in
set_option maxRecDepth 100000 in
theorem rEnc_5a (op rd rs1 rs2 imm : Int) (w : World) (h0 : 1 ≤ op) (h1 : op ≤ 49) (d0 : 0 ≤ rd) (d1 : rd < 32) (s0 : 0 ≤ rs1) (s1 : rs1 < 32) (t0 : 0 ≤ rs2) (t1 : rs2 < 32) (m0 : -2147483648 ≤ imm) (m1 : imm < 2147483648) (c0 : 4 ≤ op) (c1 : op ≤ 4)
    (o f3 f7 : Int) (hf : ∀ w, Calls Tryd.prog 41 #[.int .i64 op] w fun e w' => e = .returned (.tuple #[.int .u32 o, .int .u32 f3, .int .u32 f7]) ∧ Gr w w') (o0 : 0 ≤ o) (o1 : o < 128) (a0 : 0 ≤ f3) (a1 : f3 < 8) (a2 : 0 ≤ f7) (a3 : f7 < 128)
    (C : Prop) (hC : Hid (C ↔ (rs2 = 0 ∧ -2048 ≤ imm ∧ imm ≤ 2047))) (V : Int) (hV : Hid (V = o + 4096 * f3 + 128 * rd + 32768 * rs1 + 1048576 * (imm % 4096))) :
    Calls Tryd.prog 18 #[Rv.iv ⟨op, rd, rs1, rs2, imm⟩] w fun e w' => Rv.EncPost C V w e w' := by
  unfold Rv.iv; dsimp only
  have g1 := Gr.refl (w.alloc (.cells #[.int .i64 op, .int .i64 rd, .int .i64 rs1, .int .i64 rs2, .int .i32 imm] 45))
  have x3 := Rv.beqF (show op ≠ 3 by omega)
  have x4 : (op == 4) = true := by simp; omega
  have kr : ∀ r : Int, 0 ≤ r → r < 32 → decide (0 ≤ r ∧ r < 32) = true := fun r a b => by simp [a, b]
  have kd := kr rd d0 d1
  have ks := kr rs1 s0 s1
  have kt := kr rs2 t0 t1
  clear kr
  go_enter Tryd.func18, Tryd.ntmps18
  go_wp2_with (go_at_call 40; refine (rreg_c _ _).mono ?_; rintro e w' ⟨rfl, rfl⟩; (first | rw [kd] | rw [ks] | rw [kt]))
  refine (hf _).mono ?_
  rintro e w2 ⟨rfl, g2⟩
  replace g1 := g1.trans g2
  have hb := Rv.ibox (i := ⟨_, rd, rs1, rs2, imm⟩) g1
  go_wp2_with fail
  go_region
  go_wp2_with (go_at_call 42; refine (rlow_c _ _ _ _ (by omega) _).mono ?_; rintro e w' ⟨rfl, rfl⟩)
  all_goals (try (go_region; go_wp2_with (go_at_call 42; refine (rlow_c _ _ _ _ (by omega) _).mono ?_; rintro e w' ⟨rfl, rfl⟩)))
  all_goals go_returns
  all_goals clear hf hb kd ks kt g2
  all_goals unfold Rv.EncPost
  all_goals refine ⟨_, _, rfl, by first | exact Rv.dropGr g1 | exact (Rv.dropGr g1).drew | exact (Rv.dropGr g1).drew.drew, ?_, ?_⟩
  all_goals first
    | (rw [hC.out]; unfold Rv.lowb; rw [decide_eq_true_iff]; omega)
    | (rw [hC.out]; simp; omega)
    | (rw [hC.out, Rv.and12, beq_iff_eq]; omega)
    | (rw [hC.out, beq_iff_eq])
    | (intro hc; rw [hC.out] at hc; rw [hV.out]; exact Rv.e5 o0 o1 a0 a1 d0 d1 s0 s1)
set_option maxHeartbeats 3200000 in
set_option maxRecDepth 100000 in
theorem rEnc_5b (op rd rs1 rs2 imm : Int) (w : World) (h0 : 1 ≤ op) (h1 : op ≤ 49) (d0 : 0 ≤ rd) (d1 : rd < 32) (s0 : 0 ≤ rs1) (s1 : rs1 < 32) (t0 : 0 ≤ rs2) (t1 : rs2 < 32) (m0 : -2147483648 ≤ imm) (m1 : imm < 2147483648) (c0 : 11 ≤ op) (c1 : op ≤ 15)
    (o f3 f7 : Int) (hf : ∀ w, Calls Tryd.prog 41 #[.int .i64 op] w fun e w' => e = .returned (.tuple #[.int .u32 o, .int .u32 f3, .int .u32 f7]) ∧ Gr w w') (o0 : 0 ≤ o) (o1 : o < 128) (a0 : 0 ≤ f3) (a1 : f3 < 8) (a2 : 0 ≤ f7) (a3 : f7 < 128)
    (C : Prop) (hC : Hid (C ↔ (rs2 = 0 ∧ -2048 ≤ imm ∧ imm ≤ 2047))) (V : Int) (hV : Hid (V = o + 4096 * f3 + 128 * rd + 32768 * rs1 + 1048576 * (imm % 4096))) :
    Calls Tryd.prog 18 #[Rv.iv ⟨op, rd, rs1, rs2, imm⟩] w fun e w' => Rv.EncPost C V w e w' := by
  unfold Rv.iv; dsimp only
  have g1 := Gr.refl (w.alloc (.cells #[.int .i64 op, .int .i64 rd, .int .i64 rs1, .int .i64 rs2, .int .i32 imm] 45))
  have x3 := Rv.beqF (show op ≠ 3 by omega)
  have x4 := Rv.beqF (show op ≠ 4 by omega)
  have kr : ∀ r : Int, 0 ≤ r → r < 32 → decide (0 ≤ r ∧ r < 32) = true := fun r a b => by simp [a, b]
  have kd := kr rd d0 d1
  have ks := kr rs1 s0 s1
  have kt := kr rs2 t0 t1
  clear kr
  go_enter Tryd.func18, Tryd.ntmps18
  go_wp2_with (go_at_call 40; refine (rreg_c _ _).mono ?_; rintro e w' ⟨rfl, rfl⟩; (first | rw [kd] | rw [ks] | rw [kt]))
  refine (hf _).mono ?_
  rintro e w2 ⟨rfl, g2⟩
  replace g1 := g1.trans g2
  have hb := Rv.ibox (i := ⟨_, rd, rs1, rs2, imm⟩) g1
  go_wp2_with fail
  go_region
  go_wp2_with (go_at_call 42; refine (rlow_c _ _ _ _ (by omega) _).mono ?_; rintro e w' ⟨rfl, rfl⟩)
  all_goals (try (go_region; go_wp2_with (go_at_call 42; refine (rlow_c _ _ _ _ (by omega) _).mono ?_; rintro e w' ⟨rfl, rfl⟩)))
  all_goals go_returns
  all_goals clear hf hb kd ks kt g2
  all_goals unfold Rv.EncPost
  all_goals refine ⟨_, _, rfl, by first | exact Rv.dropGr g1 | exact (Rv.dropGr g1).drew | exact (Rv.dropGr g1).drew.drew, ?_, ?_⟩
  all_goals first
    | (rw [hC.out]; unfold Rv.lowb; rw [decide_eq_true_iff]; omega)
    | (rw [hC.out]; simp; omega)
    | (rw [hC.out, Rv.and12, beq_iff_eq]; omega)
    | (rw [hC.out, beq_iff_eq])
    | (intro hc; rw [hC.out] at hc; rw [hV.out]; exact Rv.e5 o0 o1 a0 a1 d0 d1 s0 s1)
set_option maxHeartbeats 3200000 in
set_option maxRecDepth 100000 in
theorem rEnc_5c (op rd rs1 rs2 imm : Int) (w : World) (h0 : 1 ≤ op) (h1 : op ≤ 49) (d0 : 0 ≤ rd) (d1 : rd < 32) (s0 : 0 ≤ rs1) (s1 : rs1 < 32) (t0 : 0 ≤ rs2) (t1 : rs2 < 32) (m0 : -2147483648 ≤ imm) (m1 : imm < 2147483648) (c0 : 19 ≤ op) (c1 : op ≤ 24)
    (o f3 f7 : Int) (hf : ∀ w, Calls Tryd.prog 41 #[.int .i64 op] w fun e w' => e = .returned (.tuple #[.int .u32 o, .int .u32 f3, .int .u32 f7]) ∧ Gr w w') (o0 : 0 ≤ o) (o1 : o < 128) (a0 : 0 ≤ f3) (a1 : f3 < 8) (a2 : 0 ≤ f7) (a3 : f7 < 128)
    (C : Prop) (hC : Hid (C ↔ (rs2 = 0 ∧ -2048 ≤ imm ∧ imm ≤ 2047))) (V : Int) (hV : Hid (V = o + 4096 * f3 + 128 * rd + 32768 * rs1 + 1048576 * (imm % 4096))) :
    Calls Tryd.prog 18 #[Rv.iv ⟨op, rd, rs1, rs2, imm⟩] w fun e w' => Rv.EncPost C V w e w' := by
  unfold Rv.iv; dsimp only
  have g1 := Gr.refl (w.alloc (.cells #[.int .i64 op, .int .i64 rd, .int .i64 rs1, .int .i64 rs2, .int .i32 imm] 45))
  have x3 := Rv.beqF (show op ≠ 3 by omega)
  have x4 := Rv.beqF (show op ≠ 4 by omega)
  have kr : ∀ r : Int, 0 ≤ r → r < 32 → decide (0 ≤ r ∧ r < 32) = true := fun r a b => by simp [a, b]
  have kd := kr rd d0 d1
  have ks := kr rs1 s0 s1
  have kt := kr rs2 t0 t1
  clear kr
  go_enter Tryd.func18, Tryd.ntmps18
  go_wp2_with (go_at_call 40; refine (rreg_c _ _).mono ?_; rintro e w' ⟨rfl, rfl⟩; (first | rw [kd] | rw [ks] | rw [kt]))
  refine (hf _).mono ?_
  rintro e w2 ⟨rfl, g2⟩
  replace g1 := g1.trans g2
  have hb := Rv.ibox (i := ⟨_, rd, rs1, rs2, imm⟩) g1
  go_wp2_with fail
  go_region
  go_wp2_with (go_at_call 42; refine (rlow_c _ _ _ _ (by omega) _).mono ?_; rintro e w' ⟨rfl, rfl⟩)
  all_goals (try (go_region; go_wp2_with (go_at_call 42; refine (rlow_c _ _ _ _ (by omega) _).mono ?_; rintro e w' ⟨rfl, rfl⟩)))
  all_goals go_returns
  all_goals clear hf hb kd ks kt g2
  all_goals unfold Rv.EncPost
  all_goals refine ⟨_, _, rfl, by first | exact Rv.dropGr g1 | exact (Rv.dropGr g1).drew | exact (Rv.dropGr g1).drew.drew, ?_, ?_⟩
  all_goals first
    | (rw [hC.out]; unfold Rv.lowb; rw [decide_eq_true_iff]; omega)
    | (rw [hC.out]; simp; omega)
    | (rw [hC.out, Rv.and12, beq_iff_eq]; omega)
    | (rw [hC.out, beq_iff_eq])
    | (intro hc; rw [hC.out] at hc; rw [hV.out]; exact Rv.e5 o0 o1 a0 a1 d0 d1 s0 s1)
end Go.Proofs.YtllgkofibkobnaaDoor
namespace Go.Proofs.YtllgkofibkobnaaDoor
open Go.ChangeShapes Go.WideShapes Go.ChangeAt Go.RowKit
set_option linter.unusedVariables false

set_option maxHeartbeats 3200000 in
set_option maxRecDepth 100000 in
theorem rEnc_3 (op rd rs1 rs2 imm : Int) (w : World) (h0 : 1 ≤ op) (h1 : op ≤ 49) (d0 : 0 ≤ rd) (d1 : rd < 32) (s0 : 0 ≤ rs1) (s1 : rs1 < 32) (t0 : 0 ≤ rs2) (t1 : rs2 < 32) (m0 : -2147483648 ≤ imm) (m1 : imm < 2147483648) (c0 : 5 ≤ op) (c1 : op ≤ 10)
    (o f3 f7 : Int) (hf : ∀ w, Calls Tryd.prog 41 #[.int .i64 op] w fun e w' => e = .returned (.tuple #[.int .u32 o, .int .u32 f3, .int .u32 f7]) ∧ Gr w w') (o0 : 0 ≤ o) (o1 : o < 128) (a0 : 0 ≤ f3) (a1 : f3 < 8) (a2 : 0 ≤ f7) (a3 : f7 < 128)
    (C : Prop) (hC : Hid (C ↔ (rd = 0 ∧ -4096 ≤ imm ∧ imm ≤ 4094 ∧ imm % 2 = 0))) (V : Int) (hV : Hid (V = o + 4096 * f3 + 128 * (imm / 2048 % 2) + 256 * (imm / 2 % 16) + 32768 * rs1 + 1048576 * rs2 + 33554432 * (imm / 32 % 64) + 2147483648 * (imm / 4096 % 2))) :
    Calls Tryd.prog 18 #[Rv.iv ⟨op, rd, rs1, rs2, imm⟩] w fun e w' => Rv.EncPost C V w e w' := by
  unfold Rv.iv; dsimp only
  have g1 := Gr.refl (w.alloc (.cells #[.int .i64 op, .int .i64 rd, .int .i64 rs1, .int .i64 rs2, .int .i32 imm] 45))
  have x3 := Rv.beqF (show op ≠ 3 by omega)
  have x4 := Rv.beqF (show op ≠ 4 by omega)
  have kr : ∀ r : Int, 0 ≤ r → r < 32 → decide (0 ≤ r ∧ r < 32) = true := fun r a b => by simp [a, b]
  have kd := kr rd d0 d1
  have ks := kr rs1 s0 s1
  have kt := kr rs2 t0 t1
  clear kr
  go_enter Tryd.func18, Tryd.ntmps18
  go_wp2_with (go_at_call 40; refine (rreg_c _ _).mono ?_; rintro e w' ⟨rfl, rfl⟩; (first | rw [kd] | rw [ks] | rw [kt]))
  refine (hf _).mono ?_
  rintro e w2 ⟨rfl, g2⟩
  replace g1 := g1.trans g2
  have hb := Rv.ibox (i := ⟨_, rd, rs1, rs2, imm⟩) g1
  go_wp2_with fail
  go_region
  go_wp2_with (go_at_call 42; refine (rlow_c _ _ _ _ (by omega) _).mono ?_; rintro e w' ⟨rfl, rfl⟩)
  all_goals (try (go_region; go_wp2_with (go_at_call 42; refine (rlow_c _ _ _ _ (by omega) _).mono ?_; rintro e w' ⟨rfl, rfl⟩)))
  all_goals go_returns
  all_goals clear hf hb kd ks kt g2
  all_goals unfold Rv.EncPost
  all_goals refine ⟨_, _, rfl, by first | exact Rv.dropGr g1 | exact (Rv.dropGr g1).drew | exact (Rv.dropGr g1).drew.drew, ?_, ?_⟩
  all_goals first
    | (rw [hC.out]; unfold Rv.lowb; rw [decide_eq_true_iff]; omega)
    | (rw [hC.out]; simp; omega)
    | (rw [hC.out, Rv.and12, beq_iff_eq]; omega)
    | (rw [hC.out, beq_iff_eq])
    | (intro hc; rw [hC.out] at hc; rw [hV.out]; exact Rv.e3 o0 o1 a0 a1 s0 s1 t0 t1)
set_option maxHeartbeats 3200000 in
set_option maxRecDepth 100000 in
theorem rEnc_4 (op rd rs1 rs2 imm : Int) (w : World) (h0 : 1 ≤ op) (h1 : op ≤ 49) (d0 : 0 ≤ rd) (d1 : rd < 32) (s0 : 0 ≤ rs1) (s1 : rs1 < 32) (t0 : 0 ≤ rs2) (t1 : rs2 < 32) (m0 : -2147483648 ≤ imm) (m1 : imm < 2147483648) (c0 : 16 ≤ op) (c1 : op ≤ 18)
    (o f3 f7 : Int) (hf : ∀ w, Calls Tryd.prog 41 #[.int .i64 op] w fun e w' => e = .returned (.tuple #[.int .u32 o, .int .u32 f3, .int .u32 f7]) ∧ Gr w w') (o0 : 0 ≤ o) (o1 : o < 128) (a0 : 0 ≤ f3) (a1 : f3 < 8) (a2 : 0 ≤ f7) (a3 : f7 < 128)
    (C : Prop) (hC : Hid (C ↔ (rd = 0 ∧ -2048 ≤ imm ∧ imm ≤ 2047))) (V : Int) (hV : Hid (V = o + 4096 * f3 + 128 * (imm % 32) + 32768 * rs1 + 1048576 * rs2 + 33554432 * (imm / 32 % 128))) :
    Calls Tryd.prog 18 #[Rv.iv ⟨op, rd, rs1, rs2, imm⟩] w fun e w' => Rv.EncPost C V w e w' := by
  unfold Rv.iv; dsimp only
  have g1 := Gr.refl (w.alloc (.cells #[.int .i64 op, .int .i64 rd, .int .i64 rs1, .int .i64 rs2, .int .i32 imm] 45))
  have x3 := Rv.beqF (show op ≠ 3 by omega)
  have x4 := Rv.beqF (show op ≠ 4 by omega)
  have kr : ∀ r : Int, 0 ≤ r → r < 32 → decide (0 ≤ r ∧ r < 32) = true := fun r a b => by simp [a, b]
  have kd := kr rd d0 d1
  have ks := kr rs1 s0 s1
  have kt := kr rs2 t0 t1
  clear kr
  go_enter Tryd.func18, Tryd.ntmps18
  go_wp2_with (go_at_call 40; refine (rreg_c _ _).mono ?_; rintro e w' ⟨rfl, rfl⟩; (first | rw [kd] | rw [ks] | rw [kt]))
  refine (hf _).mono ?_
  rintro e w2 ⟨rfl, g2⟩
  replace g1 := g1.trans g2
  have hb := Rv.ibox (i := ⟨_, rd, rs1, rs2, imm⟩) g1
  go_wp2_with fail
  go_region
  go_wp2_with (go_at_call 42; refine (rlow_c _ _ _ _ (by omega) _).mono ?_; rintro e w' ⟨rfl, rfl⟩)
  all_goals (try (go_region; go_wp2_with (go_at_call 42; refine (rlow_c _ _ _ _ (by omega) _).mono ?_; rintro e w' ⟨rfl, rfl⟩)))
  all_goals go_returns
  all_goals clear hf hb kd ks kt g2
  all_goals unfold Rv.EncPost
  all_goals refine ⟨_, _, rfl, by first | exact Rv.dropGr g1 | exact (Rv.dropGr g1).drew | exact (Rv.dropGr g1).drew.drew, ?_, ?_⟩
  all_goals first
    | (rw [hC.out]; unfold Rv.lowb; rw [decide_eq_true_iff]; omega)
    | (rw [hC.out]; simp; omega)
    | (rw [hC.out, Rv.and12, beq_iff_eq]; omega)
    | (rw [hC.out, beq_iff_eq])
    | (intro hc; rw [hC.out] at hc; rw [hV.out]; exact Rv.e4 o0 o1 a0 a1 s0 s1 t0 t1)
set_option maxHeartbeats 3200000 in
set_option maxRecDepth 100000 in
theorem rEnc_7 (op rd rs1 rs2 imm : Int) (w : World) (h0 : 1 ≤ op) (h1 : op ≤ 49) (d0 : 0 ≤ rd) (d1 : rd < 32) (s0 : 0 ≤ rs1) (s1 : rs1 < 32) (t0 : 0 ≤ rs2) (t1 : rs2 < 32) (m0 : -2147483648 ≤ imm) (m1 : imm < 2147483648) (c0 : 28 ≤ op) (c1 : op ≤ 45)
    (o f3 f7 : Int) (hf : ∀ w, Calls Tryd.prog 41 #[.int .i64 op] w fun e w' => e = .returned (.tuple #[.int .u32 o, .int .u32 f3, .int .u32 f7]) ∧ Gr w w') (o0 : 0 ≤ o) (o1 : o < 128) (a0 : 0 ≤ f3) (a1 : f3 < 8) (a2 : 0 ≤ f7) (a3 : f7 < 128)
    (C : Prop) (hC : Hid (C ↔ (imm = 0))) (V : Int) (hV : Hid (V = o + 4096 * f3 + 128 * rd + 32768 * rs1 + 1048576 * rs2 + 33554432 * f7)) :
    Calls Tryd.prog 18 #[Rv.iv ⟨op, rd, rs1, rs2, imm⟩] w fun e w' => Rv.EncPost C V w e w' := by
  unfold Rv.iv; dsimp only
  have g1 := Gr.refl (w.alloc (.cells #[.int .i64 op, .int .i64 rd, .int .i64 rs1, .int .i64 rs2, .int .i32 imm] 45))
  have x3 := Rv.beqF (show op ≠ 3 by omega)
  have x4 := Rv.beqF (show op ≠ 4 by omega)
  have kr : ∀ r : Int, 0 ≤ r → r < 32 → decide (0 ≤ r ∧ r < 32) = true := fun r a b => by simp [a, b]
  have kd := kr rd d0 d1
  have ks := kr rs1 s0 s1
  have kt := kr rs2 t0 t1
  clear kr
  go_enter Tryd.func18, Tryd.ntmps18
  go_wp2_with (go_at_call 40; refine (rreg_c _ _).mono ?_; rintro e w' ⟨rfl, rfl⟩; (first | rw [kd] | rw [ks] | rw [kt]))
  refine (hf _).mono ?_
  rintro e w2 ⟨rfl, g2⟩
  replace g1 := g1.trans g2
  have hb := Rv.ibox (i := ⟨_, rd, rs1, rs2, imm⟩) g1
  go_wp2_with fail
  go_region
  go_wp2_with (go_at_call 42; refine (rlow_c _ _ _ _ (by omega) _).mono ?_; rintro e w' ⟨rfl, rfl⟩)
  all_goals (try (go_region; go_wp2_with (go_at_call 42; refine (rlow_c _ _ _ _ (by omega) _).mono ?_; rintro e w' ⟨rfl, rfl⟩)))
  all_goals go_returns
  all_goals clear hf hb kd ks kt g2
  all_goals unfold Rv.EncPost
  all_goals refine ⟨_, _, rfl, by first | exact Rv.dropGr g1 | exact (Rv.dropGr g1).drew | exact (Rv.dropGr g1).drew.drew, ?_, ?_⟩
  all_goals first
    | (rw [hC.out]; unfold Rv.lowb; rw [decide_eq_true_iff]; omega)
    | (rw [hC.out]; simp; omega)
    | (rw [hC.out, Rv.and12, beq_iff_eq]; omega)
    | (rw [hC.out, beq_iff_eq])
    | (intro hc; rw [hC.out] at hc; rw [hV.out]; exact Rv.e7 o0 o1 a0 a1 d0 d1 s0 s1 t0 t1 a2 a3)
end Go.Proofs.YtllgkofibkobnaaDoor
