/- LAYER 12's law CpuSums: out of its bounds. · LAYER 12's law CpuSums. -/
import Derived.Test.YtbackacbdfgdoaaDoorK13
import Derived.BigQuiet
namespace Go.Proofs.YtbackacbdfgdoaaDoor
open Go.ChangeShapes Go.WideShapes Go.ChangeAt Go.RowKit
open Cpu
set_option linter.unusedVariables false
set_option linter.unusedSimpArgs false

theorem sums_ins {op d s t : Int} (h : 28 ≤ op ∧ op ≤ 45) (hd : 1 ≤ d ∧ d ≤ 31) (hs : 1 ≤ s ∧ s ≤ 31) (ht : 1 ≤ t ∧ t ≤ 31) : Rv.good ⟨op, d, s, t, 0⟩ := by
  rw [Rv.good_7 (by unfold Rv.lay; dsimp only; rw [if_neg (by omega), if_neg (by omega), if_neg (by omega), if_neg (by omega), if_neg (by omega), if_neg (by omega), if_pos h])]
  unfold Rv.reg
  dsimp only
  omega
theorem sums_kd {op : Int} (h : 28 ≤ op ∧ op ≤ 45) : Alu.err (Rv.kd op) = 0 := by
  obtain ⟨n, rfl⟩ : ∃ n : Nat, op = n := ⟨op.toNat, by omega⟩
  have : ∀ n : Nat, n < 46 → 28 ≤ n → Alu.err (Rv.kd (n : Int)) = 0 := by decide +kernel
  exact this n (by omega) (by omega)
set_option maxRecDepth 100000 in
set_option maxHeartbeats 4000000 in
theorem CpuSums_no (op d s t : Int) (c : St) (hop : -9223372036854775808 ≤ op ∧ op ≤ 9223372036854775807) (hc : StArg c) (W : World) (ha : All12 W)
    (h : op < 28 ∨ 45 < op ∨ d < 1 ∨ 31 < d ∨ s < 1 ∨ 31 < s ∨ t < 1 ∨ 31 < t ∨ c.ret < 0 ∨ 1099511627776 < c.ret) :
    Calls Tryd.prog 7 #[.int .i64 op, .int .i64 d, .int .i64 s, .int .i64 t, sv c] W fun e w' => e = .returned (.bool true) ∧ Bw W w' := by
  have hB : SB (W.alloc (.cells (cl c).toArray 32)) W.heap.size c := SB.new W c
  have b0 : Bw W (W.alloc (.cells (cl c).toArray 32)) := (Bw.refl W).alloc _
  have hA := fun X (g : Bw W X) => awake12_c X (ha.bw g)
  unfold sv arr
  have hq : op < 28 ∨ ¬ op < 28 ∧ (45 < op ∨ ¬ 45 < op ∧ (d < 1 ∨ ¬ d < 1 ∧ (31 < d ∨ ¬ 31 < d ∧ (s < 1 ∨ ¬ s < 1 ∧ (31 < s ∨ ¬ 31 < s ∧ (t < 1 ∨ ¬ t < 1 ∧ (31 < t ∨ ¬ 31 < t ∧ (c.ret < 0 ∨ ¬ c.ret < 0 ∧ 1099511627776 < c.ret)))))))) := by omega
  clear h
  rcases hq with h | ⟨h1, h | ⟨h2, h | ⟨h3, h | ⟨h4, h | ⟨h5, h | ⟨h6, h | ⟨h7, h | ⟨h8, h | ⟨h9, h⟩⟩⟩⟩⟩⟩⟩⟩⟩
  all_goals
    go_enter Tryd.func7, Tryd.ntmps7
    go_wp2_with (first | (go_at_call 10; refine (hA _ b0).mono ?_; rintro e w1 ⟨rfl, b1⟩; have r1 := b1.keep hB.ret))
    go_returns
    exact ⟨rfl, b0.trans b1⟩
end Go.Proofs.YtbackacbdfgdoaaDoor
namespace Go.Proofs.YtbackacbdfgdoaaDoor
open Go.ChangeShapes Go.WideShapes Go.ChangeAt Go.RowKit
open Cpu
set_option linter.unusedVariables false
set_option linter.unusedSimpArgs false

set_option maxRecDepth 100000 in
set_option maxHeartbeats 4000000 in
theorem CpuSums_w (op d s t : Int) (c : St) (hop : -9223372036854775808 ≤ op ∧ op ≤ 9223372036854775807) (hc : StArg c) (W : World) (ha : All12 W) :
    Calls Tryd.prog 7 #[.int .i64 op, .int .i64 d, .int .i64 s, .int .i64 t, sv c] W fun e w' => e = .returned (.bool true) ∧ Bw W w' := by
  by_cases h : op < 28 ∨ 45 < op ∨ d < 1 ∨ 31 < d ∨ s < 1 ∨ 31 < s ∨ t < 1 ∨ 31 < t ∨ c.ret < 0 ∨ 1099511627776 < c.ret
  · exact CpuSums_no op d s t c hop hc W ha h
  have hB : SB (W.alloc (.cells (cl c).toArray 32)) W.heap.size c := SB.new W c
  have b0 : Bw W (W.alloc (.cells (cl c).toArray 32)) := (Bw.refl W).alloc _
  have hA := fun X (g : Bw W X) => awake12_c X (ha.bw g)
  have hi := sums_ins (op := op) (d := d) (s := s) (t := t) (by omega) (by omega) (by omega) (by omega)
  have hWd := fun X (g : Bw W X) => word_c X ⟨op, d, s, t, 0⟩ (ha.t.bw g) im0 hi
  have hu := enc_u4 hi.1
  have hkd := sums_kd (op := op) (by omega)
  have hret : 0 ≤ c.ret ∧ c.ret ≤ 1099511627776 := by omega
  obtain ⟨p, hp⟩ : ∃ p : St, ({ c with pc := 4096 } : St) = p := ⟨_, rfl⟩
  have hpo : p.Ok := by rw [← hp]; exact ⟨hc.x, u4096, by dsimp only; omega, by dsimp only; omega⟩
  have hst := step_ins [Rv.enc ⟨op, d, s, t, 0⟩] [] (k := 0) p (by omega) rfl hi im0 (by rw [← hp]; rfl)
  have hrun : ∀ S, Cpu.run S ⟨op, d, s, t, 0⟩ p = ⟨done p d (Alu.val (Rv.kd op) (c.x s.toNat) (c.x t.toNat)) 4100, nx, S⟩ := fun S => by
    unfold Cpu.run rck
    dsimp only
    rw [if_neg (by omega), if_neg (by omega), if_neg (by omega), if_neg (by omega), if_neg (by omega), if_neg (by omega), if_neg (by omega), if_pos (by omega), if_neg (by omega)]
    unfold reg next
    rw [if_neg (by omega), if_neg (by omega), ← hp]
    rfl
  rw [hrun] at hst
  obtain ⟨v, hv⟩ : ∃ v, Alu.val (Rv.kd op) (c.x s.toNat) (c.x t.toNat) = v := ⟨_, rfl⟩
  have hDo := fun X => Do_c (Rv.kd op) (c.x s.toNat) (c.x t.toNat) (by have := hc.x s.toNat; exact ⟨this.1, by have := this.2; omega⟩) (by have := hc.x t.toNat; exact ⟨this.1, by have := this.2; omega⟩) X
  rw [hv, hkd] at hDo
  rw [hv] at hst
  obtain ⟨k, hk⟩ : ∃ k, Rv.enc ⟨op, d, s, t, 0⟩ = k := ⟨_, rfl⟩
  rw [hk] at hu hst hWd
  unfold Rv.iv at hWd
  dsimp only at hWd
  obtain ⟨R1, hR⟩ : ∃ R, Cpu.step (mkS [k] []) p = R := ⟨_, rfl⟩
  have hR2 : R1 = ⟨done p d v 4100, nx, mkS [k] []⟩ := by rw [← hR, hst]
  have r1 : R1.ev = nx := by rw [hR2]
  have r2 : R1.st.x d.toNat = v := by rw [hR2]; show (if d.toNat = 0 then 0 else if d.toNat = d.toNat then v else p.x d.toNat) = v; rw [if_neg (by omega), if_pos rfl]
  have r3 : R1.st.pc = 4100 := by rw [hR2]; rfl
  have hpx : p.x = c.x := by rw [← hp]
  have hKd := fun X (g : Bw W X) => Kind_c op hop X (ha.bw g).k
  clear hR2 hst hrun hi hv
  obtain ⟨nd, rfl⟩ : ∃ n : Nat, d = n := ⟨d.toNat, by omega⟩
  obtain ⟨ns, rfl⟩ : ∃ n : Nat, s = n := ⟨s.toNat, by omega⟩
  obtain ⟨nt, rfl⟩ : ∃ n : Nat, t = n := ⟨t.toNat, by omega⟩
  simp only [Int.toNat_natCast] at hDo r2
  have g1 : ¬ op < 28 := by omega
  have g2 : ¬ op > 45 := by omega
  have g3 : ¬ (nd : Int) < 1 := by omega
  have g4 : ¬ (nd : Int) > 31 := by omega
  have g5 : ¬ (ns : Int) < 1 := by omega
  have g6 : ¬ (ns : Int) > 31 := by omega
  have g7 : ¬ (nt : Int) < 1 := by omega
  have g8 : ¬ (nt : Int) > 31 := by omega
  have g9 : ¬ c.ret < 0 := by omega
  have g10 : ¬ c.ret > 1099511627776 := by omega
  have xs := hB.c (i := ns) (by omega)
  have xt := hB.c (i := nt) (by omega)
  unfold sv arr
  clear h hkd
  go_enter Tryd.func7, Tryd.ntmps7
  go_wp2_with (first
  | (go_at_call 10; refine (hA _ b0).mono ?_; rintro e w1 ⟨rfl, b1⟩; have r0 := b1.keep hB.ret)
  | (go_at_call 12; refine (hWd _ (b0.trans b1)).mono ?_; rintro e w2 ⟨rfl, b2⟩)
  | (go_at_call 11; refine (made1_c w2 k hu).mono ?_; rintro e w3 ⟨mb, rfl, hM⟩; have hB3 : SB w3 W.heap.size c := (hB.bw b1).bw (b2.trans hM.bw); have f32 := hB3.f (i := 32) (by omega); have p32 := hB3.pc; have hlt : W.heap.size < w2.heap.size := SB.lt ((hB.bw b1).bw b2))
  | (refine wpLoadBox rfl 32 _ rfl W.heap.size (l := cl p) rfl (by rw [← hp]; exact hB3.setPc 4096) Tryd.underlying32 rfl (infoL _) ?_; have hT1 := Step_c ((hM.base ((b0.trans b1).trans b2)).set hlt (Nat.le_refl _) 32 (.int .u32 4096)) ha p hpo; rw [hR, r1] at hT1; unfold sv Cpu.ev nx at hT1; dsimp only at hT1)
  | (go_at_call 13; refine hT1.mono ?_; rintro e wS1 ⟨rfl, hMS1, kS1⟩; obtain ⟨hZ1, hY1⟩ := zbox wS1) | (refine wpStoreBox rfl 32 _ _ rfl wS1.heap.size (l := cl zst) (l' := cl R1.st) rfl rfl hZ1 (by rw [cl_len, cl_len]) (infoL _) (cl_one _) ?_; intro wT1 h41 q41)
  | (refine wpStoreBox rfl 35 _ _ rfl (wS1.heap.size + 1) (l := [.int .i64 0, .int .u32 0, .int .i64 0]) (l' := [.int .i64 0, .int .u32 0, .int .i64 0]) rfl rfl (Box.q hY1 q41 (by omega)) rfl (by kernel_rfl) one3e ?_; intro wU1 h51 q51; obtain ⟨hS1, bU1⟩ := two_aft h41 q41 h51 q51; have hM1 := hMS1.on bU1; clear hZ1 hY1 h41 q41 q51 hMS1; have y2 := hS1.pc; have y1 := hS1.c (i := nd) (by omega); rw [r2] at y1; rw [r3] at y2; have e0 := h51.c 0 _ rfl; have hBU : SB wU1 W.heap.size p := SB.bw (SB.blk (show SB _ W.heap.size p by rw [← hp]; exact hB3.setPc 4096) (kS1.2 _ (by simpa using Nat.lt_of_lt_of_le hlt (Below.size hM.bw)) hlt)) bU1; have z1 := hBU.c (i := ns) (by omega); have z2 := hBU.c (i := nt) (by omega); rw [hpx] at z1 z2)
  | (go_at_call 21; refine (hKd _ hM1.bw).mono ?_; rintro e w6 ⟨rfl, rfl⟩))
  go_quiet (first | (go_at_call 22; refine Calls.quiet_of_same (hDo _)))
  go_wp2_with fail
  go_returns
  exact ⟨rfl, hM1.bw.drewN _⟩
end Go.Proofs.YtbackacbdfgdoaaDoor
