/- LAYER 12, the document's own steps (tinctureref11): Step (by cpurstep.py). -/
import Derived.Test.YtbackacbdfgdoaaDoorKR4J
import Derived.Test.YtbackacbdfgdoaaDoorKR4E
import Derived.Test.YtbackacbdfgdoaaDoorKR4B
import Derived.Test.YtbackacbdfgdoaaDoorKR4C
import Derived.Test.YtbackacbdfgdoaaDoorKR4L
import Derived.Test.YtbackacbdfgdoaaDoorKR4S
import Derived.Test.YtbackacbdfgdoaaDoorKR4R
import Derived.BigQuiet
namespace Go.Proofs.YtbackacbdfgdoaaDoor
open Go.ChangeShapes Go.WideShapes Go.ChangeAt Go.RowKit
open Cpu
set_option linter.unusedVariables false
set_option linter.unusedSimpArgs false

set_option maxRecDepth 100000 in
set_option maxHeartbeats 8000000 in
theorem rStep_bad {G : Nat → Prop} {w : World} {rb N : Nat} {S : MS} (hH : RM G w rb N S) (hS : S.Ok) (s : St) (hs : s.Ok) (hN : N ≤ 100000) (hcl : (fetch S s.pc).2.kind ≠ 0) :
    Calls Tryd.prog 19 #[.pointer (some ⟨rb, 0, none⟩), sv s] w fun e w' => e = .returned (.tuple #[sv (Cpu.step S s).st, Cpu.ev (Cpu.step S s).ev]) ∧ ∃ G', RM G' w' rb (N + 1) (Cpu.step S s).mem ∧ Sq G G' w w' := by
  have hB : SB (w.alloc (.cells (cl s).toArray 32)) w.heap.size s := SB.new w s
  obtain ⟨wA, hwA⟩ : ∃ wA, w.alloc (.cells (cl s).toArray 32) = wA := ⟨_, rfl⟩
  have bA : Bw w wA := by rw [← hwA]; exact (Bw.refl w).alloc _
  have zA : wA.heap.size = w.heap.size + 1 := by rw [← hwA]; simp
  rw [hwA] at hB
  have hZ : Box (wA.alloc (.cells (cl zst).toArray 32)) wA.heap.size (cl zst) := Box.new wA (cl zst) _
  obtain ⟨wB, hwB⟩ : ∃ wB, wA.alloc (.cells (cl zst).toArray 32) = wB := ⟨_, rfl⟩
  have bB : Bw wA wB := by rw [← hwB]; exact (Bw.refl wA).alloc _
  have zB : wB.heap.size = w.heap.size + 2 := by rw [← hwB]; simp; omega
  rw [hwB, zA] at hZ
  have hY : Box (wB.alloc (.cells #[.int .i64 0, .int .u32 0, .int .i64 0] 35)) wB.heap.size [.int .i64 0, .int .u32 0, .int .i64 0] := Box.new wB [.int .i64 0, .int .u32 0, .int .i64 0] _
  obtain ⟨wC, hwC⟩ : ∃ wC, wB.alloc (.cells #[.int .i64 0, .int .u32 0, .int .i64 0] 35) = wC := ⟨_, rfl⟩
  have bC : Bw wB wC := by rw [← hwC]; exact (Bw.refl wB).alloc _
  have zC : wC.heap.size = w.heap.size + 3 := by rw [← hwC]; simp; omega
  rw [hwC, zB] at hY
  have hB3 := (hB.bw bB).bw bC
  have hZ3 := hZ.bw bC
  have hwB2 : wA.alloc (.cells #[.int .u32 0, .int .u32 0, .int .u32 0, .int .u32 0, .int .u32 0, .int .u32 0, .int .u32 0, .int .u32 0, .int .u32 0, .int .u32 0, .int .u32 0, .int .u32 0, .int .u32 0, .int .u32 0, .int .u32 0, .int .u32 0, .int .u32 0, .int .u32 0, .int .u32 0, .int .u32 0, .int .u32 0, .int .u32 0, .int .u32 0, .int .u32 0, .int .u32 0, .int .u32 0, .int .u32 0, .int .u32 0, .int .u32 0, .int .u32 0, .int .u32 0, .int .u32 0, .int .u32 0, .int .i64 0] 32) = wB := hwB
  have b3 : Bw w wC := (bA.trans bB).trans bC
  clear hwB bA bB bC hB hZ
  have hFe := rFetch_c (hH.bw b3) hS s.pc hs.pc
  have hfine := fetch_fine hS (pc := s.pc)
  have p3 := hB3.pc
  have hst : Cpu.step S s = (if (fetch S s.pc).2.kind = 0 then Cpu.run S (fetch S s.pc).1 s else ⟨s, (fetch S s.pc).2, S⟩) := rfl
  obtain ⟨F, hF⟩ : ∃ F, fetch S s.pc = F := ⟨_, rfl⟩
  rw [hF] at hFe hfine hst hcl
  clear hF
  obtain ⟨⟨op, rd, rs1, rs2, imm⟩, ⟨k, a, y⟩⟩ := F
  dsimp only at hFe hfine hst
  have hx1 := fun h X => rx_c s rs1 h X
  have hx2 := fun h X => rx_c s rs2 h X
  unfold sv arr at hx1 hx2 ⊢
  unfold Rv.iv Cpu.ev at hFe
  dsimp only at hcl
  dsimp only at hFe
  have hk := hcl
  · have hst2 : Cpu.step S s = ⟨s, ⟨k, a, y⟩, S⟩ := by rw [hst, if_neg hk]
    clear hst hfine hx1 hx2
    have hk' : (k != 0) = true := by simpa using hk
    clear hk
    go_enter Tryd.func19, Tryd.ntmps19
    go_wp2_with fail
    refine hFe.mono ?_
    rintro e w1 ⟨rfl, g1⟩
    clear hFe hwA hwB2 hwC
    have z1 : w.heap.size + 3 ≤ w1.heap.size := by have := Below.size g1; omega
    have hI := Box.new w1 [.int .i64 0, .int .i64 0, .int .i64 0, .int .i64 0, .int .i32 0] 43
    have hE := Box.new (w1.alloc (.cells #[.int .i64 0, .int .i64 0, .int .i64 0, .int .i64 0, .int .i32 0] 43)) [.int .i64 0, .int .u32 0, .int .i64 0] 35
    rw [World.size_alloc] at hE
    replace hI := hI.bw ((Bw.refl _).alloc (.cells #[.int .i64 0, .int .u32 0, .int .i64 0] 35))
    have gE : Bw w1 ((w1.alloc (.cells #[.int .i64 0, .int .i64 0, .int .i64 0, .int .i64 0, .int .i32 0] 43)).alloc (.cells #[.int .i64 0, .int .u32 0, .int .i64 0] 35)) := ((Bw.refl w1).alloc _).alloc _
    go_wp2_with (first
      | ((with_reducible refine p_store (ty := 43) ?_); refine wpStoreBox rfl 43 _ _ rfl w1.heap.size (l' := [.int .i64 op, .int .i64 rd, .int .i64 rs1, .int .i64 rs2, .int .i32 imm]) rfl rfl hI rfl (by kernel_rfl) one5 ?_; intro w2 h2 q2)
      | ((with_reducible refine p_store (ty := 35) ?_); refine wpStoreBox rfl 35 _ _ rfl (w1.heap.size + 1) (l' := [.int .i64 k, .int .u32 a, .int .i64 y]) rfl rfl (hE.q q2 (by omega)) rfl (by kernel_rfl) one3e ?_; intro w3 h3 q3; go_loud (have g3 : Bw w1 w3 := q3.toBw (q2.toBw gE (Nat.le_refl _)) (by omega); have e3 := h3.c 0 _ rfl; clear hI hE gE h2 q2))
      | fail)
    have g3' : Bw wC w3 := g1.trans g3
    have gW : Bw w w3 := b3.trans g3'
    have zW : w.heap.size + 3 ≤ w3.heap.size := by have := Below.size g3; omega
    have hM3 := hH.bw gW
    have hgb := hH.gb
    have hn1 : ¬ G (w.heap.size + 1) := fun h => by have := hgb _ h; omega
    have hn2 : ¬ G (w.heap.size + 2) := fun h => by have := hgb _ h; omega
    have tD := Box.bw (hZ3.bw g3') (Bw.refl w3).drew
    have yD := Box.bw (hY.bw g3') (Bw.refl w3).drew
    have sD : SB w3.drew w.heap.size s := SB.bw (hB3.bw g3') (Bw.refl w3).drew
    have eD := Box.bw h3 (Bw.refl w3).drew
    have mD := hM3.bw (Bw.refl w3).drew
    have kD := Sq.trans (Sq.of_bw (A := G) gW) (Sq.of_bw (Bw.refl w3).drew)
    refine wp_region_held_drew (S := fun Y => Box Y w.heap.size (cl s) ∧ Box Y (w1.heap.size + 1) [.int .i64 k, .int .u32 a, .int .i64 y]) (by kernel_rfl) ⟨sD, eD⟩ (fun hHeld => ?_)
    refine wpAnyH_take (i := 0) (oi := ⟨some 36, _, _, _, _, _⟩) (v := .agg (cl s).toArray) rfl (by kernel_rfl) (by kernel_rfl) (by kernel_rfl) (fun _ _ _ h => h) (yieldsIf_load_mid (by rfl) 32 _ rfl w.heap.size 0 rfl _ _ (fun Y hY => Box.range hY.1) Tryd.underlying32 rfl (infoL _)) (by assumption) ?_
    simp only [Act.put, List.setIfInBounds_toArray, List.set_cons_zero, List.set_cons_succ]
    refine wpAnyH_take (i := 1) (oi := ⟨some 37, _, _, _, _, _⟩) (v := .agg [.int .i64 k, .int .u32 a, .int .i64 y].toArray) rfl (by kernel_rfl) (by kernel_rfl) (by kernel_rfl) (fun _ _ _ h => h) (yieldsIf_load_mid (by rfl) 35 _ rfl (w1.heap.size + 1) 0 rfl _ _ (fun Y hY => Box.range hY.2) Tryd.underlying35 rfl (by kernel_rfl)) (by assumption) ?_
    simp only [Act.put, List.setIfInBounds_toArray, List.set_cons_zero, List.set_cons_succ]
    refine wpAnyH_ready (rs := [2]) (by kernel_rfl) (by simp) ?_; refine AllReadyH.cons (o := ⟨none, _, _, _, _, _⟩) rfl (fun K hK => ?_) AllReadyH.nil; refine stepStoreBox rfl 32 _ _ rfl (w.heap.size + 1) (l := cl zst) (l' := cl s) rfl rfl tD (by rw [cl_len, cl_len]) (infoL _) (cl_one _) ?_; intro w7 h7 q7
    (try clear hHeld); refine hK.out _ _ ?_ (fun hHeld => ?_)
    · exact ⟨Box.q sD q7 (by omega), Box.q eD q7 (by omega)⟩
    refine wpAnyH_ready (rs := [3]) (by kernel_rfl) (by simp) ?_; refine AllReadyH.cons (o := ⟨none, _, _, _, _, _⟩) rfl (fun K hK => ?_) AllReadyH.nil; refine stepStoreBox rfl 35 _ _ rfl (w.heap.size + 2) (l := [.int .i64 0, .int .u32 0, .int .i64 0]) (l' := [.int .i64 k, .int .u32 a, .int .i64 y]) rfl rfl (Box.q yD q7 (by omega)) rfl (by kernel_rfl) one3e ?_; intro w8 h8 q8
    (try clear hHeld); refine hK.out _ _ ?_ (fun hHeld => ?_)
    · exact ⟨Box.q (Box.q sD q7 (by omega)) q8 (by omega), Box.q (Box.q eD q7 (by omega)) q8 (by omega)⟩
    refine wpAnyH_done (by kernel_rfl) ?_ _
    go_wp2_with fail
    (try simp only [Exit.inBlock, Exit.then])
    refine bodyPost_ret (results_two (fn := Tryd.f19) (p1 := 4) (p2 := 5) (t1 := 32) (t2 := 35) Tryd.results19 _ _ _ _ _ _ rfl rfl (Box.q h7 q8 (by omega)) h8 Tryd.underlying32 rfl (infoL _) Tryd.underlying35 rfl (by kernel_rfl)) rfl ?_
    try rw [hst2]
    exact ⟨rfl, G, (RM.two mD q7 q8 hn1 hn2).mono (by omega), Sq.two kD q7 q8 (by omega) (by omega)⟩
theorem rStep_c {G : Nat → Prop} {w : World} {rb N : Nat} {S : MS} (hH : RM G w rb N S) (hS : S.Ok) (s : St) (hs : s.Ok) (hN : N ≤ 100000) :
    Calls Tryd.prog 19 #[.pointer (some ⟨rb, 0, none⟩), sv s] w fun e w' => e = .returned (.tuple #[sv (Cpu.step S s).st, Cpu.ev (Cpu.step S s).ev]) ∧ ∃ G', RM G' w' rb (N + 1) (Cpu.step S s).mem ∧ Sq G G' w w' := by
  by_cases hk : (fetch S s.pc).2.kind = 0
  · have hop := (fetch_fine hS hk).1.op
    have h0 := (fetch_fine hS hk).2.2
    rcases (show ((fetch S s.pc).1.op = 1 ∨ (fetch S s.pc).1.op = 2 ∨ (fetch S s.pc).1.op = 3 ∨ (fetch S s.pc).1.op = 4) ∨ ((fetch S s.pc).1.op = 46 ∨ (fetch S s.pc).1.op = 47 ∨ (fetch S s.pc).1.op = 48 ∨ (fetch S s.pc).1.op = 49) ∨ ((fetch S s.pc).1.op = 5 ∨ (fetch S s.pc).1.op = 6 ∨ (fetch S s.pc).1.op = 7) ∨ ((fetch S s.pc).1.op = 8 ∨ (fetch S s.pc).1.op = 9 ∨ (fetch S s.pc).1.op = 10) ∨ ((fetch S s.pc).1.op = 11 ∨ (fetch S s.pc).1.op = 12 ∨ (fetch S s.pc).1.op = 13 ∨ (fetch S s.pc).1.op = 14 ∨ (fetch S s.pc).1.op = 15) ∨ ((fetch S s.pc).1.op = 16 ∨ (fetch S s.pc).1.op = 17 ∨ (fetch S s.pc).1.op = 18) ∨ ((19 ≤ (fetch S s.pc).1.op ∧ (fetch S s.pc).1.op ≤ 27) ∨ (28 ≤ (fetch S s.pc).1.op ∧ (fetch S s.pc).1.op ≤ 45)) by omega) with h | h | h | h | h | h | h
    · exact rStep_J hH hS s hs hN ⟨hk, h⟩
    · exact rStep_E hH hS s hs hN ⟨hk, h⟩
    · exact rStep_B hH hS s hs hN ⟨hk, h⟩
    · exact rStep_C hH hS s hs hN ⟨hk, h⟩
    · exact rStep_L hH hS s hs hN ⟨hk, h⟩
    · exact rStep_S hH hS s hs hN ⟨hk, h⟩
    · exact rStep_R hH hS s hs hN ⟨hk, h⟩
  · exact rStep_bad hH hS s hs hN hk
end Go.Proofs.YtbackacbdfgdoaaDoor
