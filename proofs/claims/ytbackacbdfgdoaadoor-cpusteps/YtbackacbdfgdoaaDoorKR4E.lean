/- LAYER 12, the document's own steps (tinctureref11): Step, a part of its arms (by cpurstep.py). -/
import Derived.Test.YtbackacbdfgdoaaDoorKR4H
import Derived.BigQuiet
namespace Go.Proofs.YtbackacbdfgdoaaDoor
open Go.ChangeShapes Go.WideShapes Go.ChangeAt Go.RowKit
open Cpu
set_option linter.unusedVariables false
set_option linter.unusedSimpArgs false

set_option maxRecDepth 100000 in
set_option maxHeartbeats 8000000 in
theorem rStep_E {G : Nat → Prop} {w : World} {rb N : Nat} {S : MS} (hH : RM G w rb N S) (hS : S.Ok) (s : St) (hs : s.Ok) (hN : N ≤ 100000) (hcl : (fetch S s.pc).2.kind = 0 ∧ ((fetch S s.pc).1.op = 46 ∨ (fetch S s.pc).1.op = 47 ∨ (fetch S s.pc).1.op = 48 ∨ (fetch S s.pc).1.op = 49)) :
    Calls Tryd.prog 19 #[.pointer (some ⟨rb, 0, none⟩), sv s] w fun e w' => e = .returned (.tuple #[sv (Cpu.step S s).st, Cpu.ev (Cpu.step S s).ev]) ∧ ∃ G', RM G' w' rb (N + 1) (Cpu.step S s).mem ∧ Sq G G' w w' := by
  have hB : SB (w.alloc (.cells (cl s).toArray 32)) w.heap.size s := SB.new w s
  obtain ⟨wA, hwA⟩ : ∃ wA, w.alloc (.cells (cl s).toArray 32) = wA := ⟨_, rfl⟩
  have bA : Bw w wA := by rw [← hwA]; exact (Bw.refl w).alloc _
  have zA : wA.heap.size = w.heap.size + 1 := by rw [← hwA]; simp
  rw [hwA] at hB
  have hZ : Box (wA.alloc (.cells (cl zst).toArray 32)) wA.heap.size (cl zst) := Box.new wA (cl zst) _
  obtain ⟨wB, hwB⟩ : ∃ wB, wA.alloc (.cells (cl zst).toArray 32) = wB := ⟨_, rfl⟩
  have bB : Bw wA wB := by rw [← hwB]; exact (Bw.refl wA).alloc _
  have zB : wB.heap.size = w.heap.size + 2 := by rw [← hwB]; simp; omega
  rw [hwB, zA] at hZ
  have hY : Box (wB.alloc (.cells #[.int .i64 0, .int .u32 0, .int .i64 0] 35)) wB.heap.size [.int .i64 0, .int .u32 0, .int .i64 0] := Box.new wB [.int .i64 0, .int .u32 0, .int .i64 0] _
  obtain ⟨wC, hwC⟩ : ∃ wC, wB.alloc (.cells #[.int .i64 0, .int .u32 0, .int .i64 0] 35) = wC := ⟨_, rfl⟩
  have bC : Bw wB wC := by rw [← hwC]; exact (Bw.refl wB).alloc _
  have zC : wC.heap.size = w.heap.size + 3 := by rw [← hwC]; simp; omega
  rw [hwC, zB] at hY
  have hB3 := (hB.bw bB).bw bC
  have hZ3 := hZ.bw bC
  have hwB2 : wA.alloc (.cells #[.int .u32 0, .int .u32 0, .int .u32 0, .int .u32 0, .int .u32 0, .int .u32 0, .int .u32 0, .int .u32 0, .int .u32 0, .int .u32 0, .int .u32 0, .int .u32 0, .int .u32 0, .int .u32 0, .int .u32 0, .int .u32 0, .int .u32 0, .int .u32 0, .int .u32 0, .int .u32 0, .int .u32 0, .int .u32 0, .int .u32 0, .int .u32 0, .int .u32 0, .int .u32 0, .int .u32 0, .int .u32 0, .int .u32 0, .int .u32 0, .int .u32 0, .int .u32 0, .int .u32 0, .int .i64 0] 32) = wB := hwB
  have b3 : Bw w wC := (bA.trans bB).trans bC
  clear hwB bA bB bC hB hZ
  have hFe := rFetch_c (hH.bw b3) hS s.pc hs.pc
  have hfine := fetch_fine hS (pc := s.pc)
  have p3 := hB3.pc
  have hst : Cpu.step S s = (if (fetch S s.pc).2.kind = 0 then Cpu.run S (fetch S s.pc).1 s else ⟨s, (fetch S s.pc).2, S⟩) := rfl
  obtain ⟨F, hF⟩ : ∃ F, fetch S s.pc = F := ⟨_, rfl⟩
  rw [hF] at hFe hfine hst hcl
  clear hF
  obtain ⟨⟨op, rd, rs1, rs2, imm⟩, ⟨k, a, y⟩⟩ := F
  dsimp only at hFe hfine hst
  have hx1 := fun h X => rx_c s rs1 h X
  have hx2 := fun h X => rx_c s rs2 h X
  unfold sv arr at hx1 hx2 ⊢
  unfold Rv.iv Cpu.ev at hFe
  dsimp only at hcl
  dsimp only at hFe
  obtain ⟨hk, hcl⟩ := hcl
  have HC : Hid _ := hcl
  clear hcl
  · subst hk
    obtain ⟨hok, hnx, hop⟩ := hfine rfl
    rw [if_pos rfl] at hst
    unfold nx at hnx
    simp only [Ev.mk.injEq, true_and] at hnx
    obtain ⟨rfl, rfl⟩ := hnx
    replace hx1 := fun X => hx1 hok.rs1 X
    replace hx2 := fun X => hx2 hok.rs2 X
    clear hfine
    go_enter Tryd.func19, Tryd.ntmps19
    go_wp2_with fail
    refine hFe.mono ?_
    rintro e w1 ⟨rfl, g1⟩
    clear hFe hwA hwB2 hwC
    have z1 : w.heap.size + 3 ≤ w1.heap.size := by have := Below.size g1; omega
    have hI := Box.new w1 [.int .i64 0, .int .i64 0, .int .i64 0, .int .i64 0, .int .i32 0] 43
    have hE := Box.new (w1.alloc (.cells #[.int .i64 0, .int .i64 0, .int .i64 0, .int .i64 0, .int .i32 0] 43)) [.int .i64 0, .int .u32 0, .int .i64 0] 35
    rw [World.size_alloc] at hE
    replace hI := hI.bw ((Bw.refl _).alloc (.cells #[.int .i64 0, .int .u32 0, .int .i64 0] 35))
    have gE : Bw w1 ((w1.alloc (.cells #[.int .i64 0, .int .i64 0, .int .i64 0, .int .i64 0, .int .i32 0] 43)).alloc (.cells #[.int .i64 0, .int .u32 0, .int .i64 0] 35)) := ((Bw.refl w1).alloc _).alloc _
    go_wp2_with (first
      | ((with_reducible refine p_store (ty := 43) ?_); refine wpStoreBox rfl 43 _ _ rfl w1.heap.size (l' := [.int .i64 op, .int .i64 rd, .int .i64 rs1, .int .i64 rs2, .int .i32 imm]) rfl rfl hI rfl (by kernel_rfl) one5 ?_; intro w2 h2 q2)
      | ((with_reducible refine p_store (ty := 35) ?_); refine wpStoreBox rfl 35 _ _ rfl (w1.heap.size + 1) (l' := [.int .i64 0, .int .u32 0, .int .i64 0]) rfl rfl (hE.q q2 (by omega)) rfl (by kernel_rfl) one3e ?_; intro w3 h3 q3; go_loud (have g3 : Bw w1 w3 := q3.toBw (q2.toBw gE (Nat.le_refl _)) (by omega); have h2' := h2.q q3 (by omega); have hs3 := (hB3.bw g1).bw g3; have hz3 := (hZ3.bw g1).bw g3; have hy3 := (hY.bw g1).bw g3; have e3 := h3.c 0 _ rfl; have i4 := h2'.c 4 _ rfl; have pc3 := hs3.pc; have gW : Bw w w3 := (b3.trans g1).trans g3; clear hI hE gE h2 q2 q3 g1 g3 hB3 hZ3 hY b3))
      | fail)
    have HZ : Hid (Box w3 (w.heap.size + 1) (cl zst)) := hz3
    have HY : Hid _ := hy3
    have HS : Hid (SB w3 w.heap.size s) := hs3
    clear hz3 hy3 hs3 h3 e3
    go_quiet (fail)
    go_wp2_with fail
    refine wp_region_held_drew (S := fun Y => Box Y w.heap.size (cl s) ∧ Y.cell? ⟨w1.heap.size, 2, none⟩ = some (.int .i64 rs1) ∧ Y.cell? ⟨w1.heap.size, 3, none⟩ = some (.int .i64 rs2)) (by kernel_rfl) ⟨SB.bw HS.out ((Bw.refl _).drewN _).drew, (h2'.bw ((Bw.refl _).drewN _).drew).c 2 _ rfl, (h2'.bw ((Bw.refl _).drewN _).drew).c 3 _ rfl⟩ (fun hHeld => ?_)
    refine wpAnyH_take (i := 0) (oi := ⟨some 44, _, _, _, _, _⟩) (v := .agg (cl s).toArray) rfl (by kernel_rfl) (by kernel_rfl) (by kernel_rfl) (fun _ _ _ h => h) (yieldsIf_load_mid (by rfl) 32 _ rfl w.heap.size 0 rfl _ _ (fun Y hY => Box.range hY.1) Tryd.underlying32 rfl (infoL _)) (by assumption) ?_
    simp only [Act.put, List.setIfInBounds_toArray, List.set_cons_zero, List.set_cons_succ]
    refine wpAnyH_take (i := 1) (oi := ⟨some 45, _, _, _, _, _⟩) (v := ?_) rfl (by kernel_rfl) (by kernel_rfl) (by kernel_rfl) (fun _ _ _ h => h) (Or.inl ⟨by rfl, ?_⟩) (by assumption) ?_; (rotate_left 1); (focus (intro wz hSw; (try dsimp only at hSw); go_simp; try (with_reducible rfl))); simp only [Act.put, List.setIfInBounds_toArray, List.set_cons_zero, List.set_cons_succ]
    refine wpAnyH_take (i := 2) (oi := ⟨some 46, _, _, _, _, _⟩) (v := ?_) rfl (by kernel_rfl) (by kernel_rfl) (by kernel_rfl) (fun _ _ _ h => h) (Or.inl ⟨by rfl, ?_⟩) (by assumption) ?_; (rotate_left 1); (focus (intro wz hSw; (try dsimp only at hSw); go_simp; try (with_reducible rfl))); simp only [Act.put, List.setIfInBounds_toArray, List.set_cons_zero, List.set_cons_succ]
    refine wpAnyH_take (i := 4) (oi := ⟨some 48, _, _, _, _, _⟩) (v := .agg (cl s).toArray) rfl (by kernel_rfl) (by kernel_rfl) (by kernel_rfl) (fun _ _ _ h => h) (yieldsIf_load_mid (by rfl) 32 _ rfl w.heap.size 0 rfl _ _ (fun Y hY => Box.range hY.1) Tryd.underlying32 rfl (infoL _)) (by assumption) ?_
    simp only [Act.put, List.setIfInBounds_toArray, List.set_cons_zero, List.set_cons_succ]
    refine wpAnyH_take (i := 5) (oi := ⟨some 49, _, _, _, _, _⟩) (v := ?_) rfl (by kernel_rfl) (by kernel_rfl) (by kernel_rfl) (fun _ _ _ h => h) (Or.inl ⟨by rfl, ?_⟩) (by assumption) ?_; (rotate_left 1); (focus (intro wz hSw; (try dsimp only at hSw); go_simp; try (with_reducible rfl))); simp only [Act.put, List.setIfInBounds_toArray, List.set_cons_zero, List.set_cons_succ]
    refine wpAnyH_take (i := 6) (oi := ⟨some 50, _, _, _, _, _⟩) (v := ?_) rfl (by kernel_rfl) (by kernel_rfl) (by kernel_rfl) (fun _ _ _ h => h) (Or.inl ⟨by rfl, ?_⟩) (by assumption) ?_; (rotate_left 1); (focus (intro wz hSw; (try dsimp only at hSw); go_simp; try (with_reducible rfl))); simp only [Act.put, List.setIfInBounds_toArray, List.set_cons_zero, List.set_cons_succ]
    refine wpAnyH_ready (rs := [3]) (by kernel_rfl) (by simp) ?_; refine AllReadyH.cons rfl (fun K hK => ?_) AllReadyH.nil; go_simp
    refine (hx1 _).mono ?_
    rintro e w4 ⟨rfl, g4⟩
    have g34 : Bw w3 w4 := Bw.trans ((Bw.refl w3).drewN nq).drew g4
    (try clear hHeld); refine hK.out _ _ ?_ (fun hHeld => ?_)
    · exact ⟨SB.bw HS.out g34, (h2'.bw g34).c 2 _ rfl, (h2'.bw g34).c 3 _ rfl⟩
    refine wpAnyH_ready (rs := [7]) (by kernel_rfl) (by simp) ?_; refine AllReadyH.cons rfl (fun K hK => ?_) AllReadyH.nil; go_simp
    refine (hx2 _).mono ?_
    rintro e w5 ⟨rfl, g5⟩
    have g35 : Bw w3 w5 := Bw.trans g34 g5
    (try clear hHeld); refine hK.out _ _ ?_ (fun hHeld => ?_)
    · exact ⟨SB.bw HS.out g35, (h2'.bw g35).c 2 _ rfl, (h2'.bw g35).c 3 _ rfl⟩
    refine wpAnyH_take (i := 8) (oi := ⟨some 10, _, _, _, _, _⟩) (v := ?_) rfl (by kernel_rfl) (by kernel_rfl) (by kernel_rfl) (fun _ _ _ h => h) (Or.inl ⟨by rfl, ?_⟩) (by assumption) ?_; (rotate_left 1); (focus (intro wz hSw; (try dsimp only at hSw); go_simp; try (with_reducible rfl))); simp only [Act.put, List.setIfInBounds_toArray, List.set_cons_zero, List.set_cons_succ]
    refine wpAnyH_take (i := 9) (oi := ⟨some 11, _, _, _, _, _⟩) (v := ?_) rfl (by kernel_rfl) (by kernel_rfl) (by kernel_rfl) (fun _ _ _ h => h) (Or.inl ⟨by rfl, ?_⟩) (by assumption) ?_; (rotate_left 1); (focus (intro wz hSw; (try dsimp only at hSw); go_simp; try (with_reducible rfl))); simp only [Act.put, List.setIfInBounds_toArray, List.set_cons_zero, List.set_cons_succ]
    refine wpAnyH_done (by kernel_rfl) ?_ _
    have gW5 : Bw w w5 := gW.trans g35
    have i5 := h2'.bw g35
    have o5 := i5.c 0 _ rfl
    have r5 := i5.c 1 _ rfl
    have pc5 := g35.keep pc3
    have hM5 := hH.bw gW5
    have s5 : SB w5 w.heap.size s := SB.bw HS.out g35
    have t5 := HZ.out.bw g35
    have y5 := HY.out.bw g35
    have zW : w.heap.size + 3 ≤ w5.heap.size := by have := Below.size g35; have := i5.lt; omega
    have hset := fun (r v pc : Int) (h : 0 ≤ r ∧ r < 32) X => set_c s r v pc h hs.ret X
    unfold sv arr at hset
    obtain ⟨hop1, hrd, hr1, hr2, him⟩ := hok
    dsimp only at hop1 hrd hr1 hr2 him
    clear hx1 hx2 g34 g4 g5 h2' i4 pc3 gW HS HZ HY hHeld
    have HT : Hid _ := t5
    clear t5
    have hgb := hH.gb
    have hn1 : ¬ G (w.heap.size + 1) := fun h => by have := hgb _ h; omega
    have hn2 : ¬ G (w.heap.size + 2) := fun h => by have := hgb _ h; omega
    rcases HC.out with rfl | rfl | rfl | rfl
    · have hst2 : Cpu.step S s = ⟨done s 0 0 ((s.pc + 4) % 4294967296), nx, S⟩ := by
        rw [hst]
        rfl
      clear hst
      go_wp2_with (first
        | ((with_reducible refine p_load (ty := 32) ?_); refine wpLoadBox rfl 32 _ rfl w.heap.size (l := cl s) rfl s5 Tryd.underlying32 rfl (infoL _) ?_)
        | fail)
      refine (hset _ _ _ ⟨by omega, by omega⟩ _).mono ?_
      rintro e w6 ⟨rfl, g6⟩
      have t6 := Box.bw (HT.out) g6
      have y6 := Box.bw (y5) g6
      have m6 := RM.bw (hM5) g6
      have k6 := Sq.trans (Sq.of_bw (A := G) gW5) (Sq.of_bw g6)
      go_wp2_with (first
        | ((with_reducible refine p_store (ty := 32) ?_); refine wpStoreBox rfl 32 _ _ rfl (w.heap.size + 1) (l := cl zst) (l' := cl (done s 0 0 ((s.pc + 4) % 4294967296))) rfl rfl t6 (by rw [cl_len, cl_len]) (infoL _) (cl_one _) ?_; intro w7 h7 q7)
        | ((with_reducible refine p_store (ty := 35) ?_); refine wpStoreBox rfl 35 _ _ rfl (w.heap.size + 2) (l := [.int .i64 0, .int .u32 0, .int .i64 0]) (l' := [.int .i64 0, .int .u32 0, .int .i64 0]) rfl rfl (Box.q y6 q7 (by omega)) rfl (by kernel_rfl) one3e ?_; intro w8 h8 q8)
        | fail)
      (try simp only [Exit.inBlock, Exit.then])
      refine bodyPost_ret (results_two (fn := Tryd.f19) (p1 := 4) (p2 := 5) (t1 := 32) (t2 := 35) Tryd.results19 _ _ _ _ _ _ rfl rfl (Box.q h7 q8 (by omega)) h8 Tryd.underlying32 rfl (infoL _) Tryd.underlying35 rfl (by kernel_rfl)) rfl ?_
      try rw [hst2]
      exact ⟨rfl, G, (RM.two m6 q7 q8 hn1 hn2).mono (by omega), Sq.two k6 q7 q8 (by omega) (by omega)⟩
    · have hst2 : Cpu.step S s = ⟨done s 0 0 ((s.pc + 4) % 4294967296), nx, S⟩ := by
        rw [hst]
        rfl
      clear hst
      go_wp2_with (first
        | ((with_reducible refine p_load (ty := 32) ?_); refine wpLoadBox rfl 32 _ rfl w.heap.size (l := cl s) rfl s5 Tryd.underlying32 rfl (infoL _) ?_)
        | fail)
      refine (hset _ _ _ ⟨by omega, by omega⟩ _).mono ?_
      rintro e w6 ⟨rfl, g6⟩
      have t6 := Box.bw (HT.out) g6
      have y6 := Box.bw (y5) g6
      have m6 := RM.bw (hM5) g6
      have k6 := Sq.trans (Sq.of_bw (A := G) gW5) (Sq.of_bw g6)
      go_wp2_with (first
        | ((with_reducible refine p_store (ty := 32) ?_); refine wpStoreBox rfl 32 _ _ rfl (w.heap.size + 1) (l := cl zst) (l' := cl (done s 0 0 ((s.pc + 4) % 4294967296))) rfl rfl t6 (by rw [cl_len, cl_len]) (infoL _) (cl_one _) ?_; intro w7 h7 q7)
        | ((with_reducible refine p_store (ty := 35) ?_); refine wpStoreBox rfl 35 _ _ rfl (w.heap.size + 2) (l := [.int .i64 0, .int .u32 0, .int .i64 0]) (l' := [.int .i64 0, .int .u32 0, .int .i64 0]) rfl rfl (Box.q y6 q7 (by omega)) rfl (by kernel_rfl) one3e ?_; intro w8 h8 q8)
        | fail)
      (try simp only [Exit.inBlock, Exit.then])
      refine bodyPost_ret (results_two (fn := Tryd.f19) (p1 := 4) (p2 := 5) (t1 := 32) (t2 := 35) Tryd.results19 _ _ _ _ _ _ rfl rfl (Box.q h7 q8 (by omega)) h8 Tryd.underlying32 rfl (infoL _) Tryd.underlying35 rfl (by kernel_rfl)) rfl ?_
      try rw [hst2]
      exact ⟨rfl, G, (RM.two m6 q7 q8 hn1 hn2).mono (by omega), Sq.two k6 q7 q8 (by omega) (by omega)⟩
    · have hst2 : Cpu.step S s = ⟨s, ⟨5, s.pc, 0⟩, S⟩ := by
        rw [hst]
        rfl
      clear hst
      go_wp2_with fail
      have tD := Box.bw (HT.out) (Bw.refl w5).drew
      have yD := Box.bw (y5) (Bw.refl w5).drew
      have sD : SB w5.drew w.heap.size s := SB.bw (s5) (Bw.refl w5).drew
      have mD := RM.bw (hM5) (Bw.refl w5).drew
      have kD := Sq.trans (Sq.of_bw (A := G) gW5) (Sq.of_bw (Bw.refl w5).drew)
      refine wp_region_held_drew (S := fun Y => Box Y w.heap.size (cl s) ∧ Y.cell? ⟨w.heap.size, 32, none⟩ = some (.int .u32 s.pc)) (by kernel_rfl) ⟨sD, sD.pc⟩ (fun hHeld => ?_)
      refine wpAnyH_take (i := 0) (oi := ⟨some 250, _, _, _, _, _⟩) (v := .agg (cl s).toArray) rfl (by kernel_rfl) (by kernel_rfl) (by kernel_rfl) (fun _ _ _ h => h) (yieldsIf_load_mid (by rfl) 32 _ rfl w.heap.size 0 rfl _ _ (fun Y hY => Box.range hY.1) Tryd.underlying32 rfl (infoL _)) (by assumption) ?_
      simp only [Act.put, List.setIfInBounds_toArray, List.set_cons_zero, List.set_cons_succ]
      refine wpAnyH_take (i := 1) (oi := ⟨some 251, _, _, _, _, _⟩) (v := ?_) rfl (by kernel_rfl) (by kernel_rfl) (by kernel_rfl) (fun _ _ _ h => h) (Or.inl ⟨by rfl, ?_⟩) (by assumption) ?_; (rotate_left 1); (focus (intro wz hSw; (try dsimp only at hSw); go_simp; try (with_reducible rfl))); simp only [Act.put, List.setIfInBounds_toArray, List.set_cons_zero, List.set_cons_succ]
      refine wpAnyH_take (i := 2) (oi := ⟨some 252, _, _, _, _, _⟩) (v := ?_) rfl (by kernel_rfl) (by kernel_rfl) (by kernel_rfl) (fun _ _ _ h => h) (Or.inl ⟨by rfl, ?_⟩) (by assumption) ?_; (rotate_left 1); (focus (intro wz hSw; (try dsimp only at hSw); go_simp; try (with_reducible rfl))); simp only [Act.put, List.setIfInBounds_toArray, List.set_cons_zero, List.set_cons_succ]
      refine wpAnyH_take (i := 3) (oi := ⟨some 253, _, _, _, _, _⟩) (v := ?_) rfl (by kernel_rfl) (by kernel_rfl) (by kernel_rfl) (fun _ _ _ h => h) (Or.inl ⟨by rfl, ?_⟩) (by assumption) ?_; (rotate_left 1); (focus (intro wz hSw; (try dsimp only at hSw); go_simp; try (with_reducible rfl))); simp only [Act.put, List.setIfInBounds_toArray, List.set_cons_zero, List.set_cons_succ]
      refine wpAnyH_ready (rs := [4]) (by kernel_rfl) (by simp) ?_; refine AllReadyH.cons (o := ⟨none, _, _, _, _, _⟩) rfl (fun K hK => ?_) AllReadyH.nil; refine stepStoreBox rfl 32 _ _ rfl (w.heap.size + 1) (l := cl zst) (l' := cl s) rfl rfl tD (by rw [cl_len, cl_len]) (infoL _) (cl_one _) ?_; intro w7 h7 q7
      (try clear hHeld); refine hK.out _ _ ?_ (fun hHeld => ?_)
      · exact ⟨sD.q q7 (by omega), (show SB w7 w.heap.size s from sD.q q7 (by omega)).pc⟩
      refine wpAnyH_ready (rs := [5]) (by kernel_rfl) (by simp) ?_; refine AllReadyH.cons (o := ⟨none, _, _, _, _, _⟩) rfl (fun K hK => ?_) AllReadyH.nil; refine stepStoreBox rfl 35 _ _ rfl (w.heap.size + 2) (l := [.int .i64 0, .int .u32 0, .int .i64 0]) (l' := [.int .i64 5, .int .u32 s.pc, .int .i64 0]) rfl rfl (Box.q yD q7 (by omega)) rfl (by kernel_rfl) one3e ?_; intro w8 h8 q8
      (try clear hHeld); refine hK.out _ _ ?_ (fun hHeld => ?_)
      · exact ⟨Box.q (Box.q sD q7 (by omega)) q8 (by omega), (show SB w8 w.heap.size s from Box.q (Box.q sD q7 (by omega)) q8 (by omega)).pc⟩
      refine wpAnyH_done (by kernel_rfl) ?_ _
      go_wp2_with fail
      (try simp only [Exit.inBlock, Exit.then])
      refine bodyPost_ret (results_two (fn := Tryd.f19) (p1 := 4) (p2 := 5) (t1 := 32) (t2 := 35) Tryd.results19 _ _ _ _ _ _ rfl rfl (Box.q h7 q8 (by omega)) h8 Tryd.underlying32 rfl (infoL _) Tryd.underlying35 rfl (by kernel_rfl)) rfl ?_
      try rw [hst2]
      exact ⟨rfl, G, (RM.two mD q7 q8 hn1 hn2).mono (by omega), Sq.two kD q7 q8 (by omega) (by omega)⟩
    · have hst2 : Cpu.step S s = ⟨s, ⟨6, s.pc, 0⟩, S⟩ := by
        rw [hst]
        rfl
      clear hst
      go_wp2_with fail
      have tD := Box.bw (HT.out) (Bw.refl w5).drew
      have yD := Box.bw (y5) (Bw.refl w5).drew
      have sD : SB w5.drew w.heap.size s := SB.bw (s5) (Bw.refl w5).drew
      have mD := RM.bw (hM5) (Bw.refl w5).drew
      have kD := Sq.trans (Sq.of_bw (A := G) gW5) (Sq.of_bw (Bw.refl w5).drew)
      refine wp_region_held_drew (S := fun Y => Box Y w.heap.size (cl s) ∧ Y.cell? ⟨w.heap.size, 32, none⟩ = some (.int .u32 s.pc)) (by kernel_rfl) ⟨sD, sD.pc⟩ (fun hHeld => ?_)
      refine wpAnyH_take (i := 0) (oi := ⟨some 258, _, _, _, _, _⟩) (v := .agg (cl s).toArray) rfl (by kernel_rfl) (by kernel_rfl) (by kernel_rfl) (fun _ _ _ h => h) (yieldsIf_load_mid (by rfl) 32 _ rfl w.heap.size 0 rfl _ _ (fun Y hY => Box.range hY.1) Tryd.underlying32 rfl (infoL _)) (by assumption) ?_
      simp only [Act.put, List.setIfInBounds_toArray, List.set_cons_zero, List.set_cons_succ]
      refine wpAnyH_take (i := 1) (oi := ⟨some 259, _, _, _, _, _⟩) (v := ?_) rfl (by kernel_rfl) (by kernel_rfl) (by kernel_rfl) (fun _ _ _ h => h) (Or.inl ⟨by rfl, ?_⟩) (by assumption) ?_; (rotate_left 1); (focus (intro wz hSw; (try dsimp only at hSw); go_simp; try (with_reducible rfl))); simp only [Act.put, List.setIfInBounds_toArray, List.set_cons_zero, List.set_cons_succ]
      refine wpAnyH_take (i := 2) (oi := ⟨some 260, _, _, _, _, _⟩) (v := ?_) rfl (by kernel_rfl) (by kernel_rfl) (by kernel_rfl) (fun _ _ _ h => h) (Or.inl ⟨by rfl, ?_⟩) (by assumption) ?_; (rotate_left 1); (focus (intro wz hSw; (try dsimp only at hSw); go_simp; try (with_reducible rfl))); simp only [Act.put, List.setIfInBounds_toArray, List.set_cons_zero, List.set_cons_succ]
      refine wpAnyH_take (i := 3) (oi := ⟨some 261, _, _, _, _, _⟩) (v := ?_) rfl (by kernel_rfl) (by kernel_rfl) (by kernel_rfl) (fun _ _ _ h => h) (Or.inl ⟨by rfl, ?_⟩) (by assumption) ?_; (rotate_left 1); (focus (intro wz hSw; (try dsimp only at hSw); go_simp; try (with_reducible rfl))); simp only [Act.put, List.setIfInBounds_toArray, List.set_cons_zero, List.set_cons_succ]
      refine wpAnyH_ready (rs := [4]) (by kernel_rfl) (by simp) ?_; refine AllReadyH.cons (o := ⟨none, _, _, _, _, _⟩) rfl (fun K hK => ?_) AllReadyH.nil; refine stepStoreBox rfl 32 _ _ rfl (w.heap.size + 1) (l := cl zst) (l' := cl s) rfl rfl tD (by rw [cl_len, cl_len]) (infoL _) (cl_one _) ?_; intro w7 h7 q7
      (try clear hHeld); refine hK.out _ _ ?_ (fun hHeld => ?_)
      · exact ⟨sD.q q7 (by omega), (show SB w7 w.heap.size s from sD.q q7 (by omega)).pc⟩
      refine wpAnyH_ready (rs := [5]) (by kernel_rfl) (by simp) ?_; refine AllReadyH.cons (o := ⟨none, _, _, _, _, _⟩) rfl (fun K hK => ?_) AllReadyH.nil; refine stepStoreBox rfl 35 _ _ rfl (w.heap.size + 2) (l := [.int .i64 0, .int .u32 0, .int .i64 0]) (l' := [.int .i64 6, .int .u32 s.pc, .int .i64 0]) rfl rfl (Box.q yD q7 (by omega)) rfl (by kernel_rfl) one3e ?_; intro w8 h8 q8
      (try clear hHeld); refine hK.out _ _ ?_ (fun hHeld => ?_)
      · exact ⟨Box.q (Box.q sD q7 (by omega)) q8 (by omega), (show SB w8 w.heap.size s from Box.q (Box.q sD q7 (by omega)) q8 (by omega)).pc⟩
      refine wpAnyH_done (by kernel_rfl) ?_ _
      go_wp2_with fail
      (try simp only [Exit.inBlock, Exit.then])
      refine bodyPost_ret (results_two (fn := Tryd.f19) (p1 := 4) (p2 := 5) (t1 := 32) (t2 := 35) Tryd.results19 _ _ _ _ _ _ rfl rfl (Box.q h7 q8 (by omega)) h8 Tryd.underlying32 rfl (infoL _) Tryd.underlying35 rfl (by kernel_rfl)) rfl ?_
      try rw [hst2]
      exact ⟨rfl, G, (RM.two mD q7 q8 hn1 hn2).mono (by omega), Sq.two kD q7 q8 (by omega) (by omega)⟩
end Go.Proofs.YtbackacbdfgdoaaDoor
