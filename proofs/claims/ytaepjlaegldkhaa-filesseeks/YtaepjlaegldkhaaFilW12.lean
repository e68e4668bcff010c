/- LAYER 11's walks: Copy. -/
import Derived.Test.YtaepjlaegldkhaaFilIx
import Derived.Deep.WholeRow
import Derived.Deep.CutBlock
namespace Go.Proofs.Ytaepjlaegldkhaa
open Go.ChangeShapes Go.WideShapes Go.ChangeAt Go.RowKit

theorem wpLoadV {P : Program} {w : World} {ops : Array Oper} {rest : List Oper} {o : Oper} {a : Act} {Q : Exit → Act → World → Prop} (hgd : o.guard = none) (t : TypeId) (x : Operand) (p : Addr) {v : Value}
    (ho : o.op = .load t x) (hx : a.eval x = .pointer (some p)) (hr : (loadVar t p).run P w = .ok v w) (h : wpList P ops Q rest (a.put o.dst v) w) : wpList P ops Q (o :: rest) a w := by
  refine wpList_plain hgd fun K hK => ?_
  unfold Oper.wp execOp
  simp only [ho, hx, Instr.loadAt, Instr.sureAddr, Sem.run_bind, Sem.run_pure, Result.andThen_ok, hr]
  exact hK _ _ h
theorem wpStoreV {P : Program} {w w' : World} {ops : Array Oper} {rest : List Oper} {o : Oper} {a : Act} {Q : Exit → Act → World → Prop} (hgd : o.guard = none) (t : TypeId) (x y : Operand) (p : Addr) {v : Value}
    (ho : o.op = .store t x y) (hx : a.eval x = .pointer (some p)) (hy : a.eval y = v) (hr : (storeVar t p v).run P w = .ok () w') (h : wpList P ops Q rest (a.put o.dst undef) w') : wpList P ops Q (o :: rest) a w := by
  refine wpList_plain hgd fun K hK => ?_
  unfold Oper.wp execOp
  simp only [ho, hx, hy, Instr.storeAt, Instr.sureAddr, Sem.run_bind, Sem.run_pure, Result.andThen_ok, hr]
  exact hK _ _ h
theorem infoFiles : (Try.prog.info? 76).map (·.size) = some 53 := by kernel_rfl
theorem Fil.cells_all {ub : Nat} {vs v1 v2 : Value} {op : List Fil.H} (a : vs.oneCell' = true) (b : v1.oneCell' = true) (c : v2.oneCell' = true) : ∀ u ∈ Fil.cells ub vs v1 v2 op, u.oneCell' = true := fun u hu => by
  unfold Fil.cells at hu
  rcases List.mem_cons.1 hu with rfl | hu
  · rfl
  rcases List.mem_cons.1 hu with rfl | hu
  · exact a
  rcases List.mem_append.1 hu with hu | hu
  · obtain ⟨h, _, hx⟩ := List.mem_flatMap.1 hu
    simp [Fil.hC] at hx
    rcases hx with rfl | rfl | rfl <;> rfl
  · simp at hu
    rcases hu with rfl | rfl | rfl
    · rfl
    · exact b
    · exact c
theorem CloneN_c (w : World) : Calls Try.prog 34 #[.slice none 0 0] w fun e w' => e = .returned (.slice none 0 0) ∧ Bw w w' := by
  have he := eqSliceNil w 25 _ none 0 0 Try.underlying25
  go_enter Try.func34, Try.ntmps34
  go_wp2_with fail
  go_returns
  exact ⟨rfl, Bw.refl _⟩
set_option maxHeartbeats 4000000 in
set_option maxRecDepth 100000 in
theorem fCopy_c {w0 w : World} {fb : Nat} {A : Nat → Prop} {s : Fil.St} (h : FS w0 w fb A s) : Calls Try.prog 25 #[.pointer (some ⟨fb, 0, none⟩)] w fun e w' => ∃ ob A', e = .returned (.pointer (some ⟨ob, 0, none⟩)) ∧ FS w w' ob A' s ∧ Bw w w' := by
  obtain ⟨ub, v1, v2, vs, us, h⟩ := h
  have hln := Fil.cells_len (ub := ub) (vs := vs) (v1 := v1) (v2 := v2) h.ok.ln
  have hld : (loadVar 76 ⟨fb, 0, none⟩).run Try.prog w = .ok (.agg (Fil.cells ub vs v1 v2 s.op).toArray) w := by
    have hl := run_loadCells_list (P := Try.prog) w ⟨fb, 0, none⟩ (Fil.cells ub vs v1 v2 s.op) (fun j v hv => by rw [Addr.add_lit, Nat.zero_add]; exact h.box.c j v hv)
    rw [hln] at hl
    unfold loadVar
    simp only [Sem.run_bind, Try.isAgg76, Try.sizeOf76, Result.andThen_ok, if_true, hl, Sem.run_pure]
  obtain ⟨q1, c1, hv1⟩ := h.o1.sl
  obtain ⟨q2, c2, hv2⟩ := h.o2.sl
  obtain ⟨qs, cs, hvs, -⟩ := RdR.form h.rd
  have e0 : vs.oneCell' = true := by rw [hvs]; rfl
  have e1 : v1.oneCell' = true := by rw [hv1]; rfl
  have e2 : v2.oneCell' = true := by rw [hv2]; rfl
  have hst : ∀ c : Array Value, c.size = 53 → (storeVar 76 ⟨w.heap.size, 0, none⟩ (.agg (Fil.cells ub vs v1 v2 s.op).toArray)).run Try.prog (w.alloc (.cells c 76)) = .ok () (w.alloc (.cells (Fil.cells ub vs v1 v2 s.op).toArray 76)) := fun c hc =>
    run_storeVar_new w 76 c _ (by simp only [List.size_toArray, hln]; exact infoFiles) (by rw [hc, List.size_toArray, hln]) (by
      rw [Array.all_eq_true_iff_forall_mem]
      intro u hu
      exact Fil.cells_all (ub := ub) (op := s.op) e0 e1 e2 u (by simpa using hu))
  have HX : Hid _ := h
  clear h hv1 hv2 hvs
  go_enter Try.func25, Try.ntmps25
  go_upto_region 2 with (first | (refine wpLoadV rfl 76 _ ⟨fb, 0, none⟩ rfl rfl hld ?_) | (refine wpStoreV rfl 76 _ _ ⟨w.heap.size, 0, none⟩ rfl rfl rfl (hst _ rfl) ?_) | fail)
  have hgA : Bw w (w.alloc (.cells (Fil.cells ub vs v1 v2 s.op).toArray 76)) := (Bw.refl w).alloc _
  have hBA := Box.new w (Fil.cells ub vs v1 v2 s.op) 76
  clear hld hst e0 e1 e2
  generalize w.alloc (.cells (Fil.cells ub vs v1 v2 s.op).toArray 76) = wA at *
  obtain ⟨ob, hob⟩ : ∃ ob, w.heap.size = ob := ⟨_, rfl⟩
  rw [hob] at hBA ⊢
  have hXA : FsX w0 wA fb ub v1 v2 vs us A s := (show FsX w0 w fb ub v1 v2 vs us A s from HX).bw hgA
  have a0 := hXA.box.c 0 _ rfl
  have hCp := Copy_c wA ub s.sh s.rd s.ck s.a s.b s.c hXA.use hXA.ok.l1 hXA.ok.l2 hXA.ok.l3
  have HXA : Hid _ := hXA
  have HBA : Hid _ := hBA
  have hobA : ob < wA.heap.size := hBA.lt
  clear hXA hBA
  go_wp2_with fail
  refine hCp.mono ?_
  rintro e w1 ⟨ub', rfl, hub', hb1, hU1, hFU1⟩
  have hB1 : Box w1 ob (Fil.cells ub vs v1 v2 s.op) := Box.bw (show Box wA ob (Fil.cells ub vs v1 v2 s.op) from HBA) hb1
  have hX1 : FsX w0 w1 fb ub v1 v2 vs us A s := (show FsX w0 wA fb ub v1 v2 vs us A s from HXA).bw hb1
  have x0 := hB1.c 0 _ rfl; have x0f := hB1.f 0 (by rw [hln]; omega)
  have hne : fb ≠ ob := by have := ((show FsX w0 w fb ub v1 v2 vs us A s from HX).in_ fb (show FsX w0 w fb ub v1 v2 vs us A s from HX).af).2; omega
  have hg1 : Bw w (w1.setCell ⟨ob, 0, none⟩ (.pointer (some ⟨ub', 0, none⟩))) := (hgA.trans hb1).setCell (Nat.le_of_eq hob) _
  have hX1' := (show FsX w0 w fb ub v1 v2 vs us A s from HX).bw hg1
  have y1 := hX1'.box.c 1 _ rfl
  have hSr := fun X (g : Bw (w1.setCell ⟨ob, 0, none⟩ (.pointer (some ⟨ub', 0, none⟩))) X) => cloneSrc_c (hX1'.src.bw g) hX1'.ok.ls.1 hX1'.ok.ls.2 (fun f hf => (hX1'.ok.ld f hf).1)
  have hB1' := hB1.set 0 (by rw [hln]; omega) (.pointer (some ⟨ub', 0, none⟩))
  rw [show (Fil.cells ub vs v1 v2 s.op).set 0 (.pointer (some ⟨ub', 0, none⟩)) = Fil.cells ub' vs v1 v2 s.op from rfl] at hB1'
  have hq1 : Bq ob w1 (w1.setCell ⟨ob, 0, none⟩ (.pointer (some ⟨ub', 0, none⟩))) := (Bq.refl _ _).set 0 _
  have HB1 : Hid _ := hB1'
  have hub1 : ub' < w1.heap.size := hU1.lt
  have HU1 : UseS w1 ub' s.sh s.rd s.ck s.a s.b s.c ∧ FarU w1 ub' wA.heap.size := ⟨hU1, hFU1⟩
  clear hX1 hB1 hX1' hB1' hU1 hFU1 hCp HXA HBA
  go_wp2_with fail
  refine (hSr _ (Bw.refl _)).mono ?_
  rintro e w2 ⟨vs', rfl, hSO, hb2⟩
  obtain ⟨us', k1, k2, k3, k4⟩ := hSO
  rw [show (w1.setCell ⟨ob, 0, none⟩ (.pointer (some ⟨ub', 0, none⟩))).heap.size = w1.heap.size by simp [World.setCell]] at k3 k4
  obtain ⟨q3, c3, rfl, -⟩ := RdR.form k2
  have hB2 : Box w2 ob (Fil.cells ub' vs v1 v2 s.op) := Box.bw (show Box _ ob (Fil.cells ub' vs v1 v2 s.op) from HB1) hb2
  have x1 := hB2.c 1 _ rfl; have x1f := hB2.f 1 (by rw [Fil.cells_len (show FsX w0 w fb ub v1 v2 vs us A s from HX).ok.ln]; omega)
  have hB2' := hB2.set 1 (by rw [Fil.cells_len (show FsX w0 w fb ub v1 v2 vs us A s from HX).ok.ln]; omega) (.slice q3 s.srcs.length c3)
  rw [show (Fil.cells ub' vs v1 v2 s.op).set 1 (.slice q3 s.srcs.length c3) = Fil.cells ub' (.slice q3 s.srcs.length c3) v1 v2 s.op from rfl] at hB2'
  have hg2 : Bw w (w2.setCell ⟨ob, 1, none⟩ (.slice q3 s.srcs.length c3)) := (hg1.trans hb2).setCell (Nat.le_of_eq hob) _
  have hq2 : Bq ob w2 (w2.setCell ⟨ob, 1, none⟩ (.slice q3 s.srcs.length c3)) := (Bq.refl _ _).set 1 _
  have hX2' := (show FsX w0 w fb ub v1 v2 vs us A s from HX).bw hg2
  obtain ⟨t50, t51, t52⟩ := Fil.cells_hi (ub := ub) (vs := vs) (v1 := v1) (v2 := v2) hX2'.ok.ln
  have y50 := hX2'.box.c 50 _ t50; have y51 := hX2'.box.c 51 _ t51; have y52 := hX2'.box.c 52 _ t52
  have HB2 : Hid _ := hB2'
  have HQ2 : Hid _ := hq2
  have HK : Hid (us'.length = s.srcs.length ∧ RdR 2 w2 (.slice q3 s.srcs.length c3) s.srcs.length (Fee.cells s.srcs us') ∧ Far2 w1.heap.size (.slice q3 s.srcs.length c3) ∧ ∀ (i : Nat) f u, s.srcs[i]? = some f → us'[i]? = some u → Rd8 w2 u f.data ∧ Far2 w1.heap.size u) := ⟨k1, k2, k3, k4⟩
  clear hB2 hB2' hq2 hX2' t50 t51 t52 k1 k2 k3 k4 y1 hSr x0 x0f a0
  go_wp2_with fail
  have hok := (show FsX w0 w fb ub v1 v2 vs us A s from HX).ok
  have hln' : ∀ a b c, (Fil.cells ub' a b c s.op).length = 53 := fun a b c => Fil.cells_len hok.ln
  have ho1 := (show FsX w0 w fb ub v1 v2 vs us A s from HX).o1
  have ho2 := (show FsX w0 w fb ub v1 v2 vs us A s from HX).o2
  generalize hwD : w2.setCell ⟨ob, 1, none⟩ (.slice q3 s.srcs.length c3) = wD at *
  have i0 := ix3_0 (.slice none 0 0) v1 v2
  have i1 := ix3_1 (.slice none 0 0) v1 v2
  have i2 := ix3_2 (.slice none 0 0) v1 v2
  refine wp_loop_rounds 4 ?_
  rw [rounds_succ]
  go_wp2_with fail
  refine (CloneN_c _).mono ?_
  rintro e w3 ⟨rfl, hb3⟩
  have hB3 : Box w3 ob (Fil.cells ub' (.slice q3 s.srcs.length c3) v1 v2 s.op) := Box.bw (show Box wD ob (Fil.cells ub' (.slice q3 s.srcs.length c3) v1 v2 s.op) from HB2) hb3
  have x50 := hB3.c 50 _ (Fil.cells_hi hok.ln).1; have x50f := hB3.f 50 (by rw [hln']; omega)
  have hg3 : Bw w (w3.setCell ⟨ob, 50, none⟩ (.slice none 0 0)) := (hg2.trans hb3).setCell (Nat.le_of_eq hob) _
  have hB3' := hB3.set 50 (by rw [hln']; omega) (.slice none 0 0)
  rw [Fil.cells_set0 hok.ln] at hB3'
  have hq3 : Bq ob wD (w3.setCell ⟨ob, 50, none⟩ (.slice none 0 0)) := ((Bq.refl _ _).bw hb3).set 50 _
  have HB3 : Hid _ := hB3'
  clear hB3 hB3' y50 y51 y52
  go_wp2_with fail
  generalize w3.setCell ⟨ob, 50, none⟩ (.slice none 0 0) = wE at *
  clear x50 x50f
  rw [rounds_succ]
  go_wp2_with fail
  refine (CloneO_c (ho1.bw hg3) hok.p1.1).mono ?_
  rintro e w4 ⟨v1', rfl, hO1, hb4⟩
  obtain ⟨q4, c4, hv1'⟩ := hO1.sl
  have hB4 : Box w4 ob (Fil.cells ub' (.slice q3 s.srcs.length c3) v1 v2 s.op) := Box.bw (show Box wE ob (Fil.cells ub' (.slice q3 s.srcs.length c3) v1 v2 s.op) from HB3) hb4
  have x51 := hB4.c 51 _ (Fil.cells_hi hok.ln).2.1; have x51f := hB4.f 51 (by rw [hln']; omega)
  have hg4 : Bw w (w4.setCell ⟨ob, 51, none⟩ v1') := (hg3.trans hb4).setCell (Nat.le_of_eq hob) _
  have hB4' := hB4.set 51 (by rw [hln']; omega) v1'
  rw [Fil.cells_set1 hok.ln] at hB4'
  have hq4 : Bq ob wE (w4.setCell ⟨ob, 51, none⟩ v1') := ((Bq.refl _ _).bw hb4).set 51 _
  have hszE : wD.heap.size ≤ wE.heap.size := hq3.b0.size
  have hobD : ob < wD.heap.size := Box.lt (show Box wD ob (Fil.cells ub' (.slice q3 s.srcs.length c3) v1 v2 s.op) from HB2)
  have hO1' : Own8 wE (w4.setCell ⟨ob, 51, none⟩ v1') v1' s.o1 := hO1.heap (fun j hj => Below.heap_setCell _ _ _ _ (by have := (hO1.blk j hj).1; show j ≠ ob; omega))
  have HB4 : Hid _ := hB4'
  have HO1 : Hid _ := hO1'
  clear hB4 hB4' hO1 hO1'
  subst hv1'
  go_wp2_with fail
  generalize w4.setCell ⟨ob, 51, none⟩ (.slice q4 s.o1.length c4) = wG at *
  clear x51 x51f
  rw [rounds_succ]
  go_wp2_with fail
  refine (CloneO_c (ho2.bw hg4) hok.p2.1).mono ?_
  rintro e w5 ⟨v2', rfl, hO2, hb5⟩
  obtain ⟨q5, c5, hv2'⟩ := hO2.sl
  have hB5 : Box w5 ob (Fil.cells ub' (.slice q3 s.srcs.length c3) (.slice q4 s.o1.length c4) v2 s.op) := Box.bw (show Box wG ob (Fil.cells ub' (.slice q3 s.srcs.length c3) (.slice q4 s.o1.length c4) v2 s.op) from HB4) hb5
  have x52 := hB5.c 52 _ (Fil.cells_hi hok.ln).2.2; have x52f := hB5.f 52 (by rw [hln']; omega)
  have hg5 : Bw w (w5.setCell ⟨ob, 52, none⟩ v2') := (hg4.trans hb5).setCell (Nat.le_of_eq hob) _
  have hB5' := hB5.set 52 (by rw [hln']; omega) v2'
  rw [Fil.cells_set2 hok.ln] at hB5'
  have hq5 : Bq ob wG (w5.setCell ⟨ob, 52, none⟩ v2') := ((Bq.refl _ _).bw hb5).set 52 _
  have hszG : wE.heap.size ≤ wG.heap.size := hq4.b0.size
  have hO2' : Own8 wG (w5.setCell ⟨ob, 52, none⟩ v2') v2' s.o2 := hO2.heap (fun j hj => Below.heap_setCell _ _ _ _ (by have := (hO2.blk j hj).1; show j ≠ ob; omega))
  have hO1F : Own8 wE (w5.setCell ⟨ob, 52, none⟩ v2') (.slice q4 s.o1.length c4) s.o1 := (show Own8 wE wG (.slice q4 s.o1.length c4) s.o1 from HO1).heap (fun j hj => hq5.block j ((show Own8 wE wG (.slice q4 s.o1.length c4) s.o1 from HO1).blk j hj).2 (by have := ((show Own8 wE wG (.slice q4 s.o1.length c4) s.o1 from HO1).blk j hj).1; omega))
  have HFin : Hid (∃ A', FS w (w5.setCell ⟨ob, 52, none⟩ v2') ob A' s ∧ Bw w (w5.setCell ⟨ob, 52, none⟩ v2')) := by
    obtain ⟨k1, k2, k3, k4⟩ := (show us'.length = s.srcs.length ∧ RdR 2 w2 (.slice q3 s.srcs.length c3) s.srcs.length (Fee.cells s.srcs us') ∧ Far2 w1.heap.size (.slice q3 s.srcs.length c3) ∧ ∀ (i : Nat) f u, s.srcs[i]? = some f → us'[i]? = some u → Rd8 w2 u f.data ∧ Far2 w1.heap.size u from HK)
    have hg2F : Bq ob w2 (w5.setCell ⟨ob, 52, none⟩ v2') := (((show Bq ob w2 wD from HQ2).trans hq3).trans hq4).trans hq5
    have hs2D : w2.heap.size ≤ wD.heap.size := (show Bq ob w2 wD from HQ2).b0.size
    have hg1F : Bq ob w1 (w5.setCell ⟨ob, 52, none⟩ v2') := (hq1.bw hb2).trans hg2F
    have hsw : w.heap.size ≤ wE.heap.size := hg3.size
    have hsG : w.heap.size ≤ wG.heap.size := hg4.size
    refine ⟨_, FS.mkC hok (Nat.le_of_eq hob) hobA hub' hub1 HU1.1 HU1.2 hg1F hg2F (Nat.le_trans hq1.b0.size hb2.size) k1 k2 k3 k4 hB5' (hO1F.le hsw) (hO2'.le hsG) (fun j hj => by have := (hO1F.blk j hj).1; omega) (fun j hj => by have := (hO2'.blk j hj).1; omega) (fun j hj e => ?_), hg5⟩
    have h1 := ((show Own8 wE wG (.slice q4 s.o1.length c4) s.o1 from HO1).blk j hj).2
    have h2 := (hO2'.blk j e).1
    omega
  clear hB5 hB5' hO2 hO2' hO1F
  subst hv2'
  go_wp2_with fail
  generalize w5.setCell ⟨ob, 52, none⟩ (.slice q5 s.o2.length c5) = wF at *
  rw [rounds_succ]
  go_wp2_with fail
  go_returns
  obtain ⟨A', r1, r2⟩ := (show ∃ A', _ from HFin)
  exact ⟨_, A', rfl, r1, r2⟩
end Go.Proofs.Ytaepjlaegldkhaa
