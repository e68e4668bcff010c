/- LAYER 8's law ImageMoved. -/
import Derived.Test.YtaejcbmmapcpgaaImgLawBack
namespace Go.Proofs.Ytaejcbmmapcpgaa
open Go.ChangeShapes Go.WideShapes Go.ChangeAt Go.RowKit
set_option linter.unusedSimpArgs false

theorem Own8.empty (w0 w : World) (h : w0.heap.size ≤ w.heap.size) : Own8 w0 (w.alloc (.cells #[] 5)) (.slice (some ⟨w.heap.size, 0, none⟩) 0 0) [] :=
  Or.inr ⟨w.heap.size, 0, rfl, h, by simp, Nat.le_refl _, by unfold maxLen; omega, by simp, fun j hj => by omega⟩
theorem Img.put_one {e : Int} {s : Img.Seg} : (Img.put ⟨e, [s]⟩).take 84 = Img.head e 1 ++ Img.rowOf 84 s := by
  unfold Img.put
  have h1 : Img.rows (52 + 32 * ([s] : List Img.Seg).length) [s] = Img.rowOf 84 s := by simp [Img.rows]
  show ((Img.head e 1 ++ Img.rows (52 + 32 * ([s] : List Img.Seg).length) [s]) ++ Img.data [s]).take 84 = _
  rw [h1, List.take_append_of_le_length (by rw [List.length_append, Img.head_len]; simp [Img.rowOf, Img.row_len]), List.take_of_length_le (by rw [List.length_append, Img.head_len]; simp [Img.rowOf, Img.row_len])]
theorem Img.moved_bytes {e : Int} {s : Img.Seg} {more : List Int} {a : Nat} (ha : a = 84 + more.length) (hl : more.length ≤ 300) :
    ((((Img.put ⟨e, [s]⟩).take 84 ++ more ++ s.bytes).set 56 ((a : Int) % 256)).set 57 ((a : Int) / 256 % 256)) = Img.head e 1 ++ (Img.rowOf (84 + more.length) s ++ (more ++ s.bytes)) := by
  rw [Img.put_one, ← ha]
  have e1 : (84 : Nat) = ((84 : Nat) : Int) := rfl
  simp only [Img.head, Img.rowOf, Img.row, Img.le4, Img.le2, List.cons_append, List.nil_append, List.set_cons_succ, List.set_cons_zero, List.append_assoc]
  have h1 : (a : Int) / 65536 % 256 = 0 := by omega
  have h2 : (a : Int) / 16777216 = 0 := by omega
  rw [h1, h2]
  rfl
set_option maxHeartbeats 8000000 in
set_option maxRecDepth 100000 in
theorem ImageMoved_w (v x : Value) (w : World) (hv : ImgArg w v) (hx : B8Arg w x) : Calls Try.prog 6 #[v, x] w fun e w' => e = .returned (.bool true) ∧ Bw w w' := by
  obtain ⟨i, hp⟩ := hv
  obtain ⟨more, hm, hm8⟩ := hx
  have hGr := fun w' (g : Bw w w') => great_c v i w' (hp.bw g)
  have hPu := fun w' (g : Bw w w') => Put_c v i w' (hp.bw g)
  have hIm := fun w' (g : Bw w w') h => img_c v i w' (hp.bw g) h
  obtain ⟨u, rfl, hS, he0, he1⟩ := hp
  have hwf := hS.wf
  obtain ⟨us, q, cap, rfl, hc1, hc2, hus, hru, hcell⟩ := hS.openU
  obtain ⟨qm, cm, rfl, hd1, hd2, -⟩ := hm.open
  have hxA := Box.new w [.int .u32 i.entry, .slice q i.segs.length cap] 26
  clear hS
  go_enter Try.func6, Try.ntmps6
  go_wp2_with fail
  refine (awake8_c _).mono ?_
  rintro e w1 ⟨rfl, hb1⟩
  obtain ⟨hbx, hx⟩ : Bw w w1 ∧ Box w1 w.heap.size [.int .u32 i.entry, .slice q i.segs.length cap] := ⟨((Bw.refl w).alloc _).trans hb1, hxA.bw hb1⟩
  clear hb1 hxA
  have x0 := hx.c 0 _ rfl; have x1 := hx.c 1 _ rfl
  go_wp2_with fail
  refine (hGr _ hbx).mono ?_
  rintro e w2 ⟨r, rfl, hr, hb2⟩
  clear hGr x0 x1
  replace hbx := hbx.trans hb2
  replace hx := hx.bw hb2
  clear hb2
  have x0 := hx.c 0 _ rfl; have x1 := hx.c 1 _ rfl
  cases r
  rotate_left
  · go_wp2_with fail
    go_returns
    exact ⟨rfl, hbx⟩
  obtain ⟨hl10, hb600⟩ := hr rfl
  clear hr
  by_cases h1 : i.segs.length = 1
  rotate_left
  · have h1b : ((i.segs.length : Int) != 1) = true := by simp; omega
    go_wp2_with fail
    go_returns
    exact ⟨rfl, hbx⟩
  by_cases h300 : 300 < more.length
  · have h300i : (300 : Int) < more.length := by omega
    go_wp2_with fail
    go_returns
    exact ⟨rfl, hbx⟩
  have h300i : (more.length : Int) ≤ 300 := by omega
  have h1b : ((i.segs.length : Int) != 1) = false := by simp; omega
  obtain ⟨s, hs⟩ : ∃ s, i.segs = [s] := List.length_eq_one_iff.1 h1
  obtain ⟨ent, segs⟩ := i
  dsimp only at *
  subst hs
  have hb6 := hb600 s (by simp)
  obtain ⟨b, o, qs, cs, hq, hb, -, -, -, c3, -, hR8⟩ := hcell 0 s rfl
  subst hq
  simp only [Nat.zero_mul, Nat.add_zero] at c3
  have hwfs := hwf s (by simp)
  simp only [List.length_cons, List.length_nil, Nat.zero_add] at *
  clear hcell hru hus hc1 h1b hb600 hl10 h1
  go_wp2_with fail
  refine (hPu _ hbx).mono ?_
  rintro e w3 ⟨ua, rfl, hoa, hb3⟩
  clear hPu x0 x1
  replace hbx := hbx.trans hb3
  replace hx := hx.bw hb3
  have x0 := hx.c 0 _ rfl; have x1 := hx.c 1 _ rfl
  by_cases hE : Img.putE ⟨ent, [s]⟩ = 0
  rotate_left
  · generalize Img.putE ⟨ent, [s]⟩ = E at *
    have hEb : (E != 0) = true := by simpa using hE
    clear hoa
    go_wp2_with fail
    go_returns
    exact ⟨rfl, hbx⟩
  rw [if_pos hE] at hoa
  rw [hE]
  obtain ⟨hg, hsz⟩ := Img.putE_ok hE
  obtain ⟨-, -, hok, -, -, -⟩ := Img.good_ok hg
  have hok1 : Img.segOk s = true := by simpa using hok
  have hpl := Img.put_len ⟨ent, [s]⟩
  have hpl84 : 84 ≤ (Img.put ⟨ent, [s]⟩).length := by rw [hpl]; show 84 ≤ 52 + 32 * 1 + _; omega
  obtain ⟨gA, cpA, rfl, hgA1, hgA2, hgA3, hgA4, hgA5, -⟩ := hoa.form (by omega)
  have hget := Img.get_moved (more := more) hg hok1 (by omega)
  have hmb := Img.moved_bytes (e := ent) (s := s) (more := more) rfl (by omega)
  have hTake : Rd8 w3 (.slice (some ⟨gA, 0, none⟩) 84 cpA) ((Img.put ⟨ent, [s]⟩).take 84) := by
    have := Rd8.part (w := w3) (l := Img.put ⟨ent, [s]⟩) (b := gA) (o := 0) (c2 := cpA) hgA2 (fun j x hx => by rw [Nat.zero_add]; exact hgA5 j x hx) 0 84 (by omega) (by omega) hgA4
    simpa using this
  have htl : ((Img.put ⟨ent, [s]⟩).take 84).length = 84 := by rw [List.length_take]; omega
  have hcp84 : (84 : Int) ≤ cpA := by omega
  have hO0 := Own8.empty w3 w3.drew (Nat.le_refl _)
  obtain ⟨v1, X1, hr1, hO1, hB1, -⟩ := app8S hO0 (((Bw.refl w3).drew).alloc _) (hTake.bw (((Bw.refl w3).drew).alloc _)) (by rw [htl]; simp)
  obtain ⟨v2, X2, hr2, hO2, hB2, -⟩ := app8S hO1 hB1 (hm.bw (hbx.trans hB1)) (by rw [List.length_append, htl]; simp; omega)
  obtain ⟨v3, X3, hr3, hO3, hB3, -⟩ := app8S hO2 hB2 (hR8.bw (hbx.trans hB2)) (by rw [List.length_append, List.length_append, htl]; simp; omega)
  rw [List.nil_append] at hO3
  simp only [World.size_drew] at hr1
  have hL3 : ((Img.put ⟨ent, [s]⟩).take 84 ++ more ++ s.bytes).length = 84 + more.length + s.bytes.length := by rw [List.length_append, List.length_append, htl]
  obtain ⟨L3, hLL⟩ : ∃ L3, (Img.put ⟨ent, [s]⟩).take 84 ++ more ++ s.bytes = L3 := ⟨_, rfl⟩
  rw [hLL] at hO3 hL3 hmb
  have h56 : (56 : Int) < L3.length := by omega
  have h57 : (57 : Int) < L3.length := by omega
  have h65 : (L3.length : Int) ≤ 65536 := by omega
  have HL3 : Hid _ := hL3
  have HMB : Hid _ := hmb
  obtain ⟨g3, cp3, rfl, hg1, hg2, hg3, hg4, hg5, hg6⟩ := hO3.form (by omega)
  have HSX : Hid (∀ X, Bw w3 X → (X.cell? ⟨w.heap.size, 1, none⟩ = some (.slice (some ⟨b, o, none⟩) 1 cap) ∧ X.cell? ⟨b, o + 3, none⟩ = some (.slice qs s.bytes.length cs))) := fun X g => ⟨g.keep x1, (hbx.trans g).keep c3⟩
  have hBE : Bw w3 (w3.drew.alloc (.cells #[] 5)) := ((Bw.refl w3).drew).alloc _
  replace c3 := hbx.keep c3
  have HO3 : Hid _ := hO3
  have HG5 : Hid _ := hg5
  clear hoa hTake hgA5 hO0 hO1 hO2 hO3 hg5 hpl hE hg hok hsz hm hR8 hgA3
  have z56f := hg6 56 (by omega); have z57f := hg6 57 (by omega)
  clear hg6 hLL hL3 hmb
  go_wp2_with fail
  refine wp_region_held_drew (S := fun X => X.cell? ⟨w.heap.size, 1, none⟩ = some (.slice (some ⟨b, o, none⟩) 1 cap) ∧ X.cell? ⟨b, o + 3, none⟩ = some (.slice qs s.bytes.length cs)) (by kernel_rfl) ((show ∀ X, _ → _ from HSX) _ ((Bw.refl _).drew)) (fun hHeld => ?_)
  refine wpAnyH_take (i := 1) (oi := ⟨some 41, _, _, _, _, _⟩) (v := ?_) rfl (by kernel_rfl) (by kernel_rfl) (by kernel_rfl) (fun _ _ _ h => h) (Or.inl ⟨by rfl, ?_⟩) (by assumption) ?_; (rotate_left 1); (focus (intro wz hSw; (try dsimp only at hSw); go_simp; try (with_reducible rfl))); simp only [Act.put, List.setIfInBounds_toArray, List.set_cons_zero, List.set_cons_succ]
  refine wpAnyH_take (i := 2) (oi := ⟨some 42, _, _, _, _, _⟩) (v := ?_) rfl (by kernel_rfl) (by kernel_rfl) (by kernel_rfl) (fun _ _ _ h => h) (Or.inl ⟨by rfl, ?_⟩) (by assumption) ?_; (rotate_left 1); (focus (intro wz hSw; (try dsimp only at hSw); go_simp; try (with_reducible rfl))); simp only [Act.put, List.setIfInBounds_toArray, List.set_cons_zero, List.set_cons_succ]
  refine wpAnyH_take (i := 4) (oi := ⟨some 44, _, _, _, _, _⟩) (v := ?_) rfl (by kernel_rfl) (by kernel_rfl) (by kernel_rfl) (fun _ _ _ h => h) (Or.inl ⟨by rfl, ?_⟩) (by assumption) ?_; (rotate_left 1); (focus (intro wz hSw; (try dsimp only at hSw); go_simp; try (with_reducible rfl))); simp only [Act.put, List.setIfInBounds_toArray, List.set_cons_zero, List.set_cons_succ]
  refine wpAnyH_take (i := 6) (oi := ⟨some 46, _, _, _, _, _⟩) (v := ?_) rfl (by kernel_rfl) (by kernel_rfl) (by kernel_rfl) (fun _ _ _ h => h) (Or.inl ⟨by rfl, ?_⟩) (by assumption) ?_; (rotate_left 1); (focus (intro wz hSw; (try dsimp only at hSw); go_simp; try (with_reducible rfl))); simp only [Act.put, List.setIfInBounds_toArray, List.set_cons_zero, List.set_cons_succ]
  refine wpAnyH_take (i := 7) (oi := ⟨some 47, _, _, _, _, _⟩) (v := ?_) rfl (by kernel_rfl) (by kernel_rfl) (by kernel_rfl) (fun _ _ _ h => h) (Or.inl ⟨by rfl, ?_⟩) (by assumption) ?_; (rotate_left 1); (focus (intro wz hSw; (try dsimp only at hSw); go_simp; try (with_reducible rfl))); simp only [Act.put, List.setIfInBounds_toArray, List.set_cons_zero, List.set_cons_succ]
  refine wpAnyH_take (i := 8) (oi := ⟨some 48, _, _, _, _, _⟩) (v := ?_) rfl (by kernel_rfl) (by kernel_rfl) (by kernel_rfl) (fun _ _ _ h => h) (Or.inl ⟨by rfl, ?_⟩) (by assumption) ?_; (rotate_left 1); (focus (intro wz hSw; (try dsimp only at hSw); go_simp; try (with_reducible rfl))); simp only [Act.put, List.setIfInBounds_toArray, List.set_cons_zero, List.set_cons_succ]
  refine wpAnyH_take (i := 9) (oi := ⟨some 49, _, _, _, _, _⟩) (v := ?_) rfl (by kernel_rfl) (by kernel_rfl) (by kernel_rfl) (fun _ _ _ h => h) (Or.inl ⟨by rfl, ?_⟩) (by assumption) ?_; (rotate_left 1); (focus (intro wz hSw; (try dsimp only at hSw); go_simp; try (with_reducible rfl))); simp only [Act.put, List.setIfInBounds_toArray, List.set_cons_zero, List.set_cons_succ]
  refine wpAnyH_take (i := 10) (oi := ⟨some 50, _, _, _, _, _⟩) (v := ?_) rfl (by kernel_rfl) (by kernel_rfl) (by kernel_rfl) (fun _ _ _ h => h) (Or.inl ⟨by rfl, ?_⟩) (by assumption) ?_; (rotate_left 1); (focus (intro wz hSw; (try dsimp only at hSw); go_simp; try (with_reducible rfl))); simp only [Act.put, List.setIfInBounds_toArray, List.set_cons_zero, List.set_cons_succ]
  refine wpAnyH_ready (rs := [0]) (by kernel_rfl) (by simp) ?_; refine AllReadyH.cons rfl (fun K hK => ?_) AllReadyH.nil; go_simp; (try clear hHeld); refine hK.out _ _ ?_ (fun hHeld => ?_); focus (exact (show ∀ X, _ → _ from HSX) _ (by first | assumption | exact (Bw.refl _).drew))
  refine wpAnyH_ready (rs := [3]) (by kernel_rfl) (by simp) ?_; refine AllReadyH.cons (o := ⟨some 43, _, _, _, _, _⟩) rfl (fun K hK => ?_) AllReadyH.nil; refine stepApp rfl _ _ 28 rfl rfl rfl hr1 ?_; (try clear hHeld); refine hK.out _ _ ?_ (fun hHeld => ?_); focus (exact (show ∀ X, _ → _ from HSX) _ (by first | assumption | exact (Bw.refl _).drew))
  simp only [Act.put, List.setIfInBounds_toArray, List.set_cons_zero, List.set_cons_succ]
  refine wpAnyH_ready (rs := [5]) (by kernel_rfl) (by simp) ?_; refine AllReadyH.cons (o := ⟨some 45, _, _, _, _, _⟩) rfl (fun K hK => ?_) AllReadyH.nil; refine stepApp rfl _ _ 28 rfl rfl rfl hr2 ?_; (try clear hHeld); refine hK.out _ _ ?_ (fun hHeld => ?_); focus (exact (show ∀ X, _ → _ from HSX) _ (by first | assumption | exact (Bw.refl _).drew))
  simp only [Act.put, List.setIfInBounds_toArray, List.set_cons_zero, List.set_cons_succ]
  refine wpAnyH_ready (rs := [11]) (by kernel_rfl) (by simp) ?_; refine AllReadyH.cons (o := ⟨some 51, _, _, _, _, _⟩) rfl (fun K hK => ?_) AllReadyH.nil; refine stepApp rfl _ _ 28 rfl rfl rfl hr3 ?_; (try clear hHeld); refine hK.out _ _ ?_ (fun hHeld => ?_); focus (exact (show ∀ X, _ → _ from HSX) _ (by first | assumption | exact (Bw.refl _).drew))
  simp only [Act.put, List.setIfInBounds_toArray, List.set_cons_zero, List.set_cons_succ]
  refine wpAnyH_take (i := 12) (oi := ⟨some 8, _, _, _, _, _⟩) (v := ?_) rfl (by kernel_rfl) (by kernel_rfl) (by kernel_rfl) (fun _ _ _ h => h) (Or.inl ⟨by rfl, ?_⟩) (by assumption) ?_; (rotate_left 1); (focus (intro wz hSw; (try dsimp only at hSw); go_simp; try (with_reducible rfl))); simp only [Act.put, List.setIfInBounds_toArray, List.set_cons_zero, List.set_cons_succ]
  refine wpAnyH_done (by kernel_rfl) ?_ _
  have hbxs := hbx.sz
  have hx3 := hx.lt
  replace hbx := hbx.trans hB3
  replace hx := hx.bw hB3
  clear x0 x1 hr1 hr2 hr3 hBE hB1 hB2 HSX
  have hw8 : B8s (Img.head ent 1 ++ (Img.rowOf (84 + more.length) s ++ (more ++ s.bytes))) :=
    (Img.head_b8 ⟨he0, he1⟩ ⟨by omega, by omega⟩).app ((Img.row_b8 ⟨by omega, by omega⟩ ⟨hwfs.a0, hwfs.a1⟩ ⟨by omega, by omega⟩ ⟨hwfs.z0, hwfs.z1⟩ ⟨(Img.swap_bd (p := s.perm)).1, by have := (Img.swap_bd (p := s.perm)).2; omega⟩).app (hm8.app hwfs.b8))
  have z56 := HG5 56 _ (Img.g_at (l := L3) (by omega))
  have z57 := HG5 57 _ (Img.g_at (l := L3) (by omega))
  have HM4 : Hid ((L3.set 56 ((84 + (more.length : Int)) % 256)).set 57 ((84 + (more.length : Int)) / 256) = Img.head ent 1 ++ (Img.rowOf (84 + more.length) s ++ (more ++ s.bytes))) := by
    have h := (show _ = _ from HMB)
    have e : (((84 + more.length : Nat)) : Int) = 84 + more.length := by omega
    rw [e, show (84 + (more.length : Int)) / 256 % 256 = (84 + (more.length : Int)) / 256 by omega] at h
    exact h
  have hO4 : Own8 w3 ((X3.setCell ⟨g3, 56, none⟩ (.int .u8 ((84 + (more.length : Int)) % 256))).setCell ⟨g3, 57, none⟩ (.int .u8 ((84 + (more.length : Int)) / 256))) (.slice (some ⟨g3, 0, none⟩) L3.length cp3) (Img.head ent 1 ++ (Img.rowOf (84 + more.length) s ++ (more ++ s.bytes))) := by
    have h1 := Own8.set (show Own8 _ _ _ _ from HO3) 56 (by omega) ((84 + (more.length : Int)) % 256)
    have h2 := Own8.set (l := L3.set 56 ((84 + (more.length : Int)) % 256)) (by rw [List.length_set]; exact h1) 57 (by rw [List.length_set]; omega) ((84 + (more.length : Int)) / 256)
    rw [List.length_set, show _ = _ from HM4] at h2
    exact h2
  have hG := IGet_c _ _ _ hO4.rd hw8
  unfold IGetPost at hG
  rw [hget] at hG
  have hB4 : Bw X3 X3 := Bw.refl _
  have hbx4 : Bw w ((X3.setCell ⟨g3, 56, none⟩ (.int .u8 ((84 + (more.length : Int)) % 256))).setCell ⟨g3, 57, none⟩ (.int .u8 ((84 + (more.length : Int)) / 256))) := (hbx.setCell (Nat.le_trans hbxs hg1) _).setCell (Nat.le_trans hbxs hg1) _
  have hxl := hx.lt
  have hxn : w.heap.size ≠ g3 := by omega
  have hx4 := (hx.ne hxn 56 (.int .u8 ((84 + (more.length : Int)) % 256))).ne hxn 57 (.int .u8 ((84 + (more.length : Int)) / 256))
  clear hO4 HM4 HMB HO3 HG5 hget hB4
  go_wp2_with fail
  refine hG.mono ?_
  rintro e w5 ⟨ur, rfl, hur, hb5⟩
  clear hG z56 z57 z56f z57f hw8
  replace hbx := hbx4.trans hb5
  replace hx := hx4.bw hb5
  clear hx4 hbx4 hb5
  have hImg := hur
  obtain ⟨ub, rfl, hSu, -⟩ := hur
  obtain ⟨qb, cb, rfl, hcb1, hcb2, hcellb⟩ := hSu.open
  obtain ⟨b', o', qs', cs', hq', -, -, -, -, d3, -, -, -⟩ := hcellb 0 s rfl
  subst hq'
  simp only [Nat.zero_mul, Nat.add_zero] at d3
  dsimp only [List.length_cons, List.length_nil] at hcb1 hImg ⊢
  simp only [Nat.zero_add] at hcb1 hImg ⊢
  clear hSu hcellb
  go_wp2_with fail
  obtain ⟨w7, hw7, hb7, hz⟩ : ∃ w7, w5.alloc (.cells #[.int .u32 ent, .slice (some ⟨b', o', none⟩) 1 cb] 26) = w7 ∧ Bw w5 w7 ∧ Box w7 w5.heap.size [.int .u32 ent, .slice (some ⟨b', o', none⟩) 1 cb] := ⟨_, rfl, (Bw.refl w5).alloc _, Box.new w5 _ _⟩
  rw [hw7]
  replace hbx := hbx.trans hb7
  replace hx := hx.bw hb7
  have hir := hImg.bw hb7
  have hI1 := fun X (g : Bw w7 X) => img_c _ _ X (hir.bw g) (by simp)
  have hI2 := fun X (g : Bw w7 X) => hIm X (hbx.trans g) (by simp)
  have hHold : ∀ wr, Bw w7 wr → (wr.cell? ⟨w.heap.size, 0, none⟩ = some (.int .u32 ent) ∧ wr.cell? ⟨w.heap.size, 1, none⟩ = some (.slice (some ⟨b, o, none⟩) 1 cap) ∧ wr.cell? ⟨w5.heap.size, 0, none⟩ = some (.int .u32 ent) ∧ wr.cell? ⟨w5.heap.size, 1, none⟩ = some (.slice (some ⟨b', o', none⟩) 1 cb) ∧ wr.cell? ⟨b', o' + 3, none⟩ = some (.slice qs' s.bytes.length cs')) := fun wr g => ⟨g.keep (hx.c 0 _ rfl), g.keep (hx.c 1 _ rfl), g.keep (hz.c 0 _ rfl), g.keep (hz.c 1 _ rfl), g.keep (hb7.keep d3)⟩
  have hB : Bw w7 w7.drew := (Bw.refl w7).drew
  have hd65 : decide ((65536 : Int) < (L3.length : Int)) = false := by rw [decide_eq_false_iff_not]; omega
  clear hw7 hImg hIm
  refine wp_region_held_drew (S := fun wr => wr.cell? ⟨w.heap.size, 0, none⟩ = some (.int .u32 ent) ∧ wr.cell? ⟨w.heap.size, 1, none⟩ = some (.slice (some ⟨b, o, none⟩) 1 cap) ∧ wr.cell? ⟨w5.heap.size, 0, none⟩ = some (.int .u32 ent) ∧ wr.cell? ⟨w5.heap.size, 1, none⟩ = some (.slice (some ⟨b', o', none⟩) 1 cb) ∧ wr.cell? ⟨b', o' + 3, none⟩ = some (.slice qs' s.bytes.length cs')) (by kernel_rfl) (hHold _ hB) (fun hHeld => ?_)
  refine wpAnyH_take (i := 0) (oi := ⟨some 69, _, _, _, _, _⟩) (v := ?_) rfl (by kernel_rfl) (by kernel_rfl) (by kernel_rfl) (fun _ _ _ h => h) (Or.inl ⟨by rfl, ?_⟩) (by assumption) ?_; (rotate_left 1); (focus (intro wz hSw; (try dsimp only at hSw); go_simp; try (with_reducible rfl))); simp only [Act.put, List.setIfInBounds_toArray, List.set_cons_zero, List.set_cons_succ]
  refine wpAnyH_take (i := 1) (oi := ⟨some 70, _, _, _, _, _⟩) (v := ?_) rfl (by kernel_rfl) (by kernel_rfl) (by kernel_rfl) (fun _ _ _ h => h) (Or.inl ⟨by rfl, ?_⟩) (by assumption) ?_; (rotate_left 1); (focus (intro wz hSw; (try dsimp only at hSw); go_simp; try (with_reducible rfl))); simp only [Act.put, List.setIfInBounds_toArray, List.set_cons_zero, List.set_cons_succ]
  refine wpAnyH_take (i := 2) (oi := ⟨some 71, _, _, _, _, _⟩) (v := ?_) rfl (by kernel_rfl) (by kernel_rfl) (by kernel_rfl) (fun _ _ _ h => h) (Or.inl ⟨by rfl, ?_⟩) (by assumption) ?_; (rotate_left 1); (focus (intro wz hSw; (try dsimp only at hSw); go_simp; try (with_reducible rfl))); simp only [Act.put, List.setIfInBounds_toArray, List.set_cons_zero, List.set_cons_succ]
  refine wpAnyH_take (i := 3) (oi := ⟨some 72, _, _, _, _, _⟩) (v := ?_) rfl (by kernel_rfl) (by kernel_rfl) (by kernel_rfl) (fun _ _ _ h => h) (Or.inl ⟨by rfl, ?_⟩) (by assumption) ?_; (rotate_left 1); (focus (intro wz hSw; (try dsimp only at hSw); go_simp; try (with_reducible rfl))); simp only [Act.put, List.setIfInBounds_toArray, List.set_cons_zero, List.set_cons_succ]
  refine wpAnyH_take (i := 4) (oi := ⟨some 73, _, _, _, _, _⟩) (v := ?_) rfl (by kernel_rfl) (by kernel_rfl) (by kernel_rfl) (fun _ _ _ h => h) (Or.inl ⟨by rfl, ?_⟩) (by assumption) ?_; (rotate_left 1); (focus (intro wz hSw; (try dsimp only at hSw); go_simp; try (with_reducible rfl))); simp only [Act.put, List.setIfInBounds_toArray, List.set_cons_zero, List.set_cons_succ]
  refine wpAnyH_take (i := 5) (oi := ⟨some 74, _, _, _, _, _⟩) (v := ?_) rfl (by kernel_rfl) (by kernel_rfl) (by kernel_rfl) (fun _ _ _ h => h) (Or.inl ⟨by rfl, ?_⟩) (by assumption) ?_; (rotate_left 1); (focus (intro wz hSw; (try dsimp only at hSw); go_simp; try (with_reducible rfl))); simp only [Act.put, List.setIfInBounds_toArray, List.set_cons_zero, List.set_cons_succ]
  refine wpAnyH_take (i := 6) (oi := ⟨some 75, _, _, _, _, _⟩) (v := ?_) rfl (by kernel_rfl) (by kernel_rfl) (by kernel_rfl) (fun _ _ _ h => h) (Or.inl ⟨by rfl, ?_⟩) (by assumption) ?_; (rotate_left 1); (focus (intro wz hSw; (try dsimp only at hSw); go_simp; try (with_reducible rfl))); simp only [Act.put, List.setIfInBounds_toArray, List.set_cons_zero, List.set_cons_succ]
  refine wpAnyH_take (i := 7) (oi := ⟨some 76, _, _, _, _, _⟩) (v := ?_) rfl (by kernel_rfl) (by kernel_rfl) (by kernel_rfl) (fun _ _ _ h => h) (Or.inl ⟨by rfl, ?_⟩) (by assumption) ?_; (rotate_left 1); (focus (intro wz hSw; (try dsimp only at hSw); go_simp; try (with_reducible rfl))); simp only [Act.put, List.setIfInBounds_toArray, List.set_cons_zero, List.set_cons_succ]
  refine wpAnyH_take (i := 9) (oi := ⟨some 78, _, _, _, _, _⟩) (v := ?_) rfl (by kernel_rfl) (by kernel_rfl) (by kernel_rfl) (fun _ _ _ h => h) (Or.inl ⟨by rfl, ?_⟩) (by assumption) ?_; (rotate_left 1); (focus (intro wz hSw; (try dsimp only at hSw); go_simp; try (with_reducible rfl))); simp only [Act.put, List.setIfInBounds_toArray, List.set_cons_zero, List.set_cons_succ]
  refine wpAnyH_ready (rs := [8]) (by kernel_rfl) (by simp) ?_; refine AllReadyH.cons rfl (fun K hK => ?_) AllReadyH.nil; go_simp
  refine (hI1 _ hB).mono ?_
  rintro e w8 ⟨u8, rfl, hu8, h8⟩
  replace hB := hB.trans h8
  (try clear hHeld); refine hK.out _ _ ?_ (fun hHeld => ?_)
  · exact hHold _ hB
  refine wpAnyH_ready (rs := [10]) (by kernel_rfl) (by simp) ?_; refine AllReadyH.cons rfl (fun K hK => ?_) AllReadyH.nil; go_simp
  refine (hI2 _ hB).mono ?_
  rintro e w9 ⟨u9, rfl, hu9, h9⟩
  replace hB := hB.trans h9
  replace hu8 := hu8.bw h9
  (try clear hHeld); refine hK.out _ _ ?_ (fun hHeld => ?_)
  · exact hHold _ hB
  refine wpAnyH_ready (rs := [11]) (by kernel_rfl) (by simp) ?_; refine AllReadyH.cons rfl (fun K hK => ?_) AllReadyH.nil; go_simp
  refine (sameImage_c _ _ _ _ hu8 hu9).mono ?_
  rintro e w10 ⟨rfl, h10⟩
  replace hB := hB.trans h10
  (try clear hHeld); refine hK.out _ _ ?_ (fun hHeld => ?_)
  · exact hHold _ hB
  refine wpAnyH_take (i := 12) (oi := ⟨some 81, _, _, _, _, _⟩) (v := ?_) rfl (by kernel_rfl) (by kernel_rfl) (by kernel_rfl) (fun _ _ _ h => h) (Or.inl ⟨by rfl, ?_⟩) (by assumption) ?_; (rotate_left 1); (focus (intro wz hSw; (try dsimp only at hSw); go_simp; try (with_reducible rfl))); simp only [Act.put, List.setIfInBounds_toArray, List.set_cons_zero, List.set_cons_succ]
  refine wpAnyH_take (i := 13) (oi := ⟨some 82, _, _, _, _, _⟩) (v := ?_) rfl (by kernel_rfl) (by kernel_rfl) (by kernel_rfl) (fun _ _ _ h => h) (Or.inl ⟨by rfl, ?_⟩) (by assumption) ?_; (rotate_left 1); (focus (intro wz hSw; (try dsimp only at hSw); go_simp; try (with_reducible rfl))); simp only [Act.put, List.setIfInBounds_toArray, List.set_cons_zero, List.set_cons_succ]
  refine wpAnyH_take (i := 14) (oi := ⟨some 83, _, _, _, _, _⟩) (v := ?_) rfl (by kernel_rfl) (by kernel_rfl) (by kernel_rfl) (fun _ _ _ h => h) (Or.inl ⟨by rfl, ?_⟩) (by assumption) ?_; (rotate_left 1); (focus (intro wz hSw; (try dsimp only at hSw); go_simp; try (with_reducible rfl))); simp only [Act.put, List.setIfInBounds_toArray, List.set_cons_zero, List.set_cons_succ]
  refine wpAnyH_take (i := 15) (oi := ⟨some 84, _, _, _, _, _⟩) (v := ?_) rfl (by kernel_rfl) (by kernel_rfl) (by kernel_rfl) (fun _ _ _ h => h) (Or.inl ⟨by rfl, ?_⟩) (by assumption) ?_; (rotate_left 1); (focus (intro wz hSw; (try dsimp only at hSw); go_simp; try (with_reducible rfl))); simp only [Act.put, List.setIfInBounds_toArray, List.set_cons_zero, List.set_cons_succ]
  refine wpAnyH_take (i := 16) (oi := ⟨some 85, _, _, _, _, _⟩) (v := ?_) rfl (by kernel_rfl) (by kernel_rfl) (by kernel_rfl) (fun _ _ _ h => h) (Or.inl ⟨by rfl, ?_⟩) (by assumption) ?_; (rotate_left 1); (focus (intro wz hSw; (try dsimp only at hSw); go_simp; try (with_reducible rfl))); simp only [Act.put, List.setIfInBounds_toArray, List.set_cons_zero, List.set_cons_succ]
  refine wpAnyH_take (i := 17) (oi := ⟨some 86, _, _, _, _, _⟩) (v := ?_) rfl (by kernel_rfl) (by kernel_rfl) (by kernel_rfl) (fun _ _ _ h => h) (Or.inl ⟨by rfl, ?_⟩) (by assumption) ?_; (rotate_left 1); (focus (intro wz hSw; (try dsimp only at hSw); go_simp; try (with_reducible rfl))); simp only [Act.put, List.setIfInBounds_toArray, List.set_cons_zero, List.set_cons_succ]
  refine wpAnyH_take (i := 18) (oi := ⟨some 87, _, _, _, _, _⟩) (v := ?_) rfl (by kernel_rfl) (by kernel_rfl) (by kernel_rfl) (fun _ _ _ h => h) (Or.inl ⟨by rfl, ?_⟩) (by assumption) ?_; (rotate_left 1); (focus (intro wz hSw; (try dsimp only at hSw); go_simp; try (with_reducible rfl))); simp only [Act.put, List.setIfInBounds_toArray, List.set_cons_zero, List.set_cons_succ]
  refine wpAnyH_take (i := 19) (oi := ⟨some 88, _, _, _, _, _⟩) (v := ?_) rfl (by kernel_rfl) (by kernel_rfl) (by kernel_rfl) (fun _ _ _ h => h) (Or.inl ⟨by rfl, ?_⟩) (by assumption) ?_; (rotate_left 1); (focus (intro wz hSw; (try dsimp only at hSw); go_simp; try (with_reducible rfl))); simp only [Act.put, List.setIfInBounds_toArray, List.set_cons_zero, List.set_cons_succ]
  refine wpAnyH_take (i := 20) (oi := ⟨some 89, _, _, _, _, _⟩) (v := ?_) rfl (by kernel_rfl) (by kernel_rfl) (by kernel_rfl) (fun _ _ _ h => h) (Or.inl ⟨by rfl, ?_⟩) (by assumption) ?_; (rotate_left 1); (focus (intro wz hSw; (try dsimp only at hSw); go_simp; try (with_reducible rfl))); simp only [Act.put, List.setIfInBounds_toArray, List.set_cons_zero, List.set_cons_succ]
  refine wpAnyH_take (i := 21) (oi := ⟨some 90, _, _, _, _, _⟩) (v := ?_) rfl (by kernel_rfl) (by kernel_rfl) (by kernel_rfl) (fun _ _ _ h => h) (Or.inl ⟨by rfl, ?_⟩) (by assumption) ?_; (rotate_left 1); (focus (intro wz hSw; (try dsimp only at hSw); go_simp; try (with_reducible rfl))); simp only [Act.put, List.setIfInBounds_toArray, List.set_cons_zero, List.set_cons_succ]
  refine wpAnyH_take (i := 22) (oi := ⟨some 91, _, _, _, _, _⟩) (v := ?_) rfl (by kernel_rfl) (by kernel_rfl) (by kernel_rfl) (fun _ _ _ h => h) (Or.inl ⟨by rfl, ?_⟩) (by assumption) ?_; (rotate_left 1); (focus (intro wz hSw; (try dsimp only at hSw); go_simp; try (with_reducible rfl))); simp only [Act.put, List.setIfInBounds_toArray, List.set_cons_zero, List.set_cons_succ]
  refine wpAnyH_take (i := 23) (oi := ⟨some 92, _, _, _, _, _⟩) (v := ?_) rfl (by kernel_rfl) (by kernel_rfl) (by kernel_rfl) (fun _ _ _ h => h) (Or.inl ⟨by rfl, ?_⟩) (by assumption) ?_; (rotate_left 1); (focus (intro wz hSw; (try dsimp only at hSw); go_simp; try (with_reducible rfl))); simp only [Act.put, List.setIfInBounds_toArray, List.set_cons_zero, List.set_cons_succ]
  refine wpAnyH_take (i := 24) (oi := ⟨some 4, _, _, _, _, _⟩) (v := ?_) rfl (by kernel_rfl) (by kernel_rfl) (by kernel_rfl) (fun _ _ _ h => h) (Or.inl ⟨by rfl, ?_⟩) (by assumption) ?_; (rotate_left 1); (focus (intro wz hSw; (try dsimp only at hSw); go_simp; try (with_reducible rfl))); simp only [Act.put, List.setIfInBounds_toArray, List.set_cons_zero, List.set_cons_succ]
  refine wpAnyH_done (by kernel_rfl) ?_ _
  go_wp2_with fail
  go_returns
  exact ⟨rfl, hbx.trans hB⟩
end Go.Proofs.Ytaejcbmmapcpgaa
