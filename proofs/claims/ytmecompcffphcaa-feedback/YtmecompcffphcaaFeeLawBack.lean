/- LAYER 9's law FeedBack. -/
import Derived.Test.YtmecompcffphcaaFeeGt4
import Derived.Test.YtmecompcffphcaaFeeR7
import Derived.Test.YtmecompcffphcaaFeeG
import Derived.Test.YtmecompcffphcaaFeeGr
namespace Go.Proofs.Ytmecompcffphcaa
open Go.ChangeShapes Go.WideShapes Go.ChangeAt Go.RowKit
set_option linter.unusedSimpArgs false

theorem Fee.w4B {x : Int} (x0 : 0 ≤ x) (x1 : x < 4294967296) : B8s (Fee.w4 x) := fun y hy => by
  simp [Fee.w4] at hy
  unfold B8
  omega
theorem Fee.sbB (s : ByteArray) : B8s (Fee.sb s) := fun y hy => by
  unfold Fee.sb at hy
  obtain ⟨b, -, rfl⟩ := List.mem_map.1 hy
  unfold B8
  have := b.toNat_lt
  omega
theorem Fee.txtB {l : List Int} (h : B8s l) (hl : l.length ≤ 1000000) : B8s (Fee.txt l) := (Fee.w4B (by omega) (by omega)).app h
theorem b8_flat {α : Type} {F : α → List Int} {l : List α} (h : ∀ x ∈ l, B8s (F x)) : B8s (l.flatMap F) := fun y hy => by
  obtain ⟨x, hx, hy⟩ := List.mem_flatMap.1 hy
  exact h x hx y hy
theorem len_flat {α : Type} {F : α → List Int} {m : Nat} : ∀ {l : List α}, (∀ x ∈ l, (F x).length ≤ m) → (l.flatMap F).length ≤ m * l.length
  | [], _ => by simp
  | x :: r, h => by
    have h1 := h x (by simp)
    have h2 := len_flat (l := r) (fun y hy => h y (by simp [hy]))
    rw [List.flatMap_cons, List.length_append, List.length_cons, Nat.mul_add, Nat.mul_one]
    omega
theorem Fee.put_facts {f : Fee.Fd} (hg : Fee.good f = true) (hw : Fee.Wf f) (h8 : ∀ x ∈ f.files, B8s x.data) : B8s (Fee.put f) ∧ (Fee.put f).length ≤ 60000 := by
  obtain ⟨p1, p2, p3⟩ := Fee.good_parts hg
  obtain ⟨l1, l2, l3, l4, l5, l6⟩ := Fee.good_len hg
  have a1 : B8s (f.args.flatMap Fee.argB) := b8_flat (fun s hs => Fee.txtB (Fee.sbB s) (by rw [Fee.sb_len]; have := p1 s hs; omega))
  have a2 : B8s (f.short.flatMap Fee.w4) := b8_flat (fun n hn => by have := p2 n hn; exact Fee.w4B (by omega) (by omega))
  have a3 : B8s (f.clock.flatMap Fee.w4) := b8_flat (fun n hn => Fee.w4B (hw.ck n hn).1 (hw.ck n hn).2)
  have a4 : B8s (f.files.flatMap Fee.flB) := b8_flat (fun x hx => (Fee.txtB (Fee.sbB x.name) (by rw [Fee.sb_len]; have := (p3 x hx).1; omega)).app (Fee.txtB (h8 x hx) (by have := (p3 x hx).2; omega)))
  have b1 : (f.args.flatMap Fee.argB).length ≤ 204 * f.args.length := len_flat (fun s hs => by unfold Fee.argB; rw [Fee.txt_len, Fee.sb_len]; have := p1 s hs; omega)
  have b2 : (f.short.flatMap Fee.w4).length ≤ 4 * f.short.length := len_flat (fun n _ => Nat.le_refl _)
  have b3 : (f.clock.flatMap Fee.w4).length ≤ 4 * f.clock.length := len_flat (fun n _ => Nat.le_refl _)
  have b4 : (f.files.flatMap Fee.flB).length ≤ 4144 * f.files.length := len_flat (fun x hx => by unfold Fee.flB; rw [List.length_append, Fee.txt_len, Fee.txt_len, Fee.sb_len]; have := p3 x hx; omega)
  refine ⟨?_, ?_⟩
  · unfold Fee.put
    exact (((((((((Fee.w4B (by omega) (by omega)).app a1).app (Fee.txtB hw.i8 (by omega))).app (Fee.w4B (by omega) (by omega))).app a2).app (Fee.txtB hw.r8 (by omega))).app (Fee.w4B (by omega) (by omega))).app a3).app (Fee.w4B (by omega) (by omega))).app a4
  · unfold Fee.put
    simp only [List.length_append, Fee.txt_len, Fee.w4_len]
    omega
set_option maxHeartbeats 8000000 in
set_option maxRecDepth 100000 in
theorem FeedBack_w (v0 : Value) (cut : Int) (v2 : Value) (W : World) (h0 : ∃ f, IsFd W v0 f) (wc : (Lit.int .i64 cut).wf = true) (h2 : ∃ l, Rd8 W v2 l ∧ B8s l) : Calls Try.prog 4 #[v0, .int .i64 cut, v2] W fun e w' => e = .returned (.bool true) ∧ Bw W w' := by
  obtain ⟨f, hf⟩ := h0
  obtain ⟨more, hmr, hm8⟩ := h2
  have hwc := bounds_i64 wc
  have hI := fun X (g : Bw W X) => hf.bw g
  have hMr := fun X (g : Bw W X) => Rd8.bw hmr g
  have HW : Hid (Fee.Wf f ∧ ∀ x ∈ f.files, B8s x.data) := by obtain ⟨_, _, _, _, _, _, _, _, _, _, _, _, ⟨_, _, _, _, h8⟩, h⟩ := hf; exact ⟨h, h8⟩
  obtain ⟨qa, ca, qi, ci, qs, cs, qr, cr, qc, cc, qf, cf, rfl⟩ := hf.formG
  obtain ⟨qm, cm, rfl, hm1, hm2, -⟩ := hmr.open
  clear hf hmr
  have hBx := Box.new W [.slice qa f.args.length ca, .slice qi f.input.length ci, .slice qs f.short.length cs, .slice qr f.random.length cr, .slice qc f.clock.length cc, .slice qf f.files.length cf] 28
  have hB0 : Bw W (W.alloc (.cells #[.slice qa f.args.length ca, .slice qi f.input.length ci, .slice qs f.short.length cs, .slice qr f.random.length cr, .slice qc f.clock.length cc, .slice qf f.files.length cf] 28)) := (Bw.refl W).alloc _
  go_enter Try.func4, Try.ntmps4
  go_wp2_with fail
  refine (awake9_c _).mono ?_
  rintro e w1 ⟨rfl, hb1⟩
  have hB1 := hBx.bw hb1
  replace hb1 := hB0.trans hb1
  clear hBx hB0
  obtain ⟨fb, hfb⟩ : ∃ fb, W.heap.size = fb := ⟨_, rfl⟩
  rw [hfb] at hB1 ⊢
  have c0 := hB1.c 0 _ rfl; have c1 := hB1.c 1 _ rfl; have c2 := hB1.c 2 _ rfl; have c3 := hB1.c 3 _ rfl; have c4 := hB1.c 4 _ rfl; have c5 := hB1.c 5 _ rfl
  go_wp2_with fail
  refine (great_c _ f _ (hI _ hb1)).mono ?_
  rintro e w2 ⟨b, rfl, hbd, hb2⟩
  have hB2 := hB1.bw hb2
  replace hb2 := hb1.trans hb2
  clear hb1 hB1 c0 c1 c2 c3 c4 c5
  cases b with
  | true =>
    clear hbd hB2
    go_wp2_with fail
    go_returns
    exact ⟨rfl, hb2⟩
  | false =>
    have hBd' := hbd rfl
    clear hbd
    by_cases hs1 : more.length < 1
    · have hs1i : decide ((more.length : Int) < 1) = true := decide_eq_true (by omega)
      clear hB2
      go_wp2_with fail
      go_returns
      exact ⟨rfl, hb2⟩
    have hs1i : decide ((more.length : Int) < 1) = false := decide_eq_false (by omega)
    by_cases hs2 : 50 < more.length
    · have hs2i : decide ((50 : Int) < (more.length : Int)) = true := decide_eq_true (by omega)
      clear hB2
      go_wp2_with fail
      go_returns
      exact ⟨rfl, hb2⟩
    have hs2i : decide ((50 : Int) < (more.length : Int)) = false := decide_eq_false (by omega)
    have hP := Put_c _ f _ (hI _ hb2)
    have d0 := hB2.c 0 _ rfl; have d1 := hB2.c 1 _ rfl; have d2 := hB2.c 2 _ rfl; have d3 := hB2.c 3 _ rfl; have d4 := hB2.c 4 _ rfl; have d5 := hB2.c 5 _ rfl
    have hGd := fun X (g : Bw W X) => Good_c _ f X (hI X g)
    cases hg : Fee.good f with
    | false =>
      rw [hg] at hGd
      go_wp2_with fail
      refine hP.mono ?_
      rintro e w3 ⟨u, rfl, h1, hb3⟩
      rw [hg] at h1 ⊢
      obtain ⟨qu, cu, rfl, -⟩ := Rd8.open (Own8.rd h1.own)
      have hB3 := hB2.bw hb3
      replace hb3 := hb2.trans hb3
      clear h1 hP hB2 d0 d1 d2 d3 d4 d5
      have d0 := hB3.c 0 _ rfl; have d1 := hB3.c 1 _ rfl; have d2 := hB3.c 2 _ rfl; have d3 := hB3.c 3 _ rfl; have d4 := hB3.c 4 _ rfl; have d5 := hB3.c 5 _ rfl
      go_wp2_with fail
      refine (hGd _ hb3).mono ?_
      rintro e w4 ⟨rfl, hb4⟩
      replace hb4 := hb3.trans hb4
      clear hB3
      go_wp2_with fail
      go_returns
      exact ⟨rfl, hb4⟩
    | true =>
      clear hGd
      obtain ⟨hB8, hBl⟩ := Fee.put_facts hg HW.1 HW.2
      have hget0 := Fee.get_put hg HW.1
      have hgetm : Fee.get (Fee.put f ++ more) = (Fee.noFd, 3) := Fee.get_more hg HW.1 (by omega)
      have hgetc : ∀ n, n < (Fee.put f).length → Fee.get ((Fee.put f).take n) = (Fee.noFd, 3) := fun n hn => Fee.get_cut hg HW.1 hn
      go_wp2_with fail
      refine hP.mono ?_
      rintro e w3 ⟨u, rfl, h1, hb3⟩
      rw [hg] at h1 ⊢
      rw [if_pos rfl] at h1
      have hrB := (Own8.rd h1.own : Rd8 w3 u (Fee.put f))
      clear h1
      generalize Fee.put f = B at *
      obtain ⟨qu, cu, rfl, hu1, hu2, -⟩ := Rd8.open hrB
      have hB3 := hB2.bw hb3
      have hbw3 := hb2.trans hb3
      clear hP hB2 d0 d1 d2 d3 d4 d5 hb2 hb3
      have hG1 := Get_c w3 _ B hrB hB8 (by omega)
      rw [hget0] at hG1
      go_wp2_with fail
      refine hG1.mono ?_
      rintro e w4 ⟨u1, rfl, hu, hb4⟩
      obtain ⟨a1, a2, a3, a4, a5, a6, a7, a8, a9, a10, a11, a12, rfl⟩ := hu.formG
      have hX1 := Box.new w4 [.slice a1 f.args.length a2, .slice a3 f.input.length a4, .slice a5 f.short.length a6, .slice a7 f.random.length a8, .slice a9 f.clock.length a10, .slice a11 f.files.length a12] 28
      have hbA : Bw w4 (w4.alloc (.cells #[.slice a1 f.args.length a2, .slice a3 f.input.length a4, .slice a5 f.short.length a6, .slice a7 f.random.length a8, .slice a9 f.clock.length a10, .slice a11 f.files.length a12] 28)) := (Bw.refl w4).alloc _
      obtain ⟨w5, hw5⟩ : ∃ w5, w4.alloc (.cells #[.slice a1 f.args.length a2, .slice a3 f.input.length a4, .slice a5 f.short.length a6, .slice a7 f.random.length a8, .slice a9 f.clock.length a10, .slice a11 f.files.length a12] 28) = w5 := ⟨_, rfl⟩
      rw [show (#[Value.slice a1 f.args.length a2, .slice a3 f.input.length a4, .slice a5 f.short.length a6, .slice a7 f.random.length a8, .slice a9 f.clock.length a10, .slice a11 f.files.length a12] : Array Value) = [Value.slice a1 f.args.length a2, .slice a3 f.input.length a4, .slice a5 f.short.length a6, .slice a7 f.random.length a8, .slice a9 f.clock.length a10, .slice a11 f.files.length a12].toArray from rfl] at hw5 hbA
      rw [hw5] at hX1 hbA
      obtain ⟨gb, hgb⟩ : ∃ gb, w4.heap.size = gb := ⟨_, rfl⟩
      rw [hgb] at hX1
      have hb5 : Bw w3 w5 := hb4.trans hbA
      have hB5 := hB3.bw hb5
      have hrB5 := hrB.bw hb5
      have hu5 := hu.bw hbA
      have hbw5 := hbw3.trans hb5
      obtain ⟨x1, w7, hr1, ho1, hb7⟩ := P8.all (l := []) (OwnR.empty 5 1 (w0 := w5) (Nat.le_refl w5.heap.size)) ((Bw.refl w5).alloc _) (hrB5.bw ((Bw.refl w5).alloc _)) (by simp; omega)
      rw [List.nil_append] at ho1
      obtain ⟨x2, w8, hr2, ho2, hb8⟩ := P8.all ho1 hb7 (hMr _ (hbw5.trans hb7)) (by omega)
      have hG2 := Get_c w8 x2 (B ++ more) (Own8.rd ho2.own) (hB8.app hm8) (by rw [List.length_append]; omega)
      rw [hgetm] at hG2
      clear hG1 hb4 hbA hB3 hu hrB hbw3 hget0 hgetm ho1 ho2
      go_wp2_with (first | (at_builtin; refine wpApp rfl _ _ 22 rfl rfl rfl hr1 ?_) | (at_builtin; refine wpApp rfl _ _ 22 rfl rfl rfl hr2 ?_) | fail)
      refine hG2.mono ?_
      rintro e w9 ⟨u2, rfl, hu2, hb9⟩
      obtain ⟨e1, e2, e3, e4, e5, e6, e7, e8, e9, e10, e11, e12, rfl⟩ := hu2.formG
      have hbA9 : Bw w9 (w9.alloc (.cells #[.slice e1 0 e2, .slice e3 0 e4, .slice e5 0 e6, .slice e7 0 e8, .slice e9 0 e10, .slice e11 0 e12] 28)).drew := ((Bw.refl w9).alloc _).drew
      have h5d : Bw w5 (w9.alloc (.cells #[.slice e1 0 e2, .slice e3 0 e4, .slice e5 0 e6, .slice e7 0 e8, .slice e9 0 e10, .slice e11 0 e12] 28)).drew := (hb8.trans hb9).trans hbA9
      have hXd := hX1.bw h5d
      have hBd := hB5.bw h5d
      have hbd := hbw5.trans h5d
      have hFg := fun X (g : Bw w5 X) => fee_c _ _ _ _ _ _ f X (hu5.bw g) (by have := hBd'.lf; omega)
      have hFf := fun X (g : Bw W X) => fee_c _ _ _ _ _ _ f X (hI X g) (by have := hBd'.lf; omega)
      have hSz : Fee.Sz f := ⟨fun s hs => by have := hBd'.asz s hs; omega, fun x hx => by have := (hBd'.fsz x hx).1; omega⟩
      go_wp2_with fail
      refine wp_region_held_drew (S := fun X => X.cell? ⟨gb, 0, none⟩ = some (.slice a1 f.args.length a2) ∧ X.cell? ⟨gb, 1, none⟩ = some (.slice a3 f.input.length a4) ∧ X.cell? ⟨gb, 2, none⟩ = some (.slice a5 f.short.length a6) ∧ X.cell? ⟨gb, 3, none⟩ = some (.slice a7 f.random.length a8) ∧ X.cell? ⟨gb, 4, none⟩ = some (.slice a9 f.clock.length a10) ∧ X.cell? ⟨gb, 5, none⟩ = some (.slice a11 f.files.length a12) ∧ X.cell? ⟨fb, 0, none⟩ = some (.slice qa f.args.length ca) ∧ X.cell? ⟨fb, 1, none⟩ = some (.slice qi f.input.length ci) ∧ X.cell? ⟨fb, 2, none⟩ = some (.slice qs f.short.length cs) ∧ X.cell? ⟨fb, 3, none⟩ = some (.slice qr f.random.length cr) ∧ X.cell? ⟨fb, 4, none⟩ = some (.slice qc f.clock.length cc) ∧ X.cell? ⟨fb, 5, none⟩ = some (.slice qf f.files.length cf)) (by kernel_rfl) ⟨hXd.c 0 _ rfl, hXd.c 1 _ rfl, hXd.c 2 _ rfl, hXd.c 3 _ rfl, hXd.c 4 _ rfl, hXd.c 5 _ rfl, hBd.c 0 _ rfl, hBd.c 1 _ rfl, hBd.c 2 _ rfl, hBd.c 3 _ rfl, hBd.c 4 _ rfl, hBd.c 5 _ rfl⟩ (fun hHeld => ?_)
      refine wpAnyH_take (i := 0) (oi := ⟨some 53, _, _, _, _, _⟩) (v := ?_) rfl (by kernel_rfl) (by kernel_rfl) (by kernel_rfl) (fun _ _ _ h => h) (Or.inl ⟨by rfl, ?_⟩) (by assumption) ?_; (rotate_left 1); (focus (intro wz hSw; (try dsimp only at hSw); go_simp; try (with_reducible rfl))); simp only [Act.put, List.setIfInBounds_toArray, List.set_cons_zero, List.set_cons_succ]
      refine wpAnyH_take (i := 1) (oi := ⟨some 54, _, _, _, _, _⟩) (v := ?_) rfl (by kernel_rfl) (by kernel_rfl) (by kernel_rfl) (fun _ _ _ h => h) (Or.inl ⟨by rfl, ?_⟩) (by assumption) ?_; (rotate_left 1); (focus (intro wz hSw; (try dsimp only at hSw); go_simp; try (with_reducible rfl))); simp only [Act.put, List.setIfInBounds_toArray, List.set_cons_zero, List.set_cons_succ]
      refine wpAnyH_take (i := 2) (oi := ⟨some 55, _, _, _, _, _⟩) (v := ?_) rfl (by kernel_rfl) (by kernel_rfl) (by kernel_rfl) (fun _ _ _ h => h) (Or.inl ⟨by rfl, ?_⟩) (by assumption) ?_; (rotate_left 1); (focus (intro wz hSw; (try dsimp only at hSw); go_simp; try (with_reducible rfl))); simp only [Act.put, List.setIfInBounds_toArray, List.set_cons_zero, List.set_cons_succ]
      refine wpAnyH_take (i := 3) (oi := ⟨some 56, _, _, _, _, _⟩) (v := ?_) rfl (by kernel_rfl) (by kernel_rfl) (by kernel_rfl) (fun _ _ _ h => h) (Or.inl ⟨by rfl, ?_⟩) (by assumption) ?_; (rotate_left 1); (focus (intro wz hSw; (try dsimp only at hSw); go_simp; try (with_reducible rfl))); simp only [Act.put, List.setIfInBounds_toArray, List.set_cons_zero, List.set_cons_succ]
      refine wpAnyH_take (i := 5) (oi := ⟨some 58, _, _, _, _, _⟩) (v := ?_) rfl (by kernel_rfl) (by kernel_rfl) (by kernel_rfl) (fun _ _ _ h => h) (Or.inl ⟨by rfl, ?_⟩) (by assumption) ?_; (rotate_left 1); (focus (intro wz hSw; (try dsimp only at hSw); go_simp; try (with_reducible rfl))); simp only [Act.put, List.setIfInBounds_toArray, List.set_cons_zero, List.set_cons_succ]
      refine wpAnyH_ready (rs := [4]) (by kernel_rfl) (by simp) ?_; refine AllReadyH.cons rfl (fun K hK => ?_) AllReadyH.nil; go_simp
      refine (hFg _ h5d).mono ?_
      rintro e wx ⟨ug, rfl, hvg, hbx⟩
      have S1x := hXd.bw hbx
      have S2x := hBd.bw hbx
      have h5w := h5d.trans hbx
      replace hbx := hbd.trans hbx
      clear hXd hBd
      (try clear hHeld); refine hK.out _ _ ?_ (fun hHeld => ?_)
      · exact ⟨S1x.c 0 _ rfl, S1x.c 1 _ rfl, S1x.c 2 _ rfl, S1x.c 3 _ rfl, S1x.c 4 _ rfl, S1x.c 5 _ rfl, S2x.c 0 _ rfl, S2x.c 1 _ rfl, S2x.c 2 _ rfl, S2x.c 3 _ rfl, S2x.c 4 _ rfl, S2x.c 5 _ rfl⟩
      refine wpAnyH_ready (rs := [6]) (by kernel_rfl) (by simp) ?_; refine AllReadyH.cons rfl (fun K hK => ?_) AllReadyH.nil; go_simp
      refine (hFf _ hbx).mono ?_
      rintro e wv ⟨uf, rfl, hvf, hbv⟩
      have S1v := S1x.bw hbv
      have S2v := S2x.bw hbv
      have hvg2 := hvg.bw hbv
      have hvf2 := hvf
      have h5v := h5w.trans hbv
      replace hbv := hbx.trans hbv
      clear S1x S2x hvg hvf
      (try clear hHeld); refine hK.out _ _ ?_ (fun hHeld => ?_)
      · exact ⟨S1v.c 0 _ rfl, S1v.c 1 _ rfl, S1v.c 2 _ rfl, S1v.c 3 _ rfl, S1v.c 4 _ rfl, S1v.c 5 _ rfl, S2v.c 0 _ rfl, S2v.c 1 _ rfl, S2v.c 2 _ rfl, S2v.c 3 _ rfl, S2v.c 4 _ rfl, S2v.c 5 _ rfl⟩
      have hSm := rSame_c _ _ f _ hvg2 hvf2 hSz
      clear hvg2 hvf2
      refine wpAnyH_ready (rs := [7]) (by kernel_rfl) (by simp) ?_; refine AllReadyH.cons rfl (fun K hK => ?_) AllReadyH.nil; go_simp
      refine hSm.mono ?_
      rintro e wz ⟨rfl, hbz⟩
      have S1z := S1v.bw hbz
      have S2z := S2v.bw hbz
      have hb5z := h5v.trans hbz
      replace hbz := hbv.trans hbz
      clear S1v S2v h5v hSm hbv hbx
      (try clear hHeld); refine hK.out _ _ ?_ (fun hHeld => ?_)
      · exact ⟨S1z.c 0 _ rfl, S1z.c 1 _ rfl, S1z.c 2 _ rfl, S1z.c 3 _ rfl, S1z.c 4 _ rfl, S1z.c 5 _ rfl, S2z.c 0 _ rfl, S2z.c 1 _ rfl, S2z.c 2 _ rfl, S2z.c 3 _ rfl, S2z.c 4 _ rfl, S2z.c 5 _ rfl⟩
      refine wpAnyH_take (i := 8) (oi := ⟨some 61, _, _, _, _, _⟩) (v := ?_) rfl (by kernel_rfl) (by kernel_rfl) (by kernel_rfl) (fun _ _ _ h => h) (Or.inl ⟨by rfl, ?_⟩) (by assumption) ?_; (rotate_left 1); (focus (intro wz hSw; (try dsimp only at hSw); go_simp; try (with_reducible rfl))); simp only [Act.put, List.setIfInBounds_toArray, List.set_cons_zero, List.set_cons_succ]
      refine wpAnyH_take (i := 9) (oi := ⟨some 62, _, _, _, _, _⟩) (v := ?_) rfl (by kernel_rfl) (by kernel_rfl) (by kernel_rfl) (fun _ _ _ h => h) (Or.inl ⟨by rfl, ?_⟩) (by assumption) ?_; (rotate_left 1); (focus (intro wz hSw; (try dsimp only at hSw); go_simp; try (with_reducible rfl))); simp only [Act.put, List.setIfInBounds_toArray, List.set_cons_zero, List.set_cons_succ]
      refine wpAnyH_take (i := 10) (oi := ⟨some 63, _, _, _, _, _⟩) (v := ?_) rfl (by kernel_rfl) (by kernel_rfl) (by kernel_rfl) (fun _ _ _ h => h) (Or.inl ⟨by rfl, ?_⟩) (by assumption) ?_; (rotate_left 1); (focus (intro wz hSw; (try dsimp only at hSw); go_simp; try (with_reducible rfl))); simp only [Act.put, List.setIfInBounds_toArray, List.set_cons_zero, List.set_cons_succ]
      refine wpAnyH_take (i := 11) (oi := ⟨some 64, _, _, _, _, _⟩) (v := ?_) rfl (by kernel_rfl) (by kernel_rfl) (by kernel_rfl) (fun _ _ _ h => h) (Or.inl ⟨by rfl, ?_⟩) (by assumption) ?_; (rotate_left 1); (focus (intro wz hSw; (try dsimp only at hSw); go_simp; try (with_reducible rfl))); simp only [Act.put, List.setIfInBounds_toArray, List.set_cons_zero, List.set_cons_succ]
      refine wpAnyH_take (i := 12) (oi := ⟨some 65, _, _, _, _, _⟩) (v := ?_) rfl (by kernel_rfl) (by kernel_rfl) (by kernel_rfl) (fun _ _ _ h => h) (Or.inl ⟨by rfl, ?_⟩) (by assumption) ?_; (rotate_left 1); (focus (intro wz hSw; (try dsimp only at hSw); go_simp; try (with_reducible rfl))); simp only [Act.put, List.setIfInBounds_toArray, List.set_cons_zero, List.set_cons_succ]
      refine wpAnyH_take (i := 13) (oi := ⟨some 66, _, _, _, _, _⟩) (v := ?_) rfl (by kernel_rfl) (by kernel_rfl) (by kernel_rfl) (fun _ _ _ h => h) (Or.inl ⟨by rfl, ?_⟩) (by assumption) ?_; (rotate_left 1); (focus (intro wz hSw; (try dsimp only at hSw); go_simp; try (with_reducible rfl))); simp only [Act.put, List.setIfInBounds_toArray, List.set_cons_zero, List.set_cons_succ]
      refine wpAnyH_done (by kernel_rfl) ?_ _
      clear S1z S2z
      by_cases hc0 : cut < 0
      · have hc0i : decide (cut < 0) = true := decide_eq_true hc0
        go_wp2_with fail
        go_returns
        exact ⟨rfl, hbz⟩
      have hc0i : decide (cut < 0) = false := decide_eq_false hc0
      by_cases hc1 : (B.length : Int) ≤ cut
      · have hc1i : decide ((B.length : Int) ≤ cut) = true := decide_eq_true hc1
        go_wp2_with fail
        go_returns
        exact ⟨rfl, hbz⟩
      have hc1i : decide ((B.length : Int) ≤ cut) = false := decide_eq_false hc1
      obtain ⟨n, rfl⟩ : ∃ n : Nat, cut = n := ⟨cut.toNat, by omega⟩
      have hG3 := Get_c wz (.slice qu n cu) (B.take n) (Rd8.take (hrB5.bw hb5z) (by omega)) (fun x hx => hB8 x (List.mem_of_mem_take hx)) (by rw [List.length_take]; omega)
      rw [hgetc n (by omega)] at hG3
      have hncu : (n : Int) ≤ (cu : Int) := by omega
      have hnl : n < B.length := by omega
      have hnl2 : ¬ B.length ≤ n := by omega
      clear hrB5 hb5z
      go_wp2_with fail
      refine hG3.mono ?_
      rintro e wy ⟨u3, rfl, hu3, hby⟩
      obtain ⟨i1, i2, i3, i4, i5, i6, i7, i8, i9, i10, i11, i12, rfl⟩ := hu3.formG
      replace hby := hbz.trans hby
      go_wp2_with fail
      go_returns
      exact ⟨rfl, hby.alloc _⟩
end Go.Proofs.Ytmecompcffphcaa
