/- LAYER 9's law FeedBytes (made by fee7.py). -/
import Derived.Test.YtmecompcffphcaaFeeGt4
import Derived.Test.YtmecompcffphcaaFeeGt9
import Derived.Test.YtmecompcffphcaaFeeR7
import Derived.Test.YtmecompcffphcaaFeeG
import Derived.Test.YtmecompcffphcaaFeeGr
namespace Go.Proofs.Ytmecompcffphcaa
open Go.ChangeShapes Go.WideShapes Go.ChangeAt Go.RowKit
set_option linter.unusedSimpArgs false
set_option linter.unusedVariables false

theorem Fee.get_two (L : List Int) : ∃ G E, Fee.get L = (G, E) ∧ (E = 0 ∨ E = 3) ∧ G.files.length ≤ 1000 ∧ Fee.Sz G := by
  unfold Fee.get
  split
  · exact ⟨_, _, rfl, Or.inr rfl, by simp [Fee.noFd], ⟨by simp [Fee.noFd], by simp [Fee.noFd]⟩⟩
  · rename_i h
    have hg : Fee.good (Fee.fdOf (Fee.parts L false).1) = true := by
      cases hx : Fee.good (Fee.fdOf (Fee.parts L false).1) with
      | true => rfl
      | false => exact absurd (Or.inr (Or.inr hx)) h
    obtain ⟨p1, p2, p3⟩ := Fee.good_parts hg
    obtain ⟨l1, l2, l3, l4, l5, l6⟩ := Fee.good_len hg
    exact ⟨_, _, rfl, Or.inl rfl, by omega, ⟨fun s hs => by have := p1 s hs; omega, fun x hx => by have := (p3 x hx).1; omega⟩⟩
set_option maxHeartbeats 20000000 in
set_option maxRecDepth 100000 in
theorem FeedBytes_w (v0 v1 : Value) (W : World) (h0 : ∃ l, Rd8 W v0 l ∧ B8s l) (h1 : ∃ f, IsFd W v1 f) : Calls Try.prog 3 #[v0, v1] W fun e w' => e = .returned (.bool true) ∧ Bw W w' := by
  obtain ⟨L, hLr, hL8⟩ := h0
  obtain ⟨f, hf⟩ := h1
  have hI := fun X (g : Bw W X) => hf.bw g
  have hLR := fun X (g : Bw W X) => Rd8.bw hLr g
  obtain ⟨q1, q2, q3, q4, q5, q6, q7, q8, q9, q10, q11, q12, rfl⟩ := hf.formG
  obtain ⟨qm, cm, rfl, hm1, hm2, -⟩ := hLr.open
  clear hf hLr
  have hBx := Box.new W [.slice q1 f.args.length q2, .slice q3 f.input.length q4, .slice q5 f.short.length q6, .slice q7 f.random.length q8, .slice q9 f.clock.length q10, .slice q11 f.files.length q12] 28
  have hB0 : Bw W (W.alloc (.cells #[.slice q1 f.args.length q2, .slice q3 f.input.length q4, .slice q5 f.short.length q6, .slice q7 f.random.length q8, .slice q9 f.clock.length q10, .slice q11 f.files.length q12] 28)) := (Bw.refl W).alloc _
  go_enter Try.func3, Try.ntmps3
  go_wp2_with fail
  refine (awake9_c _).mono ?_
  rintro e w1 ⟨rfl, hb1⟩
  have hB1 := hBx.bw hb1
  replace hb1 := hB0.trans hb1
  clear hBx hB0
  obtain ⟨fb, hfb⟩ : ∃ fb, W.heap.size = fb := ⟨_, rfl⟩
  rw [hfb] at hB1 ⊢
  have c0 := hB1.c 0 _ rfl; have c1 := hB1.c 1 _ rfl; have c2 := hB1.c 2 _ rfl; have c3 := hB1.c 3 _ rfl; have c4 := hB1.c 4 _ rfl; have c5 := hB1.c 5 _ rfl
  by_cases hs1 : 3000 < L.length
  · have hs1i : decide ((3000 : Int) < (L.length : Int)) = true := decide_eq_true (by omega)
    clear hB1
    go_wp2_with fail
    go_returns
    exact ⟨rfl, hb1⟩
  have hs1i : decide ((3000 : Int) < (L.length : Int)) = false := decide_eq_false (by omega)
  go_wp2_with fail
  refine (great_c _ f _ (hI _ hb1)).mono ?_
  rintro e w2 ⟨b, rfl, hbd, hb2⟩
  have hB2 := hB1.bw hb2
  replace hb2 := hb1.trans hb2
  clear hb1 hB1 c0 c1 c2 c3 c4 c5
  cases b with
  | true =>
    clear hbd hB2
    go_wp2_with fail
    go_returns
    exact ⟨rfl, hb2⟩
  | false =>
    have hBd' := hbd rfl
    clear hbd
    have hSz : Fee.Sz f := ⟨fun s hs => by have := hBd'.asz s hs; omega, fun x hx => by have := (hBd'.fsz x hx).1; omega⟩
    have hfl : f.files.length ≤ 1000 := by have := hBd'.lf; omega
    have hG1 := Get_c w2 _ L (hLR _ hb2) hL8 (by omega)
    have hG2 := fun X (g : Bw W X) => rGetF_c X _ L (hLR _ g) hL8 (by omega)
    obtain ⟨G, E, hge, hE, hGl, hGz⟩ := Fee.get_two L
    rw [hge] at hG1 hG2
    dsimp only at hG1 hG2
    obtain ⟨okb, hokb⟩ : ∃ b, decide (E = 0) = b := ⟨_, rfl⟩
    rw [hokb] at hG2
    have HE : Hid ((E = 0 ∧ okb = true) ∨ (E = 3 ∧ okb = false)) := by
      rcases hE with rfl | rfl
      · exact Or.inl ⟨rfl, by rw [← hokb]; rfl⟩
      · exact Or.inr ⟨rfl, by rw [← hokb]; rfl⟩
    obtain ⟨gd, hgd⟩ : ∃ b, Fee.good f = b := ⟨_, rfl⟩
    obtain ⟨PB, hPB⟩ : ∃ l, (if gd = true then Fee.put f else []) = l := ⟨_, rfl⟩
    obtain ⟨HH, hHH⟩ : ∃ h : Int, (if gd = true then (0 : Int) else 1) = h := ⟨_, rfl⟩
    have HP : Hid ((gd = true ∧ HH = 0) ∨ (gd = false ∧ HH = 1)) := by
      cases gd
      · exact Or.inr ⟨rfl, hHH.symm⟩
      · exact Or.inl ⟨rfl, hHH.symm⟩
    have hP := fun X (g : Bw W X) => Put_c _ f X (hI X g)
    have hrP := fun X v (h : IsFd X v f) => rPut_c v f X h hSz
    have hGd := fun X (g : Bw W X) => Good_c _ f X (hI X g)
    have hFf := fun X (g : Bw W X) => fee_c _ _ _ _ _ _ f X (hI X g) hfl
    unfold PutPost at hP
    unfold rPutPost at hrP
    rw [hgd] at hP hrP hGd
    rw [hPB] at hP hrP
    rw [hHH] at hP
    clear hge hE hokb hgd hPB hHH hBd' hSz hfl
    go_wp2_with fail
    refine hG1.mono ?_
    rintro e w3 ⟨u1, rfl, hu1, hb3⟩
    obtain ⟨a1, a2, a3, a4, a5, a6, a7, a8, a9, a10, a11, a12, rfl⟩ := hu1.formG
    have hX1 := Box.new w3 [.slice a1 G.args.length a2, .slice a3 G.input.length a4, .slice a5 G.short.length a6, .slice a7 G.random.length a8, .slice a9 G.clock.length a10, .slice a11 G.files.length a12] 28
    have hb3a : Bw w3 (w3.alloc (.cells #[.slice a1 G.args.length a2, .slice a3 G.input.length a4, .slice a5 G.short.length a6, .slice a7 G.random.length a8, .slice a9 G.clock.length a10, .slice a11 G.files.length a12] 28)) := (Bw.refl w3).alloc _
    have hB3 := (hB2.bw hb3).bw hb3a
    have hb3b := (hb2.trans hb3).trans hb3a
    have hu1b := hu1.bw hb3a
    clear hG1 hB2 hb3 hb3a hu1
    obtain ⟨gb, hgb⟩ : ∃ gb, w3.heap.size = gb := ⟨_, rfl⟩
    rw [hgb] at hX1
    have hG2' := hG2 _ hb3b
    have HG2 : Hid _ := hgb
    clear hG2 hgb
    go_wp2_with fail
    refine hG2'.mono ?_
    rw [show w3.heap.size = gb from HG2]
    rintro e w4 ⟨u2, rfl, hu2, hb4⟩
    obtain ⟨d1, d2, d3, d4, d5, d6, d7, d8, d9, d10, d11, d12, rfl⟩ := hu2.formG
    have hX2 := Box.new w4 [.slice d1 G.args.length d2, .slice d3 G.input.length d4, .slice d5 G.short.length d6, .slice d7 G.random.length d8, .slice d9 G.clock.length d10, .slice d11 G.files.length d12] 36
    have hb4a : Bw w4 (w4.alloc (.cells #[.slice d1 G.args.length d2, .slice d3 G.input.length d4, .slice d5 G.short.length d6, .slice d7 G.random.length d8, .slice d9 G.clock.length d10, .slice d11 G.files.length d12] 36)) := (Bw.refl w4).alloc _
    have hB4 := (hB3.bw hb4).bw hb4a
    have hX14 := (hX1.bw hb4).bw hb4a
    have hu14 := (hu1b.bw hb4).bw hb4a
    have hu24 := hu2.bw hb4a
    have hb4b := (hb3b.trans hb4).trans hb4a
    clear hG2' hB3 hX1 hu1b hu2 hb4 hb4a hb3b
    obtain ⟨rb, hrb⟩ : ∃ gb, w4.heap.size = gb := ⟨_, rfl⟩
    rw [hrb] at hX2
    have HRB : Hid _ := hrb
    have hP' := hP _ hb4b
    have c0 := hB4.c 0 _ rfl; have c1 := hB4.c 1 _ rfl; have c2 := hB4.c 2 _ rfl; have c3 := hB4.c 3 _ rfl; have c4 := hB4.c 4 _ rfl; have c5 := hB4.c 5 _ rfl
    clear hP hrb
    go_wp2_with fail
    refine hP'.mono ?_
    rw [show w4.heap.size = rb from HRB]
    rintro e w5 ⟨u3, rfl, ho3, hb5⟩
    have hB5 := hB4.bw hb5
    have hX15 := hX14.bw hb5
    have hX25 := hX2.bw hb5
    have hu15 := hu14.bw hb5
    have hu25 := hu24.bw hb5
    have hb5b := hb4b.trans hb5
    have ho3' := ho3.own
    obtain ⟨qP, c3', hu3e, -⟩ := Rd8.open (Own8.rd ho3')
    subst hu3e
    have hFf' := hFf _ hb5b
    clear c0 c1 c2 c3 c4 c5 hP' hB4 hX14 hX2 hu14 hu24 hb4b hb5 ho3
    have c0 := hB5.c 0 _ rfl; have c1 := hB5.c 1 _ rfl; have c2 := hB5.c 2 _ rfl; have c3 := hB5.c 3 _ rfl; have c4 := hB5.c 4 _ rfl; have c5 := hB5.c 5 _ rfl
    go_wp2_with fail
    refine hFf'.mono ?_
    rintro e w6 ⟨uf, rfl, huf, hb6⟩
    clear hFf' c0 c1 c2 c3 c4 c5
    obtain ⟨qz, cz, hfz⟩ : ∃ q c, uf = .slice q f.files.length c := by
      obtain ⟨va, vi, vs, vr, vc, vf, e, ha, hi, hs, hr, hc, hf, -⟩ := huf
      simp at e
      obtain ⟨-, -, -, -, -, rfl⟩ := e
      exact hf.formG
    subst hfz
    have hrP' := hrP _ _ huf
    clear hrP
    go_wp2_with fail
    refine hrP'.mono ?_
    rintro e w7 ⟨u4, rfl, ho4, hb7⟩
    have h57 := hb6.trans hb7
    have hB7 := hB5.bw h57
    have hX17 := hX15.bw h57
    have hX27 := hX25.bw h57
    have hu17 := hu15.bw h57
    have hu27 := hu25.bw h57
    have hb7b := hb5b.trans h57
    have ho37 := ho3'.bw h57
    have ho4' := ho4.own
    obtain ⟨qR, c4', hu4e, -⟩ := Rd8.open (Own8.rd ho4')
    subst hu4e
    clear hrP' hB5 hX15 hX25 hu15 hu25 hb5b ho3' ho4 huf hb6 hb7 h57
    have hB7d := hB7.bw ((Bw.refl w7).drew)
    have hX17d := hX17.bw ((Bw.refl w7).drew)
    have hX27d := hX27.bw ((Bw.refl w7).drew)
    have hb7d := hb7b.drew
    have hZ := fun X (g : Bw w7 X) => And.intro (hu17.bw g) (And.intro (hu27.bw g) (And.intro (ho37.bw g) (ho4'.bw g)))
    have HZ : Hid (∀ X, Bw w7 X → IsFd X (.agg #[.slice a1 G.args.length a2, .slice a3 G.input.length a4, .slice a5 G.short.length a6, .slice a7 G.random.length a8, .slice a9 G.clock.length a10, .slice a11 G.files.length a12]) G ∧ IsFd X (.agg #[.slice d1 G.args.length d2, .slice d3 G.input.length d4, .slice d5 G.short.length d6, .slice d7 G.random.length d8, .slice d9 G.clock.length d10, .slice d11 G.files.length d12]) G ∧ Own8 _ X (.slice qP PB.length c3') PB ∧ Own8 w6 X (.slice qR PB.length c4') PB) := hZ
    clear hB7 hX17 hX27 hu17 hu27 hb7b hZ ho37 ho4'
    rcases (show (E = 0 ∧ okb = true) ∨ (E = 3 ∧ okb = false) from HE) with ⟨rfl, rfl⟩ | ⟨rfl, rfl⟩
    · rcases (show (gd = true ∧ HH = 0) ∨ (gd = false ∧ HH = 1) from HP) with ⟨rfl, rfl⟩ | ⟨rfl, rfl⟩
      · go_wp2_with fail
        refine wp_region_held_drew (S := fun X => (X.cell? ⟨gb, 0, none⟩ = some (.slice a1 G.args.length a2) ∧ X.cell? ⟨gb, 1, none⟩ = some (.slice a3 G.input.length a4) ∧ X.cell? ⟨gb, 2, none⟩ = some (.slice a5 G.short.length a6) ∧ X.cell? ⟨gb, 3, none⟩ = some (.slice a7 G.random.length a8) ∧ X.cell? ⟨gb, 4, none⟩ = some (.slice a9 G.clock.length a10) ∧ X.cell? ⟨gb, 5, none⟩ = some (.slice a11 G.files.length a12)) ∧ (X.cell? ⟨rb, 0, none⟩ = some (.slice d1 G.args.length d2) ∧ X.cell? ⟨rb, 1, none⟩ = some (.slice d3 G.input.length d4) ∧ X.cell? ⟨rb, 2, none⟩ = some (.slice d5 G.short.length d6) ∧ X.cell? ⟨rb, 3, none⟩ = some (.slice d7 G.random.length d8) ∧ X.cell? ⟨rb, 4, none⟩ = some (.slice d9 G.clock.length d10) ∧ X.cell? ⟨rb, 5, none⟩ = some (.slice d11 G.files.length d12)) ∧ (X.cell? ⟨fb, 0, none⟩ = some (.slice q1 f.args.length q2) ∧ X.cell? ⟨fb, 1, none⟩ = some (.slice q3 f.input.length q4) ∧ X.cell? ⟨fb, 2, none⟩ = some (.slice q5 f.short.length q6) ∧ X.cell? ⟨fb, 3, none⟩ = some (.slice q7 f.random.length q8) ∧ X.cell? ⟨fb, 4, none⟩ = some (.slice q9 f.clock.length q10) ∧ X.cell? ⟨fb, 5, none⟩ = some (.slice q11 f.files.length q12)) ∧ (convert 22 9 (.slice qP PB.length c3')).run Try.prog X = .ok (.string (strOfNums PB)) X ∧ (convert 22 9 (.slice qR PB.length c4')).run Try.prog X = .ok (.string (strOfNums PB)) X) (by kernel_rfl) ⟨⟨hX17d.c 0 _ rfl, hX17d.c 1 _ rfl, hX17d.c 2 _ rfl, hX17d.c 3 _ rfl, hX17d.c 4 _ rfl, hX17d.c 5 _ rfl⟩, ⟨hX27d.c 0 _ rfl, hX27d.c 1 _ rfl, hX27d.c 2 _ rfl, hX27d.c 3 _ rfl, hX27d.c 4 _ rfl, hX27d.c 5 _ rfl⟩, ⟨hB7d.c 0 _ rfl, hB7d.c 1 _ rfl, hB7d.c 2 _ rfl, hB7d.c 3 _ rfl, hB7d.c 4 _ rfl, hB7d.c 5 _ rfl⟩, conv8 ((show ∀ X, Bw w7 X → _ from HZ) _ ((Bw.refl w7).drew)).2.2.1, conv8 ((show ∀ X, Bw w7 X → _ from HZ) _ ((Bw.refl w7).drew)).2.2.2⟩ (fun hHeld => ?_)
        refine wpAnyH_take (i := 0) (oi := ⟨some 43, _, _, _, _, _⟩) (v := ?_) rfl (by kernel_rfl) (by kernel_rfl) (by kernel_rfl) (fun _ _ _ h => h) (Or.inl ⟨by rfl, ?_⟩) (by assumption) ?_; (rotate_left 1); (focus (intro wz hSw; (try dsimp only at hSw); go_simp; try (with_reducible rfl))); simp only [Act.put, List.setIfInBounds_toArray, List.set_cons_zero, List.set_cons_succ]
        refine wpAnyH_take (i := 1) (oi := ⟨some 44, _, _, _, _, _⟩) (v := ?_) rfl (by kernel_rfl) (by kernel_rfl) (by kernel_rfl) (fun _ _ _ h => h) (Or.inl ⟨by rfl, ?_⟩) (by assumption) ?_; (rotate_left 1); (focus (intro wz hSw; (try dsimp only at hSw); go_simp; try (with_reducible rfl))); simp only [Act.put, List.setIfInBounds_toArray, List.set_cons_zero, List.set_cons_succ]
        refine wpAnyH_take (i := 2) (oi := ⟨some 45, _, _, _, _, _⟩) (v := ?_) rfl (by kernel_rfl) (by kernel_rfl) (by kernel_rfl) (fun _ _ _ h => h) (Or.inl ⟨by rfl, ?_⟩) (by assumption) ?_; (rotate_left 1); (focus (intro wz hSw; (try dsimp only at hSw); go_simp; try (with_reducible rfl))); simp only [Act.put, List.setIfInBounds_toArray, List.set_cons_zero, List.set_cons_succ]
        refine wpAnyH_take (i := 3) (oi := ⟨some 46, _, _, _, _, _⟩) (v := ?_) rfl (by kernel_rfl) (by kernel_rfl) (by kernel_rfl) (fun _ _ _ h => h) (Or.inl ⟨by rfl, ?_⟩) (by assumption) ?_; (rotate_left 1); (focus (intro wz hSw; (try dsimp only at hSw); go_simp; try (with_reducible rfl))); simp only [Act.put, List.setIfInBounds_toArray, List.set_cons_zero, List.set_cons_succ]
        refine wpAnyH_take (i := 4) (oi := ⟨some 47, _, _, _, _, _⟩) (v := ?_) rfl (by kernel_rfl) (by kernel_rfl) (by kernel_rfl) (fun _ _ _ h => h) (Or.inl ⟨by rfl, ?_⟩) (by assumption) ?_; (rotate_left 1); (focus (intro wz hSw; (try dsimp only at hSw); go_simp; try (with_reducible rfl))); simp only [Act.put, List.setIfInBounds_toArray, List.set_cons_zero, List.set_cons_succ]
        refine wpAnyH_take (i := 5) (oi := ⟨some 48, _, _, _, _, _⟩) (v := ?_) rfl (by kernel_rfl) (by kernel_rfl) (by kernel_rfl) (fun _ _ _ h => h) (Or.inl ⟨by rfl, ?_⟩) (by assumption) ?_; (rotate_left 1); (focus (intro wz hSw; (try dsimp only at hSw); go_simp; try (with_reducible rfl))); simp only [Act.put, List.setIfInBounds_toArray, List.set_cons_zero, List.set_cons_succ]
        refine wpAnyH_take (i := 6) (oi := ⟨some 49, _, _, _, _, _⟩) (v := ?_) rfl (by kernel_rfl) (by kernel_rfl) (by kernel_rfl) (fun _ _ _ h => h) (Or.inl ⟨by rfl, ?_⟩) (by assumption) ?_; (rotate_left 1); (focus (intro wz hSw; (try dsimp only at hSw); go_simp; try (with_reducible rfl))); simp only [Act.put, List.setIfInBounds_toArray, List.set_cons_zero, List.set_cons_succ]
        refine wpAnyH_take (i := 7) (oi := ⟨some 50, _, _, _, _, _⟩) (v := undef) rfl (by kernel_rfl) (by kernel_rfl) (by kernel_rfl) (fun _ _ _ h => h) (Or.inr ⟨by rfl, rfl⟩) (by assumption) ?_; simp only [Act.put, List.setIfInBounds_toArray, List.set_cons_zero, List.set_cons_succ]
        refine wpAnyH_take (i := 8) (oi := ⟨some 51, _, _, _, _, _⟩) (v := undef) rfl (by kernel_rfl) (by kernel_rfl) (by kernel_rfl) (fun _ _ _ h => h) (Or.inr ⟨by rfl, rfl⟩) (by assumption) ?_; simp only [Act.put, List.setIfInBounds_toArray, List.set_cons_zero, List.set_cons_succ]
        refine wpAnyH_take (i := 9) (oi := ⟨some 52, _, _, _, _, _⟩) (v := ?_) rfl (by kernel_rfl) (by kernel_rfl) (by kernel_rfl) (fun _ _ _ h => h) (Or.inl ⟨by rfl, ?_⟩) (by assumption) ?_; (rotate_left 1); (focus (intro wz hSw; (try dsimp only at hSw); go_simp; try (with_reducible rfl))); simp only [Act.put, List.setIfInBounds_toArray, List.set_cons_zero, List.set_cons_succ]
        refine wpAnyH_take (i := 10) (oi := ⟨some 53, _, _, _, _, _⟩) (v := ?_) rfl (by kernel_rfl) (by kernel_rfl) (by kernel_rfl) (fun _ _ _ h => h) (Or.inl ⟨by rfl, ?_⟩) (by assumption) ?_; (rotate_left 1); (focus (intro wz hSw; (try dsimp only at hSw); go_simp; try (with_reducible rfl))); simp only [Act.put, List.setIfInBounds_toArray, List.set_cons_zero, List.set_cons_succ]
        refine wpAnyH_take (i := 11) (oi := ⟨some 54, _, _, _, _, _⟩) (v := ?_) rfl (by kernel_rfl) (by kernel_rfl) (by kernel_rfl) (fun _ _ _ h => h) (Or.inl ⟨by rfl, ?_⟩) (by assumption) ?_; (rotate_left 1); (focus (intro wz hSw; (try dsimp only at hSw); go_simp; try (with_reducible rfl))); simp only [Act.put, List.setIfInBounds_toArray, List.set_cons_zero, List.set_cons_succ]
        refine wpAnyH_take (i := 12) (oi := ⟨some 55, _, _, _, _, _⟩) (v := ?_) rfl (by kernel_rfl) (by kernel_rfl) (by kernel_rfl) (fun _ _ _ h => h) (Or.inl ⟨by rfl, ?_⟩) (by assumption) ?_; (rotate_left 1); (focus (intro wz hSw; (try dsimp only at hSw); go_simp; try (with_reducible rfl))); simp only [Act.put, List.setIfInBounds_toArray, List.set_cons_zero, List.set_cons_succ]
        refine wpAnyH_take (i := 14) (oi := ⟨some 57, _, _, _, _, _⟩) (v := ?_) rfl (by kernel_rfl) (by kernel_rfl) (by kernel_rfl) (fun _ _ _ h => h) (Or.inl ⟨by rfl, ?_⟩) (by assumption) ?_; (rotate_left 1); (focus (intro wz hSw; (try dsimp only at hSw); go_simp; try (with_reducible rfl))); simp only [Act.put, List.setIfInBounds_toArray, List.set_cons_zero, List.set_cons_succ]
        refine wpAnyH_ready (rs := [13]) (by kernel_rfl) (by simp) ?_; refine AllReadyH.cons rfl (fun K hK => ?_) AllReadyH.nil; go_simp
        refine (fee_c _ _ _ _ _ _ G _ ((show ∀ X, Bw w7 X → _ from HZ) _ ((Bw.refl w7).drew)).1 hGl).mono ?_
        rintro e w8 ⟨ug, rfl, hvg, hb8⟩
        have hX18 := hX17d.bw hb8
        have hX28 := hX27d.bw hb8
        have hB8 := hB7d.bw hb8
        have h78 : Bw w7 w8 := ((Bw.refl w7).drew).trans hb8
        have hb8b := hb7d.trans hb8
        clear hX17d hX27d hB7d hb7d hb8
        obtain ⟨qy, cy, hfy⟩ : ∃ q c, ug = .slice q G.files.length c := by
          obtain ⟨va, vi, vs, vr, vc, vf, e, ha, hi, hs, hr, hc, hf, -⟩ := hvg
          simp at e
          obtain ⟨-, -, -, -, -, rfl⟩ := e
          exact hf.formG
        subst hfy
        (try clear hHeld); refine hK.out _ _ ?_ (fun hHeld => ?_)
        · exact ⟨⟨hX18.c 0 _ rfl, hX18.c 1 _ rfl, hX18.c 2 _ rfl, hX18.c 3 _ rfl, hX18.c 4 _ rfl, hX18.c 5 _ rfl⟩, ⟨hX28.c 0 _ rfl, hX28.c 1 _ rfl, hX28.c 2 _ rfl, hX28.c 3 _ rfl, hX28.c 4 _ rfl, hX28.c 5 _ rfl⟩, ⟨hB8.c 0 _ rfl, hB8.c 1 _ rfl, hB8.c 2 _ rfl, hB8.c 3 _ rfl, hB8.c 4 _ rfl, hB8.c 5 _ rfl⟩, conv8 ((show ∀ X, Bw w7 X → _ from HZ) _ h78).2.2.1, conv8 ((show ∀ X, Bw w7 X → _ from HZ) _ h78).2.2.2⟩
        refine wpAnyH_ready (rs := [15]) (by kernel_rfl) (by simp) ?_; refine AllReadyH.cons rfl (fun K hK => ?_) AllReadyH.nil; go_simp
        refine (rSame_c _ _ G _ hvg ((show ∀ X, Bw w7 X → _ from HZ) _ h78).2.1 hGz).mono ?_
        rintro e w9 ⟨rfl, hb9⟩
        have hX19 := hX18.bw hb9
        have hX29 := hX28.bw hb9
        have hB9 := hB8.bw hb9
        have h79 : Bw w7 w9 := h78.trans hb9
        have hb9b := hb8b.trans hb9
        clear hX18 hX28 hB8 h78 hb8b hb9 hvg
        (try clear hHeld); refine hK.out _ _ ?_ (fun hHeld => ?_)
        · exact ⟨⟨hX19.c 0 _ rfl, hX19.c 1 _ rfl, hX19.c 2 _ rfl, hX19.c 3 _ rfl, hX19.c 4 _ rfl, hX19.c 5 _ rfl⟩, ⟨hX29.c 0 _ rfl, hX29.c 1 _ rfl, hX29.c 2 _ rfl, hX29.c 3 _ rfl, hX29.c 4 _ rfl, hX29.c 5 _ rfl⟩, ⟨hB9.c 0 _ rfl, hB9.c 1 _ rfl, hB9.c 2 _ rfl, hB9.c 3 _ rfl, hB9.c 4 _ rfl, hB9.c 5 _ rfl⟩, conv8 ((show ∀ X, Bw w7 X → _ from HZ) _ h79).2.2.1, conv8 ((show ∀ X, Bw w7 X → _ from HZ) _ h79).2.2.2⟩
        refine wpAnyH_take (i := 16) (oi := ⟨some 59, _, _, _, _, _⟩) (v := ?_) rfl (by kernel_rfl) (by kernel_rfl) (by kernel_rfl) (fun _ _ _ h => h) (Or.inl ⟨by rfl, ?_⟩) (by assumption) ?_; (rotate_left 1); (focus (intro wz hSw; (try dsimp only at hSw); go_simp; try (with_reducible rfl))); simp only [Act.put, List.setIfInBounds_toArray, List.set_cons_zero, List.set_cons_succ]
        refine wpAnyH_take (i := 17) (oi := ⟨some 60, _, _, _, _, _⟩) (v := ?_) rfl (by kernel_rfl) (by kernel_rfl) (by kernel_rfl) (fun _ _ _ h => h) (Or.inl ⟨by rfl, ?_⟩) (by assumption) ?_; (rotate_left 1); (focus (intro wz hSw; (try dsimp only at hSw); go_simp; try (with_reducible rfl))); simp only [Act.put, List.setIfInBounds_toArray, List.set_cons_zero, List.set_cons_succ]
        refine wpAnyH_take (i := 18) (oi := ⟨some 61, _, _, _, _, _⟩) (v := ?_) rfl (by kernel_rfl) (by kernel_rfl) (by kernel_rfl) (fun _ _ _ h => h) (Or.inl ⟨by rfl, ?_⟩) (by assumption) ?_; (rotate_left 1); (focus (intro wz hSw; (try dsimp only at hSw); go_simp; try (with_reducible rfl))); simp only [Act.put, List.setIfInBounds_toArray, List.set_cons_zero, List.set_cons_succ]
        refine wpAnyH_take (i := 19) (oi := ⟨some 62, _, _, _, _, _⟩) (v := ?_) rfl (by kernel_rfl) (by kernel_rfl) (by kernel_rfl) (fun _ _ _ h => h) (Or.inl ⟨by rfl, ?_⟩) (by assumption) ?_; (rotate_left 1); (focus (intro wz hSw; (try dsimp only at hSw); go_simp; try (with_reducible rfl))); simp only [Act.put, List.setIfInBounds_toArray, List.set_cons_zero, List.set_cons_succ]
        refine wpAnyH_take (i := 20) (oi := ⟨some 63, _, _, _, _, _⟩) (v := ?_) rfl (by kernel_rfl) (by kernel_rfl) (by kernel_rfl) (fun _ _ _ h => h) (Or.inl ⟨by rfl, ?_⟩) (by assumption) ?_; (rotate_left 1); (focus (intro wz hSw; (try dsimp only at hSw); go_simp; try (with_reducible rfl))); simp only [Act.put, List.setIfInBounds_toArray, List.set_cons_zero, List.set_cons_succ]
        refine wpAnyH_take (i := 21) (oi := ⟨some 64, _, _, _, _, _⟩) (v := ?_) rfl (by kernel_rfl) (by kernel_rfl) (by kernel_rfl) (fun _ _ _ h => h) (Or.inl ⟨by rfl, ?_⟩) (by assumption) ?_; (rotate_left 1); (focus (intro wz hSw; (try dsimp only at hSw); go_simp; try (with_reducible rfl))); simp only [Act.put, List.setIfInBounds_toArray, List.set_cons_zero, List.set_cons_succ]
        refine wpAnyH_take (i := 22) (oi := ⟨some 65, _, _, _, _, _⟩) (v := ?_) rfl (by kernel_rfl) (by kernel_rfl) (by kernel_rfl) (fun _ _ _ h => h) (Or.inl ⟨by rfl, ?_⟩) (by assumption) ?_; (rotate_left 1); (focus (intro wz hSw; (try dsimp only at hSw); go_simp; try (with_reducible rfl))); simp only [Act.put, List.setIfInBounds_toArray, List.set_cons_zero, List.set_cons_succ]
        refine wpAnyH_take (i := 23) (oi := ⟨some 66, _, _, _, _, _⟩) (v := ?_) rfl (by kernel_rfl) (by kernel_rfl) (by kernel_rfl) (fun _ _ _ h => h) (Or.inl ⟨by rfl, ?_⟩) (by assumption) ?_; (rotate_left 1); (focus (intro wz hSw; (try dsimp only at hSw); go_simp; try (with_reducible rfl))); simp only [Act.put, List.setIfInBounds_toArray, List.set_cons_zero, List.set_cons_succ]
        refine wpAnyH_take (i := 24) (oi := ⟨some 67, _, _, _, _, _⟩) (v := ?_) rfl (by kernel_rfl) (by kernel_rfl) (by kernel_rfl) (fun _ _ _ h => h) (Or.inl ⟨by rfl, ?_⟩) (by assumption) ?_; (rotate_left 1); (focus (intro wz hSw; (try dsimp only at hSw); go_simp; try (with_reducible rfl))); simp only [Act.put, List.setIfInBounds_toArray, List.set_cons_zero, List.set_cons_succ]
        refine wpAnyH_take (i := 25) (oi := ⟨some 68, _, _, _, _, _⟩) (v := ?_) rfl (by kernel_rfl) (by kernel_rfl) (by kernel_rfl) (fun _ _ _ h => h) (Or.inl ⟨by rfl, ?_⟩) (by assumption) ?_; (rotate_left 1); (focus (intro wz hSw; (try dsimp only at hSw); go_simp; try (with_reducible rfl))); simp only [Act.put, List.setIfInBounds_toArray, List.set_cons_zero, List.set_cons_succ]
        refine wpAnyH_take (i := 26) (oi := ⟨some 69, _, _, _, _, _⟩) (v := undef) rfl (by kernel_rfl) (by kernel_rfl) (by kernel_rfl) (fun _ _ _ h => h) (Or.inr ⟨by rfl, rfl⟩) (by assumption) ?_; simp only [Act.put, List.setIfInBounds_toArray, List.set_cons_zero, List.set_cons_succ]
        refine wpAnyH_take (i := 27) (oi := ⟨some 70, _, _, _, _, _⟩) (v := undef) rfl (by kernel_rfl) (by kernel_rfl) (by kernel_rfl) (fun _ _ _ h => h) (Or.inr ⟨by rfl, rfl⟩) (by assumption) ?_; simp only [Act.put, List.setIfInBounds_toArray, List.set_cons_zero, List.set_cons_succ]
        refine wpAnyH_take (i := 28) (oi := ⟨some 71, _, _, _, _, _⟩) (v := ?_) rfl (by kernel_rfl) (by kernel_rfl) (by kernel_rfl) (fun _ _ _ h => h) (Or.inl ⟨by rfl, ?_⟩) (by assumption) ?_; (rotate_left 1); (focus (intro wz hSw; (try dsimp only at hSw); go_simp; try (with_reducible rfl))); simp only [Act.put, List.setIfInBounds_toArray, List.set_cons_zero, List.set_cons_succ]
        refine wpAnyH_take (i := 29) (oi := ⟨some 72, _, _, _, _, _⟩) (v := ?_) rfl (by kernel_rfl) (by kernel_rfl) (by kernel_rfl) (fun _ _ _ h => h) (Or.inl ⟨by rfl, ?_⟩) (by assumption) ?_; (rotate_left 1); (focus (intro wz hSw; (try dsimp only at hSw); go_simp; try (with_reducible rfl))); simp only [Act.put, List.setIfInBounds_toArray, List.set_cons_zero, List.set_cons_succ]
        refine wpAnyH_take (i := 30) (oi := ⟨some 73, _, _, _, _, _⟩) (v := ?_) rfl (by kernel_rfl) (by kernel_rfl) (by kernel_rfl) (fun _ _ _ h => h) (Or.inl ⟨by rfl, ?_⟩) (by assumption) ?_; (rotate_left 1); (focus (intro wz hSw; (try dsimp only at hSw); go_simp; try (with_reducible rfl))); simp only [Act.put, List.setIfInBounds_toArray, List.set_cons_zero, List.set_cons_succ]
        refine wpAnyH_take (i := 31) (oi := ⟨some 74, _, _, _, _, _⟩) (v := ?_) rfl (by kernel_rfl) (by kernel_rfl) (by kernel_rfl) (fun _ _ _ h => h) (Or.inl ⟨by rfl, ?_⟩) (by assumption) ?_; (rotate_left 1); (focus (intro wz hSw; (try dsimp only at hSw); go_simp; try (with_reducible rfl))); simp only [Act.put, List.setIfInBounds_toArray, List.set_cons_zero, List.set_cons_succ]
        refine wpAnyH_take (i := 32) (oi := ⟨some 75, _, _, _, _, _⟩) (v := ?_) rfl (by kernel_rfl) (by kernel_rfl) (by kernel_rfl) (fun _ _ _ h => h) (Or.inl ⟨by rfl, ?_⟩) (by assumption) ?_; (rotate_left 1); (focus (intro wz hSw; (try dsimp only at hSw); go_simp; try (with_reducible rfl))); simp only [Act.put, List.setIfInBounds_toArray, List.set_cons_zero, List.set_cons_succ]
        refine wpAnyH_take (i := 33) (oi := ⟨some 76, _, _, _, _, _⟩) (v := ?_) rfl (by kernel_rfl) (by kernel_rfl) (by kernel_rfl) (fun _ _ _ h => h) (Or.inl ⟨by rfl, ?_⟩) (by assumption) ?_; (rotate_left 1); (focus (intro wz hSw; (try dsimp only at hSw); go_simp; try (with_reducible rfl))); simp only [Act.put, List.setIfInBounds_toArray, List.set_cons_zero, List.set_cons_succ]
        refine wpAnyH_take (i := 34) (oi := ⟨some 77, _, _, _, _, _⟩) (v := ?_) rfl (by kernel_rfl) (by kernel_rfl) (by kernel_rfl) (fun _ _ _ h => h) (Or.inl ⟨by rfl, ?_⟩) (by assumption) ?_; (rotate_left 1); (focus (intro wz hSw; (try dsimp only at hSw); go_simp; try (with_reducible rfl))); simp only [Act.put, List.setIfInBounds_toArray, List.set_cons_zero, List.set_cons_succ]
        refine wpAnyH_take (i := 35) (oi := ⟨some 78, _, _, _, _, _⟩) (v := ?_) rfl (by kernel_rfl) (by kernel_rfl) (by kernel_rfl) (fun _ _ _ h => h) (Or.inl ⟨by rfl, ?_⟩) (by assumption) ?_; (rotate_left 1); (focus (intro wz hSw; (try dsimp only at hSw); go_simp; try (with_reducible rfl))); simp only [Act.put, List.setIfInBounds_toArray, List.set_cons_zero, List.set_cons_succ]
        refine wpAnyH_take (i := 36) (oi := ⟨some 79, _, _, _, _, _⟩) (v := ?_) rfl (by kernel_rfl) (by kernel_rfl) (by kernel_rfl) (fun _ _ _ h => h) (Or.inl ⟨by rfl, ?_⟩) (by assumption) ?_; (rotate_left 1); (focus (intro wz hSw; (try dsimp only at hSw); go_simp; try (with_reducible rfl))); simp only [Act.put, List.setIfInBounds_toArray, List.set_cons_zero, List.set_cons_succ]
        refine wpAnyH_take (i := 37) (oi := ⟨some 80, _, _, _, _, _⟩) (v := ?_) rfl (by kernel_rfl) (by kernel_rfl) (by kernel_rfl) (fun _ _ _ h => h) (Or.inl ⟨by rfl, ?_⟩) (by assumption) ?_; (rotate_left 1); (focus (intro wz hSw; (try dsimp only at hSw); go_simp; try (with_reducible rfl))); simp only [Act.put, List.setIfInBounds_toArray, List.set_cons_zero, List.set_cons_succ]
        refine wpAnyH_take (i := 38) (oi := ⟨some 81, _, _, _, _, _⟩) (v := ?_) rfl (by kernel_rfl) (by kernel_rfl) (by kernel_rfl) (fun _ _ _ h => h) (Or.inl ⟨by rfl, ?_⟩) (by assumption) ?_; (rotate_left 1); (focus (intro wz hSw; (try dsimp only at hSw); go_simp; try (with_reducible rfl))); simp only [Act.put, List.setIfInBounds_toArray, List.set_cons_zero, List.set_cons_succ]
        refine wpAnyH_take (i := 40) (oi := ⟨some 83, _, _, _, _, _⟩) (v := ?_) rfl (by kernel_rfl) (by kernel_rfl) (by kernel_rfl) (fun _ _ _ h => h) (Or.inl ⟨by rfl, ?_⟩) (by assumption) ?_; (rotate_left 1); (focus (intro wz hSw; (try dsimp only at hSw); go_simp; try (with_reducible rfl))); simp only [Act.put, List.setIfInBounds_toArray, List.set_cons_zero, List.set_cons_succ]
        refine wpAnyH_ready (rs := [39]) (by kernel_rfl) (by simp) ?_; refine AllReadyH.cons rfl (fun K hK => ?_) AllReadyH.nil; go_simp
        refine (hGd _ hb9b).mono ?_
        rintro e wx ⟨rfl, hbx⟩
        have hX1x := hX19.bw hbx
        have hX2x := hX29.bw hbx
        have hBx := hB9.bw hbx
        have h7x : Bw w7 wx := h79.trans hbx
        have hbxb := hb9b.trans hbx
        clear hX19 hX29 hB9 h79 hb9b hbx
        (try clear hHeld); refine hK.out _ _ ?_ (fun hHeld => ?_)
        · exact ⟨⟨hX1x.c 0 _ rfl, hX1x.c 1 _ rfl, hX1x.c 2 _ rfl, hX1x.c 3 _ rfl, hX1x.c 4 _ rfl, hX1x.c 5 _ rfl⟩, ⟨hX2x.c 0 _ rfl, hX2x.c 1 _ rfl, hX2x.c 2 _ rfl, hX2x.c 3 _ rfl, hX2x.c 4 _ rfl, hX2x.c 5 _ rfl⟩, ⟨hBx.c 0 _ rfl, hBx.c 1 _ rfl, hBx.c 2 _ rfl, hBx.c 3 _ rfl, hBx.c 4 _ rfl, hBx.c 5 _ rfl⟩, conv8 ((show ∀ X, Bw w7 X → _ from HZ) _ h7x).2.2.1, conv8 ((show ∀ X, Bw w7 X → _ from HZ) _ h7x).2.2.2⟩
        refine wpAnyH_take (i := 41) (oi := ⟨some 84, _, _, _, _, _⟩) (v := ?_) rfl (by kernel_rfl) (by kernel_rfl) (by kernel_rfl) (fun _ _ _ h => h) (Or.inl ⟨by rfl, ?_⟩) (by assumption) ?_; (rotate_left 1); (focus (intro wz hSw; (try dsimp only at hSw); go_simp; try (with_reducible rfl))); simp only [Act.put, List.setIfInBounds_toArray, List.set_cons_zero, List.set_cons_succ]
        refine wpAnyH_take (i := 42) (oi := ⟨some 85, _, _, _, _, _⟩) (v := ?_) rfl (by kernel_rfl) (by kernel_rfl) (by kernel_rfl) (fun _ _ _ h => h) (Or.inl ⟨by rfl, ?_⟩) (by assumption) ?_; (rotate_left 1); (focus (intro wz hSw; (try dsimp only at hSw); go_simp; try (with_reducible rfl))); simp only [Act.put, List.setIfInBounds_toArray, List.set_cons_zero, List.set_cons_succ]
        refine wpAnyH_take (i := 43) (oi := ⟨some 4, _, _, _, _, _⟩) (v := ?_) rfl (by kernel_rfl) (by kernel_rfl) (by kernel_rfl) (fun _ _ _ h => h) (Or.inl ⟨by rfl, ?_⟩) (by assumption) ?_; (rotate_left 1); (focus (intro wz hSw; (try dsimp only at hSw); go_simp; try (with_reducible rfl))); simp only [Act.put, List.setIfInBounds_toArray, List.set_cons_zero, List.set_cons_succ]
        refine wpAnyH_done (by kernel_rfl) ?_ _
        clear hX1x hX2x hBx h7x
        go_wp2_with fail
        go_returns
        exact ⟨rfl, hbxb⟩
      · go_wp2_with fail
        refine wp_region_held_drew (S := fun X => (X.cell? ⟨gb, 0, none⟩ = some (.slice a1 G.args.length a2) ∧ X.cell? ⟨gb, 1, none⟩ = some (.slice a3 G.input.length a4) ∧ X.cell? ⟨gb, 2, none⟩ = some (.slice a5 G.short.length a6) ∧ X.cell? ⟨gb, 3, none⟩ = some (.slice a7 G.random.length a8) ∧ X.cell? ⟨gb, 4, none⟩ = some (.slice a9 G.clock.length a10) ∧ X.cell? ⟨gb, 5, none⟩ = some (.slice a11 G.files.length a12)) ∧ (X.cell? ⟨rb, 0, none⟩ = some (.slice d1 G.args.length d2) ∧ X.cell? ⟨rb, 1, none⟩ = some (.slice d3 G.input.length d4) ∧ X.cell? ⟨rb, 2, none⟩ = some (.slice d5 G.short.length d6) ∧ X.cell? ⟨rb, 3, none⟩ = some (.slice d7 G.random.length d8) ∧ X.cell? ⟨rb, 4, none⟩ = some (.slice d9 G.clock.length d10) ∧ X.cell? ⟨rb, 5, none⟩ = some (.slice d11 G.files.length d12)) ∧ (X.cell? ⟨fb, 0, none⟩ = some (.slice q1 f.args.length q2) ∧ X.cell? ⟨fb, 1, none⟩ = some (.slice q3 f.input.length q4) ∧ X.cell? ⟨fb, 2, none⟩ = some (.slice q5 f.short.length q6) ∧ X.cell? ⟨fb, 3, none⟩ = some (.slice q7 f.random.length q8) ∧ X.cell? ⟨fb, 4, none⟩ = some (.slice q9 f.clock.length q10) ∧ X.cell? ⟨fb, 5, none⟩ = some (.slice q11 f.files.length q12)) ∧ (convert 22 9 (.slice qP PB.length c3')).run Try.prog X = .ok (.string (strOfNums PB)) X ∧ (convert 22 9 (.slice qR PB.length c4')).run Try.prog X = .ok (.string (strOfNums PB)) X) (by kernel_rfl) ⟨⟨hX17d.c 0 _ rfl, hX17d.c 1 _ rfl, hX17d.c 2 _ rfl, hX17d.c 3 _ rfl, hX17d.c 4 _ rfl, hX17d.c 5 _ rfl⟩, ⟨hX27d.c 0 _ rfl, hX27d.c 1 _ rfl, hX27d.c 2 _ rfl, hX27d.c 3 _ rfl, hX27d.c 4 _ rfl, hX27d.c 5 _ rfl⟩, ⟨hB7d.c 0 _ rfl, hB7d.c 1 _ rfl, hB7d.c 2 _ rfl, hB7d.c 3 _ rfl, hB7d.c 4 _ rfl, hB7d.c 5 _ rfl⟩, conv8 ((show ∀ X, Bw w7 X → _ from HZ) _ ((Bw.refl w7).drew)).2.2.1, conv8 ((show ∀ X, Bw w7 X → _ from HZ) _ ((Bw.refl w7).drew)).2.2.2⟩ (fun hHeld => ?_)
        refine wpAnyH_take (i := 0) (oi := ⟨some 43, _, _, _, _, _⟩) (v := ?_) rfl (by kernel_rfl) (by kernel_rfl) (by kernel_rfl) (fun _ _ _ h => h) (Or.inl ⟨by rfl, ?_⟩) (by assumption) ?_; (rotate_left 1); (focus (intro wz hSw; (try dsimp only at hSw); go_simp; try (with_reducible rfl))); simp only [Act.put, List.setIfInBounds_toArray, List.set_cons_zero, List.set_cons_succ]
        refine wpAnyH_take (i := 1) (oi := ⟨some 44, _, _, _, _, _⟩) (v := ?_) rfl (by kernel_rfl) (by kernel_rfl) (by kernel_rfl) (fun _ _ _ h => h) (Or.inl ⟨by rfl, ?_⟩) (by assumption) ?_; (rotate_left 1); (focus (intro wz hSw; (try dsimp only at hSw); go_simp; try (with_reducible rfl))); simp only [Act.put, List.setIfInBounds_toArray, List.set_cons_zero, List.set_cons_succ]
        refine wpAnyH_take (i := 2) (oi := ⟨some 45, _, _, _, _, _⟩) (v := ?_) rfl (by kernel_rfl) (by kernel_rfl) (by kernel_rfl) (fun _ _ _ h => h) (Or.inl ⟨by rfl, ?_⟩) (by assumption) ?_; (rotate_left 1); (focus (intro wz hSw; (try dsimp only at hSw); go_simp; try (with_reducible rfl))); simp only [Act.put, List.setIfInBounds_toArray, List.set_cons_zero, List.set_cons_succ]
        refine wpAnyH_take (i := 3) (oi := ⟨some 46, _, _, _, _, _⟩) (v := ?_) rfl (by kernel_rfl) (by kernel_rfl) (by kernel_rfl) (fun _ _ _ h => h) (Or.inl ⟨by rfl, ?_⟩) (by assumption) ?_; (rotate_left 1); (focus (intro wz hSw; (try dsimp only at hSw); go_simp; try (with_reducible rfl))); simp only [Act.put, List.setIfInBounds_toArray, List.set_cons_zero, List.set_cons_succ]
        refine wpAnyH_take (i := 4) (oi := ⟨some 47, _, _, _, _, _⟩) (v := ?_) rfl (by kernel_rfl) (by kernel_rfl) (by kernel_rfl) (fun _ _ _ h => h) (Or.inl ⟨by rfl, ?_⟩) (by assumption) ?_; (rotate_left 1); (focus (intro wz hSw; (try dsimp only at hSw); go_simp; try (with_reducible rfl))); simp only [Act.put, List.setIfInBounds_toArray, List.set_cons_zero, List.set_cons_succ]
        refine wpAnyH_take (i := 5) (oi := ⟨some 48, _, _, _, _, _⟩) (v := ?_) rfl (by kernel_rfl) (by kernel_rfl) (by kernel_rfl) (fun _ _ _ h => h) (Or.inl ⟨by rfl, ?_⟩) (by assumption) ?_; (rotate_left 1); (focus (intro wz hSw; (try dsimp only at hSw); go_simp; try (with_reducible rfl))); simp only [Act.put, List.setIfInBounds_toArray, List.set_cons_zero, List.set_cons_succ]
        refine wpAnyH_take (i := 6) (oi := ⟨some 49, _, _, _, _, _⟩) (v := ?_) rfl (by kernel_rfl) (by kernel_rfl) (by kernel_rfl) (fun _ _ _ h => h) (Or.inl ⟨by rfl, ?_⟩) (by assumption) ?_; (rotate_left 1); (focus (intro wz hSw; (try dsimp only at hSw); go_simp; try (with_reducible rfl))); simp only [Act.put, List.setIfInBounds_toArray, List.set_cons_zero, List.set_cons_succ]
        refine wpAnyH_take (i := 7) (oi := ⟨some 50, _, _, _, _, _⟩) (v := undef) rfl (by kernel_rfl) (by kernel_rfl) (by kernel_rfl) (fun _ _ _ h => h) (Or.inr ⟨by rfl, rfl⟩) (by assumption) ?_; simp only [Act.put, List.setIfInBounds_toArray, List.set_cons_zero, List.set_cons_succ]
        refine wpAnyH_take (i := 8) (oi := ⟨some 51, _, _, _, _, _⟩) (v := undef) rfl (by kernel_rfl) (by kernel_rfl) (by kernel_rfl) (fun _ _ _ h => h) (Or.inr ⟨by rfl, rfl⟩) (by assumption) ?_; simp only [Act.put, List.setIfInBounds_toArray, List.set_cons_zero, List.set_cons_succ]
        refine wpAnyH_take (i := 9) (oi := ⟨some 52, _, _, _, _, _⟩) (v := ?_) rfl (by kernel_rfl) (by kernel_rfl) (by kernel_rfl) (fun _ _ _ h => h) (Or.inl ⟨by rfl, ?_⟩) (by assumption) ?_; (rotate_left 1); (focus (intro wz hSw; (try dsimp only at hSw); go_simp; try (with_reducible rfl))); simp only [Act.put, List.setIfInBounds_toArray, List.set_cons_zero, List.set_cons_succ]
        refine wpAnyH_take (i := 10) (oi := ⟨some 53, _, _, _, _, _⟩) (v := ?_) rfl (by kernel_rfl) (by kernel_rfl) (by kernel_rfl) (fun _ _ _ h => h) (Or.inl ⟨by rfl, ?_⟩) (by assumption) ?_; (rotate_left 1); (focus (intro wz hSw; (try dsimp only at hSw); go_simp; try (with_reducible rfl))); simp only [Act.put, List.setIfInBounds_toArray, List.set_cons_zero, List.set_cons_succ]
        refine wpAnyH_take (i := 11) (oi := ⟨some 54, _, _, _, _, _⟩) (v := ?_) rfl (by kernel_rfl) (by kernel_rfl) (by kernel_rfl) (fun _ _ _ h => h) (Or.inl ⟨by rfl, ?_⟩) (by assumption) ?_; (rotate_left 1); (focus (intro wz hSw; (try dsimp only at hSw); go_simp; try (with_reducible rfl))); simp only [Act.put, List.setIfInBounds_toArray, List.set_cons_zero, List.set_cons_succ]
        refine wpAnyH_take (i := 12) (oi := ⟨some 55, _, _, _, _, _⟩) (v := ?_) rfl (by kernel_rfl) (by kernel_rfl) (by kernel_rfl) (fun _ _ _ h => h) (Or.inl ⟨by rfl, ?_⟩) (by assumption) ?_; (rotate_left 1); (focus (intro wz hSw; (try dsimp only at hSw); go_simp; try (with_reducible rfl))); simp only [Act.put, List.setIfInBounds_toArray, List.set_cons_zero, List.set_cons_succ]
        refine wpAnyH_take (i := 14) (oi := ⟨some 57, _, _, _, _, _⟩) (v := ?_) rfl (by kernel_rfl) (by kernel_rfl) (by kernel_rfl) (fun _ _ _ h => h) (Or.inl ⟨by rfl, ?_⟩) (by assumption) ?_; (rotate_left 1); (focus (intro wz hSw; (try dsimp only at hSw); go_simp; try (with_reducible rfl))); simp only [Act.put, List.setIfInBounds_toArray, List.set_cons_zero, List.set_cons_succ]
        refine wpAnyH_ready (rs := [13]) (by kernel_rfl) (by simp) ?_; refine AllReadyH.cons rfl (fun K hK => ?_) AllReadyH.nil; go_simp
        refine (fee_c _ _ _ _ _ _ G _ ((show ∀ X, Bw w7 X → _ from HZ) _ ((Bw.refl w7).drew)).1 hGl).mono ?_
        rintro e w8 ⟨ug, rfl, hvg, hb8⟩
        have hX18 := hX17d.bw hb8
        have hX28 := hX27d.bw hb8
        have hB8 := hB7d.bw hb8
        have h78 : Bw w7 w8 := ((Bw.refl w7).drew).trans hb8
        have hb8b := hb7d.trans hb8
        clear hX17d hX27d hB7d hb7d hb8
        obtain ⟨qy, cy, hfy⟩ : ∃ q c, ug = .slice q G.files.length c := by
          obtain ⟨va, vi, vs, vr, vc, vf, e, ha, hi, hs, hr, hc, hf, -⟩ := hvg
          simp at e
          obtain ⟨-, -, -, -, -, rfl⟩ := e
          exact hf.formG
        subst hfy
        (try clear hHeld); refine hK.out _ _ ?_ (fun hHeld => ?_)
        · exact ⟨⟨hX18.c 0 _ rfl, hX18.c 1 _ rfl, hX18.c 2 _ rfl, hX18.c 3 _ rfl, hX18.c 4 _ rfl, hX18.c 5 _ rfl⟩, ⟨hX28.c 0 _ rfl, hX28.c 1 _ rfl, hX28.c 2 _ rfl, hX28.c 3 _ rfl, hX28.c 4 _ rfl, hX28.c 5 _ rfl⟩, ⟨hB8.c 0 _ rfl, hB8.c 1 _ rfl, hB8.c 2 _ rfl, hB8.c 3 _ rfl, hB8.c 4 _ rfl, hB8.c 5 _ rfl⟩, conv8 ((show ∀ X, Bw w7 X → _ from HZ) _ h78).2.2.1, conv8 ((show ∀ X, Bw w7 X → _ from HZ) _ h78).2.2.2⟩
        refine wpAnyH_ready (rs := [15]) (by kernel_rfl) (by simp) ?_; refine AllReadyH.cons rfl (fun K hK => ?_) AllReadyH.nil; go_simp
        refine (rSame_c _ _ G _ hvg ((show ∀ X, Bw w7 X → _ from HZ) _ h78).2.1 hGz).mono ?_
        rintro e w9 ⟨rfl, hb9⟩
        have hX19 := hX18.bw hb9
        have hX29 := hX28.bw hb9
        have hB9 := hB8.bw hb9
        have h79 : Bw w7 w9 := h78.trans hb9
        have hb9b := hb8b.trans hb9
        clear hX18 hX28 hB8 h78 hb8b hb9 hvg
        (try clear hHeld); refine hK.out _ _ ?_ (fun hHeld => ?_)
        · exact ⟨⟨hX19.c 0 _ rfl, hX19.c 1 _ rfl, hX19.c 2 _ rfl, hX19.c 3 _ rfl, hX19.c 4 _ rfl, hX19.c 5 _ rfl⟩, ⟨hX29.c 0 _ rfl, hX29.c 1 _ rfl, hX29.c 2 _ rfl, hX29.c 3 _ rfl, hX29.c 4 _ rfl, hX29.c 5 _ rfl⟩, ⟨hB9.c 0 _ rfl, hB9.c 1 _ rfl, hB9.c 2 _ rfl, hB9.c 3 _ rfl, hB9.c 4 _ rfl, hB9.c 5 _ rfl⟩, conv8 ((show ∀ X, Bw w7 X → _ from HZ) _ h79).2.2.1, conv8 ((show ∀ X, Bw w7 X → _ from HZ) _ h79).2.2.2⟩
        refine wpAnyH_take (i := 16) (oi := ⟨some 59, _, _, _, _, _⟩) (v := ?_) rfl (by kernel_rfl) (by kernel_rfl) (by kernel_rfl) (fun _ _ _ h => h) (Or.inl ⟨by rfl, ?_⟩) (by assumption) ?_; (rotate_left 1); (focus (intro wz hSw; (try dsimp only at hSw); go_simp; try (with_reducible rfl))); simp only [Act.put, List.setIfInBounds_toArray, List.set_cons_zero, List.set_cons_succ]
        refine wpAnyH_take (i := 17) (oi := ⟨some 60, _, _, _, _, _⟩) (v := ?_) rfl (by kernel_rfl) (by kernel_rfl) (by kernel_rfl) (fun _ _ _ h => h) (Or.inl ⟨by rfl, ?_⟩) (by assumption) ?_; (rotate_left 1); (focus (intro wz hSw; (try dsimp only at hSw); go_simp; try (with_reducible rfl))); simp only [Act.put, List.setIfInBounds_toArray, List.set_cons_zero, List.set_cons_succ]
        refine wpAnyH_take (i := 18) (oi := ⟨some 61, _, _, _, _, _⟩) (v := ?_) rfl (by kernel_rfl) (by kernel_rfl) (by kernel_rfl) (fun _ _ _ h => h) (Or.inl ⟨by rfl, ?_⟩) (by assumption) ?_; (rotate_left 1); (focus (intro wz hSw; (try dsimp only at hSw); go_simp; try (with_reducible rfl))); simp only [Act.put, List.setIfInBounds_toArray, List.set_cons_zero, List.set_cons_succ]
        refine wpAnyH_take (i := 19) (oi := ⟨some 62, _, _, _, _, _⟩) (v := ?_) rfl (by kernel_rfl) (by kernel_rfl) (by kernel_rfl) (fun _ _ _ h => h) (Or.inl ⟨by rfl, ?_⟩) (by assumption) ?_; (rotate_left 1); (focus (intro wz hSw; (try dsimp only at hSw); go_simp; try (with_reducible rfl))); simp only [Act.put, List.setIfInBounds_toArray, List.set_cons_zero, List.set_cons_succ]
        refine wpAnyH_take (i := 20) (oi := ⟨some 63, _, _, _, _, _⟩) (v := ?_) rfl (by kernel_rfl) (by kernel_rfl) (by kernel_rfl) (fun _ _ _ h => h) (Or.inl ⟨by rfl, ?_⟩) (by assumption) ?_; (rotate_left 1); (focus (intro wz hSw; (try dsimp only at hSw); go_simp; try (with_reducible rfl))); simp only [Act.put, List.setIfInBounds_toArray, List.set_cons_zero, List.set_cons_succ]
        refine wpAnyH_take (i := 21) (oi := ⟨some 64, _, _, _, _, _⟩) (v := ?_) rfl (by kernel_rfl) (by kernel_rfl) (by kernel_rfl) (fun _ _ _ h => h) (Or.inl ⟨by rfl, ?_⟩) (by assumption) ?_; (rotate_left 1); (focus (intro wz hSw; (try dsimp only at hSw); go_simp; try (with_reducible rfl))); simp only [Act.put, List.setIfInBounds_toArray, List.set_cons_zero, List.set_cons_succ]
        refine wpAnyH_take (i := 22) (oi := ⟨some 65, _, _, _, _, _⟩) (v := ?_) rfl (by kernel_rfl) (by kernel_rfl) (by kernel_rfl) (fun _ _ _ h => h) (Or.inl ⟨by rfl, ?_⟩) (by assumption) ?_; (rotate_left 1); (focus (intro wz hSw; (try dsimp only at hSw); go_simp; try (with_reducible rfl))); simp only [Act.put, List.setIfInBounds_toArray, List.set_cons_zero, List.set_cons_succ]
        refine wpAnyH_take (i := 23) (oi := ⟨some 66, _, _, _, _, _⟩) (v := ?_) rfl (by kernel_rfl) (by kernel_rfl) (by kernel_rfl) (fun _ _ _ h => h) (Or.inl ⟨by rfl, ?_⟩) (by assumption) ?_; (rotate_left 1); (focus (intro wz hSw; (try dsimp only at hSw); go_simp; try (with_reducible rfl))); simp only [Act.put, List.setIfInBounds_toArray, List.set_cons_zero, List.set_cons_succ]
        refine wpAnyH_take (i := 24) (oi := ⟨some 67, _, _, _, _, _⟩) (v := ?_) rfl (by kernel_rfl) (by kernel_rfl) (by kernel_rfl) (fun _ _ _ h => h) (Or.inl ⟨by rfl, ?_⟩) (by assumption) ?_; (rotate_left 1); (focus (intro wz hSw; (try dsimp only at hSw); go_simp; try (with_reducible rfl))); simp only [Act.put, List.setIfInBounds_toArray, List.set_cons_zero, List.set_cons_succ]
        refine wpAnyH_take (i := 25) (oi := ⟨some 68, _, _, _, _, _⟩) (v := ?_) rfl (by kernel_rfl) (by kernel_rfl) (by kernel_rfl) (fun _ _ _ h => h) (Or.inl ⟨by rfl, ?_⟩) (by assumption) ?_; (rotate_left 1); (focus (intro wz hSw; (try dsimp only at hSw); go_simp; try (with_reducible rfl))); simp only [Act.put, List.setIfInBounds_toArray, List.set_cons_zero, List.set_cons_succ]
        refine wpAnyH_take (i := 26) (oi := ⟨some 69, _, _, _, _, _⟩) (v := ?_) rfl (by kernel_rfl) (by kernel_rfl) (by kernel_rfl) (fun _ _ _ h => h) (Or.inl ⟨by rfl, ?_⟩) (by assumption) ?_; (rotate_left 1); (focus (intro wz hSw; (try dsimp only at hSw); go_simp; try (with_reducible rfl))); simp only [Act.put, List.setIfInBounds_toArray, List.set_cons_zero, List.set_cons_succ]
        refine wpAnyH_take (i := 27) (oi := ⟨some 70, _, _, _, _, _⟩) (v := ?_) rfl (by kernel_rfl) (by kernel_rfl) (by kernel_rfl) (fun _ _ _ h => h) (Or.inl ⟨by rfl, ?_⟩) (by assumption) ?_; (rotate_left 1); (focus (intro wz hSw; (try dsimp only at hSw); go_simp; try (with_reducible rfl))); simp only [Act.put, List.setIfInBounds_toArray, List.set_cons_zero, List.set_cons_succ]
        refine wpAnyH_take (i := 28) (oi := ⟨some 71, _, _, _, _, _⟩) (v := ?_) rfl (by kernel_rfl) (by kernel_rfl) (by kernel_rfl) (fun _ _ _ h => h) (Or.inl ⟨by rfl, ?_⟩) (by assumption) ?_; (rotate_left 1); (focus (intro wz hSw; (try dsimp only at hSw); go_simp; try (with_reducible rfl))); simp only [Act.put, List.setIfInBounds_toArray, List.set_cons_zero, List.set_cons_succ]
        refine wpAnyH_take (i := 29) (oi := ⟨some 72, _, _, _, _, _⟩) (v := ?_) rfl (by kernel_rfl) (by kernel_rfl) (by kernel_rfl) (fun _ _ _ h => h) (Or.inl ⟨by rfl, ?_⟩) (by assumption) ?_; (rotate_left 1); (focus (intro wz hSw; (try dsimp only at hSw); go_simp; try (with_reducible rfl))); simp only [Act.put, List.setIfInBounds_toArray, List.set_cons_zero, List.set_cons_succ]
        refine wpAnyH_take (i := 30) (oi := ⟨some 73, _, _, _, _, _⟩) (v := ?_) rfl (by kernel_rfl) (by kernel_rfl) (by kernel_rfl) (fun _ _ _ h => h) (Or.inl ⟨by rfl, ?_⟩) (by assumption) ?_; (rotate_left 1); (focus (intro wz hSw; (try dsimp only at hSw); go_simp; try (with_reducible rfl))); simp only [Act.put, List.setIfInBounds_toArray, List.set_cons_zero, List.set_cons_succ]
        refine wpAnyH_take (i := 31) (oi := ⟨some 74, _, _, _, _, _⟩) (v := ?_) rfl (by kernel_rfl) (by kernel_rfl) (by kernel_rfl) (fun _ _ _ h => h) (Or.inl ⟨by rfl, ?_⟩) (by assumption) ?_; (rotate_left 1); (focus (intro wz hSw; (try dsimp only at hSw); go_simp; try (with_reducible rfl))); simp only [Act.put, List.setIfInBounds_toArray, List.set_cons_zero, List.set_cons_succ]
        refine wpAnyH_take (i := 32) (oi := ⟨some 75, _, _, _, _, _⟩) (v := ?_) rfl (by kernel_rfl) (by kernel_rfl) (by kernel_rfl) (fun _ _ _ h => h) (Or.inl ⟨by rfl, ?_⟩) (by assumption) ?_; (rotate_left 1); (focus (intro wz hSw; (try dsimp only at hSw); go_simp; try (with_reducible rfl))); simp only [Act.put, List.setIfInBounds_toArray, List.set_cons_zero, List.set_cons_succ]
        refine wpAnyH_take (i := 33) (oi := ⟨some 76, _, _, _, _, _⟩) (v := ?_) rfl (by kernel_rfl) (by kernel_rfl) (by kernel_rfl) (fun _ _ _ h => h) (Or.inl ⟨by rfl, ?_⟩) (by assumption) ?_; (rotate_left 1); (focus (intro wz hSw; (try dsimp only at hSw); go_simp; try (with_reducible rfl))); simp only [Act.put, List.setIfInBounds_toArray, List.set_cons_zero, List.set_cons_succ]
        refine wpAnyH_take (i := 34) (oi := ⟨some 77, _, _, _, _, _⟩) (v := ?_) rfl (by kernel_rfl) (by kernel_rfl) (by kernel_rfl) (fun _ _ _ h => h) (Or.inl ⟨by rfl, ?_⟩) (by assumption) ?_; (rotate_left 1); (focus (intro wz hSw; (try dsimp only at hSw); go_simp; try (with_reducible rfl))); simp only [Act.put, List.setIfInBounds_toArray, List.set_cons_zero, List.set_cons_succ]
        refine wpAnyH_take (i := 35) (oi := ⟨some 78, _, _, _, _, _⟩) (v := ?_) rfl (by kernel_rfl) (by kernel_rfl) (by kernel_rfl) (fun _ _ _ h => h) (Or.inl ⟨by rfl, ?_⟩) (by assumption) ?_; (rotate_left 1); (focus (intro wz hSw; (try dsimp only at hSw); go_simp; try (with_reducible rfl))); simp only [Act.put, List.setIfInBounds_toArray, List.set_cons_zero, List.set_cons_succ]
        refine wpAnyH_take (i := 36) (oi := ⟨some 79, _, _, _, _, _⟩) (v := ?_) rfl (by kernel_rfl) (by kernel_rfl) (by kernel_rfl) (fun _ _ _ h => h) (Or.inl ⟨by rfl, ?_⟩) (by assumption) ?_; (rotate_left 1); (focus (intro wz hSw; (try dsimp only at hSw); go_simp; try (with_reducible rfl))); simp only [Act.put, List.setIfInBounds_toArray, List.set_cons_zero, List.set_cons_succ]
        refine wpAnyH_take (i := 37) (oi := ⟨some 80, _, _, _, _, _⟩) (v := ?_) rfl (by kernel_rfl) (by kernel_rfl) (by kernel_rfl) (fun _ _ _ h => h) (Or.inl ⟨by rfl, ?_⟩) (by assumption) ?_; (rotate_left 1); (focus (intro wz hSw; (try dsimp only at hSw); go_simp; try (with_reducible rfl))); simp only [Act.put, List.setIfInBounds_toArray, List.set_cons_zero, List.set_cons_succ]
        refine wpAnyH_take (i := 38) (oi := ⟨some 81, _, _, _, _, _⟩) (v := ?_) rfl (by kernel_rfl) (by kernel_rfl) (by kernel_rfl) (fun _ _ _ h => h) (Or.inl ⟨by rfl, ?_⟩) (by assumption) ?_; (rotate_left 1); (focus (intro wz hSw; (try dsimp only at hSw); go_simp; try (with_reducible rfl))); simp only [Act.put, List.setIfInBounds_toArray, List.set_cons_zero, List.set_cons_succ]
        refine wpAnyH_take (i := 40) (oi := ⟨some 83, _, _, _, _, _⟩) (v := ?_) rfl (by kernel_rfl) (by kernel_rfl) (by kernel_rfl) (fun _ _ _ h => h) (Or.inl ⟨by rfl, ?_⟩) (by assumption) ?_; (rotate_left 1); (focus (intro wz hSw; (try dsimp only at hSw); go_simp; try (with_reducible rfl))); simp only [Act.put, List.setIfInBounds_toArray, List.set_cons_zero, List.set_cons_succ]
        refine wpAnyH_ready (rs := [39]) (by kernel_rfl) (by simp) ?_; refine AllReadyH.cons rfl (fun K hK => ?_) AllReadyH.nil; go_simp
        refine (hGd _ hb9b).mono ?_
        rintro e wx ⟨rfl, hbx⟩
        have hX1x := hX19.bw hbx
        have hX2x := hX29.bw hbx
        have hBx := hB9.bw hbx
        have h7x : Bw w7 wx := h79.trans hbx
        have hbxb := hb9b.trans hbx
        clear hX19 hX29 hB9 h79 hb9b hbx
        (try clear hHeld); refine hK.out _ _ ?_ (fun hHeld => ?_)
        · exact ⟨⟨hX1x.c 0 _ rfl, hX1x.c 1 _ rfl, hX1x.c 2 _ rfl, hX1x.c 3 _ rfl, hX1x.c 4 _ rfl, hX1x.c 5 _ rfl⟩, ⟨hX2x.c 0 _ rfl, hX2x.c 1 _ rfl, hX2x.c 2 _ rfl, hX2x.c 3 _ rfl, hX2x.c 4 _ rfl, hX2x.c 5 _ rfl⟩, ⟨hBx.c 0 _ rfl, hBx.c 1 _ rfl, hBx.c 2 _ rfl, hBx.c 3 _ rfl, hBx.c 4 _ rfl, hBx.c 5 _ rfl⟩, conv8 ((show ∀ X, Bw w7 X → _ from HZ) _ h7x).2.2.1, conv8 ((show ∀ X, Bw w7 X → _ from HZ) _ h7x).2.2.2⟩
        refine wpAnyH_take (i := 41) (oi := ⟨some 84, _, _, _, _, _⟩) (v := ?_) rfl (by kernel_rfl) (by kernel_rfl) (by kernel_rfl) (fun _ _ _ h => h) (Or.inl ⟨by rfl, ?_⟩) (by assumption) ?_; (rotate_left 1); (focus (intro wz hSw; (try dsimp only at hSw); go_simp; try (with_reducible rfl))); simp only [Act.put, List.setIfInBounds_toArray, List.set_cons_zero, List.set_cons_succ]
        refine wpAnyH_take (i := 42) (oi := ⟨some 85, _, _, _, _, _⟩) (v := ?_) rfl (by kernel_rfl) (by kernel_rfl) (by kernel_rfl) (fun _ _ _ h => h) (Or.inl ⟨by rfl, ?_⟩) (by assumption) ?_; (rotate_left 1); (focus (intro wz hSw; (try dsimp only at hSw); go_simp; try (with_reducible rfl))); simp only [Act.put, List.setIfInBounds_toArray, List.set_cons_zero, List.set_cons_succ]
        refine wpAnyH_take (i := 43) (oi := ⟨some 4, _, _, _, _, _⟩) (v := ?_) rfl (by kernel_rfl) (by kernel_rfl) (by kernel_rfl) (fun _ _ _ h => h) (Or.inl ⟨by rfl, ?_⟩) (by assumption) ?_; (rotate_left 1); (focus (intro wz hSw; (try dsimp only at hSw); go_simp; try (with_reducible rfl))); simp only [Act.put, List.setIfInBounds_toArray, List.set_cons_zero, List.set_cons_succ]
        refine wpAnyH_done (by kernel_rfl) ?_ _
        clear hX1x hX2x hBx h7x
        go_wp2_with fail
        go_returns
        exact ⟨rfl, hbxb⟩
    · rcases (show (gd = true ∧ HH = 0) ∨ (gd = false ∧ HH = 1) from HP) with ⟨rfl, rfl⟩ | ⟨rfl, rfl⟩
      · go_wp2_with fail
        refine wp_region_held_drew (S := fun X => (X.cell? ⟨gb, 0, none⟩ = some (.slice a1 G.args.length a2) ∧ X.cell? ⟨gb, 1, none⟩ = some (.slice a3 G.input.length a4) ∧ X.cell? ⟨gb, 2, none⟩ = some (.slice a5 G.short.length a6) ∧ X.cell? ⟨gb, 3, none⟩ = some (.slice a7 G.random.length a8) ∧ X.cell? ⟨gb, 4, none⟩ = some (.slice a9 G.clock.length a10) ∧ X.cell? ⟨gb, 5, none⟩ = some (.slice a11 G.files.length a12)) ∧ (X.cell? ⟨rb, 0, none⟩ = some (.slice d1 G.args.length d2) ∧ X.cell? ⟨rb, 1, none⟩ = some (.slice d3 G.input.length d4) ∧ X.cell? ⟨rb, 2, none⟩ = some (.slice d5 G.short.length d6) ∧ X.cell? ⟨rb, 3, none⟩ = some (.slice d7 G.random.length d8) ∧ X.cell? ⟨rb, 4, none⟩ = some (.slice d9 G.clock.length d10) ∧ X.cell? ⟨rb, 5, none⟩ = some (.slice d11 G.files.length d12)) ∧ (X.cell? ⟨fb, 0, none⟩ = some (.slice q1 f.args.length q2) ∧ X.cell? ⟨fb, 1, none⟩ = some (.slice q3 f.input.length q4) ∧ X.cell? ⟨fb, 2, none⟩ = some (.slice q5 f.short.length q6) ∧ X.cell? ⟨fb, 3, none⟩ = some (.slice q7 f.random.length q8) ∧ X.cell? ⟨fb, 4, none⟩ = some (.slice q9 f.clock.length q10) ∧ X.cell? ⟨fb, 5, none⟩ = some (.slice q11 f.files.length q12)) ∧ (convert 22 9 (.slice qP PB.length c3')).run Try.prog X = .ok (.string (strOfNums PB)) X ∧ (convert 22 9 (.slice qR PB.length c4')).run Try.prog X = .ok (.string (strOfNums PB)) X) (by kernel_rfl) ⟨⟨hX17d.c 0 _ rfl, hX17d.c 1 _ rfl, hX17d.c 2 _ rfl, hX17d.c 3 _ rfl, hX17d.c 4 _ rfl, hX17d.c 5 _ rfl⟩, ⟨hX27d.c 0 _ rfl, hX27d.c 1 _ rfl, hX27d.c 2 _ rfl, hX27d.c 3 _ rfl, hX27d.c 4 _ rfl, hX27d.c 5 _ rfl⟩, ⟨hB7d.c 0 _ rfl, hB7d.c 1 _ rfl, hB7d.c 2 _ rfl, hB7d.c 3 _ rfl, hB7d.c 4 _ rfl, hB7d.c 5 _ rfl⟩, conv8 ((show ∀ X, Bw w7 X → _ from HZ) _ ((Bw.refl w7).drew)).2.2.1, conv8 ((show ∀ X, Bw w7 X → _ from HZ) _ ((Bw.refl w7).drew)).2.2.2⟩ (fun hHeld => ?_)
        refine wpAnyH_take (i := 0) (oi := ⟨some 43, _, _, _, _, _⟩) (v := ?_) rfl (by kernel_rfl) (by kernel_rfl) (by kernel_rfl) (fun _ _ _ h => h) (Or.inl ⟨by rfl, ?_⟩) (by assumption) ?_; (rotate_left 1); (focus (intro wz hSw; (try dsimp only at hSw); go_simp; try (with_reducible rfl))); simp only [Act.put, List.setIfInBounds_toArray, List.set_cons_zero, List.set_cons_succ]
        refine wpAnyH_take (i := 1) (oi := ⟨some 44, _, _, _, _, _⟩) (v := ?_) rfl (by kernel_rfl) (by kernel_rfl) (by kernel_rfl) (fun _ _ _ h => h) (Or.inl ⟨by rfl, ?_⟩) (by assumption) ?_; (rotate_left 1); (focus (intro wz hSw; (try dsimp only at hSw); go_simp; try (with_reducible rfl))); simp only [Act.put, List.setIfInBounds_toArray, List.set_cons_zero, List.set_cons_succ]
        refine wpAnyH_take (i := 2) (oi := ⟨some 45, _, _, _, _, _⟩) (v := ?_) rfl (by kernel_rfl) (by kernel_rfl) (by kernel_rfl) (fun _ _ _ h => h) (Or.inl ⟨by rfl, ?_⟩) (by assumption) ?_; (rotate_left 1); (focus (intro wz hSw; (try dsimp only at hSw); go_simp; try (with_reducible rfl))); simp only [Act.put, List.setIfInBounds_toArray, List.set_cons_zero, List.set_cons_succ]
        refine wpAnyH_take (i := 3) (oi := ⟨some 46, _, _, _, _, _⟩) (v := ?_) rfl (by kernel_rfl) (by kernel_rfl) (by kernel_rfl) (fun _ _ _ h => h) (Or.inl ⟨by rfl, ?_⟩) (by assumption) ?_; (rotate_left 1); (focus (intro wz hSw; (try dsimp only at hSw); go_simp; try (with_reducible rfl))); simp only [Act.put, List.setIfInBounds_toArray, List.set_cons_zero, List.set_cons_succ]
        refine wpAnyH_take (i := 4) (oi := ⟨some 47, _, _, _, _, _⟩) (v := ?_) rfl (by kernel_rfl) (by kernel_rfl) (by kernel_rfl) (fun _ _ _ h => h) (Or.inl ⟨by rfl, ?_⟩) (by assumption) ?_; (rotate_left 1); (focus (intro wz hSw; (try dsimp only at hSw); go_simp; try (with_reducible rfl))); simp only [Act.put, List.setIfInBounds_toArray, List.set_cons_zero, List.set_cons_succ]
        refine wpAnyH_take (i := 5) (oi := ⟨some 48, _, _, _, _, _⟩) (v := ?_) rfl (by kernel_rfl) (by kernel_rfl) (by kernel_rfl) (fun _ _ _ h => h) (Or.inl ⟨by rfl, ?_⟩) (by assumption) ?_; (rotate_left 1); (focus (intro wz hSw; (try dsimp only at hSw); go_simp; try (with_reducible rfl))); simp only [Act.put, List.setIfInBounds_toArray, List.set_cons_zero, List.set_cons_succ]
        refine wpAnyH_take (i := 6) (oi := ⟨some 49, _, _, _, _, _⟩) (v := ?_) rfl (by kernel_rfl) (by kernel_rfl) (by kernel_rfl) (fun _ _ _ h => h) (Or.inl ⟨by rfl, ?_⟩) (by assumption) ?_; (rotate_left 1); (focus (intro wz hSw; (try dsimp only at hSw); go_simp; try (with_reducible rfl))); simp only [Act.put, List.setIfInBounds_toArray, List.set_cons_zero, List.set_cons_succ]
        refine wpAnyH_take (i := 7) (oi := ⟨some 50, _, _, _, _, _⟩) (v := ?_) rfl (by kernel_rfl) (by kernel_rfl) (by kernel_rfl) (fun _ _ _ h => h) (Or.inl ⟨by rfl, ?_⟩) (by assumption) ?_; (rotate_left 1); (focus (intro wz hSw; (try dsimp only at hSw); go_simp; try (with_reducible rfl))); simp only [Act.put, List.setIfInBounds_toArray, List.set_cons_zero, List.set_cons_succ]
        refine wpAnyH_take (i := 8) (oi := ⟨some 51, _, _, _, _, _⟩) (v := ?_) rfl (by kernel_rfl) (by kernel_rfl) (by kernel_rfl) (fun _ _ _ h => h) (Or.inl ⟨by rfl, ?_⟩) (by assumption) ?_; (rotate_left 1); (focus (intro wz hSw; (try dsimp only at hSw); go_simp; try (with_reducible rfl))); simp only [Act.put, List.setIfInBounds_toArray, List.set_cons_zero, List.set_cons_succ]
        refine wpAnyH_take (i := 9) (oi := ⟨some 52, _, _, _, _, _⟩) (v := ?_) rfl (by kernel_rfl) (by kernel_rfl) (by kernel_rfl) (fun _ _ _ h => h) (Or.inl ⟨by rfl, ?_⟩) (by assumption) ?_; (rotate_left 1); (focus (intro wz hSw; (try dsimp only at hSw); go_simp; try (with_reducible rfl))); simp only [Act.put, List.setIfInBounds_toArray, List.set_cons_zero, List.set_cons_succ]
        refine wpAnyH_take (i := 10) (oi := ⟨some 53, _, _, _, _, _⟩) (v := ?_) rfl (by kernel_rfl) (by kernel_rfl) (by kernel_rfl) (fun _ _ _ h => h) (Or.inl ⟨by rfl, ?_⟩) (by assumption) ?_; (rotate_left 1); (focus (intro wz hSw; (try dsimp only at hSw); go_simp; try (with_reducible rfl))); simp only [Act.put, List.setIfInBounds_toArray, List.set_cons_zero, List.set_cons_succ]
        refine wpAnyH_take (i := 11) (oi := ⟨some 54, _, _, _, _, _⟩) (v := ?_) rfl (by kernel_rfl) (by kernel_rfl) (by kernel_rfl) (fun _ _ _ h => h) (Or.inl ⟨by rfl, ?_⟩) (by assumption) ?_; (rotate_left 1); (focus (intro wz hSw; (try dsimp only at hSw); go_simp; try (with_reducible rfl))); simp only [Act.put, List.setIfInBounds_toArray, List.set_cons_zero, List.set_cons_succ]
        refine wpAnyH_take (i := 12) (oi := ⟨some 55, _, _, _, _, _⟩) (v := ?_) rfl (by kernel_rfl) (by kernel_rfl) (by kernel_rfl) (fun _ _ _ h => h) (Or.inl ⟨by rfl, ?_⟩) (by assumption) ?_; (rotate_left 1); (focus (intro wz hSw; (try dsimp only at hSw); go_simp; try (with_reducible rfl))); simp only [Act.put, List.setIfInBounds_toArray, List.set_cons_zero, List.set_cons_succ]
        refine wpAnyH_take (i := 14) (oi := ⟨some 57, _, _, _, _, _⟩) (v := ?_) rfl (by kernel_rfl) (by kernel_rfl) (by kernel_rfl) (fun _ _ _ h => h) (Or.inl ⟨by rfl, ?_⟩) (by assumption) ?_; (rotate_left 1); (focus (intro wz hSw; (try dsimp only at hSw); go_simp; try (with_reducible rfl))); simp only [Act.put, List.setIfInBounds_toArray, List.set_cons_zero, List.set_cons_succ]
        refine wpAnyH_ready (rs := [13]) (by kernel_rfl) (by simp) ?_; refine AllReadyH.cons rfl (fun K hK => ?_) AllReadyH.nil; go_simp
        refine (fee_c _ _ _ _ _ _ G _ ((show ∀ X, Bw w7 X → _ from HZ) _ ((Bw.refl w7).drew)).1 hGl).mono ?_
        rintro e w8 ⟨ug, rfl, hvg, hb8⟩
        have hX18 := hX17d.bw hb8
        have hX28 := hX27d.bw hb8
        have hB8 := hB7d.bw hb8
        have h78 : Bw w7 w8 := ((Bw.refl w7).drew).trans hb8
        have hb8b := hb7d.trans hb8
        clear hX17d hX27d hB7d hb7d hb8
        obtain ⟨qy, cy, hfy⟩ : ∃ q c, ug = .slice q G.files.length c := by
          obtain ⟨va, vi, vs, vr, vc, vf, e, ha, hi, hs, hr, hc, hf, -⟩ := hvg
          simp at e
          obtain ⟨-, -, -, -, -, rfl⟩ := e
          exact hf.formG
        subst hfy
        (try clear hHeld); refine hK.out _ _ ?_ (fun hHeld => ?_)
        · exact ⟨⟨hX18.c 0 _ rfl, hX18.c 1 _ rfl, hX18.c 2 _ rfl, hX18.c 3 _ rfl, hX18.c 4 _ rfl, hX18.c 5 _ rfl⟩, ⟨hX28.c 0 _ rfl, hX28.c 1 _ rfl, hX28.c 2 _ rfl, hX28.c 3 _ rfl, hX28.c 4 _ rfl, hX28.c 5 _ rfl⟩, ⟨hB8.c 0 _ rfl, hB8.c 1 _ rfl, hB8.c 2 _ rfl, hB8.c 3 _ rfl, hB8.c 4 _ rfl, hB8.c 5 _ rfl⟩, conv8 ((show ∀ X, Bw w7 X → _ from HZ) _ h78).2.2.1, conv8 ((show ∀ X, Bw w7 X → _ from HZ) _ h78).2.2.2⟩
        refine wpAnyH_ready (rs := [15]) (by kernel_rfl) (by simp) ?_; refine AllReadyH.cons rfl (fun K hK => ?_) AllReadyH.nil; go_simp
        refine (rSame_c _ _ G _ hvg ((show ∀ X, Bw w7 X → _ from HZ) _ h78).2.1 hGz).mono ?_
        rintro e w9 ⟨rfl, hb9⟩
        have hX19 := hX18.bw hb9
        have hX29 := hX28.bw hb9
        have hB9 := hB8.bw hb9
        have h79 : Bw w7 w9 := h78.trans hb9
        have hb9b := hb8b.trans hb9
        clear hX18 hX28 hB8 h78 hb8b hb9 hvg
        (try clear hHeld); refine hK.out _ _ ?_ (fun hHeld => ?_)
        · exact ⟨⟨hX19.c 0 _ rfl, hX19.c 1 _ rfl, hX19.c 2 _ rfl, hX19.c 3 _ rfl, hX19.c 4 _ rfl, hX19.c 5 _ rfl⟩, ⟨hX29.c 0 _ rfl, hX29.c 1 _ rfl, hX29.c 2 _ rfl, hX29.c 3 _ rfl, hX29.c 4 _ rfl, hX29.c 5 _ rfl⟩, ⟨hB9.c 0 _ rfl, hB9.c 1 _ rfl, hB9.c 2 _ rfl, hB9.c 3 _ rfl, hB9.c 4 _ rfl, hB9.c 5 _ rfl⟩, conv8 ((show ∀ X, Bw w7 X → _ from HZ) _ h79).2.2.1, conv8 ((show ∀ X, Bw w7 X → _ from HZ) _ h79).2.2.2⟩
        refine wpAnyH_take (i := 16) (oi := ⟨some 59, _, _, _, _, _⟩) (v := ?_) rfl (by kernel_rfl) (by kernel_rfl) (by kernel_rfl) (fun _ _ _ h => h) (Or.inl ⟨by rfl, ?_⟩) (by assumption) ?_; (rotate_left 1); (focus (intro wz hSw; (try dsimp only at hSw); go_simp; try (with_reducible rfl))); simp only [Act.put, List.setIfInBounds_toArray, List.set_cons_zero, List.set_cons_succ]
        refine wpAnyH_take (i := 17) (oi := ⟨some 60, _, _, _, _, _⟩) (v := ?_) rfl (by kernel_rfl) (by kernel_rfl) (by kernel_rfl) (fun _ _ _ h => h) (Or.inl ⟨by rfl, ?_⟩) (by assumption) ?_; (rotate_left 1); (focus (intro wz hSw; (try dsimp only at hSw); go_simp; try (with_reducible rfl))); simp only [Act.put, List.setIfInBounds_toArray, List.set_cons_zero, List.set_cons_succ]
        refine wpAnyH_take (i := 18) (oi := ⟨some 61, _, _, _, _, _⟩) (v := ?_) rfl (by kernel_rfl) (by kernel_rfl) (by kernel_rfl) (fun _ _ _ h => h) (Or.inl ⟨by rfl, ?_⟩) (by assumption) ?_; (rotate_left 1); (focus (intro wz hSw; (try dsimp only at hSw); go_simp; try (with_reducible rfl))); simp only [Act.put, List.setIfInBounds_toArray, List.set_cons_zero, List.set_cons_succ]
        refine wpAnyH_take (i := 19) (oi := ⟨some 62, _, _, _, _, _⟩) (v := ?_) rfl (by kernel_rfl) (by kernel_rfl) (by kernel_rfl) (fun _ _ _ h => h) (Or.inl ⟨by rfl, ?_⟩) (by assumption) ?_; (rotate_left 1); (focus (intro wz hSw; (try dsimp only at hSw); go_simp; try (with_reducible rfl))); simp only [Act.put, List.setIfInBounds_toArray, List.set_cons_zero, List.set_cons_succ]
        refine wpAnyH_take (i := 20) (oi := ⟨some 63, _, _, _, _, _⟩) (v := ?_) rfl (by kernel_rfl) (by kernel_rfl) (by kernel_rfl) (fun _ _ _ h => h) (Or.inl ⟨by rfl, ?_⟩) (by assumption) ?_; (rotate_left 1); (focus (intro wz hSw; (try dsimp only at hSw); go_simp; try (with_reducible rfl))); simp only [Act.put, List.setIfInBounds_toArray, List.set_cons_zero, List.set_cons_succ]
        refine wpAnyH_take (i := 21) (oi := ⟨some 64, _, _, _, _, _⟩) (v := ?_) rfl (by kernel_rfl) (by kernel_rfl) (by kernel_rfl) (fun _ _ _ h => h) (Or.inl ⟨by rfl, ?_⟩) (by assumption) ?_; (rotate_left 1); (focus (intro wz hSw; (try dsimp only at hSw); go_simp; try (with_reducible rfl))); simp only [Act.put, List.setIfInBounds_toArray, List.set_cons_zero, List.set_cons_succ]
        refine wpAnyH_take (i := 22) (oi := ⟨some 65, _, _, _, _, _⟩) (v := ?_) rfl (by kernel_rfl) (by kernel_rfl) (by kernel_rfl) (fun _ _ _ h => h) (Or.inl ⟨by rfl, ?_⟩) (by assumption) ?_; (rotate_left 1); (focus (intro wz hSw; (try dsimp only at hSw); go_simp; try (with_reducible rfl))); simp only [Act.put, List.setIfInBounds_toArray, List.set_cons_zero, List.set_cons_succ]
        refine wpAnyH_take (i := 23) (oi := ⟨some 66, _, _, _, _, _⟩) (v := ?_) rfl (by kernel_rfl) (by kernel_rfl) (by kernel_rfl) (fun _ _ _ h => h) (Or.inl ⟨by rfl, ?_⟩) (by assumption) ?_; (rotate_left 1); (focus (intro wz hSw; (try dsimp only at hSw); go_simp; try (with_reducible rfl))); simp only [Act.put, List.setIfInBounds_toArray, List.set_cons_zero, List.set_cons_succ]
        refine wpAnyH_take (i := 24) (oi := ⟨some 67, _, _, _, _, _⟩) (v := ?_) rfl (by kernel_rfl) (by kernel_rfl) (by kernel_rfl) (fun _ _ _ h => h) (Or.inl ⟨by rfl, ?_⟩) (by assumption) ?_; (rotate_left 1); (focus (intro wz hSw; (try dsimp only at hSw); go_simp; try (with_reducible rfl))); simp only [Act.put, List.setIfInBounds_toArray, List.set_cons_zero, List.set_cons_succ]
        refine wpAnyH_take (i := 25) (oi := ⟨some 68, _, _, _, _, _⟩) (v := ?_) rfl (by kernel_rfl) (by kernel_rfl) (by kernel_rfl) (fun _ _ _ h => h) (Or.inl ⟨by rfl, ?_⟩) (by assumption) ?_; (rotate_left 1); (focus (intro wz hSw; (try dsimp only at hSw); go_simp; try (with_reducible rfl))); simp only [Act.put, List.setIfInBounds_toArray, List.set_cons_zero, List.set_cons_succ]
        refine wpAnyH_take (i := 26) (oi := ⟨some 69, _, _, _, _, _⟩) (v := undef) rfl (by kernel_rfl) (by kernel_rfl) (by kernel_rfl) (fun _ _ _ h => h) (Or.inr ⟨by rfl, rfl⟩) (by assumption) ?_; simp only [Act.put, List.setIfInBounds_toArray, List.set_cons_zero, List.set_cons_succ]
        refine wpAnyH_take (i := 27) (oi := ⟨some 70, _, _, _, _, _⟩) (v := undef) rfl (by kernel_rfl) (by kernel_rfl) (by kernel_rfl) (fun _ _ _ h => h) (Or.inr ⟨by rfl, rfl⟩) (by assumption) ?_; simp only [Act.put, List.setIfInBounds_toArray, List.set_cons_zero, List.set_cons_succ]
        refine wpAnyH_take (i := 28) (oi := ⟨some 71, _, _, _, _, _⟩) (v := ?_) rfl (by kernel_rfl) (by kernel_rfl) (by kernel_rfl) (fun _ _ _ h => h) (Or.inl ⟨by rfl, ?_⟩) (by assumption) ?_; (rotate_left 1); (focus (intro wz hSw; (try dsimp only at hSw); go_simp; try (with_reducible rfl))); simp only [Act.put, List.setIfInBounds_toArray, List.set_cons_zero, List.set_cons_succ]
        refine wpAnyH_take (i := 29) (oi := ⟨some 72, _, _, _, _, _⟩) (v := ?_) rfl (by kernel_rfl) (by kernel_rfl) (by kernel_rfl) (fun _ _ _ h => h) (Or.inl ⟨by rfl, ?_⟩) (by assumption) ?_; (rotate_left 1); (focus (intro wz hSw; (try dsimp only at hSw); go_simp; try (with_reducible rfl))); simp only [Act.put, List.setIfInBounds_toArray, List.set_cons_zero, List.set_cons_succ]
        refine wpAnyH_take (i := 30) (oi := ⟨some 73, _, _, _, _, _⟩) (v := ?_) rfl (by kernel_rfl) (by kernel_rfl) (by kernel_rfl) (fun _ _ _ h => h) (Or.inl ⟨by rfl, ?_⟩) (by assumption) ?_; (rotate_left 1); (focus (intro wz hSw; (try dsimp only at hSw); go_simp; try (with_reducible rfl))); simp only [Act.put, List.setIfInBounds_toArray, List.set_cons_zero, List.set_cons_succ]
        refine wpAnyH_take (i := 31) (oi := ⟨some 74, _, _, _, _, _⟩) (v := ?_) rfl (by kernel_rfl) (by kernel_rfl) (by kernel_rfl) (fun _ _ _ h => h) (Or.inl ⟨by rfl, ?_⟩) (by assumption) ?_; (rotate_left 1); (focus (intro wz hSw; (try dsimp only at hSw); go_simp; try (with_reducible rfl))); simp only [Act.put, List.setIfInBounds_toArray, List.set_cons_zero, List.set_cons_succ]
        refine wpAnyH_take (i := 32) (oi := ⟨some 75, _, _, _, _, _⟩) (v := ?_) rfl (by kernel_rfl) (by kernel_rfl) (by kernel_rfl) (fun _ _ _ h => h) (Or.inl ⟨by rfl, ?_⟩) (by assumption) ?_; (rotate_left 1); (focus (intro wz hSw; (try dsimp only at hSw); go_simp; try (with_reducible rfl))); simp only [Act.put, List.setIfInBounds_toArray, List.set_cons_zero, List.set_cons_succ]
        refine wpAnyH_take (i := 33) (oi := ⟨some 76, _, _, _, _, _⟩) (v := ?_) rfl (by kernel_rfl) (by kernel_rfl) (by kernel_rfl) (fun _ _ _ h => h) (Or.inl ⟨by rfl, ?_⟩) (by assumption) ?_; (rotate_left 1); (focus (intro wz hSw; (try dsimp only at hSw); go_simp; try (with_reducible rfl))); simp only [Act.put, List.setIfInBounds_toArray, List.set_cons_zero, List.set_cons_succ]
        refine wpAnyH_take (i := 34) (oi := ⟨some 77, _, _, _, _, _⟩) (v := ?_) rfl (by kernel_rfl) (by kernel_rfl) (by kernel_rfl) (fun _ _ _ h => h) (Or.inl ⟨by rfl, ?_⟩) (by assumption) ?_; (rotate_left 1); (focus (intro wz hSw; (try dsimp only at hSw); go_simp; try (with_reducible rfl))); simp only [Act.put, List.setIfInBounds_toArray, List.set_cons_zero, List.set_cons_succ]
        refine wpAnyH_take (i := 35) (oi := ⟨some 78, _, _, _, _, _⟩) (v := ?_) rfl (by kernel_rfl) (by kernel_rfl) (by kernel_rfl) (fun _ _ _ h => h) (Or.inl ⟨by rfl, ?_⟩) (by assumption) ?_; (rotate_left 1); (focus (intro wz hSw; (try dsimp only at hSw); go_simp; try (with_reducible rfl))); simp only [Act.put, List.setIfInBounds_toArray, List.set_cons_zero, List.set_cons_succ]
        refine wpAnyH_take (i := 36) (oi := ⟨some 79, _, _, _, _, _⟩) (v := ?_) rfl (by kernel_rfl) (by kernel_rfl) (by kernel_rfl) (fun _ _ _ h => h) (Or.inl ⟨by rfl, ?_⟩) (by assumption) ?_; (rotate_left 1); (focus (intro wz hSw; (try dsimp only at hSw); go_simp; try (with_reducible rfl))); simp only [Act.put, List.setIfInBounds_toArray, List.set_cons_zero, List.set_cons_succ]
        refine wpAnyH_take (i := 37) (oi := ⟨some 80, _, _, _, _, _⟩) (v := ?_) rfl (by kernel_rfl) (by kernel_rfl) (by kernel_rfl) (fun _ _ _ h => h) (Or.inl ⟨by rfl, ?_⟩) (by assumption) ?_; (rotate_left 1); (focus (intro wz hSw; (try dsimp only at hSw); go_simp; try (with_reducible rfl))); simp only [Act.put, List.setIfInBounds_toArray, List.set_cons_zero, List.set_cons_succ]
        refine wpAnyH_take (i := 38) (oi := ⟨some 81, _, _, _, _, _⟩) (v := ?_) rfl (by kernel_rfl) (by kernel_rfl) (by kernel_rfl) (fun _ _ _ h => h) (Or.inl ⟨by rfl, ?_⟩) (by assumption) ?_; (rotate_left 1); (focus (intro wz hSw; (try dsimp only at hSw); go_simp; try (with_reducible rfl))); simp only [Act.put, List.setIfInBounds_toArray, List.set_cons_zero, List.set_cons_succ]
        refine wpAnyH_take (i := 40) (oi := ⟨some 83, _, _, _, _, _⟩) (v := ?_) rfl (by kernel_rfl) (by kernel_rfl) (by kernel_rfl) (fun _ _ _ h => h) (Or.inl ⟨by rfl, ?_⟩) (by assumption) ?_; (rotate_left 1); (focus (intro wz hSw; (try dsimp only at hSw); go_simp; try (with_reducible rfl))); simp only [Act.put, List.setIfInBounds_toArray, List.set_cons_zero, List.set_cons_succ]
        refine wpAnyH_ready (rs := [39]) (by kernel_rfl) (by simp) ?_; refine AllReadyH.cons rfl (fun K hK => ?_) AllReadyH.nil; go_simp
        refine (hGd _ hb9b).mono ?_
        rintro e wx ⟨rfl, hbx⟩
        have hX1x := hX19.bw hbx
        have hX2x := hX29.bw hbx
        have hBx := hB9.bw hbx
        have h7x : Bw w7 wx := h79.trans hbx
        have hbxb := hb9b.trans hbx
        clear hX19 hX29 hB9 h79 hb9b hbx
        (try clear hHeld); refine hK.out _ _ ?_ (fun hHeld => ?_)
        · exact ⟨⟨hX1x.c 0 _ rfl, hX1x.c 1 _ rfl, hX1x.c 2 _ rfl, hX1x.c 3 _ rfl, hX1x.c 4 _ rfl, hX1x.c 5 _ rfl⟩, ⟨hX2x.c 0 _ rfl, hX2x.c 1 _ rfl, hX2x.c 2 _ rfl, hX2x.c 3 _ rfl, hX2x.c 4 _ rfl, hX2x.c 5 _ rfl⟩, ⟨hBx.c 0 _ rfl, hBx.c 1 _ rfl, hBx.c 2 _ rfl, hBx.c 3 _ rfl, hBx.c 4 _ rfl, hBx.c 5 _ rfl⟩, conv8 ((show ∀ X, Bw w7 X → _ from HZ) _ h7x).2.2.1, conv8 ((show ∀ X, Bw w7 X → _ from HZ) _ h7x).2.2.2⟩
        refine wpAnyH_take (i := 41) (oi := ⟨some 84, _, _, _, _, _⟩) (v := ?_) rfl (by kernel_rfl) (by kernel_rfl) (by kernel_rfl) (fun _ _ _ h => h) (Or.inl ⟨by rfl, ?_⟩) (by assumption) ?_; (rotate_left 1); (focus (intro wz hSw; (try dsimp only at hSw); go_simp; try (with_reducible rfl))); simp only [Act.put, List.setIfInBounds_toArray, List.set_cons_zero, List.set_cons_succ]
        refine wpAnyH_take (i := 42) (oi := ⟨some 85, _, _, _, _, _⟩) (v := ?_) rfl (by kernel_rfl) (by kernel_rfl) (by kernel_rfl) (fun _ _ _ h => h) (Or.inl ⟨by rfl, ?_⟩) (by assumption) ?_; (rotate_left 1); (focus (intro wz hSw; (try dsimp only at hSw); go_simp; try (with_reducible rfl))); simp only [Act.put, List.setIfInBounds_toArray, List.set_cons_zero, List.set_cons_succ]
        refine wpAnyH_take (i := 43) (oi := ⟨some 4, _, _, _, _, _⟩) (v := ?_) rfl (by kernel_rfl) (by kernel_rfl) (by kernel_rfl) (fun _ _ _ h => h) (Or.inl ⟨by rfl, ?_⟩) (by assumption) ?_; (rotate_left 1); (focus (intro wz hSw; (try dsimp only at hSw); go_simp; try (with_reducible rfl))); simp only [Act.put, List.setIfInBounds_toArray, List.set_cons_zero, List.set_cons_succ]
        refine wpAnyH_done (by kernel_rfl) ?_ _
        clear hX1x hX2x hBx h7x
        go_wp2_with fail
        go_returns
        exact ⟨rfl, hbxb⟩
      · go_wp2_with fail
        refine wp_region_held_drew (S := fun X => (X.cell? ⟨gb, 0, none⟩ = some (.slice a1 G.args.length a2) ∧ X.cell? ⟨gb, 1, none⟩ = some (.slice a3 G.input.length a4) ∧ X.cell? ⟨gb, 2, none⟩ = some (.slice a5 G.short.length a6) ∧ X.cell? ⟨gb, 3, none⟩ = some (.slice a7 G.random.length a8) ∧ X.cell? ⟨gb, 4, none⟩ = some (.slice a9 G.clock.length a10) ∧ X.cell? ⟨gb, 5, none⟩ = some (.slice a11 G.files.length a12)) ∧ (X.cell? ⟨rb, 0, none⟩ = some (.slice d1 G.args.length d2) ∧ X.cell? ⟨rb, 1, none⟩ = some (.slice d3 G.input.length d4) ∧ X.cell? ⟨rb, 2, none⟩ = some (.slice d5 G.short.length d6) ∧ X.cell? ⟨rb, 3, none⟩ = some (.slice d7 G.random.length d8) ∧ X.cell? ⟨rb, 4, none⟩ = some (.slice d9 G.clock.length d10) ∧ X.cell? ⟨rb, 5, none⟩ = some (.slice d11 G.files.length d12)) ∧ (X.cell? ⟨fb, 0, none⟩ = some (.slice q1 f.args.length q2) ∧ X.cell? ⟨fb, 1, none⟩ = some (.slice q3 f.input.length q4) ∧ X.cell? ⟨fb, 2, none⟩ = some (.slice q5 f.short.length q6) ∧ X.cell? ⟨fb, 3, none⟩ = some (.slice q7 f.random.length q8) ∧ X.cell? ⟨fb, 4, none⟩ = some (.slice q9 f.clock.length q10) ∧ X.cell? ⟨fb, 5, none⟩ = some (.slice q11 f.files.length q12)) ∧ (convert 22 9 (.slice qP PB.length c3')).run Try.prog X = .ok (.string (strOfNums PB)) X ∧ (convert 22 9 (.slice qR PB.length c4')).run Try.prog X = .ok (.string (strOfNums PB)) X) (by kernel_rfl) ⟨⟨hX17d.c 0 _ rfl, hX17d.c 1 _ rfl, hX17d.c 2 _ rfl, hX17d.c 3 _ rfl, hX17d.c 4 _ rfl, hX17d.c 5 _ rfl⟩, ⟨hX27d.c 0 _ rfl, hX27d.c 1 _ rfl, hX27d.c 2 _ rfl, hX27d.c 3 _ rfl, hX27d.c 4 _ rfl, hX27d.c 5 _ rfl⟩, ⟨hB7d.c 0 _ rfl, hB7d.c 1 _ rfl, hB7d.c 2 _ rfl, hB7d.c 3 _ rfl, hB7d.c 4 _ rfl, hB7d.c 5 _ rfl⟩, conv8 ((show ∀ X, Bw w7 X → _ from HZ) _ ((Bw.refl w7).drew)).2.2.1, conv8 ((show ∀ X, Bw w7 X → _ from HZ) _ ((Bw.refl w7).drew)).2.2.2⟩ (fun hHeld => ?_)
        refine wpAnyH_take (i := 0) (oi := ⟨some 43, _, _, _, _, _⟩) (v := ?_) rfl (by kernel_rfl) (by kernel_rfl) (by kernel_rfl) (fun _ _ _ h => h) (Or.inl ⟨by rfl, ?_⟩) (by assumption) ?_; (rotate_left 1); (focus (intro wz hSw; (try dsimp only at hSw); go_simp; try (with_reducible rfl))); simp only [Act.put, List.setIfInBounds_toArray, List.set_cons_zero, List.set_cons_succ]
        refine wpAnyH_take (i := 1) (oi := ⟨some 44, _, _, _, _, _⟩) (v := ?_) rfl (by kernel_rfl) (by kernel_rfl) (by kernel_rfl) (fun _ _ _ h => h) (Or.inl ⟨by rfl, ?_⟩) (by assumption) ?_; (rotate_left 1); (focus (intro wz hSw; (try dsimp only at hSw); go_simp; try (with_reducible rfl))); simp only [Act.put, List.setIfInBounds_toArray, List.set_cons_zero, List.set_cons_succ]
        refine wpAnyH_take (i := 2) (oi := ⟨some 45, _, _, _, _, _⟩) (v := ?_) rfl (by kernel_rfl) (by kernel_rfl) (by kernel_rfl) (fun _ _ _ h => h) (Or.inl ⟨by rfl, ?_⟩) (by assumption) ?_; (rotate_left 1); (focus (intro wz hSw; (try dsimp only at hSw); go_simp; try (with_reducible rfl))); simp only [Act.put, List.setIfInBounds_toArray, List.set_cons_zero, List.set_cons_succ]
        refine wpAnyH_take (i := 3) (oi := ⟨some 46, _, _, _, _, _⟩) (v := ?_) rfl (by kernel_rfl) (by kernel_rfl) (by kernel_rfl) (fun _ _ _ h => h) (Or.inl ⟨by rfl, ?_⟩) (by assumption) ?_; (rotate_left 1); (focus (intro wz hSw; (try dsimp only at hSw); go_simp; try (with_reducible rfl))); simp only [Act.put, List.setIfInBounds_toArray, List.set_cons_zero, List.set_cons_succ]
        refine wpAnyH_take (i := 4) (oi := ⟨some 47, _, _, _, _, _⟩) (v := ?_) rfl (by kernel_rfl) (by kernel_rfl) (by kernel_rfl) (fun _ _ _ h => h) (Or.inl ⟨by rfl, ?_⟩) (by assumption) ?_; (rotate_left 1); (focus (intro wz hSw; (try dsimp only at hSw); go_simp; try (with_reducible rfl))); simp only [Act.put, List.setIfInBounds_toArray, List.set_cons_zero, List.set_cons_succ]
        refine wpAnyH_take (i := 5) (oi := ⟨some 48, _, _, _, _, _⟩) (v := ?_) rfl (by kernel_rfl) (by kernel_rfl) (by kernel_rfl) (fun _ _ _ h => h) (Or.inl ⟨by rfl, ?_⟩) (by assumption) ?_; (rotate_left 1); (focus (intro wz hSw; (try dsimp only at hSw); go_simp; try (with_reducible rfl))); simp only [Act.put, List.setIfInBounds_toArray, List.set_cons_zero, List.set_cons_succ]
        refine wpAnyH_take (i := 6) (oi := ⟨some 49, _, _, _, _, _⟩) (v := ?_) rfl (by kernel_rfl) (by kernel_rfl) (by kernel_rfl) (fun _ _ _ h => h) (Or.inl ⟨by rfl, ?_⟩) (by assumption) ?_; (rotate_left 1); (focus (intro wz hSw; (try dsimp only at hSw); go_simp; try (with_reducible rfl))); simp only [Act.put, List.setIfInBounds_toArray, List.set_cons_zero, List.set_cons_succ]
        refine wpAnyH_take (i := 7) (oi := ⟨some 50, _, _, _, _, _⟩) (v := ?_) rfl (by kernel_rfl) (by kernel_rfl) (by kernel_rfl) (fun _ _ _ h => h) (Or.inl ⟨by rfl, ?_⟩) (by assumption) ?_; (rotate_left 1); (focus (intro wz hSw; (try dsimp only at hSw); go_simp; try (with_reducible rfl))); simp only [Act.put, List.setIfInBounds_toArray, List.set_cons_zero, List.set_cons_succ]
        refine wpAnyH_take (i := 8) (oi := ⟨some 51, _, _, _, _, _⟩) (v := ?_) rfl (by kernel_rfl) (by kernel_rfl) (by kernel_rfl) (fun _ _ _ h => h) (Or.inl ⟨by rfl, ?_⟩) (by assumption) ?_; (rotate_left 1); (focus (intro wz hSw; (try dsimp only at hSw); go_simp; try (with_reducible rfl))); simp only [Act.put, List.setIfInBounds_toArray, List.set_cons_zero, List.set_cons_succ]
        refine wpAnyH_take (i := 9) (oi := ⟨some 52, _, _, _, _, _⟩) (v := ?_) rfl (by kernel_rfl) (by kernel_rfl) (by kernel_rfl) (fun _ _ _ h => h) (Or.inl ⟨by rfl, ?_⟩) (by assumption) ?_; (rotate_left 1); (focus (intro wz hSw; (try dsimp only at hSw); go_simp; try (with_reducible rfl))); simp only [Act.put, List.setIfInBounds_toArray, List.set_cons_zero, List.set_cons_succ]
        refine wpAnyH_take (i := 10) (oi := ⟨some 53, _, _, _, _, _⟩) (v := ?_) rfl (by kernel_rfl) (by kernel_rfl) (by kernel_rfl) (fun _ _ _ h => h) (Or.inl ⟨by rfl, ?_⟩) (by assumption) ?_; (rotate_left 1); (focus (intro wz hSw; (try dsimp only at hSw); go_simp; try (with_reducible rfl))); simp only [Act.put, List.setIfInBounds_toArray, List.set_cons_zero, List.set_cons_succ]
        refine wpAnyH_take (i := 11) (oi := ⟨some 54, _, _, _, _, _⟩) (v := ?_) rfl (by kernel_rfl) (by kernel_rfl) (by kernel_rfl) (fun _ _ _ h => h) (Or.inl ⟨by rfl, ?_⟩) (by assumption) ?_; (rotate_left 1); (focus (intro wz hSw; (try dsimp only at hSw); go_simp; try (with_reducible rfl))); simp only [Act.put, List.setIfInBounds_toArray, List.set_cons_zero, List.set_cons_succ]
        refine wpAnyH_take (i := 12) (oi := ⟨some 55, _, _, _, _, _⟩) (v := ?_) rfl (by kernel_rfl) (by kernel_rfl) (by kernel_rfl) (fun _ _ _ h => h) (Or.inl ⟨by rfl, ?_⟩) (by assumption) ?_; (rotate_left 1); (focus (intro wz hSw; (try dsimp only at hSw); go_simp; try (with_reducible rfl))); simp only [Act.put, List.setIfInBounds_toArray, List.set_cons_zero, List.set_cons_succ]
        refine wpAnyH_take (i := 14) (oi := ⟨some 57, _, _, _, _, _⟩) (v := ?_) rfl (by kernel_rfl) (by kernel_rfl) (by kernel_rfl) (fun _ _ _ h => h) (Or.inl ⟨by rfl, ?_⟩) (by assumption) ?_; (rotate_left 1); (focus (intro wz hSw; (try dsimp only at hSw); go_simp; try (with_reducible rfl))); simp only [Act.put, List.setIfInBounds_toArray, List.set_cons_zero, List.set_cons_succ]
        refine wpAnyH_ready (rs := [13]) (by kernel_rfl) (by simp) ?_; refine AllReadyH.cons rfl (fun K hK => ?_) AllReadyH.nil; go_simp
        refine (fee_c _ _ _ _ _ _ G _ ((show ∀ X, Bw w7 X → _ from HZ) _ ((Bw.refl w7).drew)).1 hGl).mono ?_
        rintro e w8 ⟨ug, rfl, hvg, hb8⟩
        have hX18 := hX17d.bw hb8
        have hX28 := hX27d.bw hb8
        have hB8 := hB7d.bw hb8
        have h78 : Bw w7 w8 := ((Bw.refl w7).drew).trans hb8
        have hb8b := hb7d.trans hb8
        clear hX17d hX27d hB7d hb7d hb8
        obtain ⟨qy, cy, hfy⟩ : ∃ q c, ug = .slice q G.files.length c := by
          obtain ⟨va, vi, vs, vr, vc, vf, e, ha, hi, hs, hr, hc, hf, -⟩ := hvg
          simp at e
          obtain ⟨-, -, -, -, -, rfl⟩ := e
          exact hf.formG
        subst hfy
        (try clear hHeld); refine hK.out _ _ ?_ (fun hHeld => ?_)
        · exact ⟨⟨hX18.c 0 _ rfl, hX18.c 1 _ rfl, hX18.c 2 _ rfl, hX18.c 3 _ rfl, hX18.c 4 _ rfl, hX18.c 5 _ rfl⟩, ⟨hX28.c 0 _ rfl, hX28.c 1 _ rfl, hX28.c 2 _ rfl, hX28.c 3 _ rfl, hX28.c 4 _ rfl, hX28.c 5 _ rfl⟩, ⟨hB8.c 0 _ rfl, hB8.c 1 _ rfl, hB8.c 2 _ rfl, hB8.c 3 _ rfl, hB8.c 4 _ rfl, hB8.c 5 _ rfl⟩, conv8 ((show ∀ X, Bw w7 X → _ from HZ) _ h78).2.2.1, conv8 ((show ∀ X, Bw w7 X → _ from HZ) _ h78).2.2.2⟩
        refine wpAnyH_ready (rs := [15]) (by kernel_rfl) (by simp) ?_; refine AllReadyH.cons rfl (fun K hK => ?_) AllReadyH.nil; go_simp
        refine (rSame_c _ _ G _ hvg ((show ∀ X, Bw w7 X → _ from HZ) _ h78).2.1 hGz).mono ?_
        rintro e w9 ⟨rfl, hb9⟩
        have hX19 := hX18.bw hb9
        have hX29 := hX28.bw hb9
        have hB9 := hB8.bw hb9
        have h79 : Bw w7 w9 := h78.trans hb9
        have hb9b := hb8b.trans hb9
        clear hX18 hX28 hB8 h78 hb8b hb9 hvg
        (try clear hHeld); refine hK.out _ _ ?_ (fun hHeld => ?_)
        · exact ⟨⟨hX19.c 0 _ rfl, hX19.c 1 _ rfl, hX19.c 2 _ rfl, hX19.c 3 _ rfl, hX19.c 4 _ rfl, hX19.c 5 _ rfl⟩, ⟨hX29.c 0 _ rfl, hX29.c 1 _ rfl, hX29.c 2 _ rfl, hX29.c 3 _ rfl, hX29.c 4 _ rfl, hX29.c 5 _ rfl⟩, ⟨hB9.c 0 _ rfl, hB9.c 1 _ rfl, hB9.c 2 _ rfl, hB9.c 3 _ rfl, hB9.c 4 _ rfl, hB9.c 5 _ rfl⟩, conv8 ((show ∀ X, Bw w7 X → _ from HZ) _ h79).2.2.1, conv8 ((show ∀ X, Bw w7 X → _ from HZ) _ h79).2.2.2⟩
        refine wpAnyH_take (i := 16) (oi := ⟨some 59, _, _, _, _, _⟩) (v := ?_) rfl (by kernel_rfl) (by kernel_rfl) (by kernel_rfl) (fun _ _ _ h => h) (Or.inl ⟨by rfl, ?_⟩) (by assumption) ?_; (rotate_left 1); (focus (intro wz hSw; (try dsimp only at hSw); go_simp; try (with_reducible rfl))); simp only [Act.put, List.setIfInBounds_toArray, List.set_cons_zero, List.set_cons_succ]
        refine wpAnyH_take (i := 17) (oi := ⟨some 60, _, _, _, _, _⟩) (v := ?_) rfl (by kernel_rfl) (by kernel_rfl) (by kernel_rfl) (fun _ _ _ h => h) (Or.inl ⟨by rfl, ?_⟩) (by assumption) ?_; (rotate_left 1); (focus (intro wz hSw; (try dsimp only at hSw); go_simp; try (with_reducible rfl))); simp only [Act.put, List.setIfInBounds_toArray, List.set_cons_zero, List.set_cons_succ]
        refine wpAnyH_take (i := 18) (oi := ⟨some 61, _, _, _, _, _⟩) (v := ?_) rfl (by kernel_rfl) (by kernel_rfl) (by kernel_rfl) (fun _ _ _ h => h) (Or.inl ⟨by rfl, ?_⟩) (by assumption) ?_; (rotate_left 1); (focus (intro wz hSw; (try dsimp only at hSw); go_simp; try (with_reducible rfl))); simp only [Act.put, List.setIfInBounds_toArray, List.set_cons_zero, List.set_cons_succ]
        refine wpAnyH_take (i := 19) (oi := ⟨some 62, _, _, _, _, _⟩) (v := ?_) rfl (by kernel_rfl) (by kernel_rfl) (by kernel_rfl) (fun _ _ _ h => h) (Or.inl ⟨by rfl, ?_⟩) (by assumption) ?_; (rotate_left 1); (focus (intro wz hSw; (try dsimp only at hSw); go_simp; try (with_reducible rfl))); simp only [Act.put, List.setIfInBounds_toArray, List.set_cons_zero, List.set_cons_succ]
        refine wpAnyH_take (i := 20) (oi := ⟨some 63, _, _, _, _, _⟩) (v := ?_) rfl (by kernel_rfl) (by kernel_rfl) (by kernel_rfl) (fun _ _ _ h => h) (Or.inl ⟨by rfl, ?_⟩) (by assumption) ?_; (rotate_left 1); (focus (intro wz hSw; (try dsimp only at hSw); go_simp; try (with_reducible rfl))); simp only [Act.put, List.setIfInBounds_toArray, List.set_cons_zero, List.set_cons_succ]
        refine wpAnyH_take (i := 21) (oi := ⟨some 64, _, _, _, _, _⟩) (v := ?_) rfl (by kernel_rfl) (by kernel_rfl) (by kernel_rfl) (fun _ _ _ h => h) (Or.inl ⟨by rfl, ?_⟩) (by assumption) ?_; (rotate_left 1); (focus (intro wz hSw; (try dsimp only at hSw); go_simp; try (with_reducible rfl))); simp only [Act.put, List.setIfInBounds_toArray, List.set_cons_zero, List.set_cons_succ]
        refine wpAnyH_take (i := 22) (oi := ⟨some 65, _, _, _, _, _⟩) (v := ?_) rfl (by kernel_rfl) (by kernel_rfl) (by kernel_rfl) (fun _ _ _ h => h) (Or.inl ⟨by rfl, ?_⟩) (by assumption) ?_; (rotate_left 1); (focus (intro wz hSw; (try dsimp only at hSw); go_simp; try (with_reducible rfl))); simp only [Act.put, List.setIfInBounds_toArray, List.set_cons_zero, List.set_cons_succ]
        refine wpAnyH_take (i := 23) (oi := ⟨some 66, _, _, _, _, _⟩) (v := ?_) rfl (by kernel_rfl) (by kernel_rfl) (by kernel_rfl) (fun _ _ _ h => h) (Or.inl ⟨by rfl, ?_⟩) (by assumption) ?_; (rotate_left 1); (focus (intro wz hSw; (try dsimp only at hSw); go_simp; try (with_reducible rfl))); simp only [Act.put, List.setIfInBounds_toArray, List.set_cons_zero, List.set_cons_succ]
        refine wpAnyH_take (i := 24) (oi := ⟨some 67, _, _, _, _, _⟩) (v := ?_) rfl (by kernel_rfl) (by kernel_rfl) (by kernel_rfl) (fun _ _ _ h => h) (Or.inl ⟨by rfl, ?_⟩) (by assumption) ?_; (rotate_left 1); (focus (intro wz hSw; (try dsimp only at hSw); go_simp; try (with_reducible rfl))); simp only [Act.put, List.setIfInBounds_toArray, List.set_cons_zero, List.set_cons_succ]
        refine wpAnyH_take (i := 25) (oi := ⟨some 68, _, _, _, _, _⟩) (v := ?_) rfl (by kernel_rfl) (by kernel_rfl) (by kernel_rfl) (fun _ _ _ h => h) (Or.inl ⟨by rfl, ?_⟩) (by assumption) ?_; (rotate_left 1); (focus (intro wz hSw; (try dsimp only at hSw); go_simp; try (with_reducible rfl))); simp only [Act.put, List.setIfInBounds_toArray, List.set_cons_zero, List.set_cons_succ]
        refine wpAnyH_take (i := 26) (oi := ⟨some 69, _, _, _, _, _⟩) (v := ?_) rfl (by kernel_rfl) (by kernel_rfl) (by kernel_rfl) (fun _ _ _ h => h) (Or.inl ⟨by rfl, ?_⟩) (by assumption) ?_; (rotate_left 1); (focus (intro wz hSw; (try dsimp only at hSw); go_simp; try (with_reducible rfl))); simp only [Act.put, List.setIfInBounds_toArray, List.set_cons_zero, List.set_cons_succ]
        refine wpAnyH_take (i := 27) (oi := ⟨some 70, _, _, _, _, _⟩) (v := ?_) rfl (by kernel_rfl) (by kernel_rfl) (by kernel_rfl) (fun _ _ _ h => h) (Or.inl ⟨by rfl, ?_⟩) (by assumption) ?_; (rotate_left 1); (focus (intro wz hSw; (try dsimp only at hSw); go_simp; try (with_reducible rfl))); simp only [Act.put, List.setIfInBounds_toArray, List.set_cons_zero, List.set_cons_succ]
        refine wpAnyH_take (i := 28) (oi := ⟨some 71, _, _, _, _, _⟩) (v := ?_) rfl (by kernel_rfl) (by kernel_rfl) (by kernel_rfl) (fun _ _ _ h => h) (Or.inl ⟨by rfl, ?_⟩) (by assumption) ?_; (rotate_left 1); (focus (intro wz hSw; (try dsimp only at hSw); go_simp; try (with_reducible rfl))); simp only [Act.put, List.setIfInBounds_toArray, List.set_cons_zero, List.set_cons_succ]
        refine wpAnyH_take (i := 29) (oi := ⟨some 72, _, _, _, _, _⟩) (v := ?_) rfl (by kernel_rfl) (by kernel_rfl) (by kernel_rfl) (fun _ _ _ h => h) (Or.inl ⟨by rfl, ?_⟩) (by assumption) ?_; (rotate_left 1); (focus (intro wz hSw; (try dsimp only at hSw); go_simp; try (with_reducible rfl))); simp only [Act.put, List.setIfInBounds_toArray, List.set_cons_zero, List.set_cons_succ]
        refine wpAnyH_take (i := 30) (oi := ⟨some 73, _, _, _, _, _⟩) (v := ?_) rfl (by kernel_rfl) (by kernel_rfl) (by kernel_rfl) (fun _ _ _ h => h) (Or.inl ⟨by rfl, ?_⟩) (by assumption) ?_; (rotate_left 1); (focus (intro wz hSw; (try dsimp only at hSw); go_simp; try (with_reducible rfl))); simp only [Act.put, List.setIfInBounds_toArray, List.set_cons_zero, List.set_cons_succ]
        refine wpAnyH_take (i := 31) (oi := ⟨some 74, _, _, _, _, _⟩) (v := ?_) rfl (by kernel_rfl) (by kernel_rfl) (by kernel_rfl) (fun _ _ _ h => h) (Or.inl ⟨by rfl, ?_⟩) (by assumption) ?_; (rotate_left 1); (focus (intro wz hSw; (try dsimp only at hSw); go_simp; try (with_reducible rfl))); simp only [Act.put, List.setIfInBounds_toArray, List.set_cons_zero, List.set_cons_succ]
        refine wpAnyH_take (i := 32) (oi := ⟨some 75, _, _, _, _, _⟩) (v := ?_) rfl (by kernel_rfl) (by kernel_rfl) (by kernel_rfl) (fun _ _ _ h => h) (Or.inl ⟨by rfl, ?_⟩) (by assumption) ?_; (rotate_left 1); (focus (intro wz hSw; (try dsimp only at hSw); go_simp; try (with_reducible rfl))); simp only [Act.put, List.setIfInBounds_toArray, List.set_cons_zero, List.set_cons_succ]
        refine wpAnyH_take (i := 33) (oi := ⟨some 76, _, _, _, _, _⟩) (v := ?_) rfl (by kernel_rfl) (by kernel_rfl) (by kernel_rfl) (fun _ _ _ h => h) (Or.inl ⟨by rfl, ?_⟩) (by assumption) ?_; (rotate_left 1); (focus (intro wz hSw; (try dsimp only at hSw); go_simp; try (with_reducible rfl))); simp only [Act.put, List.setIfInBounds_toArray, List.set_cons_zero, List.set_cons_succ]
        refine wpAnyH_take (i := 34) (oi := ⟨some 77, _, _, _, _, _⟩) (v := ?_) rfl (by kernel_rfl) (by kernel_rfl) (by kernel_rfl) (fun _ _ _ h => h) (Or.inl ⟨by rfl, ?_⟩) (by assumption) ?_; (rotate_left 1); (focus (intro wz hSw; (try dsimp only at hSw); go_simp; try (with_reducible rfl))); simp only [Act.put, List.setIfInBounds_toArray, List.set_cons_zero, List.set_cons_succ]
        refine wpAnyH_take (i := 35) (oi := ⟨some 78, _, _, _, _, _⟩) (v := ?_) rfl (by kernel_rfl) (by kernel_rfl) (by kernel_rfl) (fun _ _ _ h => h) (Or.inl ⟨by rfl, ?_⟩) (by assumption) ?_; (rotate_left 1); (focus (intro wz hSw; (try dsimp only at hSw); go_simp; try (with_reducible rfl))); simp only [Act.put, List.setIfInBounds_toArray, List.set_cons_zero, List.set_cons_succ]
        refine wpAnyH_take (i := 36) (oi := ⟨some 79, _, _, _, _, _⟩) (v := ?_) rfl (by kernel_rfl) (by kernel_rfl) (by kernel_rfl) (fun _ _ _ h => h) (Or.inl ⟨by rfl, ?_⟩) (by assumption) ?_; (rotate_left 1); (focus (intro wz hSw; (try dsimp only at hSw); go_simp; try (with_reducible rfl))); simp only [Act.put, List.setIfInBounds_toArray, List.set_cons_zero, List.set_cons_succ]
        refine wpAnyH_take (i := 37) (oi := ⟨some 80, _, _, _, _, _⟩) (v := ?_) rfl (by kernel_rfl) (by kernel_rfl) (by kernel_rfl) (fun _ _ _ h => h) (Or.inl ⟨by rfl, ?_⟩) (by assumption) ?_; (rotate_left 1); (focus (intro wz hSw; (try dsimp only at hSw); go_simp; try (with_reducible rfl))); simp only [Act.put, List.setIfInBounds_toArray, List.set_cons_zero, List.set_cons_succ]
        refine wpAnyH_take (i := 38) (oi := ⟨some 81, _, _, _, _, _⟩) (v := ?_) rfl (by kernel_rfl) (by kernel_rfl) (by kernel_rfl) (fun _ _ _ h => h) (Or.inl ⟨by rfl, ?_⟩) (by assumption) ?_; (rotate_left 1); (focus (intro wz hSw; (try dsimp only at hSw); go_simp; try (with_reducible rfl))); simp only [Act.put, List.setIfInBounds_toArray, List.set_cons_zero, List.set_cons_succ]
        refine wpAnyH_take (i := 40) (oi := ⟨some 83, _, _, _, _, _⟩) (v := ?_) rfl (by kernel_rfl) (by kernel_rfl) (by kernel_rfl) (fun _ _ _ h => h) (Or.inl ⟨by rfl, ?_⟩) (by assumption) ?_; (rotate_left 1); (focus (intro wz hSw; (try dsimp only at hSw); go_simp; try (with_reducible rfl))); simp only [Act.put, List.setIfInBounds_toArray, List.set_cons_zero, List.set_cons_succ]
        refine wpAnyH_ready (rs := [39]) (by kernel_rfl) (by simp) ?_; refine AllReadyH.cons rfl (fun K hK => ?_) AllReadyH.nil; go_simp
        refine (hGd _ hb9b).mono ?_
        rintro e wx ⟨rfl, hbx⟩
        have hX1x := hX19.bw hbx
        have hX2x := hX29.bw hbx
        have hBx := hB9.bw hbx
        have h7x : Bw w7 wx := h79.trans hbx
        have hbxb := hb9b.trans hbx
        clear hX19 hX29 hB9 h79 hb9b hbx
        (try clear hHeld); refine hK.out _ _ ?_ (fun hHeld => ?_)
        · exact ⟨⟨hX1x.c 0 _ rfl, hX1x.c 1 _ rfl, hX1x.c 2 _ rfl, hX1x.c 3 _ rfl, hX1x.c 4 _ rfl, hX1x.c 5 _ rfl⟩, ⟨hX2x.c 0 _ rfl, hX2x.c 1 _ rfl, hX2x.c 2 _ rfl, hX2x.c 3 _ rfl, hX2x.c 4 _ rfl, hX2x.c 5 _ rfl⟩, ⟨hBx.c 0 _ rfl, hBx.c 1 _ rfl, hBx.c 2 _ rfl, hBx.c 3 _ rfl, hBx.c 4 _ rfl, hBx.c 5 _ rfl⟩, conv8 ((show ∀ X, Bw w7 X → _ from HZ) _ h7x).2.2.1, conv8 ((show ∀ X, Bw w7 X → _ from HZ) _ h7x).2.2.2⟩
        refine wpAnyH_take (i := 41) (oi := ⟨some 84, _, _, _, _, _⟩) (v := ?_) rfl (by kernel_rfl) (by kernel_rfl) (by kernel_rfl) (fun _ _ _ h => h) (Or.inl ⟨by rfl, ?_⟩) (by assumption) ?_; (rotate_left 1); (focus (intro wz hSw; (try dsimp only at hSw); go_simp; try (with_reducible rfl))); simp only [Act.put, List.setIfInBounds_toArray, List.set_cons_zero, List.set_cons_succ]
        refine wpAnyH_take (i := 42) (oi := ⟨some 85, _, _, _, _, _⟩) (v := ?_) rfl (by kernel_rfl) (by kernel_rfl) (by kernel_rfl) (fun _ _ _ h => h) (Or.inl ⟨by rfl, ?_⟩) (by assumption) ?_; (rotate_left 1); (focus (intro wz hSw; (try dsimp only at hSw); go_simp; try (with_reducible rfl))); simp only [Act.put, List.setIfInBounds_toArray, List.set_cons_zero, List.set_cons_succ]
        refine wpAnyH_take (i := 43) (oi := ⟨some 4, _, _, _, _, _⟩) (v := ?_) rfl (by kernel_rfl) (by kernel_rfl) (by kernel_rfl) (fun _ _ _ h => h) (Or.inl ⟨by rfl, ?_⟩) (by assumption) ?_; (rotate_left 1); (focus (intro wz hSw; (try dsimp only at hSw); go_simp; try (with_reducible rfl))); simp only [Act.put, List.setIfInBounds_toArray, List.set_cons_zero, List.set_cons_succ]
        refine wpAnyH_done (by kernel_rfl) ?_ _
        clear hX1x hX2x hBx h7x
        go_wp2_with fail
        go_returns
        exact ⟨rfl, hbxb⟩
end Go.Proofs.Ytmecompcffphcaa
