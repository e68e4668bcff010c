/- LAYER 9's law FeedPlays. -/
import Derived.Test.YtldapnefhlmdiaaFeeX
import Derived.Test.YtldapnefhlmdiaaFeeA
import Derived.Test.YtldapnefhlmdiaaFeeG
import Derived.Test.YtldapnefhlmdiaaFeeGr
import Derived.Test.YtldapnefhlmdiaaFeeArg
namespace Go.Proofs.Ytldapnefhlmdiaa
open Go.ChangeShapes Go.WideShapes Go.ChangeAt Go.RowKit
set_option linter.unusedSimpArgs false

set_option maxHeartbeats 8000000 in
set_option maxRecDepth 100000 in
theorem FeedPlays_w (v0 v1 : Value) (W : World) (h0 : ∃ f, IsFd W v0 f) (h1 : ∃ l, AcS W v1 l) : Calls Try.prog 5 #[v0, v1] W fun e w' => e = .returned (.bool true) ∧ Bw W w' := by
  obtain ⟨f, hf⟩ := h0
  obtain ⟨l, hl⟩ := h1
  have hI := fun X (g : Bw W X) => hf.bw g
  have HW : Hid (Fee.Wf f) := by obtain ⟨_, _, _, _, _, _, _, _, _, _, _, _, _, h⟩ := hf; exact h
  have hLo : Hid (∃ va vi vs vr vc vf, v0 = .agg #[va, vi, vs, vr, vc, vf] ∧ Lo W.heap.size vs ∧ Lo W.heap.size vr ∧ Lo W.heap.size vc) := by
    obtain ⟨va, vi, vs, vr, vc, vf, rfl, _, _, p, q, r, _⟩ := hf
    exact ⟨va, vi, vs, vr, vc, vf, rfl, RdR.lo p, RdR.lo q, RdR.lo r⟩
  obtain ⟨va, vi, vs, vr, vc, vf, rfl, ha, hi, hs, hr, hc, hff, -⟩ := hf
  obtain ⟨va', vi', vs', vr', vc', vf', hve, ls, lr, lc⟩ := (show ∃ va vi vs vr vc vf, _ from hLo)
  simp at hve
  obtain ⟨rfl, rfl, rfl, rfl, rfl, rfl⟩ := hve
  obtain ⟨qa, ca, rfl, -⟩ := RdR.form ha
  obtain ⟨qi, ci, rfl, -⟩ := Rd8.open hi
  obtain ⟨qs, cs, rfl, -⟩ := RdR.form hs
  obtain ⟨qr, cr, rfl, -⟩ := Rd8.open hr
  obtain ⟨qc, cc, rfl, -⟩ := RdR.form hc
  obtain ⟨qf, cf, rfl, -⟩ := hff.form
  obtain ⟨ql, cl, rfl, hl1, hl3, hcl⟩ := hl.open
  clear ha hi hs hr hc hff hLo
  have hBx := Box.new W [.slice qa f.args.length ca, .slice qi f.input.length ci, .slice qs f.short.length cs, .slice qr f.random.length cr, .slice qc f.clock.length cc, .slice qf f.files.length cf] 29
  have hB0 : Bw W (W.alloc (.cells #[.slice qa f.args.length ca, .slice qi f.input.length ci, .slice qs f.short.length cs, .slice qr f.random.length cr, .slice qc f.clock.length cc, .slice qf f.files.length cf] 29)) := (Bw.refl W).alloc _
  go_enter Try.func5, Try.ntmps5
  go_wp2_with fail
  refine (awake9_c _).mono ?_
  rintro e w1 ⟨rfl, hb1⟩
  have hB1 := hBx.bw hb1
  replace hb1 := hB0.trans hb1
  clear hBx hB0
  obtain ⟨fb, hfb⟩ : ∃ fb, W.heap.size = fb := ⟨_, rfl⟩
  rw [hfb] at hB1 ⊢
  have c0 := hB1.c 0 _ rfl; have c1 := hB1.c 1 _ rfl; have c2 := hB1.c 2 _ rfl; have c3 := hB1.c 3 _ rfl; have c4 := hB1.c 4 _ rfl; have c5 := hB1.c 5 _ rfl
  go_wp2_with fail
  refine (great_c _ f _ (hI _ hb1)).mono ?_
  rintro e w2 ⟨b, rfl, hbd, hb2⟩
  have hB2 := hB1.bw hb2
  replace hb2 := hb1.trans hb2
  clear hb1 hB1 c0 c1 c2 c3 c4 c5
  cases b with
  | true =>
    clear hbd hB2
    go_wp2_with fail
    go_returns
    exact ⟨rfl, hb2⟩
  | false =>
    have HBd : Hid (Fee.Bd f) := hbd rfl
    clear hbd
    by_cases hn2 : 80 < l.length
    · have hn2i : decide ((80 : Int) < (l.length : Int)) = true := decide_eq_true (by omega)
      clear hB2
      go_wp2_with fail
      go_returns
      exact ⟨rfl, hb2⟩
    have hn2i : decide ((80 : Int) < (l.length : Int)) = false := decide_eq_false (by omega)
    have hSz : Hid (Fee.Sz f) := ⟨fun s h => by have := (show Fee.Bd f from HBd).asz s h; omega, fun x h => by have := ((show Fee.Bd f from HBd).fsz x h).1; omega⟩
    go_wp2_with fail
    have hHold : ∀ X, Bw w2 X → (X.cell? ⟨fb, 0, none⟩ = some (.slice qa f.args.length ca) ∧ X.cell? ⟨fb, 1, none⟩ = some (.slice qi f.input.length ci) ∧ X.cell? ⟨fb, 2, none⟩ = some (.slice qs f.short.length cs) ∧ X.cell? ⟨fb, 3, none⟩ = some (.slice qr f.random.length cr) ∧ X.cell? ⟨fb, 4, none⟩ = some (.slice qc f.clock.length cc) ∧ X.cell? ⟨fb, 5, none⟩ = some (.slice qf f.files.length cf)) := fun X g =>
      ⟨g.keep (hB2.c 0 _ rfl), g.keep (hB2.c 1 _ rfl), g.keep (hB2.c 2 _ rfl), g.keep (hB2.c 3 _ rfl), g.keep (hB2.c 4 _ rfl), g.keep (hB2.c 5 _ rfl)⟩
    have hB : Bw w2 w2.drew := (Bw.refl w2).drew
    refine wp_region_held_drew (S := fun X => X.cell? ⟨fb, 0, none⟩ = some (.slice qa f.args.length ca) ∧ X.cell? ⟨fb, 1, none⟩ = some (.slice qi f.input.length ci) ∧ X.cell? ⟨fb, 2, none⟩ = some (.slice qs f.short.length cs) ∧ X.cell? ⟨fb, 3, none⟩ = some (.slice qr f.random.length cr) ∧ X.cell? ⟨fb, 4, none⟩ = some (.slice qc f.clock.length cc) ∧ X.cell? ⟨fb, 5, none⟩ = some (.slice qf f.files.length cf)) (by kernel_rfl) (hHold _ hB) (fun hHeld => ?_)
    refine wpAnyH_take (i := 0) (oi := ⟨some 21, _, _, _, _, _⟩) (v := ?_) rfl (by kernel_rfl) (by kernel_rfl) (by kernel_rfl) (fun _ _ _ h => h) (Or.inl ⟨by rfl, ?_⟩) (by assumption) ?_; (rotate_left 1); (focus (intro wz hSw; (try dsimp only at hSw); go_simp; try (with_reducible rfl))); simp only [Act.put, List.setIfInBounds_toArray, List.set_cons_zero, List.set_cons_succ]
    refine wpAnyH_take (i := 2) (oi := ⟨some 23, _, _, _, _, _⟩) (v := ?_) rfl (by kernel_rfl) (by kernel_rfl) (by kernel_rfl) (fun _ _ _ h => h) (Or.inl ⟨by rfl, ?_⟩) (by assumption) ?_; (rotate_left 1); (focus (intro wz hSw; (try dsimp only at hSw); go_simp; try (with_reducible rfl))); simp only [Act.put, List.setIfInBounds_toArray, List.set_cons_zero, List.set_cons_succ]
    refine wpAnyH_ready (rs := [1]) (by kernel_rfl) (by simp) ?_; refine AllReadyH.cons rfl (fun K hK => ?_) AllReadyH.nil; go_simp
    refine (Begin_c _ f _ (hI _ (hb2.trans hB))).mono ?_
    rintro e w3 ⟨ub, rfl, hub, h3, hU, -⟩
    replace hub := Nat.le_trans (hb2.trans hB).size hub
    replace hB := hB.trans h3
    (try clear hHeld); refine hK.out _ _ ?_ (fun hHeld => ?_)
    · exact hHold _ hB
    refine wpAnyH_ready (rs := [3]) (by kernel_rfl) (by simp) ?_; refine AllReadyH.cons rfl (fun K hK => ?_) AllReadyH.nil; go_simp
    refine (fee_c _ _ _ _ _ _ f _ (hI _ (hb2.trans hB)) (by have := (show Fee.Bd f from HBd).lf; omega)).mono ?_
    rintro e w4 ⟨uf, rfl, hI4, h4⟩
    have hX4 := hU.farX (Nat.le_refl _)
    have hlt3 := hU.lt
    replace hU := hU.bw h4
    replace hB := hB.trans h4
    (try clear hHeld); refine hK.out _ _ ?_ (fun hHeld => ?_)
    · exact hHold _ hB
    refine wpAnyH_ready (rs := [4]) (by kernel_rfl) (by simp) ?_; refine AllReadyH.cons rfl (fun K hK => ?_) AllReadyH.nil; go_simp
    refine (rBegin_c _ _ _ _ _ _ f _ hI4 hSz).mono ?_
    rintro e w5 ⟨rb, rfl, hrb, h5, hV, hFar⟩
    have hne : ub ≠ rb := by have := hU.lt; omega
    have hX5 : FarX w4 ub rb := hU.farX hrb
    have hrbW : W.heap.size ≤ rb := Nat.le_trans (hb2.trans hB).size hrb
    have hPr : Pr w5 ub rb (Fee.beg f).short (Fee.beg f).random (Fee.beg f).clock 0 0 0 0 0 0 :=
      ⟨hU.bw h5, hV, hX5.keep ((Keep3.refl _ _).bw hU.lt h5), hFar ub (ls.to hub) (lr.to hub) (lc.to hub), hne⟩
    replace hB := hB.trans h5
    (try clear hHeld); refine hK.out _ _ ?_ (fun hHeld => ?_)
    · exact hHold _ hB
    refine wpAnyH_take (i := 5) (oi := ⟨some 5, _, _, _, _, _⟩) (v := ?_) rfl (by kernel_rfl) (by kernel_rfl) (by kernel_rfl) (fun _ _ _ h => h) (Or.inl ⟨by rfl, ?_⟩) (by assumption) ?_; (rotate_left 1); (focus (intro wz hSw; (try dsimp only at hSw); go_simp; try (with_reducible rfl))); simp only [Act.put, List.setIfInBounds_toArray, List.set_cons_zero, List.set_cons_succ]
    refine wpAnyH_take (i := 6) (oi := ⟨some 6, _, _, _, _, _⟩) (v := ?_) rfl (by kernel_rfl) (by kernel_rfl) (by kernel_rfl) (fun _ _ _ h => h) (Or.inl ⟨by rfl, ?_⟩) (by assumption) ?_; (rotate_left 1); (focus (intro wz hSw; (try dsimp only at hSw); go_simp; try (with_reducible rfl))); simp only [Act.put, List.setIfInBounds_toArray, List.set_cons_zero, List.set_cons_succ]
    refine wpAnyH_done (by kernel_rfl) ?_ _
    have hb5 := hb2.trans hB
    have hlen := Fee.beg_len f
    clear hHold hB hB2 hb2 hU hV hX4 hX5 hFar hI4 h3 h4 h5 hI hn2i HBd hSz HW ls lr lc hlt3 hrb
    generalize (Fee.beg f).short = sh at *
    generalize (Fee.beg f).random = rd at *
    generalize (Fee.beg f).clock = ck at *
    obtain ⟨n1, n2, n3⟩ := hlen
    go_wp2_with fail
    go_loopg [5, 7] l.length (fun g x j wr => ∃ k ub a b c : Nat, k + g = l.length ∧ x = .pointer (some ⟨ub, 0, none⟩) ∧ j = .int .i64 k ∧ Bw W wr ∧ Pr wr ub rb sh rd ck a b c a b c ∧ W.heap.size ≤ ub)
    case atStart => exact ⟨0, _, 0, 0, 0, by omega, rfl, rfl, hb5, hPr, hub⟩
    case round =>
      obtain ⟨k, ub, a, b, c, hkg, rfl, rfl, hbw, hP, hubW⟩ := hrel
      clear hb5 hPr hub hne
      by_cases hk : k = l.length
      · subst hk
        clear hP hcl
        go_wp2_with fail
        go_returns
        exact ⟨rfl, hbw⟩
      · have hkl : k < l.length := by omega
        have hki : (k : Int) < (l.length : Int) := by omega
        obtain ⟨act, hx, -⟩ := dropAt hkl
        obtain ⟨op, n⟩ := act
        obtain ⟨bl, ol, rfl, -, d0, d1⟩ := hcl k (op, n) hx
        dsimp only at d0 d1
        have e0 := hbw.keep d0
        have hHold : ∀ X, Bw W X → X.cell? ⟨bl, ol + k * 2 + 1, none⟩ = some (.int .i64 n) := fun X g => g.keep d1
        clear hx hcl
        by_cases h0 : op = 0
        · subst h0
          go_wp2_with fail
          have hB : Bw wr wr.drew := (Bw.refl wr).drew
          refine wp_region_held_drew (S := fun X => X.cell? ⟨bl, ol + k * 2 + 1, none⟩ = some (.int .i64 n)) (by kernel_rfl) (hHold _ (hbw.trans hB)) (fun hHeld => ?_)
          refine wpAnyH_take (i := 0) (oi := ⟨some 41, _, _, _, _, _⟩) (v := ?_) rfl (by kernel_rfl) (by kernel_rfl) (by kernel_rfl) (fun _ _ _ h => h) (Or.inl ⟨by rfl, ?_⟩) (by assumption) ?_; (rotate_left 1); (focus (intro wz hSw; (try dsimp only at hSw); go_simp; try (with_reducible rfl))); simp only [Act.put, List.setIfInBounds_toArray, List.set_cons_zero, List.set_cons_succ]
          refine wpAnyH_take (i := 1) (oi := ⟨some 42, _, _, _, _, _⟩) (v := ?_) rfl (by kernel_rfl) (by kernel_rfl) (by kernel_rfl) (fun _ _ _ h => h) (Or.inl ⟨by rfl, ?_⟩) (by assumption) ?_; (rotate_left 1); (focus (intro wz hSw; (try dsimp only at hSw); go_simp; try (with_reducible rfl))); simp only [Act.put, List.setIfInBounds_toArray, List.set_cons_zero, List.set_cons_succ]
          refine wpAnyH_take (i := 2) (oi := ⟨some 43, _, _, _, _, _⟩) (v := ?_) rfl (by kernel_rfl) (by kernel_rfl) (by kernel_rfl) (fun _ _ _ h => h) (Or.inl ⟨by rfl, ?_⟩) (by assumption) ?_; (rotate_left 1); (focus (intro wz hSw; (try dsimp only at hSw); go_simp; try (with_reducible rfl))); simp only [Act.put, List.setIfInBounds_toArray, List.set_cons_zero, List.set_cons_succ]
          refine wpAnyH_take (i := 3) (oi := ⟨some 44, _, _, _, _, _⟩) (v := ?_) rfl (by kernel_rfl) (by kernel_rfl) (by kernel_rfl) (fun _ _ _ h => h) (Or.inl ⟨by rfl, ?_⟩) (by assumption) ?_; (rotate_left 1); (focus (intro wz hSw; (try dsimp only at hSw); go_simp; try (with_reducible rfl))); simp only [Act.put, List.setIfInBounds_toArray, List.set_cons_zero, List.set_cons_succ]
          refine wpAnyH_take (i := 4) (oi := ⟨some 45, _, _, _, _, _⟩) (v := ?_) rfl (by kernel_rfl) (by kernel_rfl) (by kernel_rfl) (fun _ _ _ h => h) (Or.inl ⟨by rfl, ?_⟩) (by assumption) ?_; (rotate_left 1); (focus (intro wz hSw; (try dsimp only at hSw); go_simp; try (with_reducible rfl))); simp only [Act.put, List.setIfInBounds_toArray, List.set_cons_zero, List.set_cons_succ]
          refine wpAnyH_take (i := 5) (oi := ⟨some 46, _, _, _, _, _⟩) (v := ?_) rfl (by kernel_rfl) (by kernel_rfl) (by kernel_rfl) (fun _ _ _ h => h) (Or.inl ⟨by rfl, ?_⟩) (by assumption) ?_; (rotate_left 1); (focus (intro wz hSw; (try dsimp only at hSw); go_simp; try (with_reducible rfl))); simp only [Act.put, List.setIfInBounds_toArray, List.set_cons_zero, List.set_cons_succ]
          refine wpAnyH_take (i := 7) (oi := ⟨some 48, _, _, _, _, _⟩) (v := ?_) rfl (by kernel_rfl) (by kernel_rfl) (by kernel_rfl) (fun _ _ _ h => h) (Or.inl ⟨by rfl, ?_⟩) (by assumption) ?_; (rotate_left 1); (focus (intro wz hSw; (try dsimp only at hSw); go_simp; try (with_reducible rfl))); simp only [Act.put, List.setIfInBounds_toArray, List.set_cons_zero, List.set_cons_succ]
          refine wpAnyH_take (i := 8) (oi := ⟨some 49, _, _, _, _, _⟩) (v := ?_) rfl (by kernel_rfl) (by kernel_rfl) (by kernel_rfl) (fun _ _ _ h => h) (Or.inl ⟨by rfl, ?_⟩) (by assumption) ?_; (rotate_left 1); (focus (intro wz hSw; (try dsimp only at hSw); go_simp; try (with_reducible rfl))); simp only [Act.put, List.setIfInBounds_toArray, List.set_cons_zero, List.set_cons_succ]
          refine wpAnyH_take (i := 9) (oi := ⟨some 50, _, _, _, _, _⟩) (v := ?_) rfl (by kernel_rfl) (by kernel_rfl) (by kernel_rfl) (fun _ _ _ h => h) (Or.inl ⟨by rfl, ?_⟩) (by assumption) ?_; (rotate_left 1); (focus (intro wz hSw; (try dsimp only at hSw); go_simp; try (with_reducible rfl))); simp only [Act.put, List.setIfInBounds_toArray, List.set_cons_zero, List.set_cons_succ]
          refine wpAnyH_take (i := 10) (oi := ⟨some 51, _, _, _, _, _⟩) (v := ?_) rfl (by kernel_rfl) (by kernel_rfl) (by kernel_rfl) (fun _ _ _ h => h) (Or.inl ⟨by rfl, ?_⟩) (by assumption) ?_; (rotate_left 1); (focus (intro wz hSw; (try dsimp only at hSw); go_simp; try (with_reducible rfl))); simp only [Act.put, List.setIfInBounds_toArray, List.set_cons_zero, List.set_cons_succ]
          refine wpAnyH_take (i := 11) (oi := ⟨some 52, _, _, _, _, _⟩) (v := ?_) rfl (by kernel_rfl) (by kernel_rfl) (by kernel_rfl) (fun _ _ _ h => h) (Or.inl ⟨by rfl, ?_⟩) (by assumption) ?_; (rotate_left 1); (focus (intro wz hSw; (try dsimp only at hSw); go_simp; try (with_reducible rfl))); simp only [Act.put, List.setIfInBounds_toArray, List.set_cons_zero, List.set_cons_succ]
          refine wpAnyH_take (i := 12) (oi := ⟨some 53, _, _, _, _, _⟩) (v := ?_) rfl (by kernel_rfl) (by kernel_rfl) (by kernel_rfl) (fun _ _ _ h => h) (Or.inl ⟨by rfl, ?_⟩) (by assumption) ?_; (rotate_left 1); (focus (intro wz hSw; (try dsimp only at hSw); go_simp; try (with_reducible rfl))); simp only [Act.put, List.setIfInBounds_toArray, List.set_cons_zero, List.set_cons_succ]
          refine wpAnyH_ready (rs := [6]) (by kernel_rfl) (by simp) ?_; refine AllReadyH.cons rfl (fun K hK => ?_) AllReadyH.nil; go_simp
          refine (Take_c _ _ _ _ _ _ _ _ (hP.u.bw hB) (by omega) n).mono ?_
          rintro e w6 ⟨rfl, hU6, q6, k6⟩
          have hP1 := (hP.bw hB).onU hU6 q6 k6
          have hb6 := q6.toBw (hbw.trans hB) hubW
          (try clear hHeld); refine hK.out _ _ ?_ (fun hHeld => ?_)
          · exact hHold _ hb6
          refine wpAnyH_ready (rs := [13]) (by kernel_rfl) (by simp) ?_; refine AllReadyH.cons rfl (fun K hK => ?_) AllReadyH.nil; go_simp
          refine (rTake_c _ _ _ _ _ _ _ _ hP1.v (by omega) n).mono ?_
          rintro e w7 ⟨rfl, hV7, q7, k7⟩
          have hP2 := hP1.onV hV7 q7 k7
          have hbf := q7.toBw hb6 hrbW
          (try clear hHeld); refine hK.out _ _ ?_ (fun hHeld => ?_)
          · exact hHold _ hbf
          refine wpAnyH_take (i := 14) (oi := ⟨some 55, _, _, _, _, _⟩) (v := ?_) rfl (by kernel_rfl) (by kernel_rfl) (by kernel_rfl) (fun _ _ _ h => h) (Or.inl ⟨by rfl, ?_⟩) (by assumption) ?_; (rotate_left 1); (focus (intro wz hSw; (try dsimp only at hSw); go_simp; try (with_reducible rfl))); simp only [Act.put, List.setIfInBounds_toArray, List.set_cons_zero, List.set_cons_succ]
          refine wpAnyH_take (i := 15) (oi := ⟨some 8, _, _, _, _, _⟩) (v := ?_) rfl (by kernel_rfl) (by kernel_rfl) (by kernel_rfl) (fun _ _ _ h => h) (Or.inl ⟨by rfl, ?_⟩) (by assumption) ?_; (rotate_left 1); (focus (intro wz hSw; (try dsimp only at hSw); go_simp; try (with_reducible rfl))); simp only [Act.put, List.setIfInBounds_toArray, List.set_cons_zero, List.set_cons_succ]
          refine wpAnyH_done (by kernel_rfl) ?_ _
          clear hHold hP hP1 hU6 hV7 q6 q7 k6 k7 hb6 hB
          go_wp2_with (first | (go_at_call 27; refine (Used_c _ _ _ _ _ _ _ _ hP2.u).mono ?_; rintro e w9 ⟨rfl, hb9⟩; have hP3 := hP2.bw hb9; have hb10 := hbf.trans hb9; obtain ⟨⟨va', vi', vs', vr', vc', vf', hbx, _⟩, _⟩ := hP3.v; have r6 := hbx.c 6 _ rfl; have r7 := hbx.c 7 _ rfl; have r8 := hbx.c 8 _ rfl; clear hbx))
          go_roundg (l.length - (k + 1))
          case measure => omega
          case rel => exact ⟨k + 1, _, _, _, _, by omega, rfl, by simp, hb10, hP3, hubW⟩
        by_cases h1 : op = 1
        · subst h1
          go_wp2_with fail
          have hB : Bw wr wr.drew := (Bw.refl wr).drew
          refine wp_region_held_drew (S := fun X => X.cell? ⟨bl, ol + k * 2 + 1, none⟩ = some (.int .i64 n)) (by kernel_rfl) (hHold _ (hbw.trans hB)) (fun hHeld => ?_)
          refine wpAnyH_take (i := 0) (oi := ⟨some 58, _, _, _, _, _⟩) (v := ?_) rfl (by kernel_rfl) (by kernel_rfl) (by kernel_rfl) (fun _ _ _ h => h) (Or.inl ⟨by rfl, ?_⟩) (by assumption) ?_; (rotate_left 1); (focus (intro wz hSw; (try dsimp only at hSw); go_simp; try (with_reducible rfl))); simp only [Act.put, List.setIfInBounds_toArray, List.set_cons_zero, List.set_cons_succ]
          refine wpAnyH_take (i := 1) (oi := ⟨some 59, _, _, _, _, _⟩) (v := ?_) rfl (by kernel_rfl) (by kernel_rfl) (by kernel_rfl) (fun _ _ _ h => h) (Or.inl ⟨by rfl, ?_⟩) (by assumption) ?_; (rotate_left 1); (focus (intro wz hSw; (try dsimp only at hSw); go_simp; try (with_reducible rfl))); simp only [Act.put, List.setIfInBounds_toArray, List.set_cons_zero, List.set_cons_succ]
          refine wpAnyH_take (i := 2) (oi := ⟨some 60, _, _, _, _, _⟩) (v := ?_) rfl (by kernel_rfl) (by kernel_rfl) (by kernel_rfl) (fun _ _ _ h => h) (Or.inl ⟨by rfl, ?_⟩) (by assumption) ?_; (rotate_left 1); (focus (intro wz hSw; (try dsimp only at hSw); go_simp; try (with_reducible rfl))); simp only [Act.put, List.setIfInBounds_toArray, List.set_cons_zero, List.set_cons_succ]
          refine wpAnyH_take (i := 3) (oi := ⟨some 61, _, _, _, _, _⟩) (v := ?_) rfl (by kernel_rfl) (by kernel_rfl) (by kernel_rfl) (fun _ _ _ h => h) (Or.inl ⟨by rfl, ?_⟩) (by assumption) ?_; (rotate_left 1); (focus (intro wz hSw; (try dsimp only at hSw); go_simp; try (with_reducible rfl))); simp only [Act.put, List.setIfInBounds_toArray, List.set_cons_zero, List.set_cons_succ]
          refine wpAnyH_take (i := 4) (oi := ⟨some 62, _, _, _, _, _⟩) (v := ?_) rfl (by kernel_rfl) (by kernel_rfl) (by kernel_rfl) (fun _ _ _ h => h) (Or.inl ⟨by rfl, ?_⟩) (by assumption) ?_; (rotate_left 1); (focus (intro wz hSw; (try dsimp only at hSw); go_simp; try (with_reducible rfl))); simp only [Act.put, List.setIfInBounds_toArray, List.set_cons_zero, List.set_cons_succ]
          refine wpAnyH_take (i := 5) (oi := ⟨some 63, _, _, _, _, _⟩) (v := ?_) rfl (by kernel_rfl) (by kernel_rfl) (by kernel_rfl) (fun _ _ _ h => h) (Or.inl ⟨by rfl, ?_⟩) (by assumption) ?_; (rotate_left 1); (focus (intro wz hSw; (try dsimp only at hSw); go_simp; try (with_reducible rfl))); simp only [Act.put, List.setIfInBounds_toArray, List.set_cons_zero, List.set_cons_succ]
          refine wpAnyH_take (i := 8) (oi := ⟨some 66, _, _, _, _, _⟩) (v := ?_) rfl (by kernel_rfl) (by kernel_rfl) (by kernel_rfl) (fun _ _ _ h => h) (Or.inl ⟨by rfl, ?_⟩) (by assumption) ?_; (rotate_left 1); (focus (intro wz hSw; (try dsimp only at hSw); go_simp; try (with_reducible rfl))); simp only [Act.put, List.setIfInBounds_toArray, List.set_cons_zero, List.set_cons_succ]
          refine wpAnyH_take (i := 9) (oi := ⟨some 67, _, _, _, _, _⟩) (v := ?_) rfl (by kernel_rfl) (by kernel_rfl) (by kernel_rfl) (fun _ _ _ h => h) (Or.inl ⟨by rfl, ?_⟩) (by assumption) ?_; (rotate_left 1); (focus (intro wz hSw; (try dsimp only at hSw); go_simp; try (with_reducible rfl))); simp only [Act.put, List.setIfInBounds_toArray, List.set_cons_zero, List.set_cons_succ]
          refine wpAnyH_take (i := 10) (oi := ⟨some 68, _, _, _, _, _⟩) (v := ?_) rfl (by kernel_rfl) (by kernel_rfl) (by kernel_rfl) (fun _ _ _ h => h) (Or.inl ⟨by rfl, ?_⟩) (by assumption) ?_; (rotate_left 1); (focus (intro wz hSw; (try dsimp only at hSw); go_simp; try (with_reducible rfl))); simp only [Act.put, List.setIfInBounds_toArray, List.set_cons_zero, List.set_cons_succ]
          refine wpAnyH_take (i := 11) (oi := ⟨some 69, _, _, _, _, _⟩) (v := ?_) rfl (by kernel_rfl) (by kernel_rfl) (by kernel_rfl) (fun _ _ _ h => h) (Or.inl ⟨by rfl, ?_⟩) (by assumption) ?_; (rotate_left 1); (focus (intro wz hSw; (try dsimp only at hSw); go_simp; try (with_reducible rfl))); simp only [Act.put, List.setIfInBounds_toArray, List.set_cons_zero, List.set_cons_succ]
          refine wpAnyH_take (i := 12) (oi := ⟨some 70, _, _, _, _, _⟩) (v := ?_) rfl (by kernel_rfl) (by kernel_rfl) (by kernel_rfl) (fun _ _ _ h => h) (Or.inl ⟨by rfl, ?_⟩) (by assumption) ?_; (rotate_left 1); (focus (intro wz hSw; (try dsimp only at hSw); go_simp; try (with_reducible rfl))); simp only [Act.put, List.setIfInBounds_toArray, List.set_cons_zero, List.set_cons_succ]
          refine wpAnyH_take (i := 13) (oi := ⟨some 71, _, _, _, _, _⟩) (v := ?_) rfl (by kernel_rfl) (by kernel_rfl) (by kernel_rfl) (fun _ _ _ h => h) (Or.inl ⟨by rfl, ?_⟩) (by assumption) ?_; (rotate_left 1); (focus (intro wz hSw; (try dsimp only at hSw); go_simp; try (with_reducible rfl))); simp only [Act.put, List.setIfInBounds_toArray, List.set_cons_zero, List.set_cons_succ]
          refine wpAnyH_ready (rs := [6]) (by kernel_rfl) (by simp) ?_; refine AllReadyH.cons rfl (fun K hK => ?_) AllReadyH.nil; go_simp
          refine (BytesX_c _ _ _ _ _ _ _ _ (hP.u.bw hB) n).mono ?_
          rintro e w6 ⟨v6, rfl, hO6, hU6, q6, k6⟩
          have hP1 := (hP.bw hB).onU hU6 q6 k6
          have hb6 := q6.toBw (hbw.trans hB) hubW
          have hrlt := (hP.bw hB).v.lt
          (try clear hHeld); refine hK.out _ _ ?_ (fun hHeld => ?_)
          · exact hHold _ hb6
          have hcv6 := conv8 hO6
          refine wpAnyH_ready (rs := [7, 14]) (by kernel_rfl) (by simp) ?_
          refine AllReadyH.cons rfl (fun K hK => ?_) (AllReadyH.cons rfl (fun K hK => ?_) AllReadyH.nil)
          · go_simp; (try clear hHeld); refine hK.out _ _ (hHold _ hb6) (fun hHeld => ?_)
            refine wpAnyH_ready (rs := [14]) (by kernel_rfl) (by simp) ?_; refine AllReadyH.cons rfl (fun K hK => ?_) AllReadyH.nil; go_simp
            refine (rBytesX_c _ _ _ _ _ _ _ _ hP1.v (by omega) n).mono ?_
            rintro e w7 ⟨v7, rfl, hO7, hV7, q7, k7⟩
            have hP2 := hP1.onV hV7 q7 k7
            have hbf := q7.toBw hb6 hrbW
            have hcv7 := conv8 hO7
            have hcv6' := conv8 (hO6.q hrlt q7)
            (try clear hHeld); refine hK.out _ _ (hHold _ hbf) (fun hHeld => ?_)
            refine wpAnyH_ready (rs := [15]) (by kernel_rfl) (by simp) ?_; refine AllReadyH.cons rfl (fun K hK => ?_) AllReadyH.nil; go_simp; (try clear hHeld); refine hK.out _ _ (hHold _ hbf) (fun hHeld => ?_)
            refine wpAnyH_take (i := 16) (oi := ⟨some 74, _, _, _, _, _⟩) (v := ?_) rfl (by kernel_rfl) (by kernel_rfl) (by kernel_rfl) (fun _ _ _ h => h) (Or.inl ⟨by rfl, ?_⟩) (by assumption) ?_; (rotate_left 1); (focus (intro wz hSw; (try dsimp only at hSw); go_simp; try (with_reducible rfl))); simp only [Act.put, List.setIfInBounds_toArray, List.set_cons_zero, List.set_cons_succ]
            refine wpAnyH_take (i := 17) (oi := ⟨some 8, _, _, _, _, _⟩) (v := ?_) rfl (by kernel_rfl) (by kernel_rfl) (by kernel_rfl) (fun _ _ _ h => h) (Or.inl ⟨by rfl, ?_⟩) (by assumption) ?_; (rotate_left 1); (focus (intro wz hSw; (try dsimp only at hSw); go_simp; try (with_reducible rfl))); simp only [Act.put, List.setIfInBounds_toArray, List.set_cons_zero, List.set_cons_succ]
            refine wpAnyH_done (by kernel_rfl) ?_ _
            clear hHold hP hP1 hU6 hV7 q6 q7 k6 k7 hb6 hB hO6 hO7 hcv7 hcv6' hcv6
            go_wp2_with (first | (go_at_call 27; refine (Used_c _ _ _ _ _ _ _ _ hP2.u).mono ?_; rintro e w9 ⟨rfl, hb9⟩; have hP3 := hP2.bw hb9; have hb10 := hbf.trans hb9; obtain ⟨⟨va', vi', vs', vr', vc', vf', hbx, _⟩, _⟩ := hP3.v; have r6 := hbx.c 6 _ rfl; have r7 := hbx.c 7 _ rfl; have r8 := hbx.c 8 _ rfl; clear hbx))
            go_roundg (l.length - (k + 1))
            case measure => omega
            case rel => exact ⟨k + 1, _, _, _, _, by omega, rfl, by simp, hb10, hP3, hubW⟩
          · go_simp
            refine (rBytesX_c _ _ _ _ _ _ _ _ hP1.v (by omega) n).mono ?_
            rintro e w7 ⟨v7, rfl, hO7, hV7, q7, k7⟩
            have hP2 := hP1.onV hV7 q7 k7
            have hbf := q7.toBw hb6 hrbW
            have hcv7 := conv8 hO7
            have hcv6' := conv8 (hO6.q hrlt q7)
            (try clear hHeld); refine hK.out _ _ (hHold _ hbf) (fun hHeld => ?_)
            refine wpAnyH_ready (rs := [7, 15]) (by kernel_rfl) (by simp) ?_
            refine AllReadyH.cons rfl (fun K hK => ?_) (AllReadyH.cons rfl (fun K hK => ?_) AllReadyH.nil)
            · go_simp; (try clear hHeld); refine hK.out _ _ (hHold _ hbf) (fun hHeld => ?_)
              refine wpAnyH_ready (rs := [15]) (by kernel_rfl) (by simp) ?_; refine AllReadyH.cons rfl (fun K hK => ?_) AllReadyH.nil; go_simp; (try clear hHeld); refine hK.out _ _ (hHold _ hbf) (fun hHeld => ?_)
              refine wpAnyH_take (i := 16) (oi := ⟨some 74, _, _, _, _, _⟩) (v := ?_) rfl (by kernel_rfl) (by kernel_rfl) (by kernel_rfl) (fun _ _ _ h => h) (Or.inl ⟨by rfl, ?_⟩) (by assumption) ?_; (rotate_left 1); (focus (intro wz hSw; (try dsimp only at hSw); go_simp; try (with_reducible rfl))); simp only [Act.put, List.setIfInBounds_toArray, List.set_cons_zero, List.set_cons_succ]
              refine wpAnyH_take (i := 17) (oi := ⟨some 8, _, _, _, _, _⟩) (v := ?_) rfl (by kernel_rfl) (by kernel_rfl) (by kernel_rfl) (fun _ _ _ h => h) (Or.inl ⟨by rfl, ?_⟩) (by assumption) ?_; (rotate_left 1); (focus (intro wz hSw; (try dsimp only at hSw); go_simp; try (with_reducible rfl))); simp only [Act.put, List.setIfInBounds_toArray, List.set_cons_zero, List.set_cons_succ]
              refine wpAnyH_done (by kernel_rfl) ?_ _
              clear hHold hP hP1 hU6 hV7 q6 q7 k6 k7 hb6 hB hO6 hO7 hcv7 hcv6' hcv6
              go_wp2_with (first | (go_at_call 27; refine (Used_c _ _ _ _ _ _ _ _ hP2.u).mono ?_; rintro e w9 ⟨rfl, hb9⟩; have hP3 := hP2.bw hb9; have hb10 := hbf.trans hb9; obtain ⟨⟨va', vi', vs', vr', vc', vf', hbx, _⟩, _⟩ := hP3.v; have r6 := hbx.c 6 _ rfl; have r7 := hbx.c 7 _ rfl; have r8 := hbx.c 8 _ rfl; clear hbx))
              go_roundg (l.length - (k + 1))
              case measure => omega
              case rel => exact ⟨k + 1, _, _, _, _, by omega, rfl, by simp, hb10, hP3, hubW⟩
            · go_simp; (try clear hHeld); refine hK.out _ _ (hHold _ hbf) (fun hHeld => ?_)
              refine wpAnyH_ready (rs := [7]) (by kernel_rfl) (by simp) ?_; refine AllReadyH.cons rfl (fun K hK => ?_) AllReadyH.nil; go_simp; (try clear hHeld); refine hK.out _ _ (hHold _ hbf) (fun hHeld => ?_)
              refine wpAnyH_take (i := 16) (oi := ⟨some 74, _, _, _, _, _⟩) (v := ?_) rfl (by kernel_rfl) (by kernel_rfl) (by kernel_rfl) (fun _ _ _ h => h) (Or.inl ⟨by rfl, ?_⟩) (by assumption) ?_; (rotate_left 1); (focus (intro wz hSw; (try dsimp only at hSw); go_simp; try (with_reducible rfl))); simp only [Act.put, List.setIfInBounds_toArray, List.set_cons_zero, List.set_cons_succ]
              refine wpAnyH_take (i := 17) (oi := ⟨some 8, _, _, _, _, _⟩) (v := ?_) rfl (by kernel_rfl) (by kernel_rfl) (by kernel_rfl) (fun _ _ _ h => h) (Or.inl ⟨by rfl, ?_⟩) (by assumption) ?_; (rotate_left 1); (focus (intro wz hSw; (try dsimp only at hSw); go_simp; try (with_reducible rfl))); simp only [Act.put, List.setIfInBounds_toArray, List.set_cons_zero, List.set_cons_succ]
              refine wpAnyH_done (by kernel_rfl) ?_ _
              clear hHold hP hP1 hU6 hV7 q6 q7 k6 k7 hb6 hB hO6 hO7 hcv7 hcv6' hcv6
              go_wp2_with (first | (go_at_call 27; refine (Used_c _ _ _ _ _ _ _ _ hP2.u).mono ?_; rintro e w9 ⟨rfl, hb9⟩; have hP3 := hP2.bw hb9; have hb10 := hbf.trans hb9; obtain ⟨⟨va', vi', vs', vr', vc', vf', hbx, _⟩, _⟩ := hP3.v; have r6 := hbx.c 6 _ rfl; have r7 := hbx.c 7 _ rfl; have r8 := hbx.c 8 _ rfl; clear hbx))
              go_roundg (l.length - (k + 1))
              case measure => omega
              case rel => exact ⟨k + 1, _, _, _, _, by omega, rfl, by simp, hb10, hP3, hubW⟩
        by_cases h2 : op = 2
        · subst h2
          have hTu := Time_c _ _ _ _ _ _ _ _ hP.u (by omega)
          go_wp2_with (first | (go_at_call 14; refine hTu.mono ?_; rintro e w6 ⟨rfl, hU6, q6, k6⟩; have hP1 := hP.onU hU6 q6 k6; have hb6 := q6.toBw hbw hubW) | (go_at_call 25; refine (rTime_c _ _ _ _ _ _ _ _ hP1.v (by omega)).mono ?_; rintro e w7 ⟨rfl, hV7, q7, k7⟩; have hP2 := hP1.onV hV7 q7 k7; have hbf := q7.toBw hb6 hrbW) | (go_at_call 27; refine (Used_c _ _ _ _ _ _ _ _ hP2.u).mono ?_; rintro e w9 ⟨rfl, hb9⟩; have hP3 := hP2.bw hb9; have hb10 := hbf.trans hb9; obtain ⟨⟨va', vi', vs', vr', vc', vf', hbx, _⟩, _⟩ := hP3.v; have r6 := hbx.c 6 _ rfl; have r7 := hbx.c 7 _ rfl; have r8 := hbx.c 8 _ rfl; clear hbx))
          go_roundg (l.length - (k + 1))
          case measure => omega
          case rel => exact ⟨k + 1, _, _, _, _, by omega, rfl, by simp, hb10, hP3, hubW⟩
        · have h0b : (op == 0) = false := by simpa using h0
          have h1b : (op == 1) = false := by simpa using h1
          have h2b : (op == 2) = false := by simpa using h2
          have hCp := Copy_c _ _ _ _ _ _ _ _ hP.u (by omega) (by omega) (by omega)
          go_wp2_with (first | (go_at_call 26; refine hCp.mono ?_; rintro e w6 ⟨ob, rfl, hob, hbo, hU6, hF6⟩; have hP2 := hP.copy hob hbo hU6 hF6; have hbf := hbw.trans hbo; have hobW := Nat.le_trans hbw.size hob) | (go_at_call 27; refine (Used_c _ _ _ _ _ _ _ _ hP2.u).mono ?_; rintro e w9 ⟨rfl, hb9⟩; have hP3 := hP2.bw hb9; have hb10 := hbf.trans hb9; obtain ⟨⟨va', vi', vs', vr', vc', vf', hbx, _⟩, _⟩ := hP3.v; have r6 := hbx.c 6 _ rfl; have r7 := hbx.c 7 _ rfl; have r8 := hbx.c 8 _ rfl; clear hbx))
          go_roundg (l.length - (k + 1))
          case measure => omega
          case rel => exact ⟨k + 1, _, _, _, _, by omega, rfl, by simp, hb10, hP3, hobW⟩
end Go.Proofs.Ytldapnefhlmdiaa
