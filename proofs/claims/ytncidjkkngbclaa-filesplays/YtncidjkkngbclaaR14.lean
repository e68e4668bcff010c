/- LAYER 11's law FilesPlays (by filplays.py). -/
import Derived.Test.YtncidjkkngbclaaR13
import Derived.Deep.CutBlock
import Derived.Deep.RegionWith
namespace Go.Proofs.Ytncidjkkngbclaa
open Go.ChangeShapes Go.WideShapes Go.ChangeAt Go.RowKit
set_option linter.unusedSimpArgs false

theorem shareKey {P Q : Prop} (m : P → Q) (h : P) : Q := m h
set_option maxHeartbeats 16000000 in
set_option maxRecDepth 100000 in
theorem FilesPlays_w (v0 v1 : Value) (W : World) (h0 : ∃ f, IsFd W v0 f) (h1 : ∃ l, AtS W v1 l) : Calls Try.prog 3 #[v0, v1] W fun e w' => e = .returned (.bool true) ∧ Bw W w' := by
  obtain ⟨f, hf⟩ := h0
  obtain ⟨l, hl⟩ := h1
  have hI := fun X (g : Bw W X) => hf.bw g
  have hf0 := hf
  obtain ⟨va, vi, vs, vr, vc, vf, rfl, ha, hi, hs, hr, hc, hff, -⟩ := hf
  have ls : Lo W.heap.size vs := RdR.lo hs
  have lr : Lo W.heap.size vr := RdR.lo hr
  have lc : Lo W.heap.size vc := RdR.lo hc
  have li : Lo W.heap.size vi := RdR.lo hi
  obtain ⟨qa, ca, rfl, -⟩ := RdR.form ha
  obtain ⟨qi, ci, rfl, -⟩ := Rd8.open hi
  obtain ⟨qs, cs, rfl, -⟩ := RdR.form hs
  obtain ⟨qr, cr, rfl, -⟩ := Rd8.open hr
  obtain ⟨qc, cc, rfl, -⟩ := RdR.form hc
  obtain ⟨qf, cf, rfl, -⟩ := hff.form
  obtain ⟨ql, cl, rfl, hl1, hl3, hcl⟩ := hl.open
  clear ha hi hs hr hc hff hl
  have hBx := Box.new W [.slice qa f.args.length ca, .slice qi f.input.length ci, .slice qs f.short.length cs, .slice qr f.random.length cr, .slice qc f.clock.length cc, .slice qf f.files.length cf] 28
  have hB0 : Bw W (W.alloc (.cells #[.slice qa f.args.length ca, .slice qi f.input.length ci, .slice qs f.short.length cs, .slice qr f.random.length cr, .slice qc f.clock.length cc, .slice qf f.files.length cf] 28)) := (Bw.refl W).alloc _
  go_enter Try.func3, Try.ntmps3
  go_wp2_with fail
  refine (awake11_c _).mono ?_
  rintro e w1 ⟨rfl, hb1⟩
  have hB1 := hBx.bw hb1
  replace hb1 := hB0.trans hb1
  clear hBx hB0
  obtain ⟨fb, hfb⟩ : ∃ fb, W.heap.size = fb := ⟨_, rfl⟩
  rw [hfb] at hB1 ⊢
  have c0 := hB1.c 0 _ rfl; have c1 := hB1.c 1 _ rfl; have c2 := hB1.c 2 _ rfl; have c3 := hB1.c 3 _ rfl; have c4 := hB1.c 4 _ rfl; have c5 := hB1.c 5 _ rfl
  go_wp2_with fail
  refine (light_c _ f _ (hI _ hb1)).mono ?_
  rintro e w2 ⟨b, rfl, hbd, hb2⟩
  have hB2 := hB1.bw hb2
  replace hb2 := hb1.trans hb2
  clear hb1 hB1 c0 c1 c2 c3 c4 c5
  cases b with
  | false =>
    clear hbd hB2
    go_wp2_with fail
    go_returns
    exact ⟨rfl, hb2⟩
  | true =>
    have HBd : Hid (Fil.Bd f) := hbd rfl
    clear hbd
    by_cases hn2 : 60 < l.length
    · have hn2i : decide ((60 : Int) < (l.length : Int)) = true := decide_eq_true (by omega)
      clear hB2
      go_wp2_with fail
      go_returns
      exact ⟨rfl, hb2⟩
    have hn2i : decide ((60 : Int) < (l.length : Int)) = false := decide_eq_false (by omega)
    have hSz : Hid (Fee.Sz f) := ⟨fun s h => by have := (show Fil.Bd f from HBd).asz s h; omega, fun x h => by have := ((show Fil.Bd f from HBd).fsz x h).1; omega⟩
    go_wp2_with fail
    have hHold : ∀ X, Bw w2 X → (X.cell? ⟨fb, 0, none⟩ = some (.slice qa f.args.length ca) ∧ X.cell? ⟨fb, 1, none⟩ = some (.slice qi f.input.length ci) ∧ X.cell? ⟨fb, 2, none⟩ = some (.slice qs f.short.length cs) ∧ X.cell? ⟨fb, 3, none⟩ = some (.slice qr f.random.length cr) ∧ X.cell? ⟨fb, 4, none⟩ = some (.slice qc f.clock.length cc) ∧ X.cell? ⟨fb, 5, none⟩ = some (.slice qf f.files.length cf)) := fun X g =>
      ⟨g.keep (hB2.c 0 _ rfl), g.keep (hB2.c 1 _ rfl), g.keep (hB2.c 2 _ rfl), g.keep (hB2.c 3 _ rfl), g.keep (hB2.c 4 _ rfl), g.keep (hB2.c 5 _ rfl)⟩
    have hB : Bw w2 w2.drew := (Bw.refl w2).drew
    refine wp_region_held_drew (S := fun X => (X.cell? ⟨fb, 0, none⟩ = some (.slice qa f.args.length ca) ∧ X.cell? ⟨fb, 1, none⟩ = some (.slice qi f.input.length ci) ∧ X.cell? ⟨fb, 2, none⟩ = some (.slice qs f.short.length cs) ∧ X.cell? ⟨fb, 3, none⟩ = some (.slice qr f.random.length cr) ∧ X.cell? ⟨fb, 4, none⟩ = some (.slice qc f.clock.length cc) ∧ X.cell? ⟨fb, 5, none⟩ = some (.slice qf f.files.length cf))) (by kernel_rfl) (hHold _ hB) (fun hHeld => ?_)
    refine wpAnyH_take (i := 0) (oi := ⟨some 27, _, _, _, _, _⟩) (v := ?_) rfl (by kernel_rfl) (by kernel_rfl) (by kernel_rfl) (fun _ _ _ h => h) (Or.inl ⟨by rfl, ?_⟩) (by assumption) ?_; (rotate_left 1); (focus (intro wz hSw; (try dsimp only at hSw); go_simp; try (with_reducible rfl))); simp only [Act.put, List.setIfInBounds_toArray, List.set_cons_zero, List.set_cons_succ]
    refine wpAnyH_take (i := 2) (oi := ⟨some 29, _, _, _, _, _⟩) (v := ?_) rfl (by kernel_rfl) (by kernel_rfl) (by kernel_rfl) (fun _ _ _ h => h) (Or.inl ⟨by rfl, ?_⟩) (by assumption) ?_; (rotate_left 1); (focus (intro wz hSw; (try dsimp only at hSw); go_simp; try (with_reducible rfl))); simp only [Act.put, List.setIfInBounds_toArray, List.set_cons_zero, List.set_cons_succ]
    refine wpAnyH_ready (rs := [1]) (by kernel_rfl) (by simp) ?_; refine AllReadyH.cons rfl (fun K hK => ?_) AllReadyH.nil; go_simp
    refine (lNew (hb2.trans hB) _ f (hI _ (hb2.trans hB))).mono ?_
    rintro e w3 ⟨nb, A, rfl, hLF, h3, hAlo, -⟩
    have hs2 := (hb2.trans hB).size
    replace hB := hB.trans h3
    (try clear hHeld); refine hK.out _ _ ?_ (fun hHeld => ?_)
    · exact hHold _ hB
    refine wpAnyH_ready (rs := [3]) (by kernel_rfl) (by simp) ?_; refine AllReadyH.cons rfl (fun K hK => ?_) AllReadyH.nil; go_simp
    refine (fee_c _ _ _ _ _ _ f _ W hf0 (hb2.trans hB) (by have := (show Fil.Bd f from HBd).lf; omega)).mono ?_
    rintro e w4 ⟨uf, rfl, hI4, hFU, h4, hub⟩
    have hTw := fun (w5 : World) => @Tw.new W w3 w4 w5 nb A f uf hLF h4 (fun i hi => Nat.le_trans hs2 (hAlo i hi)) hub
    have huf : Lo w4.heap.size uf := by obtain ⟨_, _, hr, _⟩ := hFU; exact RdR.lo hr
    replace hB := hB.trans h4
    (try clear hHeld); refine hK.out _ _ ?_ (fun hHeld => ?_)
    · exact hHold _ hB
    refine wpAnyH_ready (rs := [4]) (by kernel_rfl) (by simp) ?_; refine AllReadyH.cons rfl (fun K hK => ?_) AllReadyH.nil; go_simp
    refine (rNew_c _ _ _ _ _ _ f _ (n := W.heap.size) (B := Fil.Bk W uf) hI4 hSz hFU ⟨Fil.Bk.lo ls, Fil.Bk.lo lr, Fil.Bk.lo lc, Fil.Bk.lo li, Fil.Bk.u W uf⟩ (fun i hi => Or.inl hi) (Fil.Bk.lt (hb2.trans hB).size huf)).mono ?_
    rintro e w5 ⟨rb, G, rfl, hRS, h5, hGlo⟩
    replace hTw := hTw w5 rb G hRS h5 hGlo
    replace hB := hB.trans h5
    (try clear hHeld); refine hK.out _ _ ?_ (fun hHeld => ?_)
    · exact hHold _ hB
    refine wpAnyH_take (i := 5) (oi := ⟨some 5, _, _, _, _, _⟩) (v := ?_) rfl (by kernel_rfl) (by kernel_rfl) (by kernel_rfl) (fun _ _ _ h => h) (Or.inl ⟨by rfl, ?_⟩) (by assumption) ?_; (rotate_left 1); (focus (intro wz hSw; (try dsimp only at hSw); go_simp; try (with_reducible rfl))); simp only [Act.put, List.setIfInBounds_toArray, List.set_cons_zero, List.set_cons_succ]
    refine wpAnyH_take (i := 6) (oi := ⟨some 6, _, _, _, _, _⟩) (v := ?_) rfl (by kernel_rfl) (by kernel_rfl) (by kernel_rfl) (fun _ _ _ h => h) (Or.inl ⟨by rfl, ?_⟩) (by assumption) ?_; (rotate_left 1); (focus (intro wz hSw; (try dsimp only at hSw); go_simp; try (with_reducible rfl))); simp only [Act.put, List.setIfInBounds_toArray, List.set_cons_zero, List.set_cons_succ]
    refine wpAnyH_done (by kernel_rfl) ?_ _
    have hb5 := hb2.trans hB
    have hp0 : ∀ x ∈ (Fil.new f).op, x.pos ≤ 0 := Fil.new_pos f
    clear hHold hB hB2 hb2 hLF hI4 h3 h4 h5 hI hn2i HBd hSz ls lr lc li hRS hGlo hAlo hub hFU hf0 huf hs2
    generalize Fil.new f = s0 at *
    generalize Fil.Bk W uf = B at *
    go_wp2_with fail
    go_loopg [5, 7] l.length (fun g x j wr => ∃ k nb : Nat, ∃ A G s ls, k + g = l.length ∧ x = .pointer (some ⟨nb, 0, none⟩) ∧ j = .int .i64 k ∧ Tw W w4 wr nb rb A G B s ls ∧ ∀ y ∈ s.op, y.pos ≤ k * 8589934592)
    case atStart => exact ⟨0, _, A, G, s0, [0, 1, 2], by omega, rfl, rfl, hTw, by simpa using hp0⟩
    case round =>
      obtain ⟨k, nb, A, G, s, ls, hkg, rfl, rfl, hT, hpos⟩ := hrel
      have hbw := hT.lf.b
      clear hb5 hTw hp0
      by_cases hk : k = l.length
      · subst hk
        clear hT hcl hpos
        go_wp2_with fail
        go_returns
        exact ⟨rfl, hbw⟩
      · have hkl : k < l.length := by omega
        have hki : (k : Int) < (l.length : Int) := by omega
        obtain ⟨act, hx, -⟩ := dropAt hkl
        obtain ⟨hoff, bl, ol, rfl, -, d0, d1, d2, d3, d4⟩ := hcl k act hx
        replace d0 := hbw.keep d0; replace d1 := hbw.keep d1; replace d2 := hbw.keep d2; replace d3 := hbw.keep d3; replace d4 := hbw.keep d4
        clear hx hcl
        by_cases hS : 100 < act.s.size
        · have hSi : (100 : Int) < (act.s.size : Int) := by omega
          go_wp2_with fail
          go_returns
          exact ⟨rfl, by (repeat' (first | (with_reducible assumption) | (with_reducible exact Bw.refl _) | (with_reducible refine Bw.alloc ?_ _) | (with_reducible refine Bw.drew ?_) | (with_reducible refine Bw.drewN ?_ _) | (with_reducible refine Bw.setCell ?_ ?_ _) | exact Nat.le_refl _))⟩
        have hSi : ¬ (100 : Int) < (act.s.size : Int) := by omega
        have hp2 : ∀ (i : Nat) x, s.op[i]? = some x → x.pos ≤ 4611686018427387904 := fun i x h => by have := hpos x (List.mem_of_getElem? h); omega
        go_upto_block 2 with fail
        have hX0 := hT.tx ((Bw.refl wr).alloc _) (Box.new wr [.int .i64 act.op, .int .i64 act.fd, .int .i64 act.n, .int .i32 act.off, .string act.s] 41) (by simp [World.size_alloc])
        obtain ⟨wx, hwx⟩ : ∃ wx, wr.alloc (.cells #[.int .i64 act.op, .int .i64 act.fd, .int .i64 act.n, .int .i32 act.off, .string act.s] 41) = wx := ⟨_, rfl⟩
        have hX : Tx W w4 wx nb rb A G B s s ls wr.heap.size [.int .i64 act.op, .int .i64 act.fd, .int .i64 act.n, .int .i32 act.off, .string act.s] := by rw [← hwx]; exact hX0
        rw [hwx]
        clear hwx hX0 hT d0 d1 d2 d3 d4 hbw
        generalize wr.heap.size = xb at *
        go_cut [5, 9, 10, 11, 12, 13] from 46 to 137 (fun s5 s9 s10 s11 s12 s13 wc => ∃ (nb : Nat) (A G : Nat → Prop) (s : Fil.St) (ls : List Nat), s5 = .pointer (some ⟨nb, 0, none⟩) ∧ s9 = .bool true ∧ Tw W w4 wc nb rb A G B s ls ∧ Tx W w4 wc nb rb A G B s s ls xb [.int .i64 act.op, .int .i64 act.fd, .int .i64 act.n, .int .i32 act.off, .string act.s] ∧ ∀ y ∈ s.op, y.pos ≤ k * 8589934592 + 8589934592)
        case first =>
          by_cases h0 : act.op = 0
          · as_aux_lemma =>
              have a0 := hX.bx.c 0 _ rfl
              have a1 := hX.bx.c 1 _ rfl
              have a2 := hX.bx.c 2 _ rfl
              have hb0 : (act.op == 0) = true := by simpa using h0
              clear h0
              go_wp2_with fail
              have hHold : ∀ {X A G s t l}, Tx W w4 X nb rb A G B s t l xb [.int .i64 act.op, .int .i64 act.fd, .int .i64 act.n, .int .i32 act.off, .string act.s] → (X.cell? ⟨xb, 1, none⟩ = some (.int .i64 act.fd) ∧ X.cell? ⟨xb, 2, none⟩ = some (.int .i64 act.n) ∧ X.cell? ⟨xb, 3, none⟩ = some (.int .i32 act.off) ∧ X.cell? ⟨xb, 4, none⟩ = some (.string act.s)) := fun h => ⟨h.bx.c 1 _ rfl, h.bx.c 2 _ rfl, h.bx.c 3 _ rfl, h.bx.c 4 _ rfl⟩
              replace hX := hX.bw ((Bw.refl wx).drew)
              refine wp_region_held_drew (S := fun X => (X.cell? ⟨xb, 1, none⟩ = some (.int .i64 act.fd) ∧ X.cell? ⟨xb, 2, none⟩ = some (.int .i64 act.n) ∧ X.cell? ⟨xb, 3, none⟩ = some (.int .i32 act.off) ∧ X.cell? ⟨xb, 4, none⟩ = some (.string act.s))) (by kernel_rfl) (hHold hX) (fun hHeld => ?_)
              refine wpAnyH_take (i := 0) (oi := ⟨some 52, _, _, _, _, _⟩) (v := ?_) rfl (by kernel_rfl) (by kernel_rfl) (by kernel_rfl) (fun _ _ _ h => h) (Or.inl ⟨by rfl, ?_⟩) (by assumption) ?_; (rotate_left 1); (focus (intro wz hSw; (try dsimp only at hSw); go_simp; try (with_reducible rfl))); simp only [Act.put, List.setIfInBounds_toArray, List.set_cons_zero, List.set_cons_succ]
              refine wpAnyH_take (i := 1) (oi := ⟨some 53, _, _, _, _, _⟩) (v := ?_) rfl (by kernel_rfl) (by kernel_rfl) (by kernel_rfl) (fun _ _ _ h => h) (Or.inl ⟨by rfl, ?_⟩) (by assumption) ?_; (rotate_left 1); (focus (intro wz hSw; (try dsimp only at hSw); go_simp; try (with_reducible rfl))); simp only [Act.put, List.setIfInBounds_toArray, List.set_cons_zero, List.set_cons_succ]
              refine wpAnyH_take (i := 2) (oi := ⟨some 54, _, _, _, _, _⟩) (v := ?_) rfl (by kernel_rfl) (by kernel_rfl) (by kernel_rfl) (fun _ _ _ h => h) (Or.inl ⟨by rfl, ?_⟩) (by assumption) ?_; (rotate_left 1); (focus (intro wz hSw; (try dsimp only at hSw); go_simp; try (with_reducible rfl))); simp only [Act.put, List.setIfInBounds_toArray, List.set_cons_zero, List.set_cons_succ]
              refine wpAnyH_take (i := 4) (oi := ⟨some 56, _, _, _, _, _⟩) (v := ?_) rfl (by kernel_rfl) (by kernel_rfl) (by kernel_rfl) (fun _ _ _ h => h) (Or.inl ⟨by rfl, ?_⟩) (by assumption) ?_; (rotate_left 1); (focus (intro wz hSw; (try dsimp only at hSw); go_simp; try (with_reducible rfl))); simp only [Act.put, List.setIfInBounds_toArray, List.set_cons_zero, List.set_cons_succ]
              refine wpAnyH_take (i := 5) (oi := ⟨some 57, _, _, _, _, _⟩) (v := ?_) rfl (by kernel_rfl) (by kernel_rfl) (by kernel_rfl) (fun _ _ _ h => h) (Or.inl ⟨by rfl, ?_⟩) (by assumption) ?_; (rotate_left 1); (focus (intro wz hSw; (try dsimp only at hSw); go_simp; try (with_reducible rfl))); simp only [Act.put, List.setIfInBounds_toArray, List.set_cons_zero, List.set_cons_succ]
              refine wpAnyH_take (i := 6) (oi := ⟨some 58, _, _, _, _, _⟩) (v := ?_) rfl (by kernel_rfl) (by kernel_rfl) (by kernel_rfl) (fun _ _ _ h => h) (Or.inl ⟨by rfl, ?_⟩) (by assumption) ?_; (rotate_left 1); (focus (intro wz hSw; (try dsimp only at hSw); go_simp; try (with_reducible rfl))); simp only [Act.put, List.setIfInBounds_toArray, List.set_cons_zero, List.set_cons_succ]
              refine wpAnyH_ready (rs := [3]) (by kernel_rfl) (by simp) ?_; refine AllReadyH.cons rfl (fun K hK => ?_) AllReadyH.nil; go_simp
              refine (lOpen hX.lf act.s).mono ?_
              rintro e w6 ⟨rfl, hL6, k6⟩
              have hX1 := hX.onA hL6 k6.stp
              (try clear hHeld); refine hK.out _ _ ?_ (fun hHeld => ?_)
              · exact hHold hX1
              refine wpAnyH_ready (rs := [7]) (by kernel_rfl) (by simp) ?_; refine AllReadyH.cons rfl (fun K hK => ?_) AllReadyH.nil; go_simp
              refine (rOpen_c hX1.rs act.s).mono ?_
              rintro e w7 ⟨rfl, G7, l7, hR7, k7⟩
              have hX2 := hX1.onG hR7 k7
              (try clear hHeld); refine hK.out _ _ ?_ (fun hHeld => ?_)
              · exact hHold hX2
              refine wpAnyH_take (i := 8) (oi := ⟨some 60, _, _, _, _, _⟩) (v := ?_) rfl (by kernel_rfl) (by kernel_rfl) (by kernel_rfl) (fun _ _ _ h => h) (Or.inl ⟨by rfl, ?_⟩) (by assumption) ?_; (rotate_left 1); (focus (intro wz hSw; (try dsimp only at hSw); go_simp; try (with_reducible rfl))); simp only [Act.put, List.setIfInBounds_toArray, List.set_cons_zero, List.set_cons_succ]
              refine wpAnyH_take (i := 9) (oi := ⟨some 9, _, _, _, _, _⟩) (v := ?_) rfl (by kernel_rfl) (by kernel_rfl) (by kernel_rfl) (fun _ _ _ h => h) (Or.inl ⟨by rfl, ?_⟩) (by assumption) ?_; (rotate_left 1); (focus (intro wz hSw; (try dsimp only at hSw); go_simp; try (with_reducible rfl))); simp only [Act.put, List.setIfInBounds_toArray, List.set_cons_zero, List.set_cons_succ]
              refine wpAnyH_done (by kernel_rfl) ?_ _
              have hPn := Fil.pos_open hpos act.s
              clear hHold hX hX1 hL6 hR7 k6 k7 hp2 hpos
              go_wp2_with fail
              go_meet
              case rel => exact ⟨_, _, _, _, _, rfl, by simp, hX2.tw, hX2, hPn⟩
          by_cases h1 : act.op = 1
          · as_aux_lemma =>
              have a0 := hX.bx.c 0 _ rfl
              have a1 := hX.bx.c 1 _ rfl
              have a2 := hX.bx.c 2 _ rfl
              have hb1 : (act.op == 1) = true := by simpa using h1
              clear h1
              go_wp2_with fail
              have hHold : ∀ {X A G s t l}, Tx W w4 X nb rb A G B s t l xb [.int .i64 act.op, .int .i64 act.fd, .int .i64 act.n, .int .i32 act.off, .string act.s] → (X.cell? ⟨xb, 1, none⟩ = some (.int .i64 act.fd) ∧ X.cell? ⟨xb, 2, none⟩ = some (.int .i64 act.n) ∧ X.cell? ⟨xb, 3, none⟩ = some (.int .i32 act.off) ∧ X.cell? ⟨xb, 4, none⟩ = some (.string act.s)) := fun h => ⟨h.bx.c 1 _ rfl, h.bx.c 2 _ rfl, h.bx.c 3 _ rfl, h.bx.c 4 _ rfl⟩
              replace hX := hX.bw ((Bw.refl wx).drew)
              refine wp_region_held_drew (S := fun X => (X.cell? ⟨xb, 1, none⟩ = some (.int .i64 act.fd) ∧ X.cell? ⟨xb, 2, none⟩ = some (.int .i64 act.n) ∧ X.cell? ⟨xb, 3, none⟩ = some (.int .i32 act.off) ∧ X.cell? ⟨xb, 4, none⟩ = some (.string act.s))) (by kernel_rfl) (hHold hX) (fun hHeld => ?_)
              refine wpAnyH_take (i := 0) (oi := ⟨some 63, _, _, _, _, _⟩) (v := ?_) rfl (by kernel_rfl) (by kernel_rfl) (by kernel_rfl) (fun _ _ _ h => h) (Or.inl ⟨by rfl, ?_⟩) (by assumption) ?_; (rotate_left 1); (focus (intro wz hSw; (try dsimp only at hSw); go_simp; try (with_reducible rfl))); simp only [Act.put, List.setIfInBounds_toArray, List.set_cons_zero, List.set_cons_succ]
              refine wpAnyH_take (i := 1) (oi := ⟨some 64, _, _, _, _, _⟩) (v := ?_) rfl (by kernel_rfl) (by kernel_rfl) (by kernel_rfl) (fun _ _ _ h => h) (Or.inl ⟨by rfl, ?_⟩) (by assumption) ?_; (rotate_left 1); (focus (intro wz hSw; (try dsimp only at hSw); go_simp; try (with_reducible rfl))); simp only [Act.put, List.setIfInBounds_toArray, List.set_cons_zero, List.set_cons_succ]
              refine wpAnyH_take (i := 2) (oi := ⟨some 65, _, _, _, _, _⟩) (v := ?_) rfl (by kernel_rfl) (by kernel_rfl) (by kernel_rfl) (fun _ _ _ h => h) (Or.inl ⟨by rfl, ?_⟩) (by assumption) ?_; (rotate_left 1); (focus (intro wz hSw; (try dsimp only at hSw); go_simp; try (with_reducible rfl))); simp only [Act.put, List.setIfInBounds_toArray, List.set_cons_zero, List.set_cons_succ]
              refine wpAnyH_take (i := 4) (oi := ⟨some 67, _, _, _, _, _⟩) (v := ?_) rfl (by kernel_rfl) (by kernel_rfl) (by kernel_rfl) (fun _ _ _ h => h) (Or.inl ⟨by rfl, ?_⟩) (by assumption) ?_; (rotate_left 1); (focus (intro wz hSw; (try dsimp only at hSw); go_simp; try (with_reducible rfl))); simp only [Act.put, List.setIfInBounds_toArray, List.set_cons_zero, List.set_cons_succ]
              refine wpAnyH_take (i := 5) (oi := ⟨some 68, _, _, _, _, _⟩) (v := ?_) rfl (by kernel_rfl) (by kernel_rfl) (by kernel_rfl) (fun _ _ _ h => h) (Or.inl ⟨by rfl, ?_⟩) (by assumption) ?_; (rotate_left 1); (focus (intro wz hSw; (try dsimp only at hSw); go_simp; try (with_reducible rfl))); simp only [Act.put, List.setIfInBounds_toArray, List.set_cons_zero, List.set_cons_succ]
              refine wpAnyH_take (i := 6) (oi := ⟨some 69, _, _, _, _, _⟩) (v := ?_) rfl (by kernel_rfl) (by kernel_rfl) (by kernel_rfl) (fun _ _ _ h => h) (Or.inl ⟨by rfl, ?_⟩) (by assumption) ?_; (rotate_left 1); (focus (intro wz hSw; (try dsimp only at hSw); go_simp; try (with_reducible rfl))); simp only [Act.put, List.setIfInBounds_toArray, List.set_cons_zero, List.set_cons_succ]
              refine wpAnyH_ready (rs := [3]) (by kernel_rfl) (by simp) ?_; refine AllReadyH.cons rfl (fun K hK => ?_) AllReadyH.nil; go_simp
              refine (lClose hX.lf act.fd).mono ?_
              rintro e w6 ⟨rfl, hL6, k6⟩
              have hX1 := hX.onA hL6 k6.stp
              (try clear hHeld); refine hK.out _ _ ?_ (fun hHeld => ?_)
              · exact hHold hX1
              refine wpAnyH_ready (rs := [7]) (by kernel_rfl) (by simp) ?_; refine AllReadyH.cons rfl (fun K hK => ?_) AllReadyH.nil; go_simp
              refine (rClose_c hX1.rs act.fd).mono ?_
              rintro e w7 ⟨rfl, G7, l7, hR7, k7⟩
              have hX2 := hX1.onG hR7 k7
              (try clear hHeld); refine hK.out _ _ ?_ (fun hHeld => ?_)
              · exact hHold hX2
              refine wpAnyH_take (i := 8) (oi := ⟨some 71, _, _, _, _, _⟩) (v := ?_) rfl (by kernel_rfl) (by kernel_rfl) (by kernel_rfl) (fun _ _ _ h => h) (Or.inl ⟨by rfl, ?_⟩) (by assumption) ?_; (rotate_left 1); (focus (intro wz hSw; (try dsimp only at hSw); go_simp; try (with_reducible rfl))); simp only [Act.put, List.setIfInBounds_toArray, List.set_cons_zero, List.set_cons_succ]
              refine wpAnyH_take (i := 9) (oi := ⟨some 9, _, _, _, _, _⟩) (v := ?_) rfl (by kernel_rfl) (by kernel_rfl) (by kernel_rfl) (fun _ _ _ h => h) (Or.inl ⟨by rfl, ?_⟩) (by assumption) ?_; (rotate_left 1); (focus (intro wz hSw; (try dsimp only at hSw); go_simp; try (with_reducible rfl))); simp only [Act.put, List.setIfInBounds_toArray, List.set_cons_zero, List.set_cons_succ]
              refine wpAnyH_done (by kernel_rfl) ?_ _
              have hPn := Fil.pos_close hpos act.fd
              clear hHold hX hX1 hL6 hR7 k6 k7 hp2 hpos
              go_wp2_with fail
              go_meet
              case rel => exact ⟨_, _, _, _, _, rfl, by simp, hX2.tw, hX2, hPn⟩
          by_cases h2 : act.op = 2
          · as_aux_lemma =>
              have a0 := hX.bx.c 0 _ rfl
              have a1 := hX.bx.c 1 _ rfl
              have a2 := hX.bx.c 2 _ rfl
              have hb2 : (act.op == 2) = true := by simpa using h2
              clear h2
              go_wp2_with fail
              refine (lRead hX.lf act.fd act.n hp2).mono ?_
              rintro e w6 ⟨v6, rfl, ho6, hL6, k6⟩
              have hX1 := hX.onA hL6 k6.stp
              obtain ⟨q6, c6, rfl⟩ := ho6.sl
              have a1 := hX1.bx.c 1 _ rfl
              have a2 := hX1.bx.c 2 _ rfl
              clear hL6 k6
              go_wp2_with (first
                | (go_at_call 14; refine (rRead_c hX1.rs act.fd act.n hp2).mono ?_; rintro e w7 ⟨v7, rfl, ho7, hR7, k7⟩; have hX2 := hX1.onG hR7 k7.stp; obtain ⟨q7, c7, rfl⟩ := ho7.sl; have cv7 := conv8 ho7; have cv6 := conv8 (ho6.fz k7 (fun j hj hg => by have := (ho6.blk j hj).1; have := (hX.rs.inG.1 j hg).2; omega)); have hPn := Fil.pos_read hX.lf.f.ok hpos act.fd act.n; clear hX hX1 hR7 k7 ho6 ho7 hp2 hpos))
              go_meet
              case rel => exact ⟨_, _, _, _, _, rfl, by simp, hX2.tw, hX2, hPn⟩
          by_cases h3 : act.op = 3
          · as_aux_lemma =>
              have a0 := hX.bx.c 0 _ rfl
              have a1 := hX.bx.c 1 _ rfl
              have a2 := hX.bx.c 2 _ rfl
              have hb3 : (act.op == 3) = true := by simpa using h3
              clear h3
              go_wp2_with fail
              have hHold : ∀ {X A G s t l}, Tx W w4 X nb rb A G B s t l xb [.int .i64 act.op, .int .i64 act.fd, .int .i64 act.n, .int .i32 act.off, .string act.s] → (X.cell? ⟨xb, 1, none⟩ = some (.int .i64 act.fd) ∧ X.cell? ⟨xb, 2, none⟩ = some (.int .i64 act.n) ∧ X.cell? ⟨xb, 3, none⟩ = some (.int .i32 act.off) ∧ X.cell? ⟨xb, 4, none⟩ = some (.string act.s)) := fun h => ⟨h.bx.c 1 _ rfl, h.bx.c 2 _ rfl, h.bx.c 3 _ rfl, h.bx.c 4 _ rfl⟩
              replace hX := hX.bw ((Bw.refl wx).drew)
              refine wp_region_held_drew (S := fun X => (X.cell? ⟨xb, 1, none⟩ = some (.int .i64 act.fd) ∧ X.cell? ⟨xb, 2, none⟩ = some (.int .i64 act.n) ∧ X.cell? ⟨xb, 3, none⟩ = some (.int .i32 act.off) ∧ X.cell? ⟨xb, 4, none⟩ = some (.string act.s))) (by kernel_rfl) (hHold hX) (fun hHeld => ?_)
              refine wpAnyH_take (i := 0) (oi := ⟨some 104, _, _, _, _, _⟩) (v := ?_) rfl (by kernel_rfl) (by kernel_rfl) (by kernel_rfl) (fun _ _ _ h => h) (Or.inl ⟨by rfl, ?_⟩) (by assumption) ?_; (rotate_left 1); (focus (intro wz hSw; (try dsimp only at hSw); go_simp; try (with_reducible rfl))); simp only [Act.put, List.setIfInBounds_toArray, List.set_cons_zero, List.set_cons_succ]
              refine wpAnyH_take (i := 1) (oi := ⟨some 105, _, _, _, _, _⟩) (v := ?_) rfl (by kernel_rfl) (by kernel_rfl) (by kernel_rfl) (fun _ _ _ h => h) (Or.inl ⟨by rfl, ?_⟩) (by assumption) ?_; (rotate_left 1); (focus (intro wz hSw; (try dsimp only at hSw); go_simp; try (with_reducible rfl))); simp only [Act.put, List.setIfInBounds_toArray, List.set_cons_zero, List.set_cons_succ]
              refine wpAnyH_take (i := 2) (oi := ⟨some 106, _, _, _, _, _⟩) (v := ?_) rfl (by kernel_rfl) (by kernel_rfl) (by kernel_rfl) (fun _ _ _ h => h) (Or.inl ⟨by rfl, ?_⟩) (by assumption) ?_; (rotate_left 1); (focus (intro wz hSw; (try dsimp only at hSw); go_simp; try (with_reducible rfl))); simp only [Act.put, List.setIfInBounds_toArray, List.set_cons_zero, List.set_cons_succ]
              refine wpAnyH_take (i := 3) (oi := ⟨some 107, _, _, _, _, _⟩) (v := ?_) rfl (by kernel_rfl) (by kernel_rfl) (by kernel_rfl) (fun _ _ _ h => h) (Or.inl ⟨by rfl, ?_⟩) (by assumption) ?_; (rotate_left 1); (focus (intro wz hSw; (try dsimp only at hSw); go_simp; try (with_reducible rfl))); simp only [Act.put, List.setIfInBounds_toArray, List.set_cons_zero, List.set_cons_succ]
              refine wpAnyH_take (i := 4) (oi := ⟨some 108, _, _, _, _, _⟩) (v := ?_) rfl (by kernel_rfl) (by kernel_rfl) (by kernel_rfl) (fun _ _ _ h => h) (Or.inl ⟨by rfl, ?_⟩) (by assumption) ?_; (rotate_left 1); (focus (intro wz hSw; (try dsimp only at hSw); go_simp; try (with_reducible rfl))); simp only [Act.put, List.setIfInBounds_toArray, List.set_cons_zero, List.set_cons_succ]
              refine wpAnyH_take (i := 7) (oi := ⟨some 111, _, _, _, _, _⟩) (v := ?_) rfl (by kernel_rfl) (by kernel_rfl) (by kernel_rfl) (fun _ _ _ h => h) (Or.inl ⟨by rfl, ?_⟩) (by assumption) ?_; (rotate_left 1); (focus (intro wz hSw; (try dsimp only at hSw); go_simp; try (with_reducible rfl))); simp only [Act.put, List.setIfInBounds_toArray, List.set_cons_zero, List.set_cons_succ]
              refine wpAnyH_take (i := 8) (oi := ⟨some 112, _, _, _, _, _⟩) (v := ?_) rfl (by kernel_rfl) (by kernel_rfl) (by kernel_rfl) (fun _ _ _ h => h) (Or.inl ⟨by rfl, ?_⟩) (by assumption) ?_; (rotate_left 1); (focus (intro wz hSw; (try dsimp only at hSw); go_simp; try (with_reducible rfl))); simp only [Act.put, List.setIfInBounds_toArray, List.set_cons_zero, List.set_cons_succ]
              refine wpAnyH_take (i := 9) (oi := ⟨some 113, _, _, _, _, _⟩) (v := ?_) rfl (by kernel_rfl) (by kernel_rfl) (by kernel_rfl) (fun _ _ _ h => h) (Or.inl ⟨by rfl, ?_⟩) (by assumption) ?_; (rotate_left 1); (focus (intro wz hSw; (try dsimp only at hSw); go_simp; try (with_reducible rfl))); simp only [Act.put, List.setIfInBounds_toArray, List.set_cons_zero, List.set_cons_succ]
              refine wpAnyH_take (i := 10) (oi := ⟨some 114, _, _, _, _, _⟩) (v := ?_) rfl (by kernel_rfl) (by kernel_rfl) (by kernel_rfl) (fun _ _ _ h => h) (Or.inl ⟨by rfl, ?_⟩) (by assumption) ?_; (rotate_left 1); (focus (intro wz hSw; (try dsimp only at hSw); go_simp; try (with_reducible rfl))); simp only [Act.put, List.setIfInBounds_toArray, List.set_cons_zero, List.set_cons_succ]
              refine wpAnyH_take (i := 11) (oi := ⟨some 115, _, _, _, _, _⟩) (v := ?_) rfl (by kernel_rfl) (by kernel_rfl) (by kernel_rfl) (fun _ _ _ h => h) (Or.inl ⟨by rfl, ?_⟩) (by assumption) ?_; (rotate_left 1); (focus (intro wz hSw; (try dsimp only at hSw); go_simp; try (with_reducible rfl))); simp only [Act.put, List.setIfInBounds_toArray, List.set_cons_zero, List.set_cons_succ]
              have hXb := hX.bw (bwStr wx.drew act.s)
              have hc1 := cvStr wx.drew act.s
              refine wpAnyH_ready (rs := [5, 12]) (by kernel_rfl) (by simp) ?_
              refine AllReadyH.cons rfl (fun K hK => ?_) (AllReadyH.cons rfl (fun K hK => ?_) AllReadyH.nil)
              · go_simp; (try clear hHeld); refine hK.out _ _ (hHold hXb) (fun hHeld => ?_)
                refine wpAnyH_ready (rs := [6, 12]) (by kernel_rfl) (by simp) ?_
                refine AllReadyH.cons rfl (fun K hK => ?_) (AllReadyH.cons rfl (fun K hK => ?_) AllReadyH.nil)
                · go_simp
                  refine (lWrite hXb.lf act.fd (rdStr wx.drew act.s (capStr wx.drew act.s (by omega))) (Fil.bsOf_8 _) (by rw [Fil.bsOf_len]; omega)).mono ?_
                  rintro e w6 ⟨rfl, A6, hL6, k6⟩
                  have hX1 := hXb.onA hL6 k6
                  (try clear hHeld); refine hK.out _ _ (hHold hX1) (fun hHeld => ?_)
                  have hc2 := cvStr w6 act.s
                  have hX1b := hX1.bw (bwStr w6 act.s)
                  refine wpAnyH_ready (rs := [12]) (by kernel_rfl) (by simp) ?_; refine AllReadyH.cons rfl (fun K hK => ?_) AllReadyH.nil
                  go_simp; (try clear hHeld); refine hK.out _ _ (hHold hX1b) (fun hHeld => ?_)
                  refine wpAnyH_ready (rs := [13]) (by kernel_rfl) (by simp) ?_; refine AllReadyH.cons rfl (fun K hK => ?_) AllReadyH.nil
                  go_simp
                  refine (rWrite_c hX1b.rs act.fd (rdStr w6 act.s (capStr w6 act.s (by omega))) (Fil.bsOf_8 _) (by rw [Fil.bsOf_len]; omega)).mono ?_
                  rintro e w7 ⟨rfl, G7, hR7, k7⟩
                  have hX2r := hX1b.rs
                  have hX2 := hX1b.onG hR7 k7
                  (try clear hHeld); refine hK.out _ _ (hHold hX2) (fun hHeld => ?_)
                  refine wpAnyH_take (i := 14) (oi := ⟨some 118, _, _, _, _, _⟩) (v := ?_) rfl (by kernel_rfl) (by kernel_rfl) (by kernel_rfl) (fun _ _ _ h => h) (Or.inl ⟨by rfl, ?_⟩) (by assumption) ?_; (rotate_left 1); (focus (intro wz hSw; (try dsimp only at hSw); go_simp; try (with_reducible rfl))); simp only [Act.put, List.setIfInBounds_toArray, List.set_cons_zero, List.set_cons_succ]
                  refine wpAnyH_take (i := 15) (oi := ⟨some 9, _, _, _, _, _⟩) (v := ?_) rfl (by kernel_rfl) (by kernel_rfl) (by kernel_rfl) (fun _ _ _ h => h) (Or.inl ⟨by rfl, ?_⟩) (by assumption) ?_; (rotate_left 1); (focus (intro wz hSw; (try dsimp only at hSw); go_simp; try (with_reducible rfl))); simp only [Act.put, List.setIfInBounds_toArray, List.set_cons_zero, List.set_cons_succ]
                  refine wpAnyH_done (by kernel_rfl) ?_ _
                  have hPn := Fil.pos_write hpos act.fd (Fil.bsOf act.s)
                  clear hHold hX hXb hX1 hX2r hp2 hpos hc1
                  go_wp2_with fail
                  go_meet
                  case rel => exact ⟨_, _, _, _, _, rfl, by simp, hX2.tw, hX2, hPn⟩
                · have hc2 := cvStr (Lib.bytesWorld wx.drew 5 act.s) act.s
                  have hXc := hXb.bw (bwStr (Lib.bytesWorld wx.drew 5 act.s) act.s)
                  go_simp; (try clear hHeld); refine hK.out _ _ (hHold hXc) (fun hHeld => ?_)
                  refine wpAnyH_ready (rs := [6]) (by kernel_rfl) (by simp) ?_; refine AllReadyH.cons rfl (fun K hK => ?_) AllReadyH.nil
                  go_simp
                  refine (lWrite hXc.lf act.fd (Rd8.bw (rdStr wx.drew act.s (capStr wx.drew act.s (by omega))) (bwStr _ act.s)) (Fil.bsOf_8 _) (by rw [Fil.bsOf_len]; omega)).mono ?_
                  rintro e w6 ⟨rfl, A6, hL6, k6⟩
                  have hX1 := hXc.onA hL6 k6
                  (try clear hHeld); refine hK.out _ _ (hHold hX1) (fun hHeld => ?_)
                  refine wpAnyH_ready (rs := [13]) (by kernel_rfl) (by simp) ?_; refine AllReadyH.cons rfl (fun K hK => ?_) AllReadyH.nil
                  go_simp
                  refine (rWrite_c hX1.rs act.fd (Rd8.fz (rdStr (Lib.bytesWorld wx.drew 5 act.s) act.s (capStr (Lib.bytesWorld wx.drew 5 act.s) act.s (by omega))) k6.fz (fun q k c e _ hA => by simp at e; obtain ⟨e, _⟩ := e; have h1 := (hX.lf.f.in_ _ hA).2; have h2 := congrArg Addr.block e; simp at h2; (try rw [Lib.bytesWorld_size] at h2); have h3 : wx.drew.heap.size = wx.heap.size := (by simp); omega)) (Fil.bsOf_8 _) (by rw [Fil.bsOf_len]; omega)).mono ?_
                  rintro e w7 ⟨rfl, G7, hR7, k7⟩
                  have hX2r := hX1.rs
                  have hX2 := hX1.onG hR7 k7
                  (try clear hHeld); refine hK.out _ _ (hHold hX2) (fun hHeld => ?_)
                  refine wpAnyH_take (i := 14) (oi := ⟨some 118, _, _, _, _, _⟩) (v := ?_) rfl (by kernel_rfl) (by kernel_rfl) (by kernel_rfl) (fun _ _ _ h => h) (Or.inl ⟨by rfl, ?_⟩) (by assumption) ?_; (rotate_left 1); (focus (intro wz hSw; (try dsimp only at hSw); go_simp; try (with_reducible rfl))); simp only [Act.put, List.setIfInBounds_toArray, List.set_cons_zero, List.set_cons_succ]
                  refine wpAnyH_take (i := 15) (oi := ⟨some 9, _, _, _, _, _⟩) (v := ?_) rfl (by kernel_rfl) (by kernel_rfl) (by kernel_rfl) (fun _ _ _ h => h) (Or.inl ⟨by rfl, ?_⟩) (by assumption) ?_; (rotate_left 1); (focus (intro wz hSw; (try dsimp only at hSw); go_simp; try (with_reducible rfl))); simp only [Act.put, List.setIfInBounds_toArray, List.set_cons_zero, List.set_cons_succ]
                  refine wpAnyH_done (by kernel_rfl) ?_ _
                  have hPn := Fil.pos_write hpos act.fd (Fil.bsOf act.s)
                  clear hHold hX hXb hX1 hX2r hp2 hpos hc1
                  go_wp2_with fail
                  go_meet
                  case rel => exact ⟨_, _, _, _, _, rfl, by simp, hX2.tw, hX2, hPn⟩
              · have hc2 := cvStr (Lib.bytesWorld wx.drew 5 act.s) act.s
                have hXc := hXb.bw (bwStr (Lib.bytesWorld wx.drew 5 act.s) act.s)
                go_simp; (try clear hHeld); refine hK.out _ _ (hHold hXb) (fun hHeld => ?_)
                refine wpAnyH_ready (rs := [5]) (by kernel_rfl) (by simp) ?_; refine AllReadyH.cons rfl (fun K hK => ?_) AllReadyH.nil
                go_simp; (try clear hHeld); refine hK.out _ _ (hHold hXc) (fun hHeld => ?_)
                refine wpAnyH_ready (rs := [6]) (by kernel_rfl) (by simp) ?_; refine AllReadyH.cons rfl (fun K hK => ?_) AllReadyH.nil
                go_simp
                refine (lWrite hXc.lf act.fd (rdStr (Lib.bytesWorld wx.drew 5 act.s) act.s (capStr (Lib.bytesWorld wx.drew 5 act.s) act.s (by omega))) (Fil.bsOf_8 _) (by rw [Fil.bsOf_len]; omega)).mono ?_
                rintro e w6 ⟨rfl, A6, hL6, k6⟩
                have hX1 := hXc.onA hL6 k6
                (try clear hHeld); refine hK.out _ _ (hHold hX1) (fun hHeld => ?_)
                refine wpAnyH_ready (rs := [13]) (by kernel_rfl) (by simp) ?_; refine AllReadyH.cons rfl (fun K hK => ?_) AllReadyH.nil
                go_simp
                refine (rWrite_c hX1.rs act.fd (Rd8.fz (Rd8.bw (rdStr wx.drew act.s (capStr wx.drew act.s (by omega))) (bwStr _ act.s)) k6.fz (fun q k c e _ hA => by simp at e; obtain ⟨e, _⟩ := e; have h1 := (hX.lf.f.in_ _ hA).2; have h2 := congrArg Addr.block e; simp at h2; (try rw [Lib.bytesWorld_size] at h2); have h3 : wx.drew.heap.size = wx.heap.size := (by simp); omega)) (Fil.bsOf_8 _) (by rw [Fil.bsOf_len]; omega)).mono ?_
                rintro e w7 ⟨rfl, G7, hR7, k7⟩
                have hX2r := hX1.rs
                have hX2 := hX1.onG hR7 k7
                (try clear hHeld); refine hK.out _ _ (hHold hX2) (fun hHeld => ?_)
                refine wpAnyH_take (i := 14) (oi := ⟨some 118, _, _, _, _, _⟩) (v := ?_) rfl (by kernel_rfl) (by kernel_rfl) (by kernel_rfl) (fun _ _ _ h => h) (Or.inl ⟨by rfl, ?_⟩) (by assumption) ?_; (rotate_left 1); (focus (intro wz hSw; (try dsimp only at hSw); go_simp; try (with_reducible rfl))); simp only [Act.put, List.setIfInBounds_toArray, List.set_cons_zero, List.set_cons_succ]
                refine wpAnyH_take (i := 15) (oi := ⟨some 9, _, _, _, _, _⟩) (v := ?_) rfl (by kernel_rfl) (by kernel_rfl) (by kernel_rfl) (fun _ _ _ h => h) (Or.inl ⟨by rfl, ?_⟩) (by assumption) ?_; (rotate_left 1); (focus (intro wz hSw; (try dsimp only at hSw); go_simp; try (with_reducible rfl))); simp only [Act.put, List.setIfInBounds_toArray, List.set_cons_zero, List.set_cons_succ]
                refine wpAnyH_done (by kernel_rfl) ?_ _
                have hPn := Fil.pos_write hpos act.fd (Fil.bsOf act.s)
                clear hHold hX hXb hX1 hX2r hp2 hpos hc1
                go_wp2_with fail
                go_meet
                case rel => exact ⟨_, _, _, _, _, rfl, by simp, hX2.tw, hX2, hPn⟩
          by_cases h4 : act.op = 4
          · as_aux_lemma =>
              have a0 := hX.bx.c 0 _ rfl
              have a1 := hX.bx.c 1 _ rfl
              have a2 := hX.bx.c 2 _ rfl
              have hb4 : (act.op == 4) = true := by simpa using h4
              clear h4
              go_wp2_with fail
              have hHold : ∀ {X A G s t l}, Tx W w4 X nb rb A G B s t l xb [.int .i64 act.op, .int .i64 act.fd, .int .i64 act.n, .int .i32 act.off, .string act.s] → (X.cell? ⟨xb, 1, none⟩ = some (.int .i64 act.fd) ∧ X.cell? ⟨xb, 2, none⟩ = some (.int .i64 act.n) ∧ X.cell? ⟨xb, 3, none⟩ = some (.int .i32 act.off) ∧ X.cell? ⟨xb, 4, none⟩ = some (.string act.s)) := fun h => ⟨h.bx.c 1 _ rfl, h.bx.c 2 _ rfl, h.bx.c 3 _ rfl, h.bx.c 4 _ rfl⟩
              replace hX := hX.bw ((Bw.refl wx).drew)
              refine wp_region_held_drew (S := fun X => (X.cell? ⟨xb, 1, none⟩ = some (.int .i64 act.fd) ∧ X.cell? ⟨xb, 2, none⟩ = some (.int .i64 act.n) ∧ X.cell? ⟨xb, 3, none⟩ = some (.int .i32 act.off) ∧ X.cell? ⟨xb, 4, none⟩ = some (.string act.s))) (by kernel_rfl) (hHold hX) (fun hHeld => ?_)
              refine wpAnyH_take (i := 0) (oi := ⟨some 121, _, _, _, _, _⟩) (v := ?_) rfl (by kernel_rfl) (by kernel_rfl) (by kernel_rfl) (fun _ _ _ h => h) (Or.inl ⟨by rfl, ?_⟩) (by assumption) ?_; (rotate_left 1); (focus (intro wz hSw; (try dsimp only at hSw); go_simp; try (with_reducible rfl))); simp only [Act.put, List.setIfInBounds_toArray, List.set_cons_zero, List.set_cons_succ]
              refine wpAnyH_take (i := 1) (oi := ⟨some 122, _, _, _, _, _⟩) (v := ?_) rfl (by kernel_rfl) (by kernel_rfl) (by kernel_rfl) (fun _ _ _ h => h) (Or.inl ⟨by rfl, ?_⟩) (by assumption) ?_; (rotate_left 1); (focus (intro wz hSw; (try dsimp only at hSw); go_simp; try (with_reducible rfl))); simp only [Act.put, List.setIfInBounds_toArray, List.set_cons_zero, List.set_cons_succ]
              refine wpAnyH_take (i := 2) (oi := ⟨some 123, _, _, _, _, _⟩) (v := ?_) rfl (by kernel_rfl) (by kernel_rfl) (by kernel_rfl) (fun _ _ _ h => h) (Or.inl ⟨by rfl, ?_⟩) (by assumption) ?_; (rotate_left 1); (focus (intro wz hSw; (try dsimp only at hSw); go_simp; try (with_reducible rfl))); simp only [Act.put, List.setIfInBounds_toArray, List.set_cons_zero, List.set_cons_succ]
              refine wpAnyH_take (i := 3) (oi := ⟨some 124, _, _, _, _, _⟩) (v := ?_) rfl (by kernel_rfl) (by kernel_rfl) (by kernel_rfl) (fun _ _ _ h => h) (Or.inl ⟨by rfl, ?_⟩) (by assumption) ?_; (rotate_left 1); (focus (intro wz hSw; (try dsimp only at hSw); go_simp; try (with_reducible rfl))); simp only [Act.put, List.setIfInBounds_toArray, List.set_cons_zero, List.set_cons_succ]
              refine wpAnyH_take (i := 4) (oi := ⟨some 125, _, _, _, _, _⟩) (v := ?_) rfl (by kernel_rfl) (by kernel_rfl) (by kernel_rfl) (fun _ _ _ h => h) (Or.inl ⟨by rfl, ?_⟩) (by assumption) ?_; (rotate_left 1); (focus (intro wz hSw; (try dsimp only at hSw); go_simp; try (with_reducible rfl))); simp only [Act.put, List.setIfInBounds_toArray, List.set_cons_zero, List.set_cons_succ]
              refine wpAnyH_take (i := 5) (oi := ⟨some 126, _, _, _, _, _⟩) (v := ?_) rfl (by kernel_rfl) (by kernel_rfl) (by kernel_rfl) (fun _ _ _ h => h) (Or.inl ⟨by rfl, ?_⟩) (by assumption) ?_; (rotate_left 1); (focus (intro wz hSw; (try dsimp only at hSw); go_simp; try (with_reducible rfl))); simp only [Act.put, List.setIfInBounds_toArray, List.set_cons_zero, List.set_cons_succ]
              refine wpAnyH_take (i := 6) (oi := ⟨some 127, _, _, _, _, _⟩) (v := ?_) rfl (by kernel_rfl) (by kernel_rfl) (by kernel_rfl) (fun _ _ _ h => h) (Or.inl ⟨by rfl, ?_⟩) (by assumption) ?_; (rotate_left 1); (focus (intro wz hSw; (try dsimp only at hSw); go_simp; try (with_reducible rfl))); simp only [Act.put, List.setIfInBounds_toArray, List.set_cons_zero, List.set_cons_succ]
              refine wpAnyH_take (i := 8) (oi := ⟨some 129, _, _, _, _, _⟩) (v := ?_) rfl (by kernel_rfl) (by kernel_rfl) (by kernel_rfl) (fun _ _ _ h => h) (Or.inl ⟨by rfl, ?_⟩) (by assumption) ?_; (rotate_left 1); (focus (intro wz hSw; (try dsimp only at hSw); go_simp; try (with_reducible rfl))); simp only [Act.put, List.setIfInBounds_toArray, List.set_cons_zero, List.set_cons_succ]
              refine wpAnyH_take (i := 9) (oi := ⟨some 130, _, _, _, _, _⟩) (v := ?_) rfl (by kernel_rfl) (by kernel_rfl) (by kernel_rfl) (fun _ _ _ h => h) (Or.inl ⟨by rfl, ?_⟩) (by assumption) ?_; (rotate_left 1); (focus (intro wz hSw; (try dsimp only at hSw); go_simp; try (with_reducible rfl))); simp only [Act.put, List.setIfInBounds_toArray, List.set_cons_zero, List.set_cons_succ]
              refine wpAnyH_take (i := 10) (oi := ⟨some 131, _, _, _, _, _⟩) (v := ?_) rfl (by kernel_rfl) (by kernel_rfl) (by kernel_rfl) (fun _ _ _ h => h) (Or.inl ⟨by rfl, ?_⟩) (by assumption) ?_; (rotate_left 1); (focus (intro wz hSw; (try dsimp only at hSw); go_simp; try (with_reducible rfl))); simp only [Act.put, List.setIfInBounds_toArray, List.set_cons_zero, List.set_cons_succ]
              refine wpAnyH_take (i := 11) (oi := ⟨some 132, _, _, _, _, _⟩) (v := ?_) rfl (by kernel_rfl) (by kernel_rfl) (by kernel_rfl) (fun _ _ _ h => h) (Or.inl ⟨by rfl, ?_⟩) (by assumption) ?_; (rotate_left 1); (focus (intro wz hSw; (try dsimp only at hSw); go_simp; try (with_reducible rfl))); simp only [Act.put, List.setIfInBounds_toArray, List.set_cons_zero, List.set_cons_succ]
              refine wpAnyH_take (i := 12) (oi := ⟨some 133, _, _, _, _, _⟩) (v := ?_) rfl (by kernel_rfl) (by kernel_rfl) (by kernel_rfl) (fun _ _ _ h => h) (Or.inl ⟨by rfl, ?_⟩) (by assumption) ?_; (rotate_left 1); (focus (intro wz hSw; (try dsimp only at hSw); go_simp; try (with_reducible rfl))); simp only [Act.put, List.setIfInBounds_toArray, List.set_cons_zero, List.set_cons_succ]
              refine wpAnyH_take (i := 13) (oi := ⟨some 134, _, _, _, _, _⟩) (v := ?_) rfl (by kernel_rfl) (by kernel_rfl) (by kernel_rfl) (fun _ _ _ h => h) (Or.inl ⟨by rfl, ?_⟩) (by assumption) ?_; (rotate_left 1); (focus (intro wz hSw; (try dsimp only at hSw); go_simp; try (with_reducible rfl))); simp only [Act.put, List.setIfInBounds_toArray, List.set_cons_zero, List.set_cons_succ]
              refine wpAnyH_take (i := 14) (oi := ⟨some 135, _, _, _, _, _⟩) (v := ?_) rfl (by kernel_rfl) (by kernel_rfl) (by kernel_rfl) (fun _ _ _ h => h) (Or.inl ⟨by rfl, ?_⟩) (by assumption) ?_; (rotate_left 1); (focus (intro wz hSw; (try dsimp only at hSw); go_simp; try (with_reducible rfl))); simp only [Act.put, List.setIfInBounds_toArray, List.set_cons_zero, List.set_cons_succ]
              refine wpAnyH_ready (rs := [7]) (by kernel_rfl) (by simp) ?_; refine AllReadyH.cons rfl (fun K hK => ?_) AllReadyH.nil; go_simp
              refine (lSeek hX.lf act.fd act.off act.n hoff.1 hoff.2 hp2).mono ?_
              rintro e w6 ⟨rfl, hL6, k6⟩
              have hX1 := hX.onA hL6 k6.stp
              (try clear hHeld); refine hK.out _ _ ?_ (fun hHeld => ?_)
              · exact hHold hX1
              refine wpAnyH_ready (rs := [15]) (by kernel_rfl) (by simp) ?_; refine AllReadyH.cons rfl (fun K hK => ?_) AllReadyH.nil; go_simp
              refine (rSeek_c hX1.rs act.fd act.off act.n hoff.1 hoff.2 hp2).mono ?_
              rintro e w7 ⟨rfl, hR7, k7⟩
              have hX2 := hX1.onG hR7 k7.stp
              (try clear hHeld); refine hK.out _ _ ?_ (fun hHeld => ?_)
              · exact hHold hX2
              refine wpAnyH_take (i := 16) (oi := ⟨some 137, _, _, _, _, _⟩) (v := ?_) rfl (by kernel_rfl) (by kernel_rfl) (by kernel_rfl) (fun _ _ _ h => h) (Or.inl ⟨by rfl, ?_⟩) (by assumption) ?_; (rotate_left 1); (focus (intro wz hSw; (try dsimp only at hSw); go_simp; try (with_reducible rfl))); simp only [Act.put, List.setIfInBounds_toArray, List.set_cons_zero, List.set_cons_succ]
              refine wpAnyH_take (i := 17) (oi := ⟨some 9, _, _, _, _, _⟩) (v := ?_) rfl (by kernel_rfl) (by kernel_rfl) (by kernel_rfl) (fun _ _ _ h => h) (Or.inl ⟨by rfl, ?_⟩) (by assumption) ?_; (rotate_left 1); (focus (intro wz hSw; (try dsimp only at hSw); go_simp; try (with_reducible rfl))); simp only [Act.put, List.setIfInBounds_toArray, List.set_cons_zero, List.set_cons_succ]
              refine wpAnyH_done (by kernel_rfl) ?_ _
              have hPn := Fil.pos_seek hX.lf.f.ok hpos act.fd act.off act.n hoff.2
              clear hHold hX hX1 hL6 hR7 k6 k7 hp2 hpos
              go_wp2_with fail
              go_meet
              case rel => exact ⟨_, _, _, _, _, rfl, by simp, hX2.tw, hX2, hPn⟩
          as_aux_lemma =>
            have h0b : (act.op == 0) = false := by simpa using h0
            have h1b : (act.op == 1) = false := by simpa using h1
            have h2b : (act.op == 2) = false := by simpa using h2
            have h3b : (act.op == 3) = false := by simpa using h3
            have h4b : (act.op == 4) = false := by simpa using h4
            have a0 := hX.bx.c 0 _ rfl
            have a1 := hX.bx.c 1 _ rfl
            have a2 := hX.bx.c 2 _ rfl
            go_wp2_with fail
            refine (lCopy hX.lf).mono ?_
            rintro e w6 ⟨ob, A6, rfl, hL6, -, hb6, hA6⟩
            have hX2 := hX.copy hL6 hb6 hA6
            have hPn : ∀ y ∈ s.op, y.pos ≤ k * 8589934592 + 8589934592 := fun y hy => Nat.le_trans (hpos y hy) (Nat.le_add_right _ _)
            clear hX hL6 hA6 hp2 hpos h0b h1b h2b h3b h4b
            go_wp2_with fail
            go_meet
            case rel => exact ⟨_, _, _, _, _, rfl, by simp, hX2.tw, hX2, hPn⟩
        case rest =>
          obtain ⟨nb2, A2, G2, s2, ls2, rfl, rfl, hT2, hX2, hPn⟩ := hcut
          clear hT2 hX hpos hp2
          go_wp2_with (first
            | (go_at_call 20; refine (lUse hX2.lf).mono ?_; rintro e w8 ⟨ub, rfl, hU8, -, hb8⟩; have hX3 := hX2.bw hb8; clear hX2)
            | (go_at_call 21; refine (Used_c _ _ _ _ _ _ _ _ hU8).mono ?_; rintro e w9 ⟨rfl, hb9⟩; have hX4 := hX3.bw hb9; clear hX3 hU8))
          obtain ⟨ru, u0, u6, u7, u8⟩ := hX4.rs.used
          have f1 := hX4.bx.c 1 _ rfl
          have hHold : ∀ X, Bw w9 X → (X.cell? ⟨xb, 1, none⟩ = some (.int .i64 act.fd) ∧ X.cell? ⟨rb, 0, none⟩ = some (.pointer (some ⟨ru, 0, none⟩)) ∧ X.cell? ⟨ru, 6, none⟩ = some (.int .i64 s2.a) ∧ X.cell? ⟨ru, 7, none⟩ = some (.int .i64 s2.b) ∧ X.cell? ⟨ru, 8, none⟩ = some (.int .i64 s2.c)) := fun X g => ⟨g.keep f1, g.keep u0, g.keep u6, g.keep u7, g.keep u8⟩
          clear u0 u6 u7 u8 f1
          have hB : Bw w9 w9.drew := (Bw.refl w9).drew
          refine wp_region_held_drew (S := fun X => (X.cell? ⟨xb, 1, none⟩ = some (.int .i64 act.fd) ∧ X.cell? ⟨rb, 0, none⟩ = some (.pointer (some ⟨ru, 0, none⟩)) ∧ X.cell? ⟨ru, 6, none⟩ = some (.int .i64 s2.a) ∧ X.cell? ⟨ru, 7, none⟩ = some (.int .i64 s2.b) ∧ X.cell? ⟨ru, 8, none⟩ = some (.int .i64 s2.c))) (by kernel_rfl) (hHold _ hB) (fun hHeld => ?_)
          refine wpAnyH_take (i := 0) (oi := ⟨some 145, _, _, _, _, _⟩) (v := ?_) rfl (by kernel_rfl) (by kernel_rfl) (by kernel_rfl) (fun _ _ _ h => h) (Or.inl ⟨by rfl, ?_⟩) (by assumption) ?_; (rotate_left 1); (focus (intro wz hSw; (try dsimp only at hSw); go_simp; try (with_reducible rfl))); simp only [Act.put, List.setIfInBounds_toArray, List.set_cons_zero, List.set_cons_succ]
          refine wpAnyH_take (i := 1) (oi := ⟨some 146, _, _, _, _, _⟩) (v := ?_) rfl (by kernel_rfl) (by kernel_rfl) (by kernel_rfl) (fun _ _ _ h => h) (Or.inl ⟨by rfl, ?_⟩) (by assumption) ?_; (rotate_left 1); (focus (intro wz hSw; (try dsimp only at hSw); go_simp; try (with_reducible rfl))); simp only [Act.put, List.setIfInBounds_toArray, List.set_cons_zero, List.set_cons_succ]
          refine wpAnyH_take (i := 2) (oi := ⟨some 147, _, _, _, _, _⟩) (v := ?_) rfl (by kernel_rfl) (by kernel_rfl) (by kernel_rfl) (fun _ _ _ h => h) (Or.inl ⟨by rfl, ?_⟩) (by assumption) ?_; (rotate_left 1); (focus (intro wz hSw; (try dsimp only at hSw); go_simp; try (with_reducible rfl))); simp only [Act.put, List.setIfInBounds_toArray, List.set_cons_zero, List.set_cons_succ]
          refine wpAnyH_take (i := 3) (oi := ⟨some 148, _, _, _, _, _⟩) (v := ?_) rfl (by kernel_rfl) (by kernel_rfl) (by kernel_rfl) (fun _ _ _ h => h) (Or.inl ⟨by rfl, ?_⟩) (by assumption) ?_; (rotate_left 1); (focus (intro wz hSw; (try dsimp only at hSw); go_simp; try (with_reducible rfl))); simp only [Act.put, List.setIfInBounds_toArray, List.set_cons_zero, List.set_cons_succ]
          refine wpAnyH_take (i := 6) (oi := ⟨some 151, _, _, _, _, _⟩) (v := ?_) rfl (by kernel_rfl) (by kernel_rfl) (by kernel_rfl) (fun _ _ _ h => h) (Or.inl ⟨by rfl, ?_⟩) (by assumption) ?_; (rotate_left 1); (focus (intro wz hSw; (try dsimp only at hSw); go_simp; try (with_reducible rfl))); simp only [Act.put, List.setIfInBounds_toArray, List.set_cons_zero, List.set_cons_succ]
          refine wpAnyH_ready (rs := [4]) (by kernel_rfl) (by simp) ?_; refine AllReadyH.cons rfl (fun K hK => ?_) AllReadyH.nil
          go_simp
          refine (lOut (hX4.bw hB).lf 1).mono ?_
          rintro e w10 ⟨v10, rfl, ho10, -, hb10⟩
          replace hB := hB.trans hb10
          obtain ⟨q10, k10, rfl⟩ := ho10.sl
          have cv10 := conv8 ho10
          (try clear hHeld); refine hK.out _ _ (hHold _ hB) (fun hHeld => ?_)
          apply shareKey
          focus
            intro key
            refine wpAnyH_ready (rs := [5, 7]) (by kernel_rfl) (by simp) ?_
            refine AllReadyH.cons rfl (fun K hK => ?_) (AllReadyH.cons rfl (fun K hK => ?_) AllReadyH.nil)
            · go_simp; (try clear hHeld); refine hK.out _ _ (hHold _ hB) (fun hHeld => ?_)
              refine wpAnyH_ready (rs := [7]) (by kernel_rfl) (by simp) ?_; refine AllReadyH.cons rfl (fun K hK => ?_) AllReadyH.nil
              go_simp
              refine (rOut_c (hX4.bw hB).rs 1).mono ?_
              rintro e w11 ⟨v11, rfl, ho11, -, hb11⟩
              replace hB := hB.trans hb11
              obtain ⟨q11, k11, rfl⟩ := ho11.sl
              have cv11 := conv8 ho11
              (try clear hHeld); refine hK.out _ _ (hHold _ hB) (fun hHeld => ?_)
              refine wpAnyH_ready (rs := [8]) (by kernel_rfl) (by simp) ?_; refine AllReadyH.cons rfl (fun K hK => ?_) AllReadyH.nil
              go_simp; (try clear hHeld); refine hK.out _ _ (hHold _ hB) (fun hHeld => ?_)
              (repeat (clear hK K)); clear hb11 cv11; (try clear cv10'); clear ho11; revert w11 q11 k11; exact key
            · go_simp
              refine (rOut_c (hX4.bw hB).rs 1).mono ?_
              rintro e w11 ⟨v11, rfl, ho11, -, hb11⟩
              replace hB := hB.trans hb11
              obtain ⟨q11, k11, rfl⟩ := ho11.sl
              have cv11 := conv8 ho11
              (try clear hHeld); refine hK.out _ _ (hHold _ hB) (fun hHeld => ?_)
              have cv10' := conv8 (ho10.bw hb11)
              refine wpAnyH_ready (rs := [5, 8]) (by kernel_rfl) (by simp) ?_
              refine AllReadyH.cons rfl (fun K hK => ?_) (AllReadyH.cons rfl (fun K hK => ?_) AllReadyH.nil)
              · go_simp; (try clear hHeld); refine hK.out _ _ (hHold _ hB) (fun hHeld => ?_)
                refine wpAnyH_ready (rs := [8]) (by kernel_rfl) (by simp) ?_; refine AllReadyH.cons rfl (fun K hK => ?_) AllReadyH.nil
                go_simp; (try clear hHeld); refine hK.out _ _ (hHold _ hB) (fun hHeld => ?_)
                (repeat (clear hK K)); clear hb11 cv11; (try clear cv10'); clear ho11; revert w11 q11 k11; exact key
              · go_simp; (try clear hHeld); refine hK.out _ _ (hHold _ hB) (fun hHeld => ?_)
                refine wpAnyH_ready (rs := [5]) (by kernel_rfl) (by simp) ?_; refine AllReadyH.cons rfl (fun K hK => ?_) AllReadyH.nil
                go_simp; (try clear hHeld); refine hK.out _ _ (hHold _ hB) (fun hHeld => ?_)
                (repeat (clear hK K)); clear hb11 cv11; (try clear cv10'); clear ho11; revert w11 q11 k11; exact key
          clear hB cv10 ho10
          intro w11 hB q11 k11 hHeld
          refine wpAnyH_take (i := 9) (oi := ⟨some 154, _, _, _, _, _⟩) (v := ?_) rfl (by kernel_rfl) (by kernel_rfl) (by kernel_rfl) (fun _ _ _ h => h) (Or.inl ⟨by rfl, ?_⟩) (by assumption) ?_; (rotate_left 1); (focus (intro wz hSw; (try dsimp only at hSw); go_simp; try (with_reducible rfl))); simp only [Act.put, List.setIfInBounds_toArray, List.set_cons_zero, List.set_cons_succ]
          refine wpAnyH_take (i := 10) (oi := ⟨some 155, _, _, _, _, _⟩) (v := ?_) rfl (by kernel_rfl) (by kernel_rfl) (by kernel_rfl) (fun _ _ _ h => h) (Or.inl ⟨by rfl, ?_⟩) (by assumption) ?_; (rotate_left 1); (focus (intro wz hSw; (try dsimp only at hSw); go_simp; try (with_reducible rfl))); simp only [Act.put, List.setIfInBounds_toArray, List.set_cons_zero, List.set_cons_succ]
          refine wpAnyH_take (i := 11) (oi := ⟨some 156, _, _, _, _, _⟩) (v := ?_) rfl (by kernel_rfl) (by kernel_rfl) (by kernel_rfl) (fun _ _ _ h => h) (Or.inl ⟨by rfl, ?_⟩) (by assumption) ?_; (rotate_left 1); (focus (intro wz hSw; (try dsimp only at hSw); go_simp; try (with_reducible rfl))); simp only [Act.put, List.setIfInBounds_toArray, List.set_cons_zero, List.set_cons_succ]
          refine wpAnyH_take (i := 12) (oi := ⟨some 157, _, _, _, _, _⟩) (v := ?_) rfl (by kernel_rfl) (by kernel_rfl) (by kernel_rfl) (fun _ _ _ h => h) (Or.inl ⟨by rfl, ?_⟩) (by assumption) ?_; (rotate_left 1); (focus (intro wz hSw; (try dsimp only at hSw); go_simp; try (with_reducible rfl))); simp only [Act.put, List.setIfInBounds_toArray, List.set_cons_zero, List.set_cons_succ]
          refine wpAnyH_take (i := 15) (oi := ⟨some 160, _, _, _, _, _⟩) (v := ?_) rfl (by kernel_rfl) (by kernel_rfl) (by kernel_rfl) (fun _ _ _ h => h) (Or.inl ⟨by rfl, ?_⟩) (by assumption) ?_; (rotate_left 1); (focus (intro wz hSw; (try dsimp only at hSw); go_simp; try (with_reducible rfl))); simp only [Act.put, List.setIfInBounds_toArray, List.set_cons_zero, List.set_cons_succ]
          refine wpAnyH_ready (rs := [13]) (by kernel_rfl) (by simp) ?_; refine AllReadyH.cons rfl (fun K hK => ?_) AllReadyH.nil
          go_simp
          refine (lOut (hX4.bw hB).lf 2).mono ?_
          rintro e w12 ⟨v12, rfl, ho12, -, hb12⟩
          replace hB := hB.trans hb12
          obtain ⟨q12, k12, rfl⟩ := ho12.sl
          have cv12 := conv8 ho12
          (try clear hHeld); refine hK.out _ _ (hHold _ hB) (fun hHeld => ?_)
          apply shareKey
          focus
            intro key
            refine wpAnyH_ready (rs := [14, 16]) (by kernel_rfl) (by simp) ?_
            refine AllReadyH.cons rfl (fun K hK => ?_) (AllReadyH.cons rfl (fun K hK => ?_) AllReadyH.nil)
            · go_simp; (try clear hHeld); refine hK.out _ _ (hHold _ hB) (fun hHeld => ?_)
              refine wpAnyH_ready (rs := [16]) (by kernel_rfl) (by simp) ?_; refine AllReadyH.cons rfl (fun K hK => ?_) AllReadyH.nil
              go_simp
              refine (rOut_c (hX4.bw hB).rs 2).mono ?_
              rintro e w13 ⟨v13, rfl, ho13, -, hb13⟩
              replace hB := hB.trans hb13
              obtain ⟨q13, k13, rfl⟩ := ho13.sl
              have cv13 := conv8 ho13
              (try clear hHeld); refine hK.out _ _ (hHold _ hB) (fun hHeld => ?_)
              refine wpAnyH_ready (rs := [17]) (by kernel_rfl) (by simp) ?_; refine AllReadyH.cons rfl (fun K hK => ?_) AllReadyH.nil
              go_simp; (try clear hHeld); refine hK.out _ _ (hHold _ hB) (fun hHeld => ?_)
              (repeat (clear hK K)); clear hb13 cv13; (try clear cv12'); clear ho13; revert w13 q13 k13; exact key
            · go_simp
              refine (rOut_c (hX4.bw hB).rs 2).mono ?_
              rintro e w13 ⟨v13, rfl, ho13, -, hb13⟩
              replace hB := hB.trans hb13
              obtain ⟨q13, k13, rfl⟩ := ho13.sl
              have cv13 := conv8 ho13
              (try clear hHeld); refine hK.out _ _ (hHold _ hB) (fun hHeld => ?_)
              have cv12' := conv8 (ho12.bw hb13)
              refine wpAnyH_ready (rs := [14, 17]) (by kernel_rfl) (by simp) ?_
              refine AllReadyH.cons rfl (fun K hK => ?_) (AllReadyH.cons rfl (fun K hK => ?_) AllReadyH.nil)
              · go_simp; (try clear hHeld); refine hK.out _ _ (hHold _ hB) (fun hHeld => ?_)
                refine wpAnyH_ready (rs := [17]) (by kernel_rfl) (by simp) ?_; refine AllReadyH.cons rfl (fun K hK => ?_) AllReadyH.nil
                go_simp; (try clear hHeld); refine hK.out _ _ (hHold _ hB) (fun hHeld => ?_)
                (repeat (clear hK K)); clear hb13 cv13; (try clear cv12'); clear ho13; revert w13 q13 k13; exact key
              · go_simp; (try clear hHeld); refine hK.out _ _ (hHold _ hB) (fun hHeld => ?_)
                refine wpAnyH_ready (rs := [14]) (by kernel_rfl) (by simp) ?_; refine AllReadyH.cons rfl (fun K hK => ?_) AllReadyH.nil
                go_simp; (try clear hHeld); refine hK.out _ _ (hHold _ hB) (fun hHeld => ?_)
                (repeat (clear hK K)); clear hb13 cv13; (try clear cv12'); clear ho13; revert w13 q13 k13; exact key
          clear hB cv12 ho12
          intro w13 hB q13 k13 hHeld
          as_aux_lemma =>
            refine wpAnyH_take (i := 18) (oi := ⟨some 163, _, _, _, _, _⟩) (v := ?_) rfl (by kernel_rfl) (by kernel_rfl) (by kernel_rfl) (fun _ _ _ h => h) (Or.inl ⟨by rfl, ?_⟩) (by assumption) ?_; (rotate_left 1); (focus (intro wz hSw; (try dsimp only at hSw); go_simp; try (with_reducible rfl))); simp only [Act.put, List.setIfInBounds_toArray, List.set_cons_zero, List.set_cons_succ]
            refine wpAnyH_take (i := 19) (oi := ⟨some 164, _, _, _, _, _⟩) (v := ?_) rfl (by kernel_rfl) (by kernel_rfl) (by kernel_rfl) (fun _ _ _ h => h) (Or.inl ⟨by rfl, ?_⟩) (by assumption) ?_; (rotate_left 1); (focus (intro wz hSw; (try dsimp only at hSw); go_simp; try (with_reducible rfl))); simp only [Act.put, List.setIfInBounds_toArray, List.set_cons_zero, List.set_cons_succ]
            refine wpAnyH_take (i := 20) (oi := ⟨some 165, _, _, _, _, _⟩) (v := ?_) rfl (by kernel_rfl) (by kernel_rfl) (by kernel_rfl) (fun _ _ _ h => h) (Or.inl ⟨by rfl, ?_⟩) (by assumption) ?_; (rotate_left 1); (focus (intro wz hSw; (try dsimp only at hSw); go_simp; try (with_reducible rfl))); simp only [Act.put, List.setIfInBounds_toArray, List.set_cons_zero, List.set_cons_succ]
            refine wpAnyH_take (i := 21) (oi := ⟨some 166, _, _, _, _, _⟩) (v := ?_) rfl (by kernel_rfl) (by kernel_rfl) (by kernel_rfl) (fun _ _ _ h => h) (Or.inl ⟨by rfl, ?_⟩) (by assumption) ?_; (rotate_left 1); (focus (intro wz hSw; (try dsimp only at hSw); go_simp; try (with_reducible rfl))); simp only [Act.put, List.setIfInBounds_toArray, List.set_cons_zero, List.set_cons_succ]
            refine wpAnyH_take (i := 22) (oi := ⟨some 167, _, _, _, _, _⟩) (v := ?_) rfl (by kernel_rfl) (by kernel_rfl) (by kernel_rfl) (fun _ _ _ h => h) (Or.inl ⟨by rfl, ?_⟩) (by assumption) ?_; (rotate_left 1); (focus (intro wz hSw; (try dsimp only at hSw); go_simp; try (with_reducible rfl))); simp only [Act.put, List.setIfInBounds_toArray, List.set_cons_zero, List.set_cons_succ]
            refine wpAnyH_take (i := 23) (oi := ⟨some 168, _, _, _, _, _⟩) (v := ?_) rfl (by kernel_rfl) (by kernel_rfl) (by kernel_rfl) (fun _ _ _ h => h) (Or.inl ⟨by rfl, ?_⟩) (by assumption) ?_; (rotate_left 1); (focus (intro wz hSw; (try dsimp only at hSw); go_simp; try (with_reducible rfl))); simp only [Act.put, List.setIfInBounds_toArray, List.set_cons_zero, List.set_cons_succ]
            refine wpAnyH_take (i := 26) (oi := ⟨some 171, _, _, _, _, _⟩) (v := ?_) rfl (by kernel_rfl) (by kernel_rfl) (by kernel_rfl) (fun _ _ _ h => h) (Or.inl ⟨by rfl, ?_⟩) (by assumption) ?_; (rotate_left 1); (focus (intro wz hSw; (try dsimp only at hSw); go_simp; try (with_reducible rfl))); simp only [Act.put, List.setIfInBounds_toArray, List.set_cons_zero, List.set_cons_succ]
            refine wpAnyH_take (i := 27) (oi := ⟨some 172, _, _, _, _, _⟩) (v := ?_) rfl (by kernel_rfl) (by kernel_rfl) (by kernel_rfl) (fun _ _ _ h => h) (Or.inl ⟨by rfl, ?_⟩) (by assumption) ?_; (rotate_left 1); (focus (intro wz hSw; (try dsimp only at hSw); go_simp; try (with_reducible rfl))); simp only [Act.put, List.setIfInBounds_toArray, List.set_cons_zero, List.set_cons_succ]
            refine wpAnyH_take (i := 28) (oi := ⟨some 173, _, _, _, _, _⟩) (v := ?_) rfl (by kernel_rfl) (by kernel_rfl) (by kernel_rfl) (fun _ _ _ h => h) (Or.inl ⟨by rfl, ?_⟩) (by assumption) ?_; (rotate_left 1); (focus (intro wz hSw; (try dsimp only at hSw); go_simp; try (with_reducible rfl))); simp only [Act.put, List.setIfInBounds_toArray, List.set_cons_zero, List.set_cons_succ]
            refine wpAnyH_ready (rs := [24]) (by kernel_rfl) (by simp) ?_; refine AllReadyH.cons rfl (fun K hK => ?_) AllReadyH.nil
            go_simp
            refine (lOut (hX4.bw hB).lf act.fd).mono ?_
            rintro e w14 ⟨v14, rfl, ho14, -, hb14⟩
            replace hB := hB.trans hb14
            obtain ⟨q14, k14, rfl⟩ := ho14.sl
            have cv14 := conv8 ho14
            (try clear hHeld); refine hK.out _ _ (hHold _ hB) (fun hHeld => ?_)
            refine wpAnyH_take (i := 25) (oi := ⟨some 170, _, _, _, _, _⟩) (v := ?_) rfl (by kernel_rfl) (by kernel_rfl) (by kernel_rfl) (fun _ _ _ h => h) (Or.inl ⟨by rfl, ?_⟩) (by assumption) ?_; (rotate_left 1); (focus (intro wz hSw; (try dsimp only at hSw); go_simp; try (with_reducible rfl))); simp only [Act.put, List.setIfInBounds_toArray, List.set_cons_zero, List.set_cons_succ]
            refine wpAnyH_ready (rs := [29]) (by kernel_rfl) (by simp) ?_; refine AllReadyH.cons rfl (fun K hK => ?_) AllReadyH.nil
            go_simp
            refine (rOut_c (hX4.bw hB).rs act.fd).mono ?_
            rintro e w15 ⟨v15, rfl, ho15, -, hb15⟩
            replace hB := hB.trans hb15
            obtain ⟨q15, k15, rfl⟩ := ho15.sl
            have cv15 := conv8 ho15
            (try clear hHeld); refine hK.out _ _ (hHold _ hB) (fun hHeld => ?_)
            refine wpAnyH_take (i := 30) (oi := ⟨some 175, _, _, _, _, _⟩) (v := ?_) rfl (by kernel_rfl) (by kernel_rfl) (by kernel_rfl) (fun _ _ _ h => h) (Or.inl ⟨by rfl, ?_⟩) (by assumption) ?_; (rotate_left 1); (focus (intro wz hSw; (try dsimp only at hSw); go_simp; try (with_reducible rfl))); simp only [Act.put, List.setIfInBounds_toArray, List.set_cons_zero, List.set_cons_succ]
            refine wpAnyH_take (i := 31) (oi := ⟨some 176, _, _, _, _, _⟩) (v := ?_) rfl (by kernel_rfl) (by kernel_rfl) (by kernel_rfl) (fun _ _ _ h => h) (Or.inl ⟨by rfl, ?_⟩) (by assumption) ?_; (rotate_left 1); (focus (intro wz hSw; (try dsimp only at hSw); go_simp; try (with_reducible rfl))); simp only [Act.put, List.setIfInBounds_toArray, List.set_cons_zero, List.set_cons_succ]
            refine wpAnyH_take (i := 32) (oi := ⟨some 177, _, _, _, _, _⟩) (v := ?_) rfl (by kernel_rfl) (by kernel_rfl) (by kernel_rfl) (fun _ _ _ h => h) (Or.inl ⟨by rfl, ?_⟩) (by assumption) ?_; (rotate_left 1); (focus (intro wz hSw; (try dsimp only at hSw); go_simp; try (with_reducible rfl))); simp only [Act.put, List.setIfInBounds_toArray, List.set_cons_zero, List.set_cons_succ]
            refine wpAnyH_take (i := 33) (oi := ⟨some 178, _, _, _, _, _⟩) (v := ?_) rfl (by kernel_rfl) (by kernel_rfl) (by kernel_rfl) (fun _ _ _ h => h) (Or.inl ⟨by rfl, ?_⟩) (by assumption) ?_; (rotate_left 1); (focus (intro wz hSw; (try dsimp only at hSw); go_simp; try (with_reducible rfl))); simp only [Act.put, List.setIfInBounds_toArray, List.set_cons_zero, List.set_cons_succ]
            refine wpAnyH_take (i := 34) (oi := ⟨some 179, _, _, _, _, _⟩) (v := ?_) rfl (by kernel_rfl) (by kernel_rfl) (by kernel_rfl) (fun _ _ _ h => h) (Or.inl ⟨by rfl, ?_⟩) (by assumption) ?_; (rotate_left 1); (focus (intro wz hSw; (try dsimp only at hSw); go_simp; try (with_reducible rfl))); simp only [Act.put, List.setIfInBounds_toArray, List.set_cons_zero, List.set_cons_succ]
            refine wpAnyH_take (i := 35) (oi := ⟨some 180, _, _, _, _, _⟩) (v := ?_) rfl (by kernel_rfl) (by kernel_rfl) (by kernel_rfl) (fun _ _ _ h => h) (Or.inl ⟨by rfl, ?_⟩) (by assumption) ?_; (rotate_left 1); (focus (intro wz hSw; (try dsimp only at hSw); go_simp; try (with_reducible rfl))); simp only [Act.put, List.setIfInBounds_toArray, List.set_cons_zero, List.set_cons_succ]
            refine wpAnyH_take (i := 36) (oi := ⟨some 181, _, _, _, _, _⟩) (v := ?_) rfl (by kernel_rfl) (by kernel_rfl) (by kernel_rfl) (fun _ _ _ h => h) (Or.inl ⟨by rfl, ?_⟩) (by assumption) ?_; (rotate_left 1); (focus (intro wz hSw; (try dsimp only at hSw); go_simp; try (with_reducible rfl))); simp only [Act.put, List.setIfInBounds_toArray, List.set_cons_zero, List.set_cons_succ]
            refine wpAnyH_take (i := 37) (oi := ⟨some 182, _, _, _, _, _⟩) (v := ?_) rfl (by kernel_rfl) (by kernel_rfl) (by kernel_rfl) (fun _ _ _ h => h) (Or.inl ⟨by rfl, ?_⟩) (by assumption) ?_; (rotate_left 1); (focus (intro wz hSw; (try dsimp only at hSw); go_simp; try (with_reducible rfl))); simp only [Act.put, List.setIfInBounds_toArray, List.set_cons_zero, List.set_cons_succ]
            refine wpAnyH_take (i := 38) (oi := ⟨some 183, _, _, _, _, _⟩) (v := ?_) rfl (by kernel_rfl) (by kernel_rfl) (by kernel_rfl) (fun _ _ _ h => h) (Or.inl ⟨by rfl, ?_⟩) (by assumption) ?_; (rotate_left 1); (focus (intro wz hSw; (try dsimp only at hSw); go_simp; try (with_reducible rfl))); simp only [Act.put, List.setIfInBounds_toArray, List.set_cons_zero, List.set_cons_succ]
            refine wpAnyH_take (i := 39) (oi := ⟨some 184, _, _, _, _, _⟩) (v := ?_) rfl (by kernel_rfl) (by kernel_rfl) (by kernel_rfl) (fun _ _ _ h => h) (Or.inl ⟨by rfl, ?_⟩) (by assumption) ?_; (rotate_left 1); (focus (intro wz hSw; (try dsimp only at hSw); go_simp; try (with_reducible rfl))); simp only [Act.put, List.setIfInBounds_toArray, List.set_cons_zero, List.set_cons_succ]
            refine wpAnyH_take (i := 40) (oi := ⟨some 185, _, _, _, _, _⟩) (v := ?_) rfl (by kernel_rfl) (by kernel_rfl) (by kernel_rfl) (fun _ _ _ h => h) (Or.inl ⟨by rfl, ?_⟩) (by assumption) ?_; (rotate_left 1); (focus (intro wz hSw; (try dsimp only at hSw); go_simp; try (with_reducible rfl))); simp only [Act.put, List.setIfInBounds_toArray, List.set_cons_zero, List.set_cons_succ]
            refine wpAnyH_take (i := 41) (oi := ⟨some 186, _, _, _, _, _⟩) (v := ?_) rfl (by kernel_rfl) (by kernel_rfl) (by kernel_rfl) (fun _ _ _ h => h) (Or.inl ⟨by rfl, ?_⟩) (by assumption) ?_; (rotate_left 1); (focus (intro wz hSw; (try dsimp only at hSw); go_simp; try (with_reducible rfl))); simp only [Act.put, List.setIfInBounds_toArray, List.set_cons_zero, List.set_cons_succ]
            refine wpAnyH_take (i := 42) (oi := ⟨some 187, _, _, _, _, _⟩) (v := ?_) rfl (by kernel_rfl) (by kernel_rfl) (by kernel_rfl) (fun _ _ _ h => h) (Or.inl ⟨by rfl, ?_⟩) (by assumption) ?_; (rotate_left 1); (focus (intro wz hSw; (try dsimp only at hSw); go_simp; try (with_reducible rfl))); simp only [Act.put, List.setIfInBounds_toArray, List.set_cons_zero, List.set_cons_succ]
            refine wpAnyH_take (i := 43) (oi := ⟨some 188, _, _, _, _, _⟩) (v := ?_) rfl (by kernel_rfl) (by kernel_rfl) (by kernel_rfl) (fun _ _ _ h => h) (Or.inl ⟨by rfl, ?_⟩) (by assumption) ?_; (rotate_left 1); (focus (intro wz hSw; (try dsimp only at hSw); go_simp; try (with_reducible rfl))); simp only [Act.put, List.setIfInBounds_toArray, List.set_cons_zero, List.set_cons_succ]
            refine wpAnyH_take (i := 44) (oi := ⟨some 189, _, _, _, _, _⟩) (v := ?_) rfl (by kernel_rfl) (by kernel_rfl) (by kernel_rfl) (fun _ _ _ h => h) (Or.inl ⟨by rfl, ?_⟩) (by assumption) ?_; (rotate_left 1); (focus (intro wz hSw; (try dsimp only at hSw); go_simp; try (with_reducible rfl))); simp only [Act.put, List.setIfInBounds_toArray, List.set_cons_zero, List.set_cons_succ]
            refine wpAnyH_take (i := 45) (oi := ⟨some 190, _, _, _, _, _⟩) (v := ?_) rfl (by kernel_rfl) (by kernel_rfl) (by kernel_rfl) (fun _ _ _ h => h) (Or.inl ⟨by rfl, ?_⟩) (by assumption) ?_; (rotate_left 1); (focus (intro wz hSw; (try dsimp only at hSw); go_simp; try (with_reducible rfl))); simp only [Act.put, List.setIfInBounds_toArray, List.set_cons_zero, List.set_cons_succ]
            refine wpAnyH_take (i := 46) (oi := ⟨some 191, _, _, _, _, _⟩) (v := ?_) rfl (by kernel_rfl) (by kernel_rfl) (by kernel_rfl) (fun _ _ _ h => h) (Or.inl ⟨by rfl, ?_⟩) (by assumption) ?_; (rotate_left 1); (focus (intro wz hSw; (try dsimp only at hSw); go_simp; try (with_reducible rfl))); simp only [Act.put, List.setIfInBounds_toArray, List.set_cons_zero, List.set_cons_succ]
            refine wpAnyH_take (i := 47) (oi := ⟨some 192, _, _, _, _, _⟩) (v := ?_) rfl (by kernel_rfl) (by kernel_rfl) (by kernel_rfl) (fun _ _ _ h => h) (Or.inl ⟨by rfl, ?_⟩) (by assumption) ?_; (rotate_left 1); (focus (intro wz hSw; (try dsimp only at hSw); go_simp; try (with_reducible rfl))); simp only [Act.put, List.setIfInBounds_toArray, List.set_cons_zero, List.set_cons_succ]
            refine wpAnyH_take (i := 48) (oi := ⟨some 193, _, _, _, _, _⟩) (v := ?_) rfl (by kernel_rfl) (by kernel_rfl) (by kernel_rfl) (fun _ _ _ h => h) (Or.inl ⟨by rfl, ?_⟩) (by assumption) ?_; (rotate_left 1); (focus (intro wz hSw; (try dsimp only at hSw); go_simp; try (with_reducible rfl))); simp only [Act.put, List.setIfInBounds_toArray, List.set_cons_zero, List.set_cons_succ]
            refine wpAnyH_take (i := 49) (oi := ⟨some 194, _, _, _, _, _⟩) (v := ?_) rfl (by kernel_rfl) (by kernel_rfl) (by kernel_rfl) (fun _ _ _ h => h) (Or.inl ⟨by rfl, ?_⟩) (by assumption) ?_; (rotate_left 1); (focus (intro wz hSw; (try dsimp only at hSw); go_simp; try (with_reducible rfl))); simp only [Act.put, List.setIfInBounds_toArray, List.set_cons_zero, List.set_cons_succ]
            refine wpAnyH_take (i := 50) (oi := ⟨some 195, _, _, _, _, _⟩) (v := ?_) rfl (by kernel_rfl) (by kernel_rfl) (by kernel_rfl) (fun _ _ _ h => h) (Or.inl ⟨by rfl, ?_⟩) (by assumption) ?_; (rotate_left 1); (focus (intro wz hSw; (try dsimp only at hSw); go_simp; try (with_reducible rfl))); simp only [Act.put, List.setIfInBounds_toArray, List.set_cons_zero, List.set_cons_succ]
            refine wpAnyH_take (i := 51) (oi := ⟨some 196, _, _, _, _, _⟩) (v := ?_) rfl (by kernel_rfl) (by kernel_rfl) (by kernel_rfl) (fun _ _ _ h => h) (Or.inl ⟨by rfl, ?_⟩) (by assumption) ?_; (rotate_left 1); (focus (intro wz hSw; (try dsimp only at hSw); go_simp; try (with_reducible rfl))); simp only [Act.put, List.setIfInBounds_toArray, List.set_cons_zero, List.set_cons_succ]
            refine wpAnyH_take (i := 52) (oi := ⟨some 197, _, _, _, _, _⟩) (v := ?_) rfl (by kernel_rfl) (by kernel_rfl) (by kernel_rfl) (fun _ _ _ h => h) (Or.inl ⟨by rfl, ?_⟩) (by assumption) ?_; (rotate_left 1); (focus (intro wz hSw; (try dsimp only at hSw); go_simp; try (with_reducible rfl))); simp only [Act.put, List.setIfInBounds_toArray, List.set_cons_zero, List.set_cons_succ]
            refine wpAnyH_take (i := 53) (oi := ⟨some 198, _, _, _, _, _⟩) (v := ?_) rfl (by kernel_rfl) (by kernel_rfl) (by kernel_rfl) (fun _ _ _ h => h) (Or.inl ⟨by rfl, ?_⟩) (by assumption) ?_; (rotate_left 1); (focus (intro wz hSw; (try dsimp only at hSw); go_simp; try (with_reducible rfl))); simp only [Act.put, List.setIfInBounds_toArray, List.set_cons_zero, List.set_cons_succ]
            refine wpAnyH_take (i := 54) (oi := ⟨some 199, _, _, _, _, _⟩) (v := ?_) rfl (by kernel_rfl) (by kernel_rfl) (by kernel_rfl) (fun _ _ _ h => h) (Or.inl ⟨by rfl, ?_⟩) (by assumption) ?_; (rotate_left 1); (focus (intro wz hSw; (try dsimp only at hSw); go_simp; try (with_reducible rfl))); simp only [Act.put, List.setIfInBounds_toArray, List.set_cons_zero, List.set_cons_succ]
            refine wpAnyH_take (i := 55) (oi := ⟨some 200, _, _, _, _, _⟩) (v := ?_) rfl (by kernel_rfl) (by kernel_rfl) (by kernel_rfl) (fun _ _ _ h => h) (Or.inl ⟨by rfl, ?_⟩) (by assumption) ?_; (rotate_left 1); (focus (intro wz hSw; (try dsimp only at hSw); go_simp; try (with_reducible rfl))); simp only [Act.put, List.setIfInBounds_toArray, List.set_cons_zero, List.set_cons_succ]
            refine wpAnyH_take (i := 56) (oi := ⟨some 201, _, _, _, _, _⟩) (v := ?_) rfl (by kernel_rfl) (by kernel_rfl) (by kernel_rfl) (fun _ _ _ h => h) (Or.inl ⟨by rfl, ?_⟩) (by assumption) ?_; (rotate_left 1); (focus (intro wz hSw; (try dsimp only at hSw); go_simp; try (with_reducible rfl))); simp only [Act.put, List.setIfInBounds_toArray, List.set_cons_zero, List.set_cons_succ]
            refine wpAnyH_take (i := 57) (oi := ⟨some 202, _, _, _, _, _⟩) (v := ?_) rfl (by kernel_rfl) (by kernel_rfl) (by kernel_rfl) (fun _ _ _ h => h) (Or.inl ⟨by rfl, ?_⟩) (by assumption) ?_; (rotate_left 1); (focus (intro wz hSw; (try dsimp only at hSw); go_simp; try (with_reducible rfl))); simp only [Act.put, List.setIfInBounds_toArray, List.set_cons_zero, List.set_cons_succ]
            refine wpAnyH_take (i := 58) (oi := ⟨some 203, _, _, _, _, _⟩) (v := ?_) rfl (by kernel_rfl) (by kernel_rfl) (by kernel_rfl) (fun _ _ _ h => h) (Or.inl ⟨by rfl, ?_⟩) (by assumption) ?_; (rotate_left 1); (focus (intro wz hSw; (try dsimp only at hSw); go_simp; try (with_reducible rfl))); simp only [Act.put, List.setIfInBounds_toArray, List.set_cons_zero, List.set_cons_succ]
            refine wpAnyH_take (i := 59) (oi := ⟨some 204, _, _, _, _, _⟩) (v := ?_) rfl (by kernel_rfl) (by kernel_rfl) (by kernel_rfl) (fun _ _ _ h => h) (Or.inl ⟨by rfl, ?_⟩) (by assumption) ?_; (rotate_left 1); (focus (intro wz hSw; (try dsimp only at hSw); go_simp; try (with_reducible rfl))); simp only [Act.put, List.setIfInBounds_toArray, List.set_cons_zero, List.set_cons_succ]
            refine wpAnyH_take (i := 60) (oi := ⟨some 205, _, _, _, _, _⟩) (v := ?_) rfl (by kernel_rfl) (by kernel_rfl) (by kernel_rfl) (fun _ _ _ h => h) (Or.inl ⟨by rfl, ?_⟩) (by assumption) ?_; (rotate_left 1); (focus (intro wz hSw; (try dsimp only at hSw); go_simp; try (with_reducible rfl))); simp only [Act.put, List.setIfInBounds_toArray, List.set_cons_zero, List.set_cons_succ]
            refine wpAnyH_take (i := 61) (oi := ⟨some 206, _, _, _, _, _⟩) (v := ?_) rfl (by kernel_rfl) (by kernel_rfl) (by kernel_rfl) (fun _ _ _ h => h) (Or.inl ⟨by rfl, ?_⟩) (by assumption) ?_; (rotate_left 1); (focus (intro wz hSw; (try dsimp only at hSw); go_simp; try (with_reducible rfl))); simp only [Act.put, List.setIfInBounds_toArray, List.set_cons_zero, List.set_cons_succ]
            refine wpAnyH_take (i := 62) (oi := ⟨some 207, _, _, _, _, _⟩) (v := ?_) rfl (by kernel_rfl) (by kernel_rfl) (by kernel_rfl) (fun _ _ _ h => h) (Or.inl ⟨by rfl, ?_⟩) (by assumption) ?_; (rotate_left 1); (focus (intro wz hSw; (try dsimp only at hSw); go_simp; try (with_reducible rfl))); simp only [Act.put, List.setIfInBounds_toArray, List.set_cons_zero, List.set_cons_succ]
            refine wpAnyH_take (i := 63) (oi := ⟨some 208, _, _, _, _, _⟩) (v := ?_) rfl (by kernel_rfl) (by kernel_rfl) (by kernel_rfl) (fun _ _ _ h => h) (Or.inl ⟨by rfl, ?_⟩) (by assumption) ?_; (rotate_left 1); (focus (intro wz hSw; (try dsimp only at hSw); go_simp; try (with_reducible rfl))); simp only [Act.put, List.setIfInBounds_toArray, List.set_cons_zero, List.set_cons_succ]
            refine wpAnyH_take (i := 64) (oi := ⟨some 209, _, _, _, _, _⟩) (v := ?_) rfl (by kernel_rfl) (by kernel_rfl) (by kernel_rfl) (fun _ _ _ h => h) (Or.inl ⟨by rfl, ?_⟩) (by assumption) ?_; (rotate_left 1); (focus (intro wz hSw; (try dsimp only at hSw); go_simp; try (with_reducible rfl))); simp only [Act.put, List.setIfInBounds_toArray, List.set_cons_zero, List.set_cons_succ]
            refine wpAnyH_take (i := 65) (oi := ⟨some 210, _, _, _, _, _⟩) (v := ?_) rfl (by kernel_rfl) (by kernel_rfl) (by kernel_rfl) (fun _ _ _ h => h) (Or.inl ⟨by rfl, ?_⟩) (by assumption) ?_; (rotate_left 1); (focus (intro wz hSw; (try dsimp only at hSw); go_simp; try (with_reducible rfl))); simp only [Act.put, List.setIfInBounds_toArray, List.set_cons_zero, List.set_cons_succ]
            refine wpAnyH_done (by kernel_rfl) ?_ _
            clear hHold
            have hXa := hX4.bw hB
            clear hX4
            go_wp2_with fail
            go_roundg (l.length - (k + 1))
            case measure => omega
            case rel => exact ⟨k + 1, _, _, _, _, _, by omega, rfl, by simp, hXa.tw, fun y hy => by have := hPn y hy; omega⟩
end Go.Proofs.Ytncidjkkngbclaa
