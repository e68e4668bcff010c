/- LAYER 11's walks: Write. -/
import Derived.Test.YtaepjlaegldkhaaFilW6
namespace Go.Proofs.Ytaepjlaegldkhaa
open Go.ChangeShapes Go.WideShapes Go.ChangeAt Go.RowKit

theorem Own8.sl {w0 w : World} {v : Value} {l : List Int} (h : Own8 w0 w v l) : ∃ q cap, v = .slice q l.length cap := by
  rcases h with ⟨rfl, rfl⟩ | ⟨g, cap, rfl, _⟩
  · exact ⟨_, _, rfl⟩
  · exact ⟨_, _, rfl⟩
set_option maxHeartbeats 4000000 in
set_option maxRecDepth 100000 in
theorem fWrite_c {w0 w : World} {fb : Nat} {A : Nat → Prop} {s : Fil.St} (h : FS w0 w fb A s) (h0w : Bw w0 w) (fd : Int) {v : Value} {bs : List Int} (hv : Rd8 w v bs) (h8 : B8s bs) (hbl : bs.length ≤ 1000000) :
    Calls Try.prog 15 #[.pointer (some ⟨fb, 0, none⟩), .int .i64 fd, v] w fun e w' => e = .returned (.int .i64 (Fil.write s fd bs).1) ∧ ∃ A', FS w0 w' fb A' (Fil.write s fd bs).2 ∧ Stp A A' w w' := by
  have hK := fKind_c h fd
  have HFS : Hid _ := h
  have HV : Hid _ := hv
  obtain ⟨qv, cv, rfl, hv1, hv2, -⟩ := Rd8.open hv
  by_cases h0 : (Fil.hd s fd).kind ≠ 2
  · rw [show Fil.write s fd bs = (-9, s) by unfold Fil.write; rw [if_pos h0]]
    have h2b : (((Fil.hd s fd).kind == 2) = false) := by simpa using h0
    generalize (Fil.hd s fd).kind = kd at *
    clear h h0 hv
    go_enter Try.func15, Try.ntmps15
    go_wp2_with (go_at_call 32; refine hK.mono ?_; rintro e w2 ⟨rfl, hb⟩)
    go_returns
    exact ⟨rfl, A, FS.bw HFS hb, Stp.of_bw hb⟩
  have h2 : (Fil.hd s fd).kind = 2 := Classical.not_not.1 h0
  obtain ⟨k, x, hfk, hk16, hx, hd⟩ := h.num (fd := fd) (by rw [h2]; decide)
  have hkk : k = 1 ∨ k = 2 := by
    rcases h.ok.kd k x hx with e | e | e
    · rw [hd, e] at h2; simp at h2
    · rw [hd, e.1] at h2; simp at h2
    · exact e.2
  have hlo1 := h.ok.p1.1
  have hlo2 := h.ok.p2.1
  rw [h2] at hK
  have hfd : fd = 1 ∨ fd = 2 := by omega
  have hS : Fil.write s fd bs = if 65536 < (Fil.outAt s fd).length + bs.length then (-28, s) else ((bs.length : Int), if fd = 1 then { s with o1 := s.o1 ++ bs } else { s with o2 := s.o2 ++ bs }) := by
    unfold Fil.write; rw [if_neg (by rw [h2]; decide)]
  obtain ⟨ub, v1, v2, vs, us, hX⟩ := h
  obtain ⟨b50, b51, b52⟩ := Fil.cells_hi (ub := ub) (vs := vs) (v1 := v1) (v2 := v2) hX.ok.ln
  have hln := Fil.cells_len (ub := ub) (vs := vs) (v1 := v1) (v2 := v2) hX.ok.ln
  have c51 := fun X (g : Bw w X) => g.keep (hX.box.c 51 _ b51)
  have c52 := fun X (g : Bw w X) => g.keep (hX.box.c 52 _ b52)
  have f51 := fun X (g : Bw w X) => (hX.bw g).box.f 51 (by rw [hln]; omega)
  have f52 := fun X (g : Bw w X) => (hX.bw g).box.f 52 (by rw [hln]; omega)
  obtain ⟨q1, p1, hv1e⟩ := hX.o1.sl
  obtain ⟨q2, p2, hv2e⟩ := hX.o2.sl
  clear hd hx h2 h0 b50 b51 b52 hln hv hkk hfk hk16
  rcases hfd with rfl | rfl
  · rw [show Fil.outAt s 1 = s.o1 from rfl, if_pos (show (1 : Int) = 1 from rfl)] at hS
    by_cases hbig : 65536 < s.o1.length + bs.length
    · rw [hS, if_pos hbig]
      have hbi : (65536 : Int) < (s.o1.length : Int) + (bs.length : Int) := by omega
      clear hS hX
      subst hv1e
      go_enter Try.func15, Try.ntmps15
      go_wp2_with (go_at_call 32; refine hK.mono ?_; rintro e w2 ⟨rfl, hb⟩; have d1 := c51 _ hb)
      go_returns
      exact ⟨rfl, A, FS.bw HFS hb, Stp.of_bw hb⟩
    · rw [hS, if_neg hbig]
      have hbi : ¬ (65536 : Int) < (s.o1.length : Int) + (bs.length : Int) := by omega
      have hA : ∀ X, Bw w X → ∃ v' w', (Builtin.append_ #[25, 25] 25 #[v1, .slice qv bs.length cv]).run Try.prog X = .ok v' w' ∧ (w'.cell? ⟨fb, 51, none⟩ = some v1 ∧ w'.frozen? ⟨fb, 51, none⟩ = false) ∧ (∃ q' n' c', v' = .slice q' n' c') ∧ ∃ A', FS w0 (w'.setCell ⟨fb, 51, none⟩ v') fb A' { s with o1 := s.o1 ++ bs } ∧ Stp A A' w (w'.setCell ⟨fb, 51, none⟩ v') := fun X g => by
        have hX2 := hX.bw g
        obtain ⟨v', w', hr, ho, -, ha⟩ := app8S hX2.o1 (h0w.trans g) (Rd8.bw HV g) (by omega)
        have hfb := (hX2.in_ _ hX2.af).2
        have hbk := ha.block fb hfb (fun e => (hX2.n1 fb e).2.1 rfl)
        obtain ⟨A', r1, r2⟩ := hX2.onO1 ha h8 (by rw [List.length_append]; omega) ho
        exact ⟨v', w', hr, ⟨(cell_block (p := ⟨fb, 51, none⟩) hbk).trans (c51 X g), (frozen_block (p := ⟨fb, 51, none⟩) hbk).trans (f51 X g)⟩, ⟨_, _, _, ho.sl.choose_spec.choose_spec⟩, A', ⟨_, _, _, _, _, r1⟩, (Stp.of_bw g).trans r2⟩
      clear hS hX
      subst hv1e
      go_enter Try.func15, Try.ntmps15
      go_wp2_with (go_at_call 32; refine hK.mono ?_; rintro e w2 ⟨rfl, hb⟩; have d1 := c51 _ hb)
      obtain ⟨v', w', hr, ⟨hc, hf⟩, ⟨q', n', c', rfl⟩, hfin⟩ := hA _ hb.drew
      have HFin : Hid _ := hfin
      clear hA hfin
      refine wp_region_held_drew (S := fun _ => True) (by kernel_rfl) trivial (fun hHeld => ?_)
      have d1' := (show w2.drew.cell? _ = _ from d1)
      refine wpAnyH_take (i := 0) (oi := ⟨some 22, _, _, _, _, _⟩) (v := ?_) rfl (by kernel_rfl) (by kernel_rfl) (by kernel_rfl) (fun _ _ _ h => h) (Or.inl ⟨by rfl, ?_⟩) (by assumption) ?_; (rotate_left 1); (focus (intro wz hSw; (try dsimp only at hSw); go_simp; try (with_reducible rfl))); simp only [Act.put, List.setIfInBounds_toArray, List.set_cons_zero, List.set_cons_succ]
      refine wpAnyH_take (i := 1) (oi := ⟨some 23, _, _, _, _, _⟩) (v := ?_) rfl (by kernel_rfl) (by kernel_rfl) (by kernel_rfl) (fun _ _ _ h => h) (Or.inl ⟨by rfl, ?_⟩) (by assumption) ?_; (rotate_left 1); (focus (intro wz hSw; (try dsimp only at hSw); go_simp; try (with_reducible rfl))); simp only [Act.put, List.setIfInBounds_toArray, List.set_cons_zero, List.set_cons_succ]
      refine wpAnyH_take (i := 2) (oi := ⟨some 24, _, _, _, _, _⟩) (v := ?_) rfl (by kernel_rfl) (by kernel_rfl) (by kernel_rfl) (fun _ _ _ h => h) (Or.inl ⟨by rfl, ?_⟩) (by assumption) ?_; (rotate_left 1); (focus (intro wz hSw; (try dsimp only at hSw); go_simp; try (with_reducible rfl))); simp only [Act.put, List.setIfInBounds_toArray, List.set_cons_zero, List.set_cons_succ]
      refine wpAnyH_take (i := 3) (oi := ⟨some 25, _, _, _, _, _⟩) (v := ?_) rfl (by kernel_rfl) (by kernel_rfl) (by kernel_rfl) (fun _ _ _ h => h) (Or.inl ⟨by rfl, ?_⟩) (by assumption) ?_; (rotate_left 1); (focus (intro wz hSw; (try dsimp only at hSw); go_simp; try (with_reducible rfl))); simp only [Act.put, List.setIfInBounds_toArray, List.set_cons_zero, List.set_cons_succ]
      refine wpAnyH_take (i := 4) (oi := ⟨some 26, _, _, _, _, _⟩) (v := ?_) rfl (by kernel_rfl) (by kernel_rfl) (by kernel_rfl) (fun _ _ _ h => h) (Or.inl ⟨by rfl, ?_⟩) (by assumption) ?_; (rotate_left 1); (focus (intro wz hSw; (try dsimp only at hSw); go_simp; try (with_reducible rfl))); simp only [Act.put, List.setIfInBounds_toArray, List.set_cons_zero, List.set_cons_succ]
      refine wpAnyH_take (i := 5) (oi := ⟨some 27, _, _, _, _, _⟩) (v := ?_) rfl (by kernel_rfl) (by kernel_rfl) (by kernel_rfl) (fun _ _ _ h => h) (Or.inl ⟨by rfl, ?_⟩) (by assumption) ?_; (rotate_left 1); (focus (intro wz hSw; (try dsimp only at hSw); go_simp; try (with_reducible rfl))); simp only [Act.put, List.setIfInBounds_toArray, List.set_cons_zero, List.set_cons_succ]
      refine wpAnyH_take (i := 6) (oi := ⟨some 28, _, _, _, _, _⟩) (v := ?_) rfl (by kernel_rfl) (by kernel_rfl) (by kernel_rfl) (fun _ _ _ h => h) (Or.inl ⟨by rfl, ?_⟩) (by assumption) ?_; (rotate_left 1); (focus (intro wz hSw; (try dsimp only at hSw); go_simp; try (with_reducible rfl))); simp only [Act.put, List.setIfInBounds_toArray, List.set_cons_zero, List.set_cons_succ]
      refine wpAnyH_take (i := 8) (oi := ⟨some 30, _, _, _, _, _⟩) (v := ?_) rfl (by kernel_rfl) (by kernel_rfl) (by kernel_rfl) (fun _ _ _ h => h) (Or.inl ⟨by rfl, ?_⟩) (by assumption) ?_; (rotate_left 1); (focus (intro wz hSw; (try dsimp only at hSw); go_simp; try (with_reducible rfl))); simp only [Act.put, List.setIfInBounds_toArray, List.set_cons_zero, List.set_cons_succ]
      refine wpAnyH_take (i := 10) (oi := ⟨some 32, _, _, _, _, _⟩) (v := ?_) rfl (by kernel_rfl) (by kernel_rfl) (by kernel_rfl) (fun _ _ _ h => h) (Or.inl ⟨by rfl, ?_⟩) (by assumption) ?_; (rotate_left 1); (focus (intro wz hSw; (try dsimp only at hSw); go_simp; try (with_reducible rfl))); simp only [Act.put, List.setIfInBounds_toArray, List.set_cons_zero, List.set_cons_succ]
      refine wpAnyH_take (i := 11) (oi := ⟨some 33, _, _, _, _, _⟩) (v := ?_) rfl (by kernel_rfl) (by kernel_rfl) (by kernel_rfl) (fun _ _ _ h => h) (Or.inl ⟨by rfl, ?_⟩) (by assumption) ?_; (rotate_left 1); (focus (intro wz hSw; (try dsimp only at hSw); go_simp; try (with_reducible rfl))); simp only [Act.put, List.setIfInBounds_toArray, List.set_cons_zero, List.set_cons_succ]
      refine wpAnyH_ready (rs := [7]) (by kernel_rfl) (by simp) ?_; refine AllReadyH.cons rfl (fun K hK => ?_) AllReadyH.nil; go_simp; (try clear hHeld); refine hK.out _ _ trivial (fun hHeld => ?_)
      refine wpAnyH_ready (rs := [9]) (by kernel_rfl) (by simp) ?_; refine AllReadyH.cons (o := ⟨some 31, _, _, _, _, _⟩) rfl (fun K hK => ?_) AllReadyH.nil; refine stepApp rfl _ _ 25 rfl rfl rfl hr ?_; (try clear hHeld); refine hK.out _ _ trivial (fun hHeld => ?_)
      simp only [Act.put, List.setIfInBounds_toArray, List.set_cons_zero, List.set_cons_succ]
      refine wpAnyH_take (i := 12) (oi := ⟨some 34, _, _, _, _, _⟩) (v := ?_) rfl (by kernel_rfl) (by kernel_rfl) (by kernel_rfl) (fun _ _ _ h => h) (Or.inl ⟨by rfl, ?_⟩) (by assumption) ?_; (rotate_left 1); (focus (intro wz hSw; (try dsimp only at hSw); go_simp; try (with_reducible rfl))); simp only [Act.put, List.setIfInBounds_toArray, List.set_cons_zero, List.set_cons_succ]
      refine wpAnyH_ready (rs := [13]) (by kernel_rfl) (by simp) ?_; refine AllReadyH.cons rfl (fun K hK => ?_) AllReadyH.nil; go_simp; (try clear hHeld); refine hK.out _ _ trivial (fun hHeld => ?_)
      refine wpAnyH_done (by kernel_rfl) ?_ _
      go_wp2_with fail
      go_returns
      exact ⟨rfl, HFin⟩
  · rw [show Fil.outAt s 2 = s.o2 from rfl, if_neg (show ¬ (2 : Int) = 1 by decide)] at hS
    by_cases hbig : 65536 < s.o2.length + bs.length
    · rw [hS, if_pos hbig]
      have hbi : (65536 : Int) < (s.o2.length : Int) + (bs.length : Int) := by omega
      clear hS hX
      subst hv2e
      go_enter Try.func15, Try.ntmps15
      go_wp2_with (go_at_call 32; refine hK.mono ?_; rintro e w2 ⟨rfl, hb⟩; have d1 := c52 _ hb)
      go_returns
      exact ⟨rfl, A, FS.bw HFS hb, Stp.of_bw hb⟩
    · rw [hS, if_neg hbig]
      have hbi : ¬ (65536 : Int) < (s.o2.length : Int) + (bs.length : Int) := by omega
      have hA : ∀ X, Bw w X → ∃ v' w', (Builtin.append_ #[25, 25] 25 #[v2, .slice qv bs.length cv]).run Try.prog X = .ok v' w' ∧ (w'.cell? ⟨fb, 52, none⟩ = some v2 ∧ w'.frozen? ⟨fb, 52, none⟩ = false) ∧ (∃ q' n' c', v' = .slice q' n' c') ∧ ∃ A', FS w0 (w'.setCell ⟨fb, 52, none⟩ v') fb A' { s with o2 := s.o2 ++ bs } ∧ Stp A A' w (w'.setCell ⟨fb, 52, none⟩ v') := fun X g => by
        have hX2 := hX.bw g
        obtain ⟨v', w', hr, ho, -, ha⟩ := app8S hX2.o2 (h0w.trans g) (Rd8.bw HV g) (by omega)
        have hfb := (hX2.in_ _ hX2.af).2
        have hbk := ha.block fb hfb (fun e => (hX2.n2 fb e).2.1 rfl)
        obtain ⟨A', r1, r2⟩ := hX2.onO2 ha h8 (by rw [List.length_append]; omega) ho
        exact ⟨v', w', hr, ⟨(cell_block (p := ⟨fb, 52, none⟩) hbk).trans (c52 X g), (frozen_block (p := ⟨fb, 52, none⟩) hbk).trans (f52 X g)⟩, ⟨_, _, _, ho.sl.choose_spec.choose_spec⟩, A', ⟨_, _, _, _, _, r1⟩, (Stp.of_bw g).trans r2⟩
      clear hS hX
      subst hv2e
      go_enter Try.func15, Try.ntmps15
      go_wp2_with (go_at_call 32; refine hK.mono ?_; rintro e w2 ⟨rfl, hb⟩; have d1 := c52 _ hb)
      obtain ⟨v', w', hr, ⟨hc, hf⟩, ⟨q', n', c', rfl⟩, hfin⟩ := hA _ hb.drew
      have HFin : Hid _ := hfin
      clear hA hfin
      refine wp_region_held_drew (S := fun _ => True) (by kernel_rfl) trivial (fun hHeld => ?_)
      have d1' := (show w2.drew.cell? _ = _ from d1)
      refine wpAnyH_take (i := 0) (oi := ⟨some 22, _, _, _, _, _⟩) (v := ?_) rfl (by kernel_rfl) (by kernel_rfl) (by kernel_rfl) (fun _ _ _ h => h) (Or.inl ⟨by rfl, ?_⟩) (by assumption) ?_; (rotate_left 1); (focus (intro wz hSw; (try dsimp only at hSw); go_simp; try (with_reducible rfl))); simp only [Act.put, List.setIfInBounds_toArray, List.set_cons_zero, List.set_cons_succ]
      refine wpAnyH_take (i := 1) (oi := ⟨some 23, _, _, _, _, _⟩) (v := ?_) rfl (by kernel_rfl) (by kernel_rfl) (by kernel_rfl) (fun _ _ _ h => h) (Or.inl ⟨by rfl, ?_⟩) (by assumption) ?_; (rotate_left 1); (focus (intro wz hSw; (try dsimp only at hSw); go_simp; try (with_reducible rfl))); simp only [Act.put, List.setIfInBounds_toArray, List.set_cons_zero, List.set_cons_succ]
      refine wpAnyH_take (i := 2) (oi := ⟨some 24, _, _, _, _, _⟩) (v := ?_) rfl (by kernel_rfl) (by kernel_rfl) (by kernel_rfl) (fun _ _ _ h => h) (Or.inl ⟨by rfl, ?_⟩) (by assumption) ?_; (rotate_left 1); (focus (intro wz hSw; (try dsimp only at hSw); go_simp; try (with_reducible rfl))); simp only [Act.put, List.setIfInBounds_toArray, List.set_cons_zero, List.set_cons_succ]
      refine wpAnyH_take (i := 3) (oi := ⟨some 25, _, _, _, _, _⟩) (v := ?_) rfl (by kernel_rfl) (by kernel_rfl) (by kernel_rfl) (fun _ _ _ h => h) (Or.inl ⟨by rfl, ?_⟩) (by assumption) ?_; (rotate_left 1); (focus (intro wz hSw; (try dsimp only at hSw); go_simp; try (with_reducible rfl))); simp only [Act.put, List.setIfInBounds_toArray, List.set_cons_zero, List.set_cons_succ]
      refine wpAnyH_take (i := 4) (oi := ⟨some 26, _, _, _, _, _⟩) (v := ?_) rfl (by kernel_rfl) (by kernel_rfl) (by kernel_rfl) (fun _ _ _ h => h) (Or.inl ⟨by rfl, ?_⟩) (by assumption) ?_; (rotate_left 1); (focus (intro wz hSw; (try dsimp only at hSw); go_simp; try (with_reducible rfl))); simp only [Act.put, List.setIfInBounds_toArray, List.set_cons_zero, List.set_cons_succ]
      refine wpAnyH_take (i := 5) (oi := ⟨some 27, _, _, _, _, _⟩) (v := ?_) rfl (by kernel_rfl) (by kernel_rfl) (by kernel_rfl) (fun _ _ _ h => h) (Or.inl ⟨by rfl, ?_⟩) (by assumption) ?_; (rotate_left 1); (focus (intro wz hSw; (try dsimp only at hSw); go_simp; try (with_reducible rfl))); simp only [Act.put, List.setIfInBounds_toArray, List.set_cons_zero, List.set_cons_succ]
      refine wpAnyH_take (i := 6) (oi := ⟨some 28, _, _, _, _, _⟩) (v := ?_) rfl (by kernel_rfl) (by kernel_rfl) (by kernel_rfl) (fun _ _ _ h => h) (Or.inl ⟨by rfl, ?_⟩) (by assumption) ?_; (rotate_left 1); (focus (intro wz hSw; (try dsimp only at hSw); go_simp; try (with_reducible rfl))); simp only [Act.put, List.setIfInBounds_toArray, List.set_cons_zero, List.set_cons_succ]
      refine wpAnyH_take (i := 8) (oi := ⟨some 30, _, _, _, _, _⟩) (v := ?_) rfl (by kernel_rfl) (by kernel_rfl) (by kernel_rfl) (fun _ _ _ h => h) (Or.inl ⟨by rfl, ?_⟩) (by assumption) ?_; (rotate_left 1); (focus (intro wz hSw; (try dsimp only at hSw); go_simp; try (with_reducible rfl))); simp only [Act.put, List.setIfInBounds_toArray, List.set_cons_zero, List.set_cons_succ]
      refine wpAnyH_take (i := 10) (oi := ⟨some 32, _, _, _, _, _⟩) (v := ?_) rfl (by kernel_rfl) (by kernel_rfl) (by kernel_rfl) (fun _ _ _ h => h) (Or.inl ⟨by rfl, ?_⟩) (by assumption) ?_; (rotate_left 1); (focus (intro wz hSw; (try dsimp only at hSw); go_simp; try (with_reducible rfl))); simp only [Act.put, List.setIfInBounds_toArray, List.set_cons_zero, List.set_cons_succ]
      refine wpAnyH_take (i := 11) (oi := ⟨some 33, _, _, _, _, _⟩) (v := ?_) rfl (by kernel_rfl) (by kernel_rfl) (by kernel_rfl) (fun _ _ _ h => h) (Or.inl ⟨by rfl, ?_⟩) (by assumption) ?_; (rotate_left 1); (focus (intro wz hSw; (try dsimp only at hSw); go_simp; try (with_reducible rfl))); simp only [Act.put, List.setIfInBounds_toArray, List.set_cons_zero, List.set_cons_succ]
      refine wpAnyH_ready (rs := [7]) (by kernel_rfl) (by simp) ?_; refine AllReadyH.cons rfl (fun K hK => ?_) AllReadyH.nil; go_simp; (try clear hHeld); refine hK.out _ _ trivial (fun hHeld => ?_)
      refine wpAnyH_ready (rs := [9]) (by kernel_rfl) (by simp) ?_; refine AllReadyH.cons (o := ⟨some 31, _, _, _, _, _⟩) rfl (fun K hK => ?_) AllReadyH.nil; refine stepApp rfl _ _ 25 rfl rfl rfl hr ?_; (try clear hHeld); refine hK.out _ _ trivial (fun hHeld => ?_)
      simp only [Act.put, List.setIfInBounds_toArray, List.set_cons_zero, List.set_cons_succ]
      refine wpAnyH_take (i := 12) (oi := ⟨some 34, _, _, _, _, _⟩) (v := ?_) rfl (by kernel_rfl) (by kernel_rfl) (by kernel_rfl) (fun _ _ _ h => h) (Or.inl ⟨by rfl, ?_⟩) (by assumption) ?_; (rotate_left 1); (focus (intro wz hSw; (try dsimp only at hSw); go_simp; try (with_reducible rfl))); simp only [Act.put, List.setIfInBounds_toArray, List.set_cons_zero, List.set_cons_succ]
      refine wpAnyH_ready (rs := [13]) (by kernel_rfl) (by simp) ?_; refine AllReadyH.cons rfl (fun K hK => ?_) AllReadyH.nil; go_simp; (try clear hHeld); refine hK.out _ _ trivial (fun hHeld => ?_)
      refine wpAnyH_done (by kernel_rfl) ?_ _
      go_wp2_with fail
      go_returns
      exact ⟨rfl, HFin⟩
end Go.Proofs.Ytaepjlaegldkhaa
