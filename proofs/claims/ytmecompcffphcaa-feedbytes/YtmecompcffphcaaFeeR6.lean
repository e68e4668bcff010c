/- LAYER 9, the reference's: PutFeed. -/
import Derived.Test.YtmecompcffphcaaFeeR5
import Derived.Test.YtmecompcffphcaaFeeR2
import Derived.Test.YtmecompcffphcaaFeeP2
namespace Go.Proofs.Ytmecompcffphcaa
open Go.ChangeShapes Go.WideShapes Go.ChangeAt Go.RowKit
set_option linter.unusedSimpArgs false

def rPutPost (f : Fee.Fd) (w : World) (e : Ending) (w' : World) : Prop := ∃ u, e = .returned (.tuple #[u, .bool (Fee.good f)]) ∧ P8 w w' u (if Fee.good f then Fee.put f else []) ∧ Bw w w'
set_option maxHeartbeats 8000000 in
set_option maxRecDepth 100000 in
theorem rPut_c (v : Value) (f : Fee.Fd) (w : World) (hv : IsFd w v f) (hz : Fee.Sz f) : Calls Try.prog 10 #[v] w fun e w' => rPutPost f w e w' := by
  have hG := fun X (g : Bw w X) => rMay_c v f X (hv.bw g) hz
  obtain ⟨va, vi, vs, vr, vc, vf, rfl, ha, hi, hs, hr, hc, hf, hwf⟩ := hv
  have hci := fun X (g : Bw w X) => conv_all hi g
  have hcr := fun X (g : Bw w X) => conv_all hr g
  obtain ⟨qi, ci, rfl, -⟩ := Rd8.open hi
  obtain ⟨qr, cr, rfl, -⟩ := Rd8.open hr
  obtain ⟨qa, ca, rfl, ha1, -, hca⟩ := RdR.at1 ha
  obtain ⟨qs, cs, rfl, hs1, -, hcs⟩ := RdR.at1 hs
  obtain ⟨qc, cc, rfl, hc1, -, hcc⟩ := RdR.at1 hc
  obtain ⟨qf, cf, rfl, hf1, -, hcf⟩ := hf.open
  have hi8 := hwf.i8; have hr8 := hwf.r8; have hck := hwf.ck
  have hf8 : ∀ x ∈ f.files, B8s x.data := by obtain ⟨_, _, _, _, h⟩ := hf; exact h
  have hBx := Box.new w [.slice qa f.args.length ca, .slice qi f.input.length ci, .slice qs f.short.length cs, .slice qr f.random.length cr, .slice qc f.clock.length cc, .slice qf f.files.length cf] 36
  have g0 : Bw w (w.alloc (.cells #[.slice qa f.args.length ca, .slice qi f.input.length ci, .slice qs f.short.length cs, .slice qr f.random.length cr, .slice qc f.clock.length cc, .slice qf f.files.length cf] 36)) := (Bw.refl w).alloc _
  clear ha hi hs hr hc hf hwf
  cases hgd : Fee.good f with
  | false =>
    simp only [hgd] at hG
    go_enter Try.func10, Try.ntmps10
    go_wp2_with fail
    refine (hG _ g0).mono ?_
    rintro e w2 ⟨rfl, h2⟩
    have hb2 := g0.trans h2
    clear hG hBx h2 g0 hca hcs hcc hcf hci hcr
    go_wp2_with fail
    go_returns
    exact ⟨_, by rw [hgd]; rfl, by rw [hgd]; exact P8.nil _ _, hb2⟩
  | true =>
    obtain ⟨p1, p2, p3⟩ := Fee.good_parts hgd
    obtain ⟨l1, l2, l3, l4, l5, l6⟩ := Fee.good_len hgd
    simp only [hgd] at hG
    have HG : Hid _ := hgd
    go_enter Try.func10, Try.ntmps10
    go_wp2_with fail
    refine (hG _ g0).mono ?_
    rintro e w2 ⟨rfl, h2⟩
    have hX := hBx.bw h2
    have hb2 := g0.trans h2
    obtain ⟨fb, hfb⟩ : ∃ fb, w.heap.size = fb := ⟨_, rfl⟩
    rw [hfb] at hX ⊢
    have x0 := hX.c 0 _ rfl; have x1 := hX.c 1 _ rfl; have x2 := hX.c 2 _ rfl; have x3 := hX.c 3 _ rfl; have x4 := hX.c 4 _ rfl; have x5 := hX.c 5 _ rfl
    have s1 : ∀ x ∈ f.args, (Fee.argB x).length ≤ 204 := fun x hx => by unfold Fee.argB; rw [Fee.txt_len, Fee.sb_len]; have := p1 x hx; omega
    have s2 : ∀ x ∈ f.short, (Fee.w4 x).length ≤ 4 := fun x _ => Nat.le_refl _
    have s3 : ∀ x ∈ f.clock, (Fee.w4 x).length ≤ 4 := fun x _ => Nat.le_refl _
    have s4 : ∀ x ∈ f.files, (Fee.flB x).length ≤ 4144 := fun x hx => by unfold Fee.flB; rw [List.length_append, Fee.txt_len, Fee.txt_len, Fee.sb_len]; have := p3 x hx; omega
    have S1 := fun k => take_le s1 k 16 l4
    have S2 := fun k => take_le s2 k 64 l1
    have S3 := fun k => take_le s3 k 64 l3
    have S4 := fun k => take_le s4 k 8 l6
    have W4 := Fee.w4_len
    have TX := Fee.txt_len
    have kx0 := fun X (g : Bw w2 X) => g.keep x0
    have kx1 := fun X (g : Bw w2 X) => g.keep x1
    have kx2 := fun X (g : Bw w2 X) => g.keep x2
    have kx3 := fun X (g : Bw w2 X) => g.keep x3
    have kx4 := fun X (g : Bw w2 X) => g.keep x4
    have kx5 := fun X (g : Bw w2 X) => g.keep x5
    have hki := fun X (g : Bw w2 X) => hci X (hb2.trans g)
    have hkr := fun X (g : Bw w2 X) => hcr X (hb2.trans g)
    have hsi := strOf_size f.input
    have hsr := strOf_size f.random
    have bi := Fee.sb_of hi8
    have br := Fee.sb_of hr8
    have m1 : (f.args.length : Int) ≤ 16 := by omega
    clear hBx hX h2 hG hci hcr s1 s2 s3 s4 x1 x2 x3 x4 x5
    have mm0 : (f.args.length : Int) % 4294967296 = (f.args.length : Int) := by omega
    go_wp2_with fail
    refine (rW32_c _ _ [] (f.args.length : Int) (RdR.nil _ _) (by omega) (by omega) (by simp)).mono ?_
    rintro e wr ⟨vb, rfl, hown, hbw⟩
    clear x0 mm0
    go_wp2_with fail
    go_loopg [4, 5] f.args.length (fun g x j wr => ∃ k : Nat, ∃ u : Value, k + g = f.args.length ∧ u = x ∧ j = .int .i64 k ∧ P8 w2 wr u (([] ++ Fee.w4 f.args.length) ++ (f.args.take k).flatMap Fee.argB) ∧ Bw w2 wr)
    case atStart => exact ⟨0, _, by omega, rfl, rfl, by simpa using hown, hbw⟩
    case round =>
      obtain ⟨k, vb, hkg, rfl, rfl, hown, hbw⟩ := hrel
      have y1 := kx0 _ hbw
      by_cases hk : k = f.args.length
      · subst hk
        rw [List.take_length] at hown
        have mm : (f.short.length : Int) % 4294967296 = (f.short.length : Int) := by omega
        have mw : IntKind.u32.wrap (f.short.length : Int) = (f.short.length : Int) := by rw [IntKind.wrap_u32]; omega
        go_wp2_with fail
        have hHold : ∀ X, Bw w2 X → (X.cell? ⟨fb, 1, none⟩ = some (.slice qi f.input.length ci) ∧ X.cell? ⟨fb, 2, none⟩ = some (.slice qs f.short.length cs) ∧ (convert 22 9 (.slice qi f.input.length ci)).run Try.prog X = .ok (.string (strOfNums f.input)) X) := fun X g => ⟨kx1 _ g, kx2 _ g, hki _ g⟩
        have hB : Bw wr wr.drew := (Bw.refl wr).drew
        refine wp_region_held_drew (S := fun X => X.cell? ⟨fb, 1, none⟩ = some (.slice qi f.input.length ci) ∧ X.cell? ⟨fb, 2, none⟩ = some (.slice qs f.short.length cs) ∧ (convert 22 9 (.slice qi f.input.length ci)).run Try.prog X = .ok (.string (strOfNums f.input)) X) (by kernel_rfl) (hHold _ (hbw.trans hB)) (fun hHeld => ?_)
        refine wpAnyH_take (i := 0) (oi := ⟨some 31, _, _, _, _, _⟩) (v := ?_) rfl (by kernel_rfl) (by kernel_rfl) (by kernel_rfl) (fun _ _ _ h => h) (Or.inl ⟨by rfl, ?_⟩) (by assumption) ?_; (rotate_left 1); (focus (intro wz hSw; (try dsimp only at hSw); go_simp; try (with_reducible rfl))); simp only [Act.put, List.setIfInBounds_toArray, List.set_cons_zero, List.set_cons_succ]
        refine wpAnyH_take (i := 1) (oi := ⟨some 32, _, _, _, _, _⟩) (v := ?_) rfl (by kernel_rfl) (by kernel_rfl) (by kernel_rfl) (fun _ _ _ h => h) (Or.inl ⟨by rfl, ?_⟩) (by assumption) ?_; (rotate_left 1); (focus (intro wz hSw; (try dsimp only at hSw); go_simp; try (with_reducible rfl))); simp only [Act.put, List.setIfInBounds_toArray, List.set_cons_zero, List.set_cons_succ]
        refine wpAnyH_take (i := 2) (oi := ⟨some 33, _, _, _, _, _⟩) (v := ?_) rfl (by kernel_rfl) (by kernel_rfl) (by kernel_rfl) (fun _ _ _ h => h) (Or.inl ⟨by rfl, ?_⟩) (by assumption) ?_; (rotate_left 1); (focus (intro wz hSw; (try dsimp only at hSw); go_simp; try (with_reducible rfl))); simp only [Act.put, List.setIfInBounds_toArray, List.set_cons_zero, List.set_cons_succ]
        refine wpAnyH_take (i := 3) (oi := ⟨some 34, _, _, _, _, _⟩) (v := ?_) rfl (by kernel_rfl) (by kernel_rfl) (by kernel_rfl) (fun _ _ _ h => h) (Or.inl ⟨by rfl, ?_⟩) (by assumption) ?_; (rotate_left 1); (focus (intro wz hSw; (try dsimp only at hSw); go_simp; try (with_reducible rfl))); simp only [Act.put, List.setIfInBounds_toArray, List.set_cons_zero, List.set_cons_succ]
        refine wpAnyH_take (i := 5) (oi := ⟨some 36, _, _, _, _, _⟩) (v := ?_) rfl (by kernel_rfl) (by kernel_rfl) (by kernel_rfl) (fun _ _ _ h => h) (Or.inl ⟨by rfl, ?_⟩) (by assumption) ?_; (rotate_left 1); (focus (intro wz hSw; (try dsimp only at hSw); go_simp; try (with_reducible rfl))); simp only [Act.put, List.setIfInBounds_toArray, List.set_cons_zero, List.set_cons_succ]
        refine wpAnyH_take (i := 6) (oi := ⟨some 37, _, _, _, _, _⟩) (v := ?_) rfl (by kernel_rfl) (by kernel_rfl) (by kernel_rfl) (fun _ _ _ h => h) (Or.inl ⟨by rfl, ?_⟩) (by assumption) ?_; (rotate_left 1); (focus (intro wz hSw; (try dsimp only at hSw); go_simp; try (with_reducible rfl))); simp only [Act.put, List.setIfInBounds_toArray, List.set_cons_zero, List.set_cons_succ]
        refine wpAnyH_take (i := 7) (oi := ⟨some 38, _, _, _, _, _⟩) (v := ?_) rfl (by kernel_rfl) (by kernel_rfl) (by kernel_rfl) (fun _ _ _ h => h) (Or.inl ⟨by rfl, ?_⟩) (by assumption) ?_; (rotate_left 1); (focus (intro wz hSw; (try dsimp only at hSw); go_simp; try (with_reducible rfl))); simp only [Act.put, List.setIfInBounds_toArray, List.set_cons_zero, List.set_cons_succ]
        refine wpAnyH_take (i := 8) (oi := ⟨some 39, _, _, _, _, _⟩) (v := ?_) rfl (by kernel_rfl) (by kernel_rfl) (by kernel_rfl) (fun _ _ _ h => h) (Or.inl ⟨by rfl, ?_⟩) (by assumption) ?_; (rotate_left 1); (focus (intro wz hSw; (try dsimp only at hSw); go_simp; try (with_reducible rfl))); simp only [Act.put, List.setIfInBounds_toArray, List.set_cons_zero, List.set_cons_succ]
        refine wpAnyH_ready (rs := [4]) (by kernel_rfl) (by simp) ?_; refine AllReadyH.cons rfl (fun K hK => ?_) AllReadyH.nil; go_simp
        refine (rText_c _ _ _ (strOfNums f.input) (Own8.rd (P8.own (OwnR.bw hown hB))) (by rw [hsi]; omega) (by simp only [List.length_append, W4, TX, List.length_nil]; have q1 := S1 f.args.length; have q2 := S2 f.short.length; have q3 := S3 f.clock.length; have q4 := S4 f.files.length; simp only [List.take_length] at q1 q2 q3 q4; omega)).mono ?_
        rintro e w5 ⟨v5, rfl, o5, b5⟩
        rw [bi] at o5
        have hb5 := hbw.trans (hB.trans b5)
        have o5' := o5.le (w0 := w2) (hbw.trans hB).size
        (try clear hHeld); refine hK.out _ _ ?_ (fun hHeld => ?_)
        · exact hHold _ hb5
        have hC9 := rW32_c w5 v5 _ (f.short.length : Int) (Own8.rd (P8.own o5')) (by omega) (by omega) (by simp only [List.length_append, W4, TX, List.length_nil]; have q1 := S1 f.args.length; have q2 := S2 f.short.length; have q3 := S3 f.clock.length; have q4 := S4 f.files.length; simp only [List.take_length] at q1 q2 q3 q4; omega)
        refine wpAnyH_ready (rs := [9]) (by kernel_rfl) (by simp) ?_; refine AllReadyH.cons rfl (fun K hK => ?_) AllReadyH.nil; go_simp
        refine hC9.mono ?_
        clear hC9
        rintro e w6 ⟨v6, rfl, o6, b6⟩
        have hb6 := hb5.trans b6
        have o6' := o6.le (w0 := w2) hb5.size
        (try clear hHeld); refine hK.out _ _ ?_ (fun hHeld => ?_)
        · exact hHold _ hb6
        refine wpAnyH_take (i := 10) (oi := ⟨some 4, _, _, _, _, _⟩) (v := ?_) rfl (by kernel_rfl) (by kernel_rfl) (by kernel_rfl) (fun _ _ _ h => h) (Or.inl ⟨by rfl, ?_⟩) (by assumption) ?_; (rotate_left 1); (focus (intro wz hSw; (try dsimp only at hSw); go_simp; try (with_reducible rfl))); simp only [Act.put, List.setIfInBounds_toArray, List.set_cons_zero, List.set_cons_succ]
        refine wpAnyH_done (by kernel_rfl) ?_ _
        clear hHold hB o5 o5' b5 hb5 o6 b6 hown hbw y1
        obtain ⟨wr, hwr⟩ : ∃ x, x = w6 := ⟨_, rfl⟩
        subst hwr
        have hown := o6'
        have hbw := hb6
        clear o6' hb6
        go_wp2_with fail
        go_loopg [4, 6] f.short.length (fun g x j wr => ∃ k : Nat, ∃ u : Value, k + g = f.short.length ∧ u = x ∧ j = .int .i64 k ∧ P8 w2 wr u (((([] ++ Fee.w4 f.args.length) ++ f.args.flatMap Fee.argB) ++ Fee.txt f.input ++ Fee.w4 f.short.length) ++ (f.short.take k).flatMap Fee.w4) ∧ Bw w2 wr)
        case atStart => exact ⟨0, _, by omega, rfl, rfl, by simpa using hown, hbw⟩
        case round =>
          obtain ⟨k, vb, hkg, rfl, rfl, hown, hbw⟩ := hrel
          have y1 := kx2 _ hbw
          by_cases hk : k = f.short.length
          · subst hk
            rw [List.take_length] at hown
            have mm : (f.clock.length : Int) % 4294967296 = (f.clock.length : Int) := by omega
            have mw : IntKind.u32.wrap (f.clock.length : Int) = (f.clock.length : Int) := by rw [IntKind.wrap_u32]; omega
            go_wp2_with fail
            have hHold : ∀ X, Bw w2 X → (X.cell? ⟨fb, 3, none⟩ = some (.slice qr f.random.length cr) ∧ X.cell? ⟨fb, 4, none⟩ = some (.slice qc f.clock.length cc) ∧ (convert 22 9 (.slice qr f.random.length cr)).run Try.prog X = .ok (.string (strOfNums f.random)) X) := fun X g => ⟨kx3 _ g, kx4 _ g, hkr _ g⟩
            have hB : Bw wr wr.drew := (Bw.refl wr).drew
            refine wp_region_held_drew (S := fun X => X.cell? ⟨fb, 3, none⟩ = some (.slice qr f.random.length cr) ∧ X.cell? ⟨fb, 4, none⟩ = some (.slice qc f.clock.length cc) ∧ (convert 22 9 (.slice qr f.random.length cr)).run Try.prog X = .ok (.string (strOfNums f.random)) X) (by kernel_rfl) (hHold _ (hbw.trans hB)) (fun hHeld => ?_)
            refine wpAnyH_take (i := 0) (oi := ⟨some 56, _, _, _, _, _⟩) (v := ?_) rfl (by kernel_rfl) (by kernel_rfl) (by kernel_rfl) (fun _ _ _ h => h) (Or.inl ⟨by rfl, ?_⟩) (by assumption) ?_; (rotate_left 1); (focus (intro wz hSw; (try dsimp only at hSw); go_simp; try (with_reducible rfl))); simp only [Act.put, List.setIfInBounds_toArray, List.set_cons_zero, List.set_cons_succ]
            refine wpAnyH_take (i := 1) (oi := ⟨some 57, _, _, _, _, _⟩) (v := ?_) rfl (by kernel_rfl) (by kernel_rfl) (by kernel_rfl) (fun _ _ _ h => h) (Or.inl ⟨by rfl, ?_⟩) (by assumption) ?_; (rotate_left 1); (focus (intro wz hSw; (try dsimp only at hSw); go_simp; try (with_reducible rfl))); simp only [Act.put, List.setIfInBounds_toArray, List.set_cons_zero, List.set_cons_succ]
            refine wpAnyH_take (i := 2) (oi := ⟨some 58, _, _, _, _, _⟩) (v := ?_) rfl (by kernel_rfl) (by kernel_rfl) (by kernel_rfl) (fun _ _ _ h => h) (Or.inl ⟨by rfl, ?_⟩) (by assumption) ?_; (rotate_left 1); (focus (intro wz hSw; (try dsimp only at hSw); go_simp; try (with_reducible rfl))); simp only [Act.put, List.setIfInBounds_toArray, List.set_cons_zero, List.set_cons_succ]
            refine wpAnyH_take (i := 3) (oi := ⟨some 59, _, _, _, _, _⟩) (v := ?_) rfl (by kernel_rfl) (by kernel_rfl) (by kernel_rfl) (fun _ _ _ h => h) (Or.inl ⟨by rfl, ?_⟩) (by assumption) ?_; (rotate_left 1); (focus (intro wz hSw; (try dsimp only at hSw); go_simp; try (with_reducible rfl))); simp only [Act.put, List.setIfInBounds_toArray, List.set_cons_zero, List.set_cons_succ]
            refine wpAnyH_take (i := 5) (oi := ⟨some 61, _, _, _, _, _⟩) (v := ?_) rfl (by kernel_rfl) (by kernel_rfl) (by kernel_rfl) (fun _ _ _ h => h) (Or.inl ⟨by rfl, ?_⟩) (by assumption) ?_; (rotate_left 1); (focus (intro wz hSw; (try dsimp only at hSw); go_simp; try (with_reducible rfl))); simp only [Act.put, List.setIfInBounds_toArray, List.set_cons_zero, List.set_cons_succ]
            refine wpAnyH_take (i := 6) (oi := ⟨some 62, _, _, _, _, _⟩) (v := ?_) rfl (by kernel_rfl) (by kernel_rfl) (by kernel_rfl) (fun _ _ _ h => h) (Or.inl ⟨by rfl, ?_⟩) (by assumption) ?_; (rotate_left 1); (focus (intro wz hSw; (try dsimp only at hSw); go_simp; try (with_reducible rfl))); simp only [Act.put, List.setIfInBounds_toArray, List.set_cons_zero, List.set_cons_succ]
            refine wpAnyH_take (i := 7) (oi := ⟨some 63, _, _, _, _, _⟩) (v := ?_) rfl (by kernel_rfl) (by kernel_rfl) (by kernel_rfl) (fun _ _ _ h => h) (Or.inl ⟨by rfl, ?_⟩) (by assumption) ?_; (rotate_left 1); (focus (intro wz hSw; (try dsimp only at hSw); go_simp; try (with_reducible rfl))); simp only [Act.put, List.setIfInBounds_toArray, List.set_cons_zero, List.set_cons_succ]
            refine wpAnyH_take (i := 8) (oi := ⟨some 64, _, _, _, _, _⟩) (v := ?_) rfl (by kernel_rfl) (by kernel_rfl) (by kernel_rfl) (fun _ _ _ h => h) (Or.inl ⟨by rfl, ?_⟩) (by assumption) ?_; (rotate_left 1); (focus (intro wz hSw; (try dsimp only at hSw); go_simp; try (with_reducible rfl))); simp only [Act.put, List.setIfInBounds_toArray, List.set_cons_zero, List.set_cons_succ]
            refine wpAnyH_ready (rs := [4]) (by kernel_rfl) (by simp) ?_; refine AllReadyH.cons rfl (fun K hK => ?_) AllReadyH.nil; go_simp
            refine (rText_c _ _ _ (strOfNums f.random) (Own8.rd (P8.own (OwnR.bw hown hB))) (by rw [hsr]; omega) (by simp only [List.length_append, W4, TX, List.length_nil]; have q1 := S1 f.args.length; have q2 := S2 f.short.length; have q3 := S3 f.clock.length; have q4 := S4 f.files.length; simp only [List.take_length] at q1 q2 q3 q4; omega)).mono ?_
            rintro e w5 ⟨v5, rfl, o5, b5⟩
            rw [br] at o5
            have hb5 := hbw.trans (hB.trans b5)
            have o5' := o5.le (w0 := w2) (hbw.trans hB).size
            (try clear hHeld); refine hK.out _ _ ?_ (fun hHeld => ?_)
            · exact hHold _ hb5
            have hC9 := rW32_c w5 v5 _ (f.clock.length : Int) (Own8.rd (P8.own o5')) (by omega) (by omega) (by simp only [List.length_append, W4, TX, List.length_nil]; have q1 := S1 f.args.length; have q2 := S2 f.short.length; have q3 := S3 f.clock.length; have q4 := S4 f.files.length; simp only [List.take_length] at q1 q2 q3 q4; omega)
            refine wpAnyH_ready (rs := [9]) (by kernel_rfl) (by simp) ?_; refine AllReadyH.cons rfl (fun K hK => ?_) AllReadyH.nil; go_simp
            refine hC9.mono ?_
            clear hC9
            rintro e w6 ⟨v6, rfl, o6, b6⟩
            have hb6 := hb5.trans b6
            have o6' := o6.le (w0 := w2) hb5.size
            (try clear hHeld); refine hK.out _ _ ?_ (fun hHeld => ?_)
            · exact hHold _ hb6
            refine wpAnyH_take (i := 10) (oi := ⟨some 4, _, _, _, _, _⟩) (v := ?_) rfl (by kernel_rfl) (by kernel_rfl) (by kernel_rfl) (fun _ _ _ h => h) (Or.inl ⟨by rfl, ?_⟩) (by assumption) ?_; (rotate_left 1); (focus (intro wz hSw; (try dsimp only at hSw); go_simp; try (with_reducible rfl))); simp only [Act.put, List.setIfInBounds_toArray, List.set_cons_zero, List.set_cons_succ]
            refine wpAnyH_done (by kernel_rfl) ?_ _
            clear hHold hB o5 o5' b5 hb5 o6 b6 hown hbw y1
            obtain ⟨wr, hwr⟩ : ∃ x, x = w6 := ⟨_, rfl⟩
            subst hwr
            have hown := o6'
            have hbw := hb6
            clear o6' hb6
            go_wp2_with fail
            go_loopg [4, 7] f.clock.length (fun g x j wr => ∃ k : Nat, ∃ u : Value, k + g = f.clock.length ∧ u = x ∧ j = .int .i64 k ∧ P8 w2 wr u (((((([] ++ Fee.w4 f.args.length) ++ f.args.flatMap Fee.argB) ++ Fee.txt f.input ++ Fee.w4 f.short.length) ++ f.short.flatMap Fee.w4) ++ Fee.txt f.random ++ Fee.w4 f.clock.length) ++ (f.clock.take k).flatMap Fee.w4) ∧ Bw w2 wr)
            case atStart => exact ⟨0, _, by omega, rfl, rfl, by simpa using hown, hbw⟩
            case round =>
              obtain ⟨k, vb, hkg, rfl, rfl, hown, hbw⟩ := hrel
              have y1 := kx4 _ hbw
              by_cases hk : k = f.clock.length
              · subst hk
                rw [List.take_length] at hown
                have y5 := kx5 _ hbw
                have mm : (f.files.length : Int) % 4294967296 = (f.files.length : Int) := by omega
                have mw : IntKind.u32.wrap (f.files.length : Int) = (f.files.length : Int) := by rw [IntKind.wrap_u32]; omega
                go_wp2_with fail
                refine (rW32_c _ _ _ (f.files.length : Int) (Own8.rd (P8.own hown)) (by omega) (by omega) (by simp only [List.length_append, W4, TX, List.length_nil]; have q1 := S1 f.args.length; have q2 := S2 f.short.length; have q3 := S3 f.clock.length; have q4 := S4 f.files.length; simp only [List.take_length] at q1 q2 q3 q4; omega)).mono ?_
                rintro e w5 ⟨v5, rfl, o5, b5⟩
                have hb5 := hbw.trans b5
                have o5' := o5.le (w0 := w2) hbw.size
                clear o5 b5 hown hbw y1 y5
                obtain ⟨wr, hwr⟩ : ∃ x, x = w5 := ⟨_, rfl⟩
                subst hwr
                have hown := o5'
                have hbw := hb5
                clear o5' hb5
                go_wp2_with fail
                go_loopg [4, 8] f.files.length (fun g x j wr => ∃ k : Nat, ∃ u : Value, k + g = f.files.length ∧ u = x ∧ j = .int .i64 k ∧ P8 w2 wr u (((((((([] ++ Fee.w4 f.args.length) ++ f.args.flatMap Fee.argB) ++ Fee.txt f.input ++ Fee.w4 f.short.length) ++ f.short.flatMap Fee.w4) ++ Fee.txt f.random ++ Fee.w4 f.clock.length) ++ f.clock.flatMap Fee.w4) ++ Fee.w4 f.files.length) ++ (f.files.take k).flatMap Fee.flB) ∧ Bw w2 wr)
                case atStart => exact ⟨0, _, by omega, rfl, rfl, by simpa using hown, hbw⟩
                case round =>
                  obtain ⟨k, vb, hkg, rfl, rfl, hown, hbw⟩ := hrel
                  have y1 := kx5 _ hbw
                  by_cases hk : k = f.files.length
                  · subst hk
                    rw [List.take_length] at hown
                    have HFin : Hid (P8 w2 wr vb (((((((([] ++ Fee.w4 f.args.length) ++ f.args.flatMap Fee.argB) ++ Fee.txt f.input ++ Fee.w4 f.short.length) ++ f.short.flatMap Fee.w4) ++ Fee.txt f.random ++ Fee.w4 f.clock.length) ++ f.clock.flatMap Fee.w4) ++ Fee.w4 f.files.length) ++ f.files.flatMap Fee.flB) ∧ Bw w2 wr) := ⟨hown, hbw⟩
                    have HB2 : Hid _ := hb2
                    clear hown hbw
                    go_wp2_with fail
                    go_returns
                    refine ⟨_, by rw [show _ = true from HG]; rfl, ?_, (show Bw w w2 from HB2).trans (show _ ∧ _ from HFin).2⟩
                    rw [show _ = true from HG, if_pos rfl]
                    have h := (show _ ∧ _ from HFin).1.le (w0 := w) (show Bw w w2 from HB2).size
                    rw [List.nil_append] at h
                    exact h
                  · have hkl : k < f.files.length := by omega
                    have hki2 : (k : Int) < (f.files.length : Int) := by omega
                    obtain ⟨x, hx, -⟩ := dropAt hkl
                    have hmem := List.mem_of_getElem? hx
                    obtain ⟨b, o, qx, cx, rfl, hb, c0, c1, -, -, hRx⟩ := hcf k x hx
                    have HT : Hid _ := take_flat Fee.flB hx
                    obtain ⟨z1, z2⟩ := p3 x hmem
                    have bx := Fee.sb_of (hf8 x hmem)
                    have hsx := strOf_size x.data
                    have sbl := Fee.sb_len x.name
                    have hHold : ∀ X, Bw w2 X → (X.cell? ⟨fb, 5, none⟩ = some (.slice (some ⟨b, o, none⟩) f.files.length cf) ∧ X.cell? ⟨b, o + k * 2, none⟩ = some (.string x.name) ∧ X.cell? ⟨b, o + k * 2 + 1, none⟩ = some (.slice qx x.data.length cx) ∧ (convert 22 9 (.slice qx x.data.length cx)).run Try.prog X = .ok (.string (strOfNums x.data)) X) := fun X g => ⟨kx5 _ g, (hb2.trans g).keep c0, (hb2.trans g).keep c1, conv_all hRx (hb2.trans g)⟩
                    have hB : Bw wr wr.drew := (Bw.refl wr).drew
                    clear hx
                    go_wp2_with fail
                    refine wp_region_held_drew (S := fun X => X.cell? ⟨fb, 5, none⟩ = some (.slice (some ⟨b, o, none⟩) f.files.length cf) ∧ X.cell? ⟨b, o + k * 2, none⟩ = some (.string x.name) ∧ X.cell? ⟨b, o + k * 2 + 1, none⟩ = some (.slice qx x.data.length cx) ∧ (convert 22 9 (.slice qx x.data.length cx)).run Try.prog X = .ok (.string (strOfNums x.data)) X) (by kernel_rfl) (hHold _ (hbw.trans hB)) (fun hHeld => ?_)
                    refine wpAnyH_take (i := 0) (oi := ⟨some 93, _, _, _, _, _⟩) (v := ?_) rfl (by kernel_rfl) (by kernel_rfl) (by kernel_rfl) (fun _ _ _ h => h) (Or.inl ⟨by rfl, ?_⟩) (by assumption) ?_; (rotate_left 1); (focus (intro wz hSw; (try dsimp only at hSw); go_simp; try (with_reducible rfl))); simp only [Act.put, List.setIfInBounds_toArray, List.set_cons_zero, List.set_cons_succ]
                    refine wpAnyH_take (i := 1) (oi := ⟨some 94, _, _, _, _, _⟩) (v := ?_) rfl (by kernel_rfl) (by kernel_rfl) (by kernel_rfl) (fun _ _ _ h => h) (Or.inl ⟨by rfl, ?_⟩) (by assumption) ?_; (rotate_left 1); (focus (intro wz hSw; (try dsimp only at hSw); go_simp; try (with_reducible rfl))); simp only [Act.put, List.setIfInBounds_toArray, List.set_cons_zero, List.set_cons_succ]
                    refine wpAnyH_take (i := 2) (oi := ⟨some 95, _, _, _, _, _⟩) (v := ?_) rfl (by kernel_rfl) (by kernel_rfl) (by kernel_rfl) (fun _ _ _ h => h) (Or.inl ⟨by rfl, ?_⟩) (by assumption) ?_; (rotate_left 1); (focus (intro wz hSw; (try dsimp only at hSw); go_simp; try (with_reducible rfl))); simp only [Act.put, List.setIfInBounds_toArray, List.set_cons_zero, List.set_cons_succ]
                    refine wpAnyH_take (i := 3) (oi := ⟨some 96, _, _, _, _, _⟩) (v := ?_) rfl (by kernel_rfl) (by kernel_rfl) (by kernel_rfl) (fun _ _ _ h => h) (Or.inl ⟨by rfl, ?_⟩) (by assumption) ?_; (rotate_left 1); (focus (intro wz hSw; (try dsimp only at hSw); go_simp; try (with_reducible rfl))); simp only [Act.put, List.setIfInBounds_toArray, List.set_cons_zero, List.set_cons_succ]
                    refine wpAnyH_take (i := 4) (oi := ⟨some 97, _, _, _, _, _⟩) (v := ?_) rfl (by kernel_rfl) (by kernel_rfl) (by kernel_rfl) (fun _ _ _ h => h) (Or.inl ⟨by rfl, ?_⟩) (by assumption) ?_; (rotate_left 1); (focus (intro wz hSw; (try dsimp only at hSw); go_simp; try (with_reducible rfl))); simp only [Act.put, List.setIfInBounds_toArray, List.set_cons_zero, List.set_cons_succ]
                    refine wpAnyH_take (i := 5) (oi := ⟨some 98, _, _, _, _, _⟩) (v := ?_) rfl (by kernel_rfl) (by kernel_rfl) (by kernel_rfl) (fun _ _ _ h => h) (Or.inl ⟨by rfl, ?_⟩) (by assumption) ?_; (rotate_left 1); (focus (intro wz hSw; (try dsimp only at hSw); go_simp; try (with_reducible rfl))); simp only [Act.put, List.setIfInBounds_toArray, List.set_cons_zero, List.set_cons_succ]
                    refine wpAnyH_take (i := 6) (oi := ⟨some 99, _, _, _, _, _⟩) (v := ?_) rfl (by kernel_rfl) (by kernel_rfl) (by kernel_rfl) (fun _ _ _ h => h) (Or.inl ⟨by rfl, ?_⟩) (by assumption) ?_; (rotate_left 1); (focus (intro wz hSw; (try dsimp only at hSw); go_simp; try (with_reducible rfl))); simp only [Act.put, List.setIfInBounds_toArray, List.set_cons_zero, List.set_cons_succ]
                    refine wpAnyH_take (i := 8) (oi := ⟨some 101, _, _, _, _, _⟩) (v := ?_) rfl (by kernel_rfl) (by kernel_rfl) (by kernel_rfl) (fun _ _ _ h => h) (Or.inl ⟨by rfl, ?_⟩) (by assumption) ?_; (rotate_left 1); (focus (intro wz hSw; (try dsimp only at hSw); go_simp; try (with_reducible rfl))); simp only [Act.put, List.setIfInBounds_toArray, List.set_cons_zero, List.set_cons_succ]
                    refine wpAnyH_take (i := 9) (oi := ⟨some 102, _, _, _, _, _⟩) (v := ?_) rfl (by kernel_rfl) (by kernel_rfl) (by kernel_rfl) (fun _ _ _ h => h) (Or.inl ⟨by rfl, ?_⟩) (by assumption) ?_; (rotate_left 1); (focus (intro wz hSw; (try dsimp only at hSw); go_simp; try (with_reducible rfl))); simp only [Act.put, List.setIfInBounds_toArray, List.set_cons_zero, List.set_cons_succ]
                    refine wpAnyH_take (i := 10) (oi := ⟨some 103, _, _, _, _, _⟩) (v := ?_) rfl (by kernel_rfl) (by kernel_rfl) (by kernel_rfl) (fun _ _ _ h => h) (Or.inl ⟨by rfl, ?_⟩) (by assumption) ?_; (rotate_left 1); (focus (intro wz hSw; (try dsimp only at hSw); go_simp; try (with_reducible rfl))); simp only [Act.put, List.setIfInBounds_toArray, List.set_cons_zero, List.set_cons_succ]
                    refine wpAnyH_take (i := 11) (oi := ⟨some 104, _, _, _, _, _⟩) (v := ?_) rfl (by kernel_rfl) (by kernel_rfl) (by kernel_rfl) (fun _ _ _ h => h) (Or.inl ⟨by rfl, ?_⟩) (by assumption) ?_; (rotate_left 1); (focus (intro wz hSw; (try dsimp only at hSw); go_simp; try (with_reducible rfl))); simp only [Act.put, List.setIfInBounds_toArray, List.set_cons_zero, List.set_cons_succ]
                    refine wpAnyH_take (i := 12) (oi := ⟨some 105, _, _, _, _, _⟩) (v := ?_) rfl (by kernel_rfl) (by kernel_rfl) (by kernel_rfl) (fun _ _ _ h => h) (Or.inl ⟨by rfl, ?_⟩) (by assumption) ?_; (rotate_left 1); (focus (intro wz hSw; (try dsimp only at hSw); go_simp; try (with_reducible rfl))); simp only [Act.put, List.setIfInBounds_toArray, List.set_cons_zero, List.set_cons_succ]
                    refine wpAnyH_take (i := 13) (oi := ⟨some 106, _, _, _, _, _⟩) (v := ?_) rfl (by kernel_rfl) (by kernel_rfl) (by kernel_rfl) (fun _ _ _ h => h) (Or.inl ⟨by rfl, ?_⟩) (by assumption) ?_; (rotate_left 1); (focus (intro wz hSw; (try dsimp only at hSw); go_simp; try (with_reducible rfl))); simp only [Act.put, List.setIfInBounds_toArray, List.set_cons_zero, List.set_cons_succ]
                    refine wpAnyH_take (i := 14) (oi := ⟨some 107, _, _, _, _, _⟩) (v := ?_) rfl (by kernel_rfl) (by kernel_rfl) (by kernel_rfl) (fun _ _ _ h => h) (Or.inl ⟨by rfl, ?_⟩) (by assumption) ?_; (rotate_left 1); (focus (intro wz hSw; (try dsimp only at hSw); go_simp; try (with_reducible rfl))); simp only [Act.put, List.setIfInBounds_toArray, List.set_cons_zero, List.set_cons_succ]
                    refine wpAnyH_ready (rs := [7]) (by kernel_rfl) (by simp) ?_; refine AllReadyH.cons rfl (fun K hK => ?_) AllReadyH.nil; go_simp
                    refine (rText_c _ _ _ x.name (Own8.rd (P8.own (OwnR.bw hown hB))) (by omega) (by simp only [List.length_append, W4, TX, List.length_nil]; have q1 := S1 f.args.length; have q2 := S2 f.short.length; have q3 := S3 f.clock.length; have q7 := S4 k; simp only [List.take_length] at q1 q2 q3; omega)).mono ?_
                    rintro e w5 ⟨v5, rfl, o5, b5⟩
                    have hb5 := hbw.trans (hB.trans b5)
                    have o5' := o5.le (w0 := w2) (hbw.trans hB).size
                    (try clear hHeld); refine hK.out _ _ ?_ (fun hHeld => ?_)
                    · exact hHold _ hb5
                    have hC9 := rText_c w5 v5 _ (strOfNums x.data) (Own8.rd (P8.own o5')) (by rw [hsx]; omega) (by simp only [List.length_append, W4, TX, List.length_nil, sbl]; have q1 := S1 f.args.length; have q2 := S2 f.short.length; have q3 := S3 f.clock.length; have q7 := S4 k; simp only [List.take_length] at q1 q2 q3; omega)
                    refine wpAnyH_ready (rs := [15]) (by kernel_rfl) (by simp) ?_; refine AllReadyH.cons rfl (fun K hK => ?_) AllReadyH.nil; go_simp
                    refine hC9.mono ?_
                    clear hC9
                    rintro e w6 ⟨v6, rfl, o6, b6⟩
                    rw [bx] at o6
                    have hb6 := hb5.trans b6
                    have o6' := o6.le (w0 := w2) hb5.size
                    (try clear hHeld); refine hK.out _ _ ?_ (fun hHeld => ?_)
                    · exact hHold _ hb6
                    refine wpAnyH_take (i := 16) (oi := ⟨some 4, _, _, _, _, _⟩) (v := ?_) rfl (by kernel_rfl) (by kernel_rfl) (by kernel_rfl) (fun _ _ _ h => h) (Or.inl ⟨by rfl, ?_⟩) (by assumption) ?_; (rotate_left 1); (focus (intro wz hSw; (try dsimp only at hSw); go_simp; try (with_reducible rfl))); simp only [Act.put, List.setIfInBounds_toArray, List.set_cons_zero, List.set_cons_succ]
                    refine wpAnyH_done (by kernel_rfl) ?_ _
                    clear hHold hB o5 o5' b5 hb5 o6 b6 hown hbw y1
                    go_wp2_with fail
                    go_roundg (f.files.length - (k + 1))
                    case measure => omega
                    case rel => exact ⟨k + 1, _, by omega, rfl, by simp, by rw [show _ = _ from HT, ← List.append_assoc]; unfold Fee.flB; rw [← List.append_assoc]; exact o6', hb6⟩
              · have hkl : k < f.clock.length := by omega
                have hki2 : (k : Int) < (f.clock.length : Int) := by omega
                obtain ⟨x, hx, -⟩ := dropAt hkl
                have hmem := List.mem_of_getElem? hx
                obtain ⟨b, o, rfl, hb, c0⟩ := hcc k x hx
                have d0 := (hb2.trans hbw).keep c0
                have HT : Hid _ := take_flat Fee.w4 hx
                clear hx c0
                go_wp2_with fail
                refine (rW32_c _ _ _ x (Own8.rd (P8.own hown)) (hck x hmem).1 (hck x hmem).2 (by simp only [List.length_append, W4, TX, List.length_nil]; have q1 := S1 f.args.length; have q2 := S2 f.short.length; have q3 := S3 f.clock.length; have q4 := S1 k; have q5 := S2 k; have q6 := S3 k; have q7 := S4 k; simp only [List.take_length] at q1 q2 q3; omega)).mono ?_
                rintro e w4 ⟨v4, rfl, o4, b4⟩
                go_wp2_with fail
                go_roundg (f.clock.length - (k + 1))
                case measure => omega
                case rel => exact ⟨k + 1, _, by omega, rfl, by simp, by rw [show _ = _ from HT, ← List.append_assoc]; exact o4.le hbw.size, hbw.trans b4⟩
          · have hkl : k < f.short.length := by omega
            have hki2 : (k : Int) < (f.short.length : Int) := by omega
            obtain ⟨x, hx, -⟩ := dropAt hkl
            have hmem := List.mem_of_getElem? hx
            obtain ⟨b, o, rfl, hb, c0⟩ := hcs k x hx
            have d0 := (hb2.trans hbw).keep c0
            have HT : Hid _ := take_flat Fee.w4 hx
            have mx : x % 4294967296 = x := by have := p2 x hmem; omega
            clear hx c0
            go_wp2_with fail
            refine (rW32_c _ _ _ x (Own8.rd (P8.own hown)) (p2 x hmem).1 (by have := (p2 x hmem).2; omega) (by simp only [List.length_append, W4, TX, List.length_nil]; have q1 := S1 f.args.length; have q2 := S2 f.short.length; have q3 := S3 f.clock.length; have q4 := S1 k; have q5 := S2 k; have q6 := S3 k; have q7 := S4 k; simp only [List.take_length] at q1 q2 q3; omega)).mono ?_
            rintro e w4 ⟨v4, rfl, o4, b4⟩
            go_wp2_with fail
            go_roundg (f.short.length - (k + 1))
            case measure => omega
            case rel => exact ⟨k + 1, _, by omega, rfl, by simp, by rw [show _ = _ from HT, ← List.append_assoc]; exact o4.le hbw.size, hbw.trans b4⟩
      · have hkl : k < f.args.length := by omega
        have hki2 : (k : Int) < (f.args.length : Int) := by omega
        obtain ⟨x, hx, -⟩ := dropAt hkl
        have hmem := List.mem_of_getElem? hx
        obtain ⟨b, o, rfl, hb, c0⟩ := hca k x hx
        have d0 := (hb2.trans hbw).keep c0
        have HT : Hid _ := take_flat Fee.argB hx
        clear hx c0
        go_wp2_with fail
        refine (rText_c _ _ _ x (Own8.rd (P8.own hown)) (by have := p1 x hmem; omega) (by simp only [List.length_append, W4, TX, List.length_nil]; have q1 := S1 f.args.length; have q2 := S2 f.short.length; have q3 := S3 f.clock.length; have q4 := S1 k; have q5 := S2 k; have q6 := S3 k; have q7 := S4 k; simp only [List.take_length] at q1 q2 q3; omega)).mono ?_
        rintro e w4 ⟨v4, rfl, o4, b4⟩
        go_wp2_with fail
        go_roundg (f.args.length - (k + 1))
        case measure => omega
        case rel => exact ⟨k + 1, _, by omega, rfl, by simp, by rw [show _ = _ from HT, ← List.append_assoc]; exact o4.le hbw.size, hbw.trans b4⟩
end Go.Proofs.Ytmecompcffphcaa
