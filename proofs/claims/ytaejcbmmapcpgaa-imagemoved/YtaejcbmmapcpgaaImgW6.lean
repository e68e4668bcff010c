/- LAYER 8's walks: bytes.Equal, headStands, readSegment. -/
import Derived.Test.YtaejcbmmapcpgaaImgW4
namespace Go.Proofs.Ytaejcbmmapcpgaa
open Go.ChangeShapes Go.WideShapes Go.ChangeAt Go.RowKit

theorem beq_dec (a b : List Int) : (a == b) = decide (a = b) := by rw [Bool.eq_iff_iff, beq_iff_eq, decide_eq_true_iff]
set_option maxHeartbeats 1000000 in
set_option maxRecDepth 100000 in
theorem Equal_c (va vb : Value) (a b : List Int) (w : World) (ha : Rd8 w va a) (hb : Rd8 w vb b) (h8a : B8s a) (h8b : B8s b) : Calls Try.prog 36 #[va, vb] w fun e w' => e = .returned (.bool (decide (a = b))) ∧ Bw w w' := by
  have c1 := ha.conv
  have c2 := hb.conv
  have c3 := (ha.bw ((Bw.refl w).drew)).conv
  have c4 := (hb.bw ((Bw.refl w).drew)).conv
  have hEQ : ((strOfNums a).toList == (strOfNums b).toList) = decide (a = b) := by
    rw [Bool.eq_iff_iff, beq_iff_eq, decide_eq_true_iff, strOf_list, strOf_list, strOf_map h8a h8b]
  have hEQ3 : decide ((strOfNums a).toList = (strOfNums b).toList) = decide (a = b) := decide_eq_decide.2 (by rw [strOf_list, strOf_list, strOf_map h8a h8b])
  generalize decide (a = b) = R at *
  generalize strOfNums a = SA at *
  generalize strOfNums b = SB at *
  obtain ⟨qa, ca, rfl, -⟩ := ha.open
  obtain ⟨qb, cb, rfl, -⟩ := hb.open
  go_enter Try.func36, Try.ntmps36
  go_wp2_with fail
  go_returns
  exact ret_bool rfl (by (repeat' (first | (with_reducible assumption) | (with_reducible exact Bw.refl _) | (with_reducible refine Bw.alloc ?_ _) | (with_reducible refine Bw.drew ?_) | (with_reducible refine Bw.drewN ?_ _) | (with_reducible refine Bw.setCell ?_ ?_ _) | exact Nat.le_refl _)))
set_option maxHeartbeats 2000000 in
set_option maxRecDepth 100000 in
theorem headStands_c (v : Value) (L : List Int) (w : World) (hv : Rd8 w v L) (h8 : B8s L) : Calls Try.prog 19 #[v] w fun e w' => e = .returned (.bool (Img.headOk L)) ∧ Bw w w' := by
  obtain ⟨q, cap, rfl, hc1, hc2, hcell⟩ := hv.open
  by_cases h52 : L.length < 52
  · have h52i : (L.length : Int) < 52 := by omega
    have hR : Hid (false = Img.headOk L) := by show _ = _; unfold Img.headOk; rw [decide_eq_false (by omega)]; rfl
    go_enter Try.func19, Try.ntmps19
    go_wp2_with fail
    go_returns
    exact ret_bool hR (Bw.refl _)
  have h52i : (52 : Int) ≤ L.length := by omega
  obtain ⟨b, o, rfl, hbl, hcl⟩ := hcell (by omega)
  obtain ⟨E, hE⟩ : ∃ E, Img.word L 24 = E := ⟨_, rfl⟩
  obtain ⟨C, hC⟩ : ∃ C, Img.half L 44 = C := ⟨_, rfl⟩
  obtain ⟨e0, e1⟩ := Img.word_bd h8 24
  obtain ⟨k0, k1⟩ := Img.half_bd h8 44
  rw [hE] at e0 e1
  rw [hC] at k0 k1
  have hW : ∀ X, Bw w X → Calls Try.prog 21 #[.slice (some ⟨b, o + 24, none⟩) (L.length - 24) (cap - 24)] X fun e w' => e = .returned (.int .u32 E) ∧ Bw X w' := fun X g => by
    have := readWord_at w L b o h8 hcl X g (o + 24) (L.length - 24) (cap - 24) (by omega) (by omega) (by omega) (by omega)
    rwa [Nat.add_sub_cancel_left, hE] at this
  have hH : ∀ X, Bw w X → Calls Try.prog 20 #[.slice (some ⟨b, o + 44, none⟩) (L.length - 44) (cap - 44)] X fun e w' => e = .returned (.int .u16 C) ∧ Bw X w' := fun X g => by
    have := readHalf_at w L b o h8 hcl X g (o + 44) (L.length - 44) (cap - 44) (by omega) (by omega) (by omega)
    rwa [Nat.add_sub_cancel_left, hC] at this
  have hAH : ∀ X, Bw w X → Calls Try.prog 24 #[.slice none 0 0, .int .u32 E, .int .u16 C] X fun r w' => ∃ v', r = .returned v' ∧ Own8 w w' v' (Img.head E C) ∧ Bw w w' := fun X g => by
    refine (appendHead_c (w0 := w) E C e0 e1 k0 k1 g).mono ?_
    rintro r w' ⟨v', h1, h2, h3, _⟩
    exact ⟨v', h1, h2, h3⟩
  obtain ⟨f1, f2, f3, f4⟩ : (24 : Int) ≤ L.length ∧ (44 : Int) ≤ L.length ∧ (24 : Int) ≤ cap ∧ (44 : Int) ≤ cap := by omega
  obtain ⟨f5, f6, f7, f8⟩ : cap ≠ 24 ∧ cap ≠ 44 ∧ (L.length : Int) ≤ cap ∧ (32 : Int) ≤ cap := by omega
  obtain ⟨f9, f10⟩ : (40 : Int) ≤ cap ∧ (46 : Int) ≤ cap := by omega
  obtain ⟨A, hA⟩ : ∃ A : Bool, decide (Img.cut (Img.head E C) 0 32 = Img.cut L 0 32) = A := ⟨_, rfl⟩
  obtain ⟨B, hB⟩ : ∃ B : Bool, decide (Img.cut (Img.head E C) 40 6 = Img.cut L 40 6) = B := ⟨_, rfl⟩
  have hR : (A && B) = Img.headOk L := by
    unfold Img.headOk
    rw [hE, hC, decide_eq_true (by omega : 52 ≤ L.length), beq_dec, beq_dec, hA, hB, Bool.true_and]
  have HR : Hid _ := hR
  have hh8 := Img.head_b8 ⟨e0, e1⟩ ⟨k0, k1⟩
  have hBw : Bw w w.drew := (Bw.refl w).drew
  clear hv hcell hR
  go_enter Try.func19, Try.ntmps19
  go_wp2_with fail
  go_region_held3 (fun wr => True) (exact trivial)
    (first
      | (go_at_call 21; refine (hW _ hBw).mono ?_; rintro e w3 ⟨rfl, hb3⟩; replace hBw := hBw.trans hb3; clear hb3)
      | (go_at_call 20; refine (hH _ hBw).mono ?_; rintro e w3 ⟨rfl, hb3⟩; replace hBw := hBw.trans hb3; clear hb3)
      | (go_at_call 24; refine (hAH _ hBw).mono ?_; clear hBw; rintro e w4 ⟨v4, rfl, hO, hBw⟩))
  all_goals
    obtain ⟨g, cap3, rfl, hg1, hg2, hg3, hg4, hg5, -⟩ := hO.form (by rw [Img.head_len]; omega)
    rw [Img.head_len] at hg3
    have hcL := fun i x (h : L[i]? = some x) => hBw.keep (hcl i x h)
    have hP1 := Rd8.part hg2 (fun i x (h : (Img.head E C)[i]? = some x) => by rw [Nat.zero_add]; exact hg5 i x h) 0 32 (by rw [Img.head_len]; omega) (by omega) hg4
    have hP2 := Rd8.part hg2 (fun i x (h : (Img.head E C)[i]? = some x) => by rw [Nat.zero_add]; exact hg5 i x h) 40 6 (c2 := cap3 - 40) (by rw [Img.head_len]; omega) (by omega) (by omega)
    have hbl4 : b < w4.heap.size := Nat.lt_of_lt_of_le hbl hBw.size
    have hP3 := Rd8.part hbl4 hcL 0 32 (c2 := cap) (by omega) (by omega) hc2
    have hP4 := Rd8.part hbl4 hcL 40 6 (c2 := cap - 40) (by omega) (by omega) (by omega)
    simp only [Nat.zero_add, Nat.add_zero] at hP1 hP2 hP3 hP4
    have hE1 := fun X (k : Bw w4 X) => Equal_c _ _ _ _ X (hP1.bw k) (hP3.bw k) (Img.cut_b8 hh8 0 32) (Img.cut_b8 h8 0 32)
    have hE2 := fun X (k : Bw w4 X) => Equal_c _ _ _ _ X (hP2.bw k) (hP4.bw k) (Img.cut_b8 hh8 40 6) (Img.cut_b8 h8 40 6)
    rw [show List.take 32 (List.drop 0 (Img.head E C)) = Img.cut (Img.head E C) 0 32 from rfl, show List.take 32 (List.drop 0 L) = Img.cut L 0 32 from rfl, hA] at hE1
    rw [show List.take 6 (List.drop 40 (Img.head E C)) = Img.cut (Img.head E C) 40 6 from rfl, show List.take 6 (List.drop 40 L) = Img.cut L 40 6 from rfl, hB] at hE2
    obtain ⟨j1, j2, j3, j4⟩ : (52 : Int) ≤ cap3 ∧ (32 : Int) ≤ cap3 ∧ (40 : Int) ≤ cap3 ∧ (46 : Int) ≤ cap3 := by omega
    obtain ⟨j5, j6⟩ : cap3 ≠ 40 ∧ cap ≠ 40 := by omega
    have hX : Bw w4 w4.drew := (Bw.refl w4).drew
    clear hO hP1 hP2 hP3 hP4 hcL hcl hg5 hA hB hW hH hAH hh8 hE hC
    cases A
    · go_wp2_with fail
      refine wp_region_held_drew (S := fun wx => True) (by kernel_rfl) trivial (fun hHeld => ?_)
      refine wpAnyH_take (i := 0) (oi := ⟨some 14, _, _, _, _, _⟩) (v := ?_) rfl (by kernel_rfl) (by kernel_rfl) (by kernel_rfl) (fun _ _ _ h => h) (Or.inl ⟨by rfl, ?_⟩) (by assumption) ?_; (rotate_left 1); (focus (intro wz hSw; (try dsimp only at hSw); go_simp; try (with_reducible rfl))); simp only [Act.put, List.setIfInBounds_toArray, List.set_cons_zero, List.set_cons_succ]
      refine wpAnyH_take (i := 1) (oi := ⟨some 15, _, _, _, _, _⟩) (v := ?_) rfl (by kernel_rfl) (by kernel_rfl) (by kernel_rfl) (fun _ _ _ h => h) (Or.inl ⟨by rfl, ?_⟩) (by assumption) ?_; (rotate_left 1); (focus (intro wz hSw; (try dsimp only at hSw); go_simp; try (with_reducible rfl))); simp only [Act.put, List.setIfInBounds_toArray, List.set_cons_zero, List.set_cons_succ]
      refine wpAnyH_take (i := 2) (oi := ⟨some 16, _, _, _, _, _⟩) (v := ?_) rfl (by kernel_rfl) (by kernel_rfl) (by kernel_rfl) (fun _ _ _ h => h) (Or.inl ⟨by rfl, ?_⟩) (by assumption) ?_; (rotate_left 1); (focus (intro wz hSw; (try dsimp only at hSw); go_simp; try (with_reducible rfl))); simp only [Act.put, List.setIfInBounds_toArray, List.set_cons_zero, List.set_cons_succ]
      refine wpAnyH_take (i := 3) (oi := ⟨some 17, _, _, _, _, _⟩) (v := ?_) rfl (by kernel_rfl) (by kernel_rfl) (by kernel_rfl) (fun _ _ _ h => h) (Or.inl ⟨by rfl, ?_⟩) (by assumption) ?_; (rotate_left 1); (focus (intro wz hSw; (try dsimp only at hSw); go_simp; try (with_reducible rfl))); simp only [Act.put, List.setIfInBounds_toArray, List.set_cons_zero, List.set_cons_succ]
      refine wpAnyH_ready (rs := [4]) (by kernel_rfl) (by simp) ?_; refine AllReadyH.cons rfl (fun K hK => ?_) AllReadyH.nil; go_simp
      refine (hE1 _ hX).mono ?_
      rintro e w5 ⟨rfl, hb5⟩
      replace hX := hX.trans hb5
      (try clear hHeld); refine hK.out _ _ ?_ (fun hHeld => ?_)
      · exact trivial
      refine wpAnyH_take (i := 5) (oi := ⟨some 19, _, _, _, _, _⟩) (v := ?_) rfl (by kernel_rfl) (by kernel_rfl) (by kernel_rfl) (fun _ _ _ h => h) (Or.inl ⟨by rfl, ?_⟩) (by assumption) ?_; (rotate_left 1); (focus (intro wz hSw; (try dsimp only at hSw); go_simp; try (with_reducible rfl))); simp only [Act.put, List.setIfInBounds_toArray, List.set_cons_zero, List.set_cons_succ]
      refine wpAnyH_take (i := 6) (oi := ⟨some 20, _, _, _, _, _⟩) (v := undef) rfl (by kernel_rfl) (by kernel_rfl) (by kernel_rfl) (fun _ _ _ h => h) (Or.inr ⟨by rfl, rfl⟩) (by assumption) ?_; simp only [Act.put, List.setIfInBounds_toArray, List.set_cons_zero, List.set_cons_succ]
      refine wpAnyH_take (i := 7) (oi := ⟨some 21, _, _, _, _, _⟩) (v := undef) rfl (by kernel_rfl) (by kernel_rfl) (by kernel_rfl) (fun _ _ _ h => h) (Or.inr ⟨by rfl, rfl⟩) (by assumption) ?_; simp only [Act.put, List.setIfInBounds_toArray, List.set_cons_zero, List.set_cons_succ]
      refine wpAnyH_take (i := 8) (oi := ⟨some 22, _, _, _, _, _⟩) (v := undef) rfl (by kernel_rfl) (by kernel_rfl) (by kernel_rfl) (fun _ _ _ h => h) (Or.inr ⟨by rfl, rfl⟩) (by assumption) ?_; simp only [Act.put, List.setIfInBounds_toArray, List.set_cons_zero, List.set_cons_succ]
      refine wpAnyH_take (i := 9) (oi := ⟨some 23, _, _, _, _, _⟩) (v := undef) rfl (by kernel_rfl) (by kernel_rfl) (by kernel_rfl) (fun _ _ _ h => h) (Or.inr ⟨by rfl, rfl⟩) (by assumption) ?_; simp only [Act.put, List.setIfInBounds_toArray, List.set_cons_zero, List.set_cons_succ]
      refine wpAnyH_take (i := 10) (oi := ⟨some 24, _, _, _, _, _⟩) (v := undef) rfl (by kernel_rfl) (by kernel_rfl) (by kernel_rfl) (fun _ _ _ h => h) (Or.inr ⟨by rfl, rfl⟩) (by assumption) ?_; simp only [Act.put, List.setIfInBounds_toArray, List.set_cons_zero, List.set_cons_succ]
      refine wpAnyH_take (i := 11) (oi := ⟨some 25, _, _, _, _, _⟩) (v := ?_) rfl (by kernel_rfl) (by kernel_rfl) (by kernel_rfl) (fun _ _ _ h => h) (Or.inl ⟨by rfl, ?_⟩) (by assumption) ?_; (rotate_left 1); (focus (intro wz hSw; (try dsimp only at hSw); go_simp; try (with_reducible rfl))); simp only [Act.put, List.setIfInBounds_toArray, List.set_cons_zero, List.set_cons_succ]
      refine wpAnyH_take (i := 12) (oi := ⟨some 2, _, _, _, _, _⟩) (v := ?_) rfl (by kernel_rfl) (by kernel_rfl) (by kernel_rfl) (fun _ _ _ h => h) (Or.inl ⟨by rfl, ?_⟩) (by assumption) ?_; (rotate_left 1); (focus (intro wz hSw; (try dsimp only at hSw); go_simp; try (with_reducible rfl))); simp only [Act.put, List.setIfInBounds_toArray, List.set_cons_zero, List.set_cons_succ]
      refine wpAnyH_done (by kernel_rfl) ?_ _
      go_wp2_with fail
      go_returns
      exact ret_bool HR (hBw.trans hX)
    · go_wp2_with fail
      refine wp_region_held_drew (S := fun wx => True) (by kernel_rfl) trivial (fun hHeld => ?_)
      refine wpAnyH_take (i := 0) (oi := ⟨some 14, _, _, _, _, _⟩) (v := ?_) rfl (by kernel_rfl) (by kernel_rfl) (by kernel_rfl) (fun _ _ _ h => h) (Or.inl ⟨by rfl, ?_⟩) (by assumption) ?_; (rotate_left 1); (focus (intro wz hSw; (try dsimp only at hSw); go_simp; try (with_reducible rfl))); simp only [Act.put, List.setIfInBounds_toArray, List.set_cons_zero, List.set_cons_succ]
      refine wpAnyH_take (i := 1) (oi := ⟨some 15, _, _, _, _, _⟩) (v := ?_) rfl (by kernel_rfl) (by kernel_rfl) (by kernel_rfl) (fun _ _ _ h => h) (Or.inl ⟨by rfl, ?_⟩) (by assumption) ?_; (rotate_left 1); (focus (intro wz hSw; (try dsimp only at hSw); go_simp; try (with_reducible rfl))); simp only [Act.put, List.setIfInBounds_toArray, List.set_cons_zero, List.set_cons_succ]
      refine wpAnyH_take (i := 2) (oi := ⟨some 16, _, _, _, _, _⟩) (v := ?_) rfl (by kernel_rfl) (by kernel_rfl) (by kernel_rfl) (fun _ _ _ h => h) (Or.inl ⟨by rfl, ?_⟩) (by assumption) ?_; (rotate_left 1); (focus (intro wz hSw; (try dsimp only at hSw); go_simp; try (with_reducible rfl))); simp only [Act.put, List.setIfInBounds_toArray, List.set_cons_zero, List.set_cons_succ]
      refine wpAnyH_take (i := 3) (oi := ⟨some 17, _, _, _, _, _⟩) (v := ?_) rfl (by kernel_rfl) (by kernel_rfl) (by kernel_rfl) (fun _ _ _ h => h) (Or.inl ⟨by rfl, ?_⟩) (by assumption) ?_; (rotate_left 1); (focus (intro wz hSw; (try dsimp only at hSw); go_simp; try (with_reducible rfl))); simp only [Act.put, List.setIfInBounds_toArray, List.set_cons_zero, List.set_cons_succ]
      refine wpAnyH_ready (rs := [4]) (by kernel_rfl) (by simp) ?_; refine AllReadyH.cons rfl (fun K hK => ?_) AllReadyH.nil; go_simp
      refine (hE1 _ hX).mono ?_
      rintro e w5 ⟨rfl, hb5⟩
      replace hX := hX.trans hb5
      (try clear hHeld); refine hK.out _ _ ?_ (fun hHeld => ?_)
      · exact trivial
      refine wpAnyH_take (i := 5) (oi := ⟨some 19, _, _, _, _, _⟩) (v := ?_) rfl (by kernel_rfl) (by kernel_rfl) (by kernel_rfl) (fun _ _ _ h => h) (Or.inl ⟨by rfl, ?_⟩) (by assumption) ?_; (rotate_left 1); (focus (intro wz hSw; (try dsimp only at hSw); go_simp; try (with_reducible rfl))); simp only [Act.put, List.setIfInBounds_toArray, List.set_cons_zero, List.set_cons_succ]
      refine wpAnyH_take (i := 6) (oi := ⟨some 20, _, _, _, _, _⟩) (v := ?_) rfl (by kernel_rfl) (by kernel_rfl) (by kernel_rfl) (fun _ _ _ h => h) (Or.inl ⟨by rfl, ?_⟩) (by assumption) ?_; (rotate_left 1); (focus (intro wz hSw; (try dsimp only at hSw); go_simp; try (with_reducible rfl))); simp only [Act.put, List.setIfInBounds_toArray, List.set_cons_zero, List.set_cons_succ]
      refine wpAnyH_take (i := 7) (oi := ⟨some 21, _, _, _, _, _⟩) (v := ?_) rfl (by kernel_rfl) (by kernel_rfl) (by kernel_rfl) (fun _ _ _ h => h) (Or.inl ⟨by rfl, ?_⟩) (by assumption) ?_; (rotate_left 1); (focus (intro wz hSw; (try dsimp only at hSw); go_simp; try (with_reducible rfl))); simp only [Act.put, List.setIfInBounds_toArray, List.set_cons_zero, List.set_cons_succ]
      refine wpAnyH_take (i := 8) (oi := ⟨some 22, _, _, _, _, _⟩) (v := ?_) rfl (by kernel_rfl) (by kernel_rfl) (by kernel_rfl) (fun _ _ _ h => h) (Or.inl ⟨by rfl, ?_⟩) (by assumption) ?_; (rotate_left 1); (focus (intro wz hSw; (try dsimp only at hSw); go_simp; try (with_reducible rfl))); simp only [Act.put, List.setIfInBounds_toArray, List.set_cons_zero, List.set_cons_succ]
      refine wpAnyH_take (i := 9) (oi := ⟨some 23, _, _, _, _, _⟩) (v := ?_) rfl (by kernel_rfl) (by kernel_rfl) (by kernel_rfl) (fun _ _ _ h => h) (Or.inl ⟨by rfl, ?_⟩) (by assumption) ?_; (rotate_left 1); (focus (intro wz hSw; (try dsimp only at hSw); go_simp; try (with_reducible rfl))); simp only [Act.put, List.setIfInBounds_toArray, List.set_cons_zero, List.set_cons_succ]
      refine wpAnyH_ready (rs := [10]) (by kernel_rfl) (by simp) ?_; refine AllReadyH.cons rfl (fun K hK => ?_) AllReadyH.nil; go_simp
      refine (hE2 _ hX).mono ?_
      rintro e w6 ⟨rfl, hb6⟩
      replace hX := hX.trans hb6
      (try clear hHeld); refine hK.out _ _ ?_ (fun hHeld => ?_)
      · exact trivial
      refine wpAnyH_take (i := 11) (oi := ⟨some 25, _, _, _, _, _⟩) (v := ?_) rfl (by kernel_rfl) (by kernel_rfl) (by kernel_rfl) (fun _ _ _ h => h) (Or.inl ⟨by rfl, ?_⟩) (by assumption) ?_; (rotate_left 1); (focus (intro wz hSw; (try dsimp only at hSw); go_simp; try (with_reducible rfl))); simp only [Act.put, List.setIfInBounds_toArray, List.set_cons_zero, List.set_cons_succ]
      refine wpAnyH_take (i := 12) (oi := ⟨some 2, _, _, _, _, _⟩) (v := ?_) rfl (by kernel_rfl) (by kernel_rfl) (by kernel_rfl) (fun _ _ _ h => h) (Or.inl ⟨by rfl, ?_⟩) (by assumption) ?_; (rotate_left 1); (focus (intro wz hSw; (try dsimp only at hSw); go_simp; try (with_reducible rfl))); simp only [Act.put, List.setIfInBounds_toArray, List.set_cons_zero, List.set_cons_succ]
      refine wpAnyH_done (by kernel_rfl) ?_ _
      go_wp2_with fail
      go_returns
      exact ret_bool HR (hBw.trans hX)
end Go.Proofs.Ytaejcbmmapcpgaa
