/- LAYER 9's walks: fileStands, hasName, filesStand. -/
import Derived.Test.YtaepjlaegldkhaaFeeW2
import Derived.Deep.RegionWith
namespace Go.Proofs.Ytaepjlaegldkhaa
open Go.ChangeShapes Go.WideShapes Go.ChangeAt Go.RowKit

theorem bytes_empty {s : ByteArray} (h : s.size = 0) : s = ⟨#[]⟩ := by
  cases s with
  | mk d =>
    have : d = #[] := Array.eq_empty_of_size_eq_zero h
    rw [this]
theorem bytes_ne {s : ByteArray} (h : s.size ≠ 0) : s.toList.isEmpty = false := by
  rw [Lib.toList_data]
  cases hs : s.data.toList with
  | nil => exact absurd (by have := congrArg List.length hs; simpa using this) h
  | cons a r => rfl
def Fee.flV (f : Fee.Fl) (u : Value) : Value := .agg #[.string f.name, u]
set_option maxHeartbeats 1000000 in
set_option maxRecDepth 100000 in
theorem fileStands_c (f : Fee.Fl) (q : Option Addr) (cs : Nat) (w : World) : Calls Try.prog 53 #[Fee.flV f (.slice q f.data.length cs)] w fun e w' => e = .returned (.bool (Fee.fileOk f)) ∧ Bw w w' := by
  obtain ⟨s, d⟩ := f
  generalize hR : Fee.fileOk ⟨s, d⟩ = R
  unfold Fee.fileOk at hR
  unfold Fee.flV
  dsimp only at hR ⊢
  generalize d.length = n at *
  by_cases h0 : s.size = 0
  · obtain rfl := bytes_empty h0
    rw [decide_eq_false (by decide), Bool.false_and, Bool.false_and, Bool.false_and] at hR
    subst hR
    clear h0
    go_enter Try.func53, Try.ntmps53
    go_wp2_with fail
    go_returns
    exact ⟨rfl, by (repeat' (first | (with_reducible assumption) | (with_reducible exact Bw.refl _) | (with_reducible refine Bw.alloc ?_ _) | (with_reducible refine Bw.drew ?_) | (with_reducible refine Bw.drewN ?_ _) | (with_reducible refine Bw.setCell ?_ ?_ _) | exact Nat.le_refl _))⟩
  rw [decide_eq_true h0, Bool.true_and] at hR
  have hne := bytes_ne h0
  by_cases h1 : 40 < s.size
  · rw [decide_eq_false (by omega), Bool.false_and, Bool.false_and] at hR
    have h1i : (40 : Int) < s.size := by omega
    subst hR
    go_enter Try.func53, Try.ntmps53
    go_wp2_with fail
    go_returns
    exact ⟨rfl, by (repeat' (first | (with_reducible assumption) | (with_reducible exact Bw.refl _) | (with_reducible refine Bw.alloc ?_ _) | (with_reducible refine Bw.drew ?_) | (with_reducible refine Bw.drewN ?_ _) | (with_reducible refine Bw.setCell ?_ ?_ _) | exact Nat.le_refl _))⟩
  rw [decide_eq_true (by omega), Bool.true_and] at hR
  have h1i : (s.size : Int) ≤ 40 := by omega
  have hN := hasNought_c s
  cases hnu : Fee.nul s with
  | true =>
    rw [hnu] at hN hR
    simp only [Bool.not_true, Bool.false_and] at hR
    subst hR
    go_enter Try.func53, Try.ntmps53
    go_wp2_with (go_at_call 52; refine (hN _).mono ?_; rintro e w2 ⟨rfl, rfl⟩)
    go_returns
    exact ⟨rfl, by (repeat' (first | (with_reducible assumption) | (with_reducible exact Bw.refl _) | (with_reducible refine Bw.alloc ?_ _) | (with_reducible refine Bw.drew ?_) | (with_reducible refine Bw.drewN ?_ _) | (with_reducible refine Bw.setCell ?_ ?_ _) | exact Nat.le_refl _))⟩
  | false =>
    rw [hnu] at hN hR
    simp only [Bool.not_false, Bool.true_and] at hR
    by_cases h2 : n ≤ 4096
    · rw [decide_eq_true h2] at hR
      have h2i : (n : Int) ≤ 4096 := by omega
      subst hR
      go_enter Try.func53, Try.ntmps53
      go_wp2_with (go_at_call 52; refine (hN _).mono ?_; rintro e w2 ⟨rfl, rfl⟩)
      go_returns
      exact ⟨rfl, by (repeat' (first | (with_reducible assumption) | (with_reducible exact Bw.refl _) | (with_reducible refine Bw.alloc ?_ _) | (with_reducible refine Bw.drew ?_) | (with_reducible refine Bw.drewN ?_ _) | (with_reducible refine Bw.setCell ?_ ?_ _) | exact Nat.le_refl _))⟩
    · rw [decide_eq_false h2] at hR
      have h2i : decide ((n : Int) ≤ 4096) = false := decide_eq_false (by omega)
      subst hR
      go_enter Try.func53, Try.ntmps53
      go_wp2_with (go_at_call 52; refine (hN _).mono ?_; rintro e w2 ⟨rfl, rfl⟩)
      go_returns
      exact ⟨rfl, by (repeat' (first | (with_reducible assumption) | (with_reducible exact Bw.refl _) | (with_reducible refine Bw.alloc ?_ _) | (with_reducible refine Bw.drew ?_) | (with_reducible refine Bw.drewN ?_ _) | (with_reducible refine Bw.setCell ?_ ?_ _) | exact Nat.le_refl _))⟩
set_option maxHeartbeats 1000000 in
set_option maxRecDepth 100000 in
theorem hasName_c (v : Value) (l : List Fee.Fl) (s : ByteArray) (w : World) (hv : FlS w v l) : Calls Try.prog 54 #[v, .string s] w fun e w' => e = .returned (.bool (Fee.has l s)) ∧ Bw w w' := by
  obtain ⟨q, cap, rfl, hc1, hc2, hcell⟩ := hv.open
  generalize hR : Fee.has l s = R
  have HR : Hid _ := hR
  clear hR hv
  go_enter Try.func54, Try.ntmps54
  go_wp2_with fail
  go_loopg [9] l.length (fun g j wr => ∃ k : Nat, k + g = l.length ∧ j = .int .i64 k ∧ Bw w wr ∧ Fee.has (l.drop k) s = R)
  case atStart => exact ⟨0, by omega, rfl, Bw.refl _, HR⟩
  case round =>
    obtain ⟨k, hkg, rfl, hbw, hrun⟩ := hrel
    have HRun : Hid _ := hrun
    clear hrun HR
    by_cases hk : k = l.length
    · subst hk
      have hRe : Hid (false = R) := by rw [List.drop_length] at HRun; exact HRun
      go_wp2_with fail
      go_returns
      exact ret_bool hRe hbw
    · have hkl : k < l.length := by omega
      have hki : (k : Int) < (l.length : Int) := by omega
      obtain ⟨f, hs, hd⟩ := dropAt hkl
      obtain ⟨b, o, qs, cs, rfl, hb, c0, c1, -, -, -⟩ := hcell k f hs
      replace c0 := hbw.keep c0
      replace c1 := hbw.keep c1
      have HRun2 : Hid ((f.name.toList == s.toList || Fee.has (l.drop (k + 1)) s) = R) := by
        have h := (show _ = R from HRun)
        rw [hd] at h
        exact h
      clear hd hs HRun
      cases hnu : f.name.toList == s.toList with
      | true =>
        rw [hnu, Bool.true_or] at HRun2
        go_wp2_with fail
        go_returns
        exact ret_bool HRun2 (hbw.alloc _)
      | false =>
        rw [hnu, Bool.false_or] at HRun2
        go_wp2_with fail
        go_roundg (l.length - (k + 1))
        case measure => omega
        case rel => exact ⟨k + 1, by omega, by simp, hbw.alloc _, HRun2⟩
theorem FlS.take {w : World} {q : Option Addr} {cap : Nat} {l : List Fee.Fl} (h : FlS w (.slice q l.length cap) l) {k : Nat} (hk : k ≤ l.length) : FlS w (.slice q k cap) (l.take k) := by
  obtain ⟨us, h1, ⟨q', cap', e, h2, h3, h4, h5⟩, h6, h7⟩ := h
  simp at e
  obtain ⟨rfl, rfl⟩ := e
  have hcl : (Fee.cells l us).length = l.length * 2 := by
    unfold Fee.cells
    rw [chunk_len (fun p : Fee.Fl × Value => Fee.flC p.1 p.2) 2 (fun _ => rfl)]
    simp [h1]
  have hct : Fee.cells (l.take k) (us.take k) = (Fee.cells l us).take (k * 2) := by
    unfold Fee.cells
    rw [show (l.take k).zip (us.take k) = (l.zip us).take k by simp only [List.zip, List.take_zipWith]]
    generalize l.zip us = z
    clear h1 h2 h3 h4 h5 h6 h7 hk hcl
    induction z generalizing k with
    | nil => simp
    | cons a r ih =>
      cases k with
      | zero => simp
      | succ k =>
        rw [List.take_succ_cons, List.flatMap_cons, List.flatMap_cons, ih, show (k + 1) * 2 = (Fee.flC a.1 a.2).length + k * 2 by simp [Fee.flC]; omega, List.take_length_add_append]
  refine ⟨us.take k, by simp [h1], ⟨q, cap, by rw [List.length_take, Nat.min_eq_left hk], by rw [List.length_take]; omega, h3, by rw [hct, List.length_take, List.length_take, hcl]; omega, fun h0 => ?_⟩, fun i f u a b => ?_, fun f hf => h7 f (List.mem_of_mem_take hf)⟩
  · rw [List.length_take] at h0
    obtain ⟨b, o, e1, e2, e3⟩ := h5 (by omega)
    refine ⟨b, o, e1, e2, fun j u hu => e3 j u ?_⟩
    rw [hct, List.getElem?_take] at hu
    split at hu
    · exact hu
    · simp at hu
  · rw [List.getElem?_take] at a b
    split at a
    · rename_i hik
      rw [if_pos hik] at b
      exact h6 i f u a b
    · simp at a
set_option maxHeartbeats 2000000 in
set_option maxRecDepth 100000 in
theorem filesStand_c (v : Value) (l : List Fee.Fl) (w : World) (hv : FlS w v l) : Calls Try.prog 50 #[v] w fun e w' => e = .returned (.bool (Fee.filesOk l)) ∧ Bw w w' := by
  have hT := hv
  obtain ⟨q, cap, rfl, hc1, hc2, hcell⟩ := hv.open
  generalize hR : Fee.filesOk l = R
  unfold Fee.filesOk at hR
  by_cases h8 : 8 < l.length
  · rw [decide_eq_false (by omega), Bool.false_and] at hR
    have h8i : (8 : Int) < l.length := by omega
    subst hR
    go_enter Try.func50, Try.ntmps50
    go_wp2_with fail
    go_returns
    exact ⟨rfl, by (repeat' (first | (with_reducible assumption) | (with_reducible exact Bw.refl _) | (with_reducible refine Bw.alloc ?_ _) | (with_reducible refine Bw.drew ?_) | (with_reducible refine Bw.drewN ?_ _) | (with_reducible refine Bw.setCell ?_ ?_ _) | exact Nat.le_refl _))⟩
  rw [decide_eq_true (by omega), Bool.true_and] at hR
  have h8i : (l.length : Int) ≤ 8 := by omega
  have hHas : ∀ w1, Bw w w1 → ∀ k, k ≤ l.length → ∀ s, Calls Try.prog 54 #[.slice q k cap, .string s] w1 fun e w' => e = .returned (.bool (Fee.has (l.take k) s)) ∧ Bw w1 w' := fun w1 g k hk s => hasName_c _ _ s w1 ((hT.take hk).bw g)
  have HR : Hid _ := hR
  clear hR hv hT
  go_enter Try.func50, Try.ntmps50
  go_wp2_with fail
  go_loopg [10] l.length (fun g j wr => ∃ k : Nat, k + g = l.length ∧ j = .int .i64 k ∧ Bw w wr ∧ Fee.filesFrom l k (l.drop k) = R)
  case atStart => exact ⟨0, by omega, rfl, Bw.refl _, HR⟩
  case round =>
    obtain ⟨k, hkg, rfl, hbw, hrun⟩ := hrel
    have HRun : Hid _ := hrun
    clear hrun HR
    by_cases hk : k = l.length
    · subst hk
      have hRe : Hid (true = R) := by rw [List.drop_length] at HRun; exact HRun
      go_wp2_with fail
      go_returns
      exact ret_bool hRe hbw
    · have hkl : k < l.length := by omega
      have hki : (k : Int) < (l.length : Int) := by omega
      have hkc : (k : Int) ≤ (cap : Int) := by omega
      obtain ⟨f, hs, hd⟩ := dropAt hkl
      have hH := fun w1 g => hHas w1 g k (by omega) f.name
      obtain ⟨b, o, qs, cs, rfl, hb, c0, c1, -, -, -⟩ := hcell k f hs
      have HRun2 : Hid ((Fee.fileOk f && !Fee.has (l.take k) f.name && Fee.filesFrom l (k + 1) (l.drop (k + 1))) = R) := by
        have h := (show _ = R from HRun)
        rw [hd] at h
        exact h
      have hF := fileStands_c f qs cs
      unfold Fee.flV at hF
      clear hd hs HRun hcell hHas
      replace c0 := hbw.keep c0
      replace c1 := hbw.keep c1
      cases hok : Fee.fileOk f with
      | false =>
        rw [hok] at hF HRun2
        simp only [Bool.false_and] at HRun2
        go_wp2_with fail
        obtain ⟨wB, hwB, hbB, hBx⟩ : ∃ wB, wr.alloc (.cells #[.string f.name, .slice qs f.data.length cs] 27) = wB ∧ Bw w wB ∧ Box wB wr.heap.size [.string f.name, .slice qs f.data.length cs] := ⟨_, rfl, hbw.alloc _, Box.new wr _ _⟩
        rw [hwB]
        clear hwB hbw c0 c1
        generalize wr.heap.size = fb at *
        have hB : Bw wB wB.drew := (Bw.refl wB).drew
        have hHold : ∀ X, Bw wB X → (X.cell? ⟨fb, 0, none⟩ = some (.string f.name) ∧ X.cell? ⟨fb, 1, none⟩ = some (.slice qs f.data.length cs)) := fun X g => ⟨g.keep (hBx.c 0 _ rfl), g.keep (hBx.c 1 _ rfl)⟩
        refine wp_region_held_drew (S := fun X => X.cell? ⟨fb, 0, none⟩ = some (.string f.name) ∧ X.cell? ⟨fb, 1, none⟩ = some (.slice qs f.data.length cs)) (by kernel_rfl) (hHold _ hB) (fun hHeld => ?_)
        refine wpAnyH_take (i := 0) (oi := ⟨some 15, _, _, _, _, _⟩) (v := ?_) rfl (by kernel_rfl) (by kernel_rfl) (by kernel_rfl) (fun _ _ _ h => h) (Or.inl ⟨by rfl, ?_⟩) (by assumption) ?_; (rotate_left 1); (focus (intro wz hSw; (try dsimp only at hSw); go_simp; try (with_reducible rfl))); simp only [Act.put, List.setIfInBounds_toArray, List.set_cons_zero, List.set_cons_succ]
        refine wpAnyH_ready (rs := [1]) (by kernel_rfl) (by simp) ?_; refine AllReadyH.cons rfl (fun K hK => ?_) AllReadyH.nil; go_simp
        refine (hF _).mono ?_
        rintro e w2 ⟨rfl, h2⟩
        replace hB := hB.trans h2
        (try clear hHeld); refine hK.out _ _ ?_ (fun hHeld => ?_)
        · exact hHold _ hB
        refine wpAnyH_take (i := 2) (oi := ⟨some 17, _, _, _, _, _⟩) (v := ?_) rfl (by kernel_rfl) (by kernel_rfl) (by kernel_rfl) (fun _ _ _ h => h) (Or.inl ⟨by rfl, ?_⟩) (by assumption) ?_; (rotate_left 1); (focus (intro wz hSw; (try dsimp only at hSw); go_simp; try (with_reducible rfl))); simp only [Act.put, List.setIfInBounds_toArray, List.set_cons_zero, List.set_cons_succ]
        refine wpAnyH_take (i := 3) (oi := ⟨some 18, _, _, _, _, _⟩) (v := ?_) rfl (by kernel_rfl) (by kernel_rfl) (by kernel_rfl) (fun _ _ _ h => h) (Or.inl ⟨by rfl, ?_⟩) (by assumption) ?_; (rotate_left 1); (focus (intro wz hSw; (try dsimp only at hSw); go_simp; try (with_reducible rfl))); simp only [Act.put, List.setIfInBounds_toArray, List.set_cons_zero, List.set_cons_succ]
        refine wpAnyH_take (i := 4) (oi := ⟨some 19, _, _, _, _, _⟩) (v := undef) rfl (by kernel_rfl) (by kernel_rfl) (by kernel_rfl) (fun _ _ _ h => h) (Or.inr ⟨by rfl, rfl⟩) (by assumption) ?_; simp only [Act.put, List.setIfInBounds_toArray, List.set_cons_zero, List.set_cons_succ]
        refine wpAnyH_take (i := 5) (oi := ⟨some 20, _, _, _, _, _⟩) (v := undef) rfl (by kernel_rfl) (by kernel_rfl) (by kernel_rfl) (fun _ _ _ h => h) (Or.inr ⟨by rfl, rfl⟩) (by assumption) ?_; simp only [Act.put, List.setIfInBounds_toArray, List.set_cons_zero, List.set_cons_succ]
        refine wpAnyH_take (i := 6) (oi := ⟨some 21, _, _, _, _, _⟩) (v := undef) rfl (by kernel_rfl) (by kernel_rfl) (by kernel_rfl) (fun _ _ _ h => h) (Or.inr ⟨by rfl, rfl⟩) (by assumption) ?_; simp only [Act.put, List.setIfInBounds_toArray, List.set_cons_zero, List.set_cons_succ]
        refine wpAnyH_take (i := 7) (oi := ⟨some 22, _, _, _, _, _⟩) (v := undef) rfl (by kernel_rfl) (by kernel_rfl) (by kernel_rfl) (fun _ _ _ h => h) (Or.inr ⟨by rfl, rfl⟩) (by assumption) ?_; simp only [Act.put, List.setIfInBounds_toArray, List.set_cons_zero, List.set_cons_succ]
        refine wpAnyH_take (i := 8) (oi := ⟨some 23, _, _, _, _, _⟩) (v := undef) rfl (by kernel_rfl) (by kernel_rfl) (by kernel_rfl) (fun _ _ _ h => h) (Or.inr ⟨by rfl, rfl⟩) (by assumption) ?_; simp only [Act.put, List.setIfInBounds_toArray, List.set_cons_zero, List.set_cons_succ]
        refine wpAnyH_take (i := 9) (oi := ⟨some 24, _, _, _, _, _⟩) (v := undef) rfl (by kernel_rfl) (by kernel_rfl) (by kernel_rfl) (fun _ _ _ h => h) (Or.inr ⟨by rfl, rfl⟩) (by assumption) ?_; simp only [Act.put, List.setIfInBounds_toArray, List.set_cons_zero, List.set_cons_succ]
        refine wpAnyH_take (i := 10) (oi := ⟨some 25, _, _, _, _, _⟩) (v := ?_) rfl (by kernel_rfl) (by kernel_rfl) (by kernel_rfl) (fun _ _ _ h => h) (Or.inl ⟨by rfl, ?_⟩) (by assumption) ?_; (rotate_left 1); (focus (intro wz hSw; (try dsimp only at hSw); go_simp; try (with_reducible rfl))); simp only [Act.put, List.setIfInBounds_toArray, List.set_cons_zero, List.set_cons_succ]
        refine wpAnyH_done (by kernel_rfl) ?_ _
        go_wp2_with fail
        go_returns
        exact ret_bool HRun2 (hbB.trans hB)
      | true =>
        rw [hok, Bool.true_and] at HRun2
        rw [hok] at hF
        go_wp2_with fail
        obtain ⟨wB, hwB, hbB, hBx⟩ : ∃ wB, wr.alloc (.cells #[.string f.name, .slice qs f.data.length cs] 27) = wB ∧ Bw w wB ∧ Box wB wr.heap.size [.string f.name, .slice qs f.data.length cs] := ⟨_, rfl, hbw.alloc _, Box.new wr _ _⟩
        rw [hwB]
        clear hwB hbw c0 c1
        generalize wr.heap.size = fb at *
        have hB : Bw wB wB.drew := (Bw.refl wB).drew
        have hHold : ∀ X, Bw wB X → (X.cell? ⟨fb, 0, none⟩ = some (.string f.name) ∧ X.cell? ⟨fb, 1, none⟩ = some (.slice qs f.data.length cs)) := fun X g => ⟨g.keep (hBx.c 0 _ rfl), g.keep (hBx.c 1 _ rfl)⟩
        refine wp_region_held_drew (S := fun X => X.cell? ⟨fb, 0, none⟩ = some (.string f.name) ∧ X.cell? ⟨fb, 1, none⟩ = some (.slice qs f.data.length cs)) (by kernel_rfl) (hHold _ hB) (fun hHeld => ?_)
        refine wpAnyH_take (i := 0) (oi := ⟨some 15, _, _, _, _, _⟩) (v := ?_) rfl (by kernel_rfl) (by kernel_rfl) (by kernel_rfl) (fun _ _ _ h => h) (Or.inl ⟨by rfl, ?_⟩) (by assumption) ?_; (rotate_left 1); (focus (intro wz hSw; (try dsimp only at hSw); go_simp; try (with_reducible rfl))); simp only [Act.put, List.setIfInBounds_toArray, List.set_cons_zero, List.set_cons_succ]
        refine wpAnyH_ready (rs := [1]) (by kernel_rfl) (by simp) ?_; refine AllReadyH.cons rfl (fun K hK => ?_) AllReadyH.nil; go_simp
        refine (hF _).mono ?_
        rintro e w2 ⟨rfl, h2⟩
        replace hB := hB.trans h2
        (try clear hHeld); refine hK.out _ _ ?_ (fun hHeld => ?_)
        · exact hHold _ hB
        refine wpAnyH_take (i := 2) (oi := ⟨some 17, _, _, _, _, _⟩) (v := ?_) rfl (by kernel_rfl) (by kernel_rfl) (by kernel_rfl) (fun _ _ _ h => h) (Or.inl ⟨by rfl, ?_⟩) (by assumption) ?_; (rotate_left 1); (focus (intro wz hSw; (try dsimp only at hSw); go_simp; try (with_reducible rfl))); simp only [Act.put, List.setIfInBounds_toArray, List.set_cons_zero, List.set_cons_succ]
        refine wpAnyH_take (i := 3) (oi := ⟨some 18, _, _, _, _, _⟩) (v := ?_) rfl (by kernel_rfl) (by kernel_rfl) (by kernel_rfl) (fun _ _ _ h => h) (Or.inl ⟨by rfl, ?_⟩) (by assumption) ?_; (rotate_left 1); (focus (intro wz hSw; (try dsimp only at hSw); go_simp; try (with_reducible rfl))); simp only [Act.put, List.setIfInBounds_toArray, List.set_cons_zero, List.set_cons_succ]
        refine wpAnyH_take (i := 4) (oi := ⟨some 19, _, _, _, _, _⟩) (v := ?_) rfl (by kernel_rfl) (by kernel_rfl) (by kernel_rfl) (fun _ _ _ h => h) (Or.inl ⟨by rfl, ?_⟩) (by assumption) ?_; (rotate_left 1); (focus (intro wz hSw; (try dsimp only at hSw); go_simp; try (with_reducible rfl))); simp only [Act.put, List.setIfInBounds_toArray, List.set_cons_zero, List.set_cons_succ]
        refine wpAnyH_take (i := 5) (oi := ⟨some 20, _, _, _, _, _⟩) (v := ?_) rfl (by kernel_rfl) (by kernel_rfl) (by kernel_rfl) (fun _ _ _ h => h) (Or.inl ⟨by rfl, ?_⟩) (by assumption) ?_; (rotate_left 1); (focus (intro wz hSw; (try dsimp only at hSw); go_simp; try (with_reducible rfl))); simp only [Act.put, List.setIfInBounds_toArray, List.set_cons_zero, List.set_cons_succ]
        refine wpAnyH_take (i := 6) (oi := ⟨some 21, _, _, _, _, _⟩) (v := ?_) rfl (by kernel_rfl) (by kernel_rfl) (by kernel_rfl) (fun _ _ _ h => h) (Or.inl ⟨by rfl, ?_⟩) (by assumption) ?_; (rotate_left 1); (focus (intro wz hSw; (try dsimp only at hSw); go_simp; try (with_reducible rfl))); simp only [Act.put, List.setIfInBounds_toArray, List.set_cons_zero, List.set_cons_succ]
        refine wpAnyH_take (i := 7) (oi := ⟨some 22, _, _, _, _, _⟩) (v := ?_) rfl (by kernel_rfl) (by kernel_rfl) (by kernel_rfl) (fun _ _ _ h => h) (Or.inl ⟨by rfl, ?_⟩) (by assumption) ?_; (rotate_left 1); (focus (intro wz hSw; (try dsimp only at hSw); go_simp; try (with_reducible rfl))); simp only [Act.put, List.setIfInBounds_toArray, List.set_cons_zero, List.set_cons_succ]
        refine wpAnyH_take (i := 8) (oi := ⟨some 23, _, _, _, _, _⟩) (v := ?_) rfl (by kernel_rfl) (by kernel_rfl) (by kernel_rfl) (fun _ _ _ h => h) (Or.inl ⟨by rfl, ?_⟩) (by assumption) ?_; (rotate_left 1); (focus (intro wz hSw; (try dsimp only at hSw); go_simp; try (with_reducible rfl))); simp only [Act.put, List.setIfInBounds_toArray, List.set_cons_zero, List.set_cons_succ]
        refine wpAnyH_ready (rs := [9]) (by kernel_rfl) (by simp) ?_; refine AllReadyH.cons rfl (fun K hK => ?_) AllReadyH.nil; go_simp
        refine (hH _ (hbB.trans hB)).mono ?_
        rintro e w3 ⟨rfl, h3⟩
        replace hB := hB.trans h3
        (try clear hHeld); refine hK.out _ _ ?_ (fun hHeld => ?_)
        · exact hHold _ hB
        refine wpAnyH_take (i := 10) (oi := ⟨some 25, _, _, _, _, _⟩) (v := ?_) rfl (by kernel_rfl) (by kernel_rfl) (by kernel_rfl) (fun _ _ _ h => h) (Or.inl ⟨by rfl, ?_⟩) (by assumption) ?_; (rotate_left 1); (focus (intro wz hSw; (try dsimp only at hSw); go_simp; try (with_reducible rfl))); simp only [Act.put, List.setIfInBounds_toArray, List.set_cons_zero, List.set_cons_succ]
        refine wpAnyH_done (by kernel_rfl) ?_ _
        cases hha : Fee.has (l.take k) f.name with
        | true =>
          rw [hha] at HRun2
          simp only [Bool.not_true, Bool.false_and] at HRun2
          go_wp2_with fail
          go_returns
          exact ret_bool HRun2 (hbB.trans hB)
        | false =>
          rw [hha] at HRun2
          simp only [Bool.not_false, Bool.true_and] at HRun2
          go_wp2_with fail
          go_roundg (l.length - (k + 1))
          case measure => omega
          case rel => exact ⟨k + 1, by omega, by simp, hbB.trans hB, HRun2⟩
end Go.Proofs.Ytaepjlaegldkhaa
