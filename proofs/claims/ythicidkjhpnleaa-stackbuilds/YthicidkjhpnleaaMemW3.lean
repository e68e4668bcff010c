/- THE WALKS OF LAYER 3: the search in the rising list; where a stretch stands. -/
import Derived.Test.YthicidkjhpnleaaMemW2
namespace Go.Proofs.Ythicidkjhpnleaa
open Go.ChangeShapes Go.WideShapes Go.ChangeAt Go.RowKit
set_option linter.unusedSimpArgs false
set_option linter.unusedVariables false

theorem cmpNaN_c (x : Int) (w : World) : Calls Try.prog 48 #[.int .u32 x] w fun e w' => e = .returned (.bool false) ∧ w' = w := by
  go_enter Try.func48, Try.ntmps48
  go_wp2
  go_ret
  exact ⟨by simp, rfl⟩
theorem slNaN_c (x : Int) (w : World) : Calls Try.prog 46 #[.int .u32 x] w fun e w' => e = .returned (.bool false) ∧ w' = w := by
  go_enter Try.func46, Try.ntmps46
  go_wp2
  go_ret
  exact ⟨by simp, rfl⟩
theorem less_c (x y : Int) (w : World) : Calls Try.prog 45 #[.int .u32 x, .int .u32 y] w fun e w' => e = .returned (.bool (decide (x < y))) ∧ w' = w := by
  go_enter Try.func45, Try.ntmps45
  go_wp2_with fail
  refine (cmpNaN_c _ _).mono ?_
  rintro e w1 ⟨rfl, rfl⟩
  go_wp2_with fail
  go_ret
  exact ⟨rfl, rfl⟩

/-- Where t would stand. -/
def At (th : List Int) (t : Int) (i : Nat) : Prop := i ≤ th.length ∧ (∀ m, m < i → th[m]?.getD 0 < t) ∧ (∀ m, i ≤ m → m < th.length → t ≤ th[m]?.getD 0)

theorem row_cells {w : World} {v : Value} {th : List Int} (hr : w.ownsRow 0 24 1 v th.length (th.map (Value.int .u32))) :
    (th = [] ∧ v = .slice none 0 0) ∨ ∃ g cap, v = .slice (some ⟨g, 0, none⟩) th.length cap ∧ ∀ m, m < th.length → w.cell? ⟨g, m, none⟩ = some (.int .u32 (th[m]?.getD 0)) := by
  rcases hr.2 with ⟨h1, h2⟩ | ⟨g, cap, cur, h1, _, hg, hc, _, hsz, htk⟩
  · exact .inl ⟨List.length_eq_zero_iff.1 h2, h1⟩
  · refine .inr ⟨g, cap, h1, fun m hm => ?_⟩
    rw [cell_of_row w g m cur _ (0, 0) hg]
    have : (cur.toList.take (th.length * 1))[m]? = (th.map (Value.int .u32))[m]? := by rw [htk]
    rw [List.getElem?_take, if_pos (by omega)] at this
    rw [← Array.getElem?_toList, this]
    simp [hm]

theorem At.uniq {th : List Int} {t : Int} {i j : Nat} (h : At th t i) (k : At th t j) : i = j := by
  obtain ⟨h1, h2, h3⟩ := h
  obtain ⟨k1, k2, k3⟩ := k
  apply Decidable.byContradiction
  intro ne
  rcases Nat.lt_or_gt_of_ne ne with x | x
  · have a := k2 i x
    have b := h3 i (Nat.le_refl _) (by omega)
    omega
  · have a := h2 j x
    have b := k3 j (Nat.le_refl _) (by omega)
    omega
/-- Where t would stand in a rising list. -/
def lb : List Int → Int → Nat
  | [], _ => 0
  | x :: r, t => if x < t then lb r t + 1 else 0
def fl (th : List Int) (t : Int) : Bool := decide (lb th t < th.length) && (th[lb th t]?.getD 0 == t)
theorem At_lb : ∀ {th : List Int} (_ : th.Pairwise (· < ·)) (t : Int), At th t (lb th t)
  | [], _, t => ⟨by simp [lb], by simp [lb], by simp⟩
  | x :: r, h, t => by
    obtain ⟨hx, hr⟩ := List.pairwise_cons.1 h
    obtain ⟨i1, i2, i3⟩ := At_lb hr t
    unfold lb
    split
    · rename_i hlt
      refine ⟨by simp; omega, fun m hm => ?_, fun m h1 h2 => ?_⟩
      · cases m with
        | zero => simpa using hlt
        | succ m => simpa using i2 m (by omega)
      · cases m with
        | zero => omega
        | succ m => simpa using i3 m (by omega) (by simp at h2; omega)
    · rename_i hge
      refine ⟨by simp, fun m hm => by omega, fun m _ h2 => ?_⟩
      cases m with
      | zero => simp; omega
      | succ m =>
        simp at h2
        have := hx r[m] (List.getElem_mem _)
        simp [h2]; omega
theorem rise_lt {th : List Int} (hs : th.Pairwise (· < ·)) {i j : Nat} (h : i < j) (hj : j < th.length) : th[i]?.getD 0 < th[j]?.getD 0 := by
  have := List.pairwise_iff_getElem.1 hs i j (by omega) hj h
  simpa [show i < th.length by omega, hj] using this
set_option maxHeartbeats 1000000 in
theorem BS_c {w : World} {v : Value} {th : List Int} (hr : w.ownsRow 0 24 1 v th.length (th.map (Value.int .u32))) (hl : th.length ≤ 4096) (hs : th.Pairwise (· < ·)) (t : Int) :
    Calls Try.prog 41 #[v, .int .u32 t] w fun e w' => e = .returned (.tuple #[.int .i64 (lb th t), .bool (fl th t)]) ∧ w' = w := by
  rcases row_cells hr with ⟨rfl, rfl⟩ | ⟨g, cap, rfl, hc⟩
  · go_enter Try.func41, Try.ntmps41
    go_wp2
    refine wp_loop_rounds 1 ?_
    rw [rounds_succ]; go_wp2
    go_returns
    exact ⟨rfl, by first | rfl | trivial⟩
  · clear hr
    obtain ⟨n, hn⟩ : ∃ n, n = th.length := ⟨_, rfl⟩
    rw [← hn] at hc hl ⊢
    have HN : Hid _ := hn
    clear hn
    go_enter Try.func41, Try.ntmps41
    go_wp2
    go_loopw [7, 8] (fun x y wr => ∃ i j : Nat, x = .int .i64 i ∧ y = .int .i64 j ∧ wr = w ∧ i ≤ j ∧ j ≤ n ∧ (∀ m, m < i → th[m]?.getD 0 < t) ∧ (∀ m, j ≤ m → m < n → t ≤ th[m]?.getD 0)) (fun x y _ => (intOf y - intOf x).toNat)
    case atStart => exact ⟨0, n, rfl, rfl, rfl, by omega, by omega, by omega, by omega⟩
    case round =>
      obtain ⟨i, j, rfl, rfl, rfl, hij, hjn, hlo, hhi⟩ := hrel
      have HL : Hid _ := hlo
      have HH : Hid _ := hhi
      clear hlo hhi
      by_cases he : i = j
      · subst he
        have fin : lb th t = i := by
          refine (At_lb hs t).uniq ⟨?_, HL.out, ?_⟩
          · rw [← HN.out]; exact hjn
          · rw [← HN.out]; exact HH.out
        have FIN : Hid (lb th t = i) := fin
        clear fin HL HH
        by_cases hin : i < n
        · have hi1 : (i : Int) < (n : Int) := by omega
          have hd := hc i hin
          by_cases heq : th[i]?.getD 0 = t
          · have heq' : (th[i]?.getD 0 == t) = true := by simpa using heq
            have FX : Hid (fl th t = true) := by show fl th t = true; simp only [fl, FIN.out, ← HN.out, hin, heq']; rfl
            clear heq
            go_wp2_with fail
            go_returns
            rw [FIN.out, FX.out]
            exact ⟨rfl, by first | rfl | trivial⟩
          · have heq' : (th[i]?.getD 0 == t) = false := by simpa using heq
            have FX : Hid (fl th t = false) := by show fl th t = false; simp only [fl, FIN.out, ← HN.out, hin, heq']; rfl
            clear heq
            go_wp2_with fail
            refine (slNaN_c _ _).mono ?_
            rintro e w1 ⟨rfl, rfl⟩
            go_wp2_with fail
            go_returns
            rw [FIN.out, FX.out]
            exact ⟨rfl, by first | rfl | trivial⟩
        · have hi1 : decide ((i : Int) < (n : Int)) = false := by simp; omega
          have FX : Hid (fl th t = false) := by show fl th t = false; simp only [fl, FIN.out, ← HN.out, hin]; rfl
          go_wp2_with fail
          go_returns
          rw [FIN.out, FX.out]
          exact ⟨rfl, by first | rfl | trivial⟩
      · have hlt : (i : Int) < (j : Int) := by omega
        have hd := hc ((i + j) / 2) (by omega)
        go_wp2_with fail
        refine (less_c _ _ _).mono ?_
        rintro e w1 ⟨rfl, rfl⟩
        by_cases hx : th[(i + j) / 2]?.getD 0 < t
        · go_wp2
          go_roundw
          case rel =>
            refine ⟨(i + j) / 2 + 1, j, by simp, rfl, by first | rfl | trivial, by omega, hjn, fun m hm => ?_, HH.out⟩
            by_cases e : m = (i + j) / 2
            · subst e; exact hx
            · exact Int.lt_trans (rise_lt hs (by omega) (by rw [← HN.out]; omega)) hx
          case measure => simp [intOf]; omega
        · go_wp2
          go_roundw
          case rel =>
            refine ⟨i, (i + j) / 2, rfl, by simp, by first | rfl | trivial, by omega, by omega, HL.out, fun m h1 h2 => ?_⟩
            by_cases e : m = (i + j) / 2
            · subst e; omega
            · have := rise_lt hs (show (i + j) / 2 < m by omega) (by rw [← HN.out]; omega); omega
          case measure => simp [intOf]; omega
theorem row_drewN {w : World} {v : Value} {n : Nat} {e : TypeId} {xs : List Value} (hr : w.ownsRow 0 e 1 v n xs) (m : Nat) : (w.drewN m).ownsRow 0 e 1 v n xs := hr
theorem BS_d {w : World} {v : Value} {th : List Int} (hr : w.ownsRow 0 24 1 v th.length (th.map (Value.int .u32))) (hl : th.length ≤ 4096) (hs : th.Pairwise (· < ·)) (t : Int) (m : Nat) :
    Calls Try.prog 41 #[v, .int .u32 t] (w.drewN m) fun e w' => e = .returned (.tuple #[.int .i64 (lb th t), .bool (fl th t)]) ∧ w' = w.drewN m :=
  BS_c (w := w.drewN m) (show (w.drewN m).ownsRow 0 24 1 v th.length (th.map (Value.int .u32)) from hr) hl hs t
section
variable {w : World} {mb : Nat} {F : Nat → Prop} {N : Nat} {S : MS} {L : Lay}
theorem among_c (h : OwnL w mb F N S L) (f c : Int) (hf : 0 ≤ f ∧ f ≤ 16777216) (hc : 0 ≤ c ∧ f + c ≤ 16777216) :
    Calls Try.prog 35 #[.pointer (some ⟨mb, 0, none⟩), .agg #[.int .u32 f, .int .u32 c]] w fun e w' => e = .returned (.tuple #[.int .i64 (lb S.th f), .int .i64 (lb S.th (f + c))]) ∧ Gr w w' := by
  obtain ⟨f0, f1⟩ := hf
  obtain ⟨c0, c1'⟩ := hc
  have hl : S.th.length ≤ 4096 := by have := h.ok.len; have := h.ok.budget; omega
  have hc1 := (h.gr ((Gr.refl w).alloc #[.int .u32 f, .int .u32 c] 81)).c1
  have hrow := (h.gr ((Gr.refl w).alloc #[.int .u32 f, .int .u32 c] 81)).row
  have hmb : mb < w.heap.size := h.lt _ h.Fm
  have hs := h.ok.rise
  go_enter Try.func35, Try.ntmps35
  go_wp2_with fail
  go_quiet (first | (go_at_call 41; refine Calls.quiet_of_same (BS_d hrow hl hs _ _)))
  go_wp2_with fail
  go_quiet (first | (go_at_call 41; refine (BS_d hrow hl hs _ _).mono (fun _ _ h => ⟨h.1, _, h.2⟩)))
  go_wp2
  go_returns
  refine ⟨rfl, ?_⟩
  (repeat' (first | (with_reducible assumption) | (with_reducible exact Gr.refl _) | (with_reducible refine Gr.alloc ?_ _ _) | (with_reducible refine Gr.drew ?_) | (with_reducible refine Gr.drewN ?_ _) | (with_reducible refine Gr.setCell ?_ ?_ _) | (with_reducible refine Gr.trans ?_ (by assumption)) | omega | (dsimp only; omega) | (simp; done) | (simp; omega)))
end
end Go.Proofs.Ythicidkjhpnleaa
