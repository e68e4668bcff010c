/- THE WALKS OF LAYER 3: the small ones. -/
import Derived.Test.YthicidkjhpnleaaMemBase
import Derived.RegionTactic
import Derived.BigRegion
import Derived.Deep.QuietTactic
import Derived.BigQuiet
namespace Go.Proofs.Ythicidkjhpnleaa
open Go.ChangeShapes Go.WideShapes Go.ChangeAt Go.RowKit
set_option linter.unusedSimpArgs false
set_option linter.unusedVariables false

theorem allows_c {w : World} {b : Nat} {p : Pg} (hp : IsPg w b p) (need : Int) :
    Calls Try.prog 39 #[.pointer (some ⟨b, 0, none⟩), .int .i64 need] w fun e w' => e = .returned (.bool (bits .and .i64 p.perm need == need)) ∧ w' = w := by
  have hc := hp.perm
  go_enter Try.func39, Try.ntmps39
  go_wp2
  go_ret
  exact ⟨rfl, rfl⟩

theorem goodPerm_c (perm : Int) (w : World) :
    Calls Try.prog 34 #[.int .i64 perm] w fun e w' => e = .returned (.bool (decide (0 ≤ perm ∧ perm ≤ 7))) ∧ w' = w := by
  go_enter Try.func34, Try.ntmps34
  go_wp2
  all_goals go_ret
  · rename_i h
    refine ⟨?_, rfl⟩
    show Ending.returned (.bool (decide (perm ≤ 7))) = _
    simp [h]
  · rename_i h
    refine ⟨?_, rfl⟩
    show Ending.returned (.bool false) = _
    have : ¬ 0 ≤ perm := by omega
    simp [this]

def MS.new (n : Int) : MS := ⟨n, [], fun _ => none, fun _ => 0⟩
theorem New_c (n : Int) (hn : 1 ≤ n ∧ n ≤ 4096) (w : World) :
    Calls Try.prog 10 #[.int .i64 n] w fun e w' => ∃ mb F, e = .returned (.tuple #[.pointer (some ⟨mb, 0, none⟩), .int .i64 0]) ∧ Gr w w' ∧ (∀ i, F i → w.heap.size ≤ i) ∧ Own w' mb F 0 (MS.new n) := by
  obtain ⟨h1, h2⟩ := hn
  have hmm := @run_makeMap Try.prog
  go_enter Try.func10, Try.ntmps10
  go_wp2
  go_returns
  refine ⟨_, fun i => w.heap.size ≤ i ∧ i < w.heap.size + 3, rfl, (((Gr.refl w).allocMap _ _).allocMap _ _).alloc _ _, fun i h => h.1, ⟨.slice none 0 0, w.heap.size, w.heap.size + 1, fun _ => none⟩, ?_⟩
  have e2 : ((w.alloc (.map #[] 0)).alloc (.map #[] 0)).heap.size = w.heap.size + 2 := by simp
  have e1 : (w.alloc (.map #[] 0)).heap.size = w.heap.size + 1 := by simp
  exact {
    top := by
      have := heap_alloc_new ((w.alloc (.map #[] 0)).alloc (.map #[] 0)) (.cells #[.int .i64 n, .slice none 0 0, .map (some w.heap.size), .map (some (w.heap.size + 1))] 60)
      rw [e2] at this
      exact this
    row := World.ownsRow_nil _ _ _ _
    pm := ((PMap.made w).congr (Below.heap_alloc _ _ _ (by simp))).congr (Below.heap_alloc _ _ _ (by simp; omega))
    gm := by
      have := UMap.made (w.alloc (.map #[] 0))
      rw [e1] at this
      exact this.congr (Below.heap_alloc _ _ _ (by simp))
    ne := by simp
    pgs := fun k b h => by cases h
    non := fun k _ => rfl
    inj := fun k k' b h => by cases h
    Fm := ⟨by omega, by omega⟩
    Fp := by simp
    Fg := by simp
    Fv := fun g h => by simp [Value.ownBlock] at h
    lt := fun i h => by simp; omega
    ok := ⟨⟨h1, h2⟩, by simp [MS.new]; omega, by simp [MS.new], by simp [MS.new], by simp [MS.new], by simp [MS.new]⟩ }
theorem New_bad (n : Int) (hn : n < 1 ∨ 4096 < n) (w : World) :
    Calls Try.prog 10 #[.int .i64 n] w fun e w' => e = .returned (.tuple #[.pointer none, .int .i64 1]) ∧ w' = w := by
  rcases hn with h | h
  · go_enter Try.func10, Try.ntmps10
    go_wp2
    go_returns
    exact ⟨rfl, rfl⟩
  · have h0 : ¬ n < 1 := by omega
    go_enter Try.func10, Try.ntmps10
    go_wp2
    go_returns
    exact ⟨rfl, rfl⟩

theorem stretch_ok (a n : Int) (ha : U4 a) (hn : U4 n) (h : n ≠ 0 ∧ a % 256 = 0 ∧ a / 256 + (n + 255) / 256 ≤ 16777216) (w : World) :
    Calls Try.prog 33 #[.int .u32 a, .int .u32 n] w fun e w' => e = .returned (.tuple #[.agg #[.int .u32 (a / 256), .int .u32 ((n + 255) / 256)], .int .i64 0]) ∧ Gr w w' := by
  obtain ⟨h1, h2⟩ := ha
  obtain ⟨h3, h4⟩ := hn
  obtain ⟨h5, h6, h7⟩ := h
  have h5' : (n == 0) = false := by simpa using h5
  have h7' : ¬ 16777216 < a / 256 + (n + 256 - 1) / 256 := by omega
  have e0 : (n + 255) / 256 = (n + 256 - 1) / 256 := by omega
  rw [e0]
  clear e0 h7
  go_enter Try.func33, Try.ntmps33
  go_wp2
  go_returns
  refine ⟨rfl, ?_⟩
  (repeat' (first | (with_reducible assumption) | (with_reducible exact Gr.refl _) | (with_reducible refine Gr.alloc ?_ _ _) | (with_reducible refine Gr.drew ?_) | (with_reducible refine Gr.drewN ?_ _) | (with_reducible refine Gr.setCell ?_ ?_ _) | (with_reducible refine Gr.trans ?_ (by assumption)) | omega | (dsimp only; omega) | (simp; done) | (simp; omega)))
theorem stretch_bad (a n : Int) (ha : U4 a) (hn : U4 n) (h : ¬ (n ≠ 0 ∧ a % 256 = 0 ∧ a / 256 + (n + 255) / 256 ≤ 16777216)) (w : World) :
    Calls Try.prog 33 #[.int .u32 a, .int .u32 n] w fun e w' => e = .returned (.tuple #[.agg #[.int .u32 0, .int .u32 0], .int .i64 1]) ∧ Gr w w' := by
  obtain ⟨h1, h2⟩ := ha
  obtain ⟨h3, h4⟩ := hn
  by_cases h5 : n = 0
  · subst h5
    go_enter Try.func33, Try.ntmps33
    go_wp2
    go_returns
    refine ⟨rfl, ?_⟩
    (repeat' (first | (with_reducible assumption) | (with_reducible exact Gr.refl _) | (with_reducible refine Gr.alloc ?_ _ _) | (with_reducible refine Gr.drew ?_) | (with_reducible refine Gr.drewN ?_ _) | (with_reducible refine Gr.setCell ?_ ?_ _) | (with_reducible refine Gr.trans ?_ (by assumption)) | omega | (dsimp only; omega) | (simp; done) | (simp; omega)))
  · have h5' : (n == 0) = false := by simpa using h5
    by_cases h6 : a % 256 = 0
    · have h7' : 16777216 < a / 256 + (n + 256 - 1) / 256 := by omega
      clear h
      go_enter Try.func33, Try.ntmps33
      go_wp2
      go_returns
      refine ⟨rfl, ?_⟩
      (repeat' (first | (with_reducible assumption) | (with_reducible exact Gr.refl _) | (with_reducible refine Gr.alloc ?_ _ _) | (with_reducible refine Gr.drew ?_) | (with_reducible refine Gr.drewN ?_ _) | (with_reducible refine Gr.setCell ?_ ?_ _) | (with_reducible refine Gr.trans ?_ (by assumption)) | omega | (dsimp only; omega) | (simp; done) | (simp; omega)))
    · have h6' : (a % 256 == 0) = false := by simpa using h6
      clear h
      go_enter Try.func33, Try.ntmps33
      go_wp2
      go_returns
      refine ⟨rfl, ?_⟩
      (repeat' (first | (with_reducible assumption) | (with_reducible exact Gr.refl _) | (with_reducible refine Gr.alloc ?_ _ _) | (with_reducible refine Gr.drew ?_) | (with_reducible refine Gr.drewN ?_ _) | (with_reducible refine Gr.setCell ?_ ?_ _) | (with_reducible refine Gr.trans ?_ (by assumption)) | omega | (dsimp only; omega) | (simp; done) | (simp; omega)))

/-- May a number be there: the fault. -/
def MS.ask (S : MS) (a size need : Int) : Int :=
  if (size = 1 ∨ size = 2 ∨ size = 4) ∧ a % size = 0 then
    match S.pg (a / 256) with
    | none => 1
    | some p => if (bits .and .i64 p.perm need == need) = true then 0 else 2
  else 3
def MS.fnd (S : MS) (L : Lay) (a size need : Int) : Option Nat := if S.ask a size need = 0 then L.bk (a / 256) else none

section
variable {w : World} {mb : Nat} {F : Nat → Prop} {N : Nat} {S : MS} {L : Lay}
theorem cell_c (h : OwnL w mb F N S L) (a size need : Int) (ha : U4 a) :
    Calls Try.prog 30 #[.pointer (some ⟨mb, 0, none⟩), .int .u32 a, .int .i64 size, .int .i64 need] w fun e w' => e = .returned (.tuple #[pv (S.fnd L a size need), .int .i64 (S.ask a size need)]) ∧ w' = w := by
  have hc2 := h.c2
  have ha' := ha
  obtain ⟨a0, a1⟩ := ha
  by_cases hs : size = 1 ∨ size = 2 ∨ size = 4
  · by_cases hm : a % size = 0
    · have hl := h.pm.look (k := a / 256) ⟨by omega, by omega⟩
      cases hpg : S.pg (a / 256) with
      | none =>
        have hb := h.bnone hpg
        rw [hb] at hl
        have e1 : S.ask a size need = 1 := by simp [MS.ask, hs, hm, hpg]
        have e2 : S.fnd L a size need = none := by simp [MS.fnd, e1]
        rw [e1, e2]
        simp only [pv, Option.isSome] at hl ⊢
        clear e1 e2 hpg hb
        rcases hs with rfl | rfl | rfl
        all_goals
          go_enter Try.func30, Try.ntmps30
          go_wp2
          go_returns
          exact ⟨rfl, rfl⟩
      | some p =>
        obtain ⟨b, hb, hq, hF⟩ := h.pgb hpg
        rw [hb] at hl
        by_cases hy : (bits .and .i64 p.perm need == need) = true
        · have e1 : S.ask a size need = 0 := by simp only [MS.ask, hs, hm, hpg, hy]; simp
          have e2 : S.fnd L a size need = some b := by simp [MS.fnd, e1, hb]
          rw [e1, e2]
          simp only [pv, Option.isSome] at hl ⊢
          clear e1 e2 hpg hb
          rcases hs with rfl | rfl | rfl
          all_goals
            go_enter Try.func30, Try.ntmps30
            go_wp2_with fail
            refine (allows_c hq need).mono ?_
            rintro e w1 ⟨rfl, rfl⟩
            go_wp2
            go_returns
            exact ⟨rfl, rfl⟩
        · have e1 : S.ask a size need = 2 := by simp only [MS.ask, hs, hm, hpg, hy]; simp
          have e2 : S.fnd L a size need = none := by simp [MS.fnd, e1]
          rw [e1, e2]
          replace hy : (bits .and .i64 p.perm need == need) = false := by simpa using hy
          simp only [pv, Option.isSome] at hl ⊢
          clear e1 e2 hpg hb
          rcases hs with rfl | rfl | rfl
          all_goals
            go_enter Try.func30, Try.ntmps30
            go_wp2_with fail
            refine (allows_c hq need).mono ?_
            rintro e w1 ⟨rfl, rfl⟩
            go_wp2
            go_returns
            exact ⟨rfl, rfl⟩
    · have e1 : S.ask a size need = 3 := by simp [MS.ask, hm]
      have e2 : S.fnd L a size need = none := by simp [MS.fnd, e1]
      rw [e1, e2]
      clear e1 e2
      simp only [pv]
      rcases hs with rfl | rfl | rfl
      · omega
      all_goals
        go_enter Try.func30, Try.ntmps30
        go_wp2
        go_returns
        exact ⟨rfl, rfl⟩
  · have e1 : S.ask a size need = 3 := by simp [MS.ask, hs]
    have e2 : S.fnd L a size need = none := by simp [MS.fnd, e1]
    rw [e1, e2]
    clear e1 e2
    simp only [pv]
    have s1 : (size == 1) = false := by simp; omega
    have s2 : (size == 2) = false := by simp; omega
    have s4 : (size == 4) = false := by simp; omega
    go_enter Try.func30, Try.ntmps30
    go_wp2
    go_returns
    exact ⟨rfl, rfl⟩
end
end Go.Proofs.Ythicidkjhpnleaa
