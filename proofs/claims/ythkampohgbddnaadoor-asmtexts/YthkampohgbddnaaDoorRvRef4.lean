/- LAYER 5: the document's own answer: Name, low. -/
import Derived.Test.YthkampohgbddnaaDoorRvRefM
namespace Go.Proofs.YthkampohgbddnaaDoor
open Go.ChangeShapes Go.WideShapes Go.ChangeAt Go.RowKit

def Rv.nmC : Array Value := (Rv.nmT.map fun z => Value.string ⟨z.toArray⟩).toArray
theorem Rv.nmC_at {n : Nat} (h : n < 50) : Rv.nmC[n]? = some (.string (Rv.nmS n)) := by
  have : n < Rv.nmT.length := h
  simp [Rv.nmC, Rv.nmS, List.getD, this]
set_option maxRecDepth 100000 in
theorem rnames_c (w : World) :
    Calls Tryd.prog 42 #[] w fun e w' => e = .returned (.slice (some ⟨w.heap.size, 0, none⟩) 50 50) ∧ w' = w.alloc (.cells Rv.nmC 9) := by
  go_enter Tryd.func42, Tryd.ntmps42
  go_wp2_with fail
  go_ret
  exact ⟨rfl, rfl⟩
theorem rName_c (op : Int) (w : World) :
    Calls Tryd.prog 21 #[.int .i64 op] w fun e w' => e = .returned (.string (Rv.name op)) ∧ Gr w w' := by
  by_cases h : 1 ≤ op ∧ op ≤ 49
  · have hn : Rv.name op = Rv.nmS op.toNat := by unfold Rv.name; rw [if_pos h]
    have hx := Rv.nmC_at (n := op.toNat) (by omega)
    have hN := rnames_c
    rw [hn]
    generalize Rv.nmS op.toNat = s at *
    generalize Rv.nmC = C at *
    obtain ⟨c0, c1⟩ := h
    go_enter Tryd.func21, Tryd.ntmps21
    go_wp2_with fail
    refine (hN _).mono ?_
    rintro e w2 ⟨rfl, rfl⟩
    go_wp2_with fail
    go_ret
    exact ⟨rfl, by (repeat' (first | (with_reducible assumption) | (with_reducible exact Gr.refl _) | (with_reducible refine Gr.alloc ?_ _ _) | (with_reducible refine Gr.drew ?_) | (with_reducible refine Gr.drewN ?_ _) | (with_reducible refine Gr.setCell ?_ ?_ _) | (with_reducible refine Gr.trans ?_ (by assumption)) | omega | (dsimp only; omega) | (simp; done) | (simp; omega)))⟩
  · have hn : Rv.name op = ByteArray.empty := by unfold Rv.name; rw [if_neg h]
    rw [hn]
    obtain h | h : op < 1 ∨ 49 < op := by omega
    all_goals
      go_enter Tryd.func21, Tryd.ntmps21
      go_wp2_with fail
      go_ret
      exact ⟨rfl, by (repeat' (first | (with_reducible assumption) | (with_reducible exact Gr.refl _) | (with_reducible refine Gr.alloc ?_ _ _) | (with_reducible refine Gr.drew ?_) | (with_reducible refine Gr.drewN ?_ _) | (with_reducible refine Gr.setCell ?_ ?_ _) | (with_reducible refine Gr.trans ?_ (by assumption)) | omega | (dsimp only; omega) | (simp; done) | (simp; omega)))⟩
def Rv.lowb (a b s v : Int) : Bool := decide (a ≤ v ∧ v ≤ b ∧ v % s = 0)
theorem Rv.tmod0 (v s : Int) : (v.tmod s == 0) = decide (v % s = 0) := by
  by_cases h : v % s = 0
  · have : v.tmod s = 0 := Int.tmod_eq_zero_of_dvd (Int.dvd_of_emod_eq_zero h)
    simp [h, this]
  · have : v.tmod s ≠ 0 := fun e => h (Int.emod_eq_zero_of_dvd (Int.dvd_of_tmod_eq_zero e))
    simp [h, this]
theorem rlow_c (v a b s : Int) (hs : s = 1 ∨ s = 2) (w : World) :
    Calls Tryd.prog 41 #[.int .i32 v, .int .i32 a, .int .i32 b, .int .i32 s] w fun e w' => e = .returned (.bool (Rv.lowb a b s v)) ∧ w' = w := by
  have s0 := Rv.beqF (show s ≠ 0 by omega)
  by_cases c0 : a ≤ v
  · by_cases c1 : v ≤ b
    · have hr : Rv.lowb a b s v = (v.tmod s == 0) := by rw [Rv.tmod0]; unfold Rv.lowb; simp [c0, c1]
      rw [hr]
      go_enter Tryd.func41, Tryd.ntmps41
      go_wp2_with fail
      go_ret
      exact ⟨rfl, rfl⟩
    · have hr : Rv.lowb a b s v = false := by unfold Rv.lowb; simp [c1]
      rw [hr]
      go_enter Tryd.func41, Tryd.ntmps41
      go_wp2_with fail
      go_ret
      exact ⟨rfl, rfl⟩
  · have hr : Rv.lowb a b s v = false := by unfold Rv.lowb; simp [c0]
    rw [hr]
    go_enter Tryd.func41, Tryd.ntmps41
    go_wp2_with fail
    go_ret
    exact ⟨rfl, rfl⟩
end Go.Proofs.YthkampohgbddnaaDoor
