/- OPENING ARGUMENTS that are slices of ints. -/
import Derived.Test.YthkampohgbddnaaDoorAsmB
import Derived.ChangeSlices
import Derived.Carry
namespace Go.Proofs.YthkampohgbddnaaDoor
open Go.ChangeShapes Go.WideShapes Go.ChangeAt Go.RowKit
open Go.ChangeMaps
set_option linter.unusedVariables false

/-- A slice of ints that came in. -/
def NArg (W : World) (v : Value) (n : Nat) (xs : Nat → Int) : Prop :=
  ∃ q cap, v = .slice q n cap ∧ n ≤ cap ∧ cap ≤ 9223372036854775807 ∧ (∀ i, -9223372036854775808 ≤ xs i ∧ xs i ≤ 9223372036854775807) ∧ (0 < n → ∃ b o, q = some ⟨b, o, none⟩ ∧ b < W.heap.size ∧ ∀ i, i < n → W.cell? ⟨b, o + i, none⟩ = some (.int .i64 (xs i)))
def NArgs (W : World) (v : Value) : Prop := ∃ n xs, NArg W v n xs
set_option maxRecDepth 100000 in
theorem open_nints {H : Type} {enc : TypeId × Value → H} {W : World} {base : Nat} {v : Value} {d : DataW H} {p : List MemPlace}
    (hv : Value.okWide Tryd.prog W .any base 43 v) (h : DataW.Trod enc Tryd.prog W 0 (fun _ => true) true 43 v d p)
    (hlt : ∀ x ∈ p, x.block < W.heap.size) : NArgs W v := by
  have hc : Tryd.prog.cellsOf 3 = 1 := by kernel_rfl
  obtain ⟨a, len, cap, rfl⟩ := okWide_slice Tryd.underlying43 hv
  obtain ⟨fuel, hf⟩ := h
  rcases open_ints Tryd.underlying43 Tryd.underlying3 hc hf with ⟨hcs, hx⟩ | ⟨a', len', cap', zs, hcs, _, hl, hm, hz, hx, hcell, hwz⟩
  · simp [Value.cells] at hcs
    obtain ⟨rfl, rfl, rfl⟩ := hcs
    exact ⟨0, fun _ => 0, none, 0, rfl, Nat.le_refl _, by omega, fun _ => by simp, fun h => by omega⟩
  · simp [Value.cells] at hcs
    obtain ⟨rfl, rfl, rfl⟩ := hcs
    simp only [Prod.mk.injEq] at hx
    obtain ⟨rfl, rfl⟩ := hx
    simp only [if_true] at hz
    refine ⟨len, fun i => zs.getD i 0, some a', cap, rfl, hl, by unfold maxLen at hm; omega, fun i => ?_, fun h0 => ?_⟩
    · by_cases hi : i < zs.length
      · have hm : zs.getD i 0 ∈ zs := by simp [List.getD, List.getElem?_eq_getElem hi]
        have := bounds_i64 (hwz _ hm)
        show -9223372036854775808 ≤ zs.getD i 0 ∧ zs.getD i 0 ≤ 9223372036854775807
        omega
      · simp [List.getD, List.getElem?_eq_none (Nat.le_of_not_lt hi)]
    · obtain ⟨b, off, spot⟩ := a'
      have hspot : spot = none := by simpa [Addr.add] using World.cell?_spot (hcell 0 (by omega))
      subst hspot
      refine ⟨b, off, rfl, hlt (.cell b off) (MemPlace.mem_row.2 ⟨0, by omega, by simp⟩), fun i hi => ?_⟩
      have := hcell i (by omega)
      rwa [Addr.add_lit] at this
end Go.Proofs.YthkampohgbddnaaDoor
