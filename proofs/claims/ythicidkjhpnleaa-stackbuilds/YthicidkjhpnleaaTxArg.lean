/- OPENING ARGUMENTS that are slices of texts. -/
import Derived.Test.YthicidkjhpnleaaFee
import Derived.ChangeSlices
import Derived.Carry
import Derived.Deep.Slices
import Derived.Deep.Strs
namespace Go.Proofs.Ythicidkjhpnleaa
open Go.ChangeShapes Go.WideShapes Go.ChangeAt Go.RowKit
open Go.ChangeMaps Go.Deep
set_option linter.unusedVariables false

theorem cellsT : Try.prog.cellsOf 9 = 1 := by kernel_rfl
section
variable {H : Type} {enc : TypeId × Value → H} {W : World}
/-- A slice of one-cell elements, from its cells. -/
theorem rd_of {α : Type} (F : α → Value) (g : Nat → α) (a' : Addr) (len cap : Nat) (hl : len ≤ cap) (hm : cap ≤ maxLen) (hcell : ∀ i, i < len → W.cell? (a'.add i) = some (F (g i))) (hlt : 0 < len → a'.block < W.heap.size) :
    RdR 1 W (.slice (some a') len cap) ((List.range len).map g).length (((List.range len).map g).map F) := by
  refine ⟨some a', cap, by simp, by simpa using hl, by unfold maxLen at hm; omega, by simp, fun h0 => ?_⟩
  simp at h0
  have hb := hlt h0
  obtain ⟨b, off, spot⟩ := a'
  have hspot : spot = none := by simpa [Addr.add] using World.cell?_spot (hcell 0 (by omega))
  subst hspot
  refine ⟨b, off, rfl, hb, fun j u hu => ?_⟩
  simp only [List.map_map, List.getElem?_map, Option.map_eq_some_iff] at hu
  obtain ⟨k, hk, rfl⟩ := hu
  have hkl := (List.getElem?_eq_some_iff.1 hk).1
  simp at hkl
  rw [List.getElem?_range hkl] at hk
  simp at hk
  subst hk
  have := hcell j (by omega)
  rw [Addr.add_lit] at this
  exact this
theorem open_txt {fuel : Nat} {cs : List Value} {x : DataW H × List MemPlace} (hf : DataW.trod enc Try.prog W 0 (fun _ => true) true fuel 29 cs = some x) (hlt : ∀ y ∈ x.2, y.block < W.heap.size) : ∃ v l, cs = [v] ∧ TxS W v l := by
  rcases open_strs Try.underlying29 Try.underlying9 cellsT hf with ⟨hcs, hx⟩ | ⟨a', len', cap', m, Sx, hcs, _, hl, hm, hmm, hx, hcell⟩
  · exact ⟨_, [], hcs, RdR.nil _ _⟩
  · simp only [if_true] at hmm
    subst hx
    exact ⟨_, (List.range len').map Sx, hcs, rd_of Value.string Sx a' len' cap' hl hm (fun i hi => (hcell i (by omega)).1) (fun h0 => hlt (.cell a'.block a'.off) (MemPlace.mem_row.2 ⟨0, by omega, by simp⟩))⟩
def TxArg (W : World) (v : Value) : Prop := ∃ l, TxS W v l
theorem open_tx {base : Nat} {v : Value} {d : DataW H} {p : List MemPlace} (hv : Value.okWide Try.prog W .any base 29 v) (h : DataW.Trod enc Try.prog W 0 (fun _ => true) true 29 v d p) (hlt : ∀ x ∈ p, x.block < W.heap.size) : TxArg W v := by
  obtain ⟨a, len, cap, rfl⟩ := okWide_slice Try.underlying29 hv
  obtain ⟨fuel, hf⟩ := h
  obtain ⟨v', l, hc, h1⟩ := open_txt hf hlt
  simp [Value.cells] at hc
  subst hc
  exact ⟨l, h1⟩
end
end Go.Proofs.Ythicidkjhpnleaa
