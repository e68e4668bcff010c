/- OPENING ARGUMENTS that are feeds, numbers, bytes. -/
import Derived.Test.YtldapnefhlmdiaaFee
import Derived.ChangeSlices
import Derived.Carry
import Derived.Deep.Slices
import Derived.Deep.Strs
namespace Go.Proofs.Ytldapnefhlmdiaa
open Go.ChangeShapes Go.WideShapes Go.ChangeAt Go.RowKit
open Go.ChangeMaps Go.Deep
set_option linter.unusedVariables false

theorem cells64 : Try.prog.cellsOf 3 = 1 := by kernel_rfl
theorem cells32 : Try.prog.cellsOf 40 = 1 := by kernel_rfl
theorem cells8 : Try.prog.cellsOf 5 = 1 := by kernel_rfl
theorem cellsT : Try.prog.cellsOf 9 = 1 := by kernel_rfl
theorem fldAt {fs : Array Field} {L : List (TypeId × Nat)} (h : fs.toList.map (fun f => (f.type, f.offset)) = L) (i : Nat) (t : TypeId) (o : Nat) (hi : L[i]? = some (t, o)) : ∃ f : Field, fs[i]? = some f ∧ f.type = t ∧ f.offset = o := by
  rw [← h, List.getElem?_map] at hi
  obtain ⟨f, h1, h2⟩ := Option.map_eq_some_iff.1 hi
  simp only [Prod.mk.injEq] at h2
  exact ⟨f, by simpa using h1, h2.1, h2.2⟩
section
variable {H : Type} {enc : TypeId × Value → H} {W : World}
theorem open_b8 {fuel : Nat} {cs : List Value} {x : DataW H × List MemPlace} (hf : DataW.trod enc Try.prog W 0 (fun _ => true) true fuel 24 cs = some x) (hlt : ∀ y ∈ x.2, y.block < W.heap.size) : ∃ v l, cs = [v] ∧ Rd8 W v l ∧ B8s l := by
  rcases open_ints Try.underlying24 Try.underlying5 cells8 hf with ⟨hcs, hx⟩ | ⟨a', len', cap', zs, hcs, _, hl, hm, hz, hx, hcell, hwz⟩
  · exact ⟨_, [], hcs, RdR.nil _ _, fun x hx => by simp at hx⟩
  · simp only [if_true] at hz
    have hb : ∀ i, B8 (zs.getD i 0) := fun i => by
      by_cases hi : i < zs.length
      · have hm : zs.getD i 0 ∈ zs := by simp [List.getD, List.getElem?_eq_getElem hi]
        have := bounds_u8 (hwz _ hm)
        exact ⟨by omega, by omega⟩
      · simp [List.getD, List.getElem?_eq_none (Nat.le_of_not_lt hi)]; exact ⟨by decide, by decide⟩
    refine ⟨_, (List.range len').map fun i => zs.getD i 0, hcs, ⟨some a', cap', by simp, by simpa using hl, by unfold maxLen at hm; omega, by simp [ints8], fun h0 => ?_⟩, fun x hx => ?_⟩
    · simp at h0
      obtain ⟨b, off, spot⟩ := a'
      have hspot : spot = none := by simpa [Addr.add] using World.cell?_spot (hcell 0 (by omega))
      subst hspot
      subst hx
      refine ⟨b, off, rfl, hlt (.cell b off) (MemPlace.mem_row.2 ⟨0, by omega, by simp⟩), fun j u hu => ?_⟩
      simp only [ints8, List.map_map, List.getElem?_map, Option.map_eq_some_iff] at hu
      obtain ⟨k, hk, rfl⟩ := hu
      have hkl := (List.getElem?_eq_some_iff.1 hk).1
      simp at hkl
      rw [List.getElem?_range hkl] at hk
      simp at hk
      subst hk
      have := hcell j (by omega)
      rw [Addr.add_lit] at this
      exact this
    · simp at hx
      obtain ⟨i, _, rfl⟩ := hx
      exact hb i
theorem row_of {α : Type} (f : α → List Value) (sz : Nat) (hsz : ∀ x, (f x).length = sz) (F : Nat → α) (b o n : Nat) (h : ∀ i, i < n → ∀ j u, (f (F i))[j]? = some u → W.cell? ⟨b, o + i * sz + j, none⟩ = some u) :
    ∀ j u, (((List.range n).map F).flatMap f)[j]? = some u → W.cell? ⟨b, o + j, none⟩ = some u := fun j u hu => by
  have hl : j < n * sz := by
    have := (List.getElem?_eq_some_iff.1 hu).1
    rw [chunk_len f sz hsz] at this
    simpa using this
  have hs0 : 0 < sz := Nat.pos_of_ne_zero (fun h0 => by rw [h0] at hl; simp at hl)
  have hi : j / sz < n := Nat.div_lt_of_lt_mul (by rw [Nat.mul_comm]; exact hl)
  have hj : j % sz < sz := Nat.mod_lt _ hs0
  have e : j = j / sz * sz + j % sz := by rw [Nat.mul_comm]; exact (Nat.div_add_mod j sz).symm
  have hg : ((List.range n).map F)[j / sz]? = some (F (j / sz)) := by rw [List.getElem?_map, List.getElem?_range hi]; rfl
  rw [e, chunk f sz hsz _ _ (F (j / sz)) _ hg hj] at hu
  have := h (j / sz) hi (j % sz) u hu
  rwa [Nat.add_assoc, ← e] at this
/-- A slice of one-cell elements, from its cells. -/
theorem rd_of {α : Type} (F : α → Value) (g : Nat → α) (a' : Addr) (len cap : Nat) (hl : len ≤ cap) (hm : cap ≤ maxLen) (hcell : ∀ i, i < len → W.cell? (a'.add i) = some (F (g i))) (hlt : 0 < len → a'.block < W.heap.size) :
    RdR 1 W (.slice (some a') len cap) ((List.range len).map g).length (((List.range len).map g).map F) := by
  refine ⟨some a', cap, by simp, by simpa using hl, by unfold maxLen at hm; omega, by simp, fun h0 => ?_⟩
  simp at h0
  have hb := hlt h0
  obtain ⟨b, off, spot⟩ := a'
  have hspot : spot = none := by simpa [Addr.add] using World.cell?_spot (hcell 0 (by omega))
  subst hspot
  refine ⟨b, off, rfl, hb, fun j u hu => ?_⟩
  simp only [List.map_map, List.getElem?_map, Option.map_eq_some_iff] at hu
  obtain ⟨k, hk, rfl⟩ := hu
  have hkl := (List.getElem?_eq_some_iff.1 hk).1
  simp at hkl
  rw [List.getElem?_range hkl] at hk
  simp at hk
  subst hk
  have := hcell j (by omega)
  rw [Addr.add_lit] at this
  exact this
theorem open_kz {t e : TypeId} {kd : IntKind} (ht : Try.prog.underlying t = some (.slice e)) (he : Try.prog.underlying e = some (.int kd)) (hc : Try.prog.cellsOf e = 1) {fuel : Nat} {cs : List Value} {x : DataW H × List MemPlace} (hf : DataW.trod enc Try.prog W 0 (fun _ => true) true fuel t cs = some x) (hlt : ∀ y ∈ x.2, y.block < W.heap.size) :
    ∃ v, ∃ l : List Int, cs = [v] ∧ RdR 1 W v l.length (l.map (Value.int kd)) ∧ ∀ n ∈ l, (Lit.int kd n).wf = true := by
  rcases open_ints ht he hc hf with ⟨hcs, hx⟩ | ⟨a', len', cap', zs, hcs, _, hl, hm, hz, hx, hcell, hwz⟩
  · exact ⟨_, [], hcs, RdR.nil _ _, fun x hx => by simp at hx⟩
  · simp only [if_true] at hz
    subst hx
    refine ⟨_, (List.range len').map fun i => zs.getD i 0, hcs, rd_of (Value.int kd) (fun i => zs.getD i 0) a' len' cap' hl hm (fun i hi => hcell i (by omega)) (fun h0 => hlt (.cell a'.block a'.off) (MemPlace.mem_row.2 ⟨0, by omega, by simp⟩)), fun n hn => ?_⟩
    simp only [List.mem_map, List.mem_range] at hn
    obtain ⟨i, hi, rfl⟩ := hn
    have hi2 : i < zs.length := by omega
    exact hwz _ (by simp [List.getD, List.getElem?_eq_getElem hi2])
def NsArg (W : World) (v : Value) : Prop := ∃ l, NsS W v l ∧ ∀ n ∈ l, -9223372036854775808 ≤ n ∧ n ≤ 9223372036854775807
theorem open_ns {base : Nat} {v : Value} {d : DataW H} {p : List MemPlace} (hv : Value.okWide Try.prog W .any base 25 v) (h : DataW.Trod enc Try.prog W 0 (fun _ => true) true 25 v d p) (hlt : ∀ x ∈ p, x.block < W.heap.size) : NsArg W v := by
  obtain ⟨a, len, cap, rfl⟩ := okWide_slice Try.underlying25 hv
  obtain ⟨fuel, hf⟩ := h
  obtain ⟨v', l, hc, h1, h2⟩ := open_kz Try.underlying25 Try.underlying3 cells64 hf hlt
  simp [Value.cells] at hc
  subst hc
  exact ⟨l, h1, fun n hn => by have := bounds_i64 (h2 n hn); omega⟩
def B8Arg (W : World) (v : Value) : Prop := ∃ l, Rd8 W v l ∧ B8s l
theorem open_bs {base : Nat} {v : Value} {d : DataW H} {p : List MemPlace} (hv : Value.okWide Try.prog W .any base 24 v) (h : DataW.Trod enc Try.prog W 0 (fun _ => true) true 24 v d p) (hlt : ∀ x ∈ p, x.block < W.heap.size) : B8Arg W v := by
  obtain ⟨a, len, cap, rfl⟩ := okWide_slice Try.underlying24 hv
  obtain ⟨fuel, hf⟩ := h
  obtain ⟨v', l, hc, h1, h2⟩ := open_b8 hf hlt
  simp [Value.cells] at hc
  subst hc
  exact ⟨l, h1, h2⟩
end
end Go.Proofs.Ytldapnefhlmdiaa
