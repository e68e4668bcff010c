/- OPENING ARGUMENTS that are policies, sources. -/
import Derived.Test.YtkffkmiegmaoiaaPolW3
import Derived.ChangeSlices
import Derived.Carry
import Derived.Deep.Slices
namespace Go.Proofs.Ytkffkmiegmaoiaa
open Go.ChangeShapes Go.WideShapes Go.ChangeAt Go.RowKit
open Go.ChangeMaps Go.Deep
set_option linter.unusedVariables false

theorem cellsSrc : Try.prog.cellsOf 35 = 4 := by kernel_rfl
theorem cellsSnk : Try.prog.cellsOf 37 = 3 := by kernel_rfl
theorem cellsPol : Try.prog.cellsOf 26 = 3 := by kernel_rfl
theorem cells64 : Try.prog.cellsOf 3 = 1 := by kernel_rfl
theorem cells32 : Try.prog.cellsOf 33 = 1 := by kernel_rfl
theorem cells8 : Try.prog.cellsOf 5 = 1 := by kernel_rfl
theorem cellsB : Try.prog.cellsOf 4 = 1 := by kernel_rfl
theorem cellsS1 : Try.prog.cellsOf 23 = 1 := by kernel_rfl
theorem cellsS2 : Try.prog.cellsOf 24 = 1 := by kernel_rfl
theorem srcFs : ∃ fs, Try.prog.underlying 35 = some (.struct fs) ∧ fs.toList.map (fun f => (f.type, f.offset)) = [(3, 0), (33, 1), (33, 2), (5, 3)] := ⟨_, Try.underlying35, rfl⟩
theorem snkFs : ∃ fs, Try.prog.underlying 37 = some (.struct fs) ∧ fs.toList.map (fun f => (f.type, f.offset)) = [(3, 0), (3, 1), (5, 2)] := ⟨_, Try.underlying37, rfl⟩
theorem polFs : ∃ fs, Try.prog.underlying 26 = some (.struct fs) ∧ fs.toList.map (fun f => (f.type, f.offset)) = [(4, 0), (23, 1), (24, 2)] := ⟨_, Try.underlying26, rfl⟩
theorem fldAt {fs : Array Field} {L : List (TypeId × Nat)} (h : fs.toList.map (fun f => (f.type, f.offset)) = L) (i : Nat) (t : TypeId) (o : Nat) (hi : L[i]? = some (t, o)) : ∃ f : Field, fs[i]? = some f ∧ f.type = t ∧ f.offset = o := by
  rw [← h, List.getElem?_map] at hi
  obtain ⟨f, h1, h2⟩ := Option.map_eq_some_iff.1 hi
  simp only [Prod.mk.injEq] at h2
  exact ⟨f, by simpa using h1, h2.1, h2.2⟩
section
variable {H : Type} {enc : TypeId × Value → H} {W : World}
set_option maxRecDepth 100000 in
theorem src_cells {base : Nat} {sp : Nat → Bool} {held : Bool} {fuel : Nat} {cs : List Value} {x : DataW H × List MemPlace} (h : DataW.trod enc Try.prog W base sp held fuel 35 cs = some x) : ∃ s : Pol.Src, Pol.SWf s ∧ cs = Pol.srcC s := by
  obtain ⟨fs, hfs, hfm⟩ := srcFs
  obtain ⟨xs, k, hk, hxy, hl, hxl, hff⟩ := DataW.trod_struct hfs h
  rw [cellsSrc] at hl
  match cs, hl, hff with
  | [v0, v1, v2, v3], _, hff =>
    have fsz : fs.size = 4 := by have := congrArg List.length hfm; simpa using this
    rw [fsz] at hxl
    match xs, hxl, hxy, hff with
    | [y0, y1, y2, y3], _, hxy, hff =>
      obtain ⟨f0, e0, t0, o0⟩ := fldAt hfm 0 _ _ rfl
      obtain ⟨f1, e1, t1, o1⟩ := fldAt hfm 1 _ _ rfl
      obtain ⟨f2, e2, t2, o2⟩ := fldAt hfm 2 _ _ rfl
      obtain ⟨f3, e3, t3, o3⟩ := fldAt hfm 3 _ _ rfl
      have g0 := hff 0 f0 e0
      have g1 := hff 1 f1 e1
      have g2 := hff 2 f2 e2
      have g3 := hff 3 f3 e3
      rw [t0, o0, cells64] at g0
      rw [t1, o1, cells32] at g1
      rw [t2, o2, cells32] at g2
      rw [t3, o3, cells8] at g3
      simp at g0 g1 g2 g3
      obtain ⟨x0, q0, _, w0⟩ := DataW.trod_int Try.underlying3 g0
      obtain ⟨x1, q1, _, w1⟩ := DataW.trod_int Try.underlying33 g1
      obtain ⟨x2, q2, _, w2⟩ := DataW.trod_int Try.underlying33 g2
      obtain ⟨x3, q3, _, w3⟩ := DataW.trod_int Try.underlying5 g3
      simp at q0 q1 q2 q3
      subst q0 q1 q2 q3
      have k0 := bounds_i64 w0; have k1 := bounds_u32 w1; have k2 := bounds_u32 w2; have k3 := bounds_u8 w3
      exact ⟨⟨x0, x1, x2, x3⟩, by constructor <;> dsimp only <;> omega, rfl⟩
set_option maxRecDepth 100000 in
theorem snk_cells {base : Nat} {sp : Nat → Bool} {held : Bool} {fuel : Nat} {cs : List Value} {x : DataW H × List MemPlace} (h : DataW.trod enc Try.prog W base sp held fuel 37 cs = some x) : ∃ s : Pol.Snk, Pol.KWf s ∧ cs = Pol.snkC s := by
  obtain ⟨fs, hfs, hfm⟩ := snkFs
  obtain ⟨xs, k, hk, hxy, hl, hxl, hff⟩ := DataW.trod_struct hfs h
  rw [cellsSnk] at hl
  match cs, hl, hff with
  | [v0, v1, v2], _, hff =>
    have fsz : fs.size = 3 := by have := congrArg List.length hfm; simpa using this
    rw [fsz] at hxl
    match xs, hxl, hxy, hff with
    | [y0, y1, y2], _, hxy, hff =>
      obtain ⟨f0, e0, t0, o0⟩ := fldAt hfm 0 _ _ rfl
      obtain ⟨f1, e1, t1, o1⟩ := fldAt hfm 1 _ _ rfl
      obtain ⟨f2, e2, t2, o2⟩ := fldAt hfm 2 _ _ rfl
      have g0 := hff 0 f0 e0
      have g1 := hff 1 f1 e1
      have g2 := hff 2 f2 e2
      rw [t0, o0, cells64] at g0
      rw [t1, o1, cells64] at g1
      rw [t2, o2, cells8] at g2
      simp at g0 g1 g2
      obtain ⟨x0, q0, _, w0⟩ := DataW.trod_int Try.underlying3 g0
      obtain ⟨x1, q1, _, w1⟩ := DataW.trod_int Try.underlying3 g1
      obtain ⟨x2, q2, _, w2⟩ := DataW.trod_int Try.underlying5 g2
      simp at q0 q1 q2
      subst q0 q1 q2
      have k0 := bounds_i64 w0; have k1 := bounds_i64 w1; have k2 := bounds_u8 w2
      exact ⟨⟨x0, x1, x2⟩, by constructor <;> dsimp only <;> omega, rfl⟩
theorem row_of {α : Type} (f : α → List Value) (sz : Nat) (hsz : ∀ x, (f x).length = sz) (F : Nat → α) (b o n : Nat) (h : ∀ i, i < n → ∀ j u, (f (F i))[j]? = some u → W.cell? ⟨b, o + i * sz + j, none⟩ = some u) :
    ∀ j u, (((List.range n).map F).flatMap f)[j]? = some u → W.cell? ⟨b, o + j, none⟩ = some u := fun j u hu => by
  have hl : j < n * sz := by
    have := (List.getElem?_eq_some_iff.1 hu).1
    rw [chunk_len f sz hsz] at this
    simpa using this
  have hs0 : 0 < sz := Nat.pos_of_ne_zero (fun h0 => by rw [h0] at hl; simp at hl)
  have hi : j / sz < n := Nat.div_lt_of_lt_mul (by rw [Nat.mul_comm]; exact hl)
  have hj : j % sz < sz := Nat.mod_lt _ hs0
  have e : j = j / sz * sz + j % sz := by rw [Nat.mul_comm]; exact (Nat.div_add_mod j sz).symm
  have hg : ((List.range n).map F)[j / sz]? = some (F (j / sz)) := by rw [List.getElem?_map, List.getElem?_range hi]; rfl
  rw [e, chunk f sz hsz _ _ (F (j / sz)) _ hg hj] at hu
  have := h (j / sz) hi (j % sz) u hu
  rwa [Nat.add_assoc, ← e] at this
set_option maxRecDepth 100000 in
theorem open_srcs {fuel : Nat} {cs : List Value} {x : DataW H × List MemPlace} (hf : DataW.trod enc Try.prog W 0 (fun _ => true) true fuel 23 cs = some x) (hlt : ∀ y ∈ x.2, y.block < W.heap.size) : ∃ v l, cs = [v] ∧ SrcS W v l := by
  rcases open_slice Try.underlying23 hf with ⟨hcs, hx⟩ | ⟨a', len', cap', m, n, D, Pl, hcs, _, hl, hm, hmm, hx, hel⟩
  · exact ⟨_, [], hcs, SrcS.nil _⟩
  · simp only [if_true] at hmm
    subst hx
    have each : ∀ i, ∃ s : Pol.Src, i < len' → Pol.SWf s ∧ W.cells? 0 (a'.add (i * 4)) 4 = some (Pol.srcC s) := fun i => by
      by_cases hi : i < len'
      · obtain ⟨cs', h1, h2⟩ := hel i (by omega)
        rw [cellsSrc] at h1
        obtain ⟨s, hs, rfl⟩ := src_cells h2
        exact ⟨s, fun _ => ⟨hs, h1⟩⟩
      · exact ⟨⟨0, 0, 0, 0⟩, fun h => absurd h hi⟩
    obtain ⟨F, hF⟩ := Classical.axiomOfChoice each
    obtain ⟨b, off, spot⟩ := a'
    refine ⟨_, (List.range len').map F, hcs, ⟨⟨some ⟨b, off, spot⟩, cap', by simp, by simpa using hl, by unfold maxLen at hm; omega, by rw [chunk_len Pol.srcC 4 Pol.srcC_len], fun h0 => ?_⟩, fun s hs => ?_⟩⟩
    · simp at h0
      have hcell : ∀ i, i < len' → ∀ j u, (Pol.srcC (F i))[j]? = some u → W.cell? (((⟨b, off, spot⟩ : Addr).add (i * 4)).add j) = some u := fun i hi j u hu => by
        obtain ⟨_, hlen, hc⟩ := World.cells?_some (hF i hi).2
        have hj := (List.getElem?_eq_some_iff.1 hu)
        have := hc j (by have := hj.1; rw [Pol.srcC_len] at this; omega)
        have h9 : W.cell? (((⟨b, off, spot⟩ : Addr).add (i * 4)).add j) = (Pol.srcC (F i))[j]? := by simpa using this
        exact h9.trans hu
      have hspot : spot = none := by
        have := hcell 0 h0 0 _ rfl
        simpa [Addr.add] using World.cell?_spot this
      subst hspot
      refine ⟨b, off, rfl, hlt (.cell b off) (List.mem_append.2 (.inl (MemPlace.mem_row.2 ⟨0, by rw [cellsSrc]; omega, by simp⟩))), row_of Pol.srcC 4 Pol.srcC_len F b off len' (fun i hi j u hu => ?_)⟩
      have := hcell i hi j u hu
      simpa only [Addr.add_lit] using this
    · simp at hs
      obtain ⟨i, hi, rfl⟩ := hs
      exact (hF i hi).1
set_option maxRecDepth 100000 in
theorem open_snks {fuel : Nat} {cs : List Value} {x : DataW H × List MemPlace} (hf : DataW.trod enc Try.prog W 0 (fun _ => true) true fuel 24 cs = some x) (hlt : ∀ y ∈ x.2, y.block < W.heap.size) : ∃ v l, cs = [v] ∧ SnkS W v l := by
  rcases open_slice Try.underlying24 hf with ⟨hcs, hx⟩ | ⟨a', len', cap', m, n, D, Pl, hcs, _, hl, hm, hmm, hx, hel⟩
  · exact ⟨_, [], hcs, SnkS.nil _⟩
  · simp only [if_true] at hmm
    subst hx
    have each : ∀ i, ∃ s : Pol.Snk, i < len' → Pol.KWf s ∧ W.cells? 0 (a'.add (i * 3)) 3 = some (Pol.snkC s) := fun i => by
      by_cases hi : i < len'
      · obtain ⟨cs', h1, h2⟩ := hel i (by omega)
        rw [cellsSnk] at h1
        obtain ⟨s, hs, rfl⟩ := snk_cells h2
        exact ⟨s, fun _ => ⟨hs, h1⟩⟩
      · exact ⟨⟨0, 0, 0⟩, fun h => absurd h hi⟩
    obtain ⟨F, hF⟩ := Classical.axiomOfChoice each
    obtain ⟨b, off, spot⟩ := a'
    refine ⟨_, (List.range len').map F, hcs, ⟨⟨some ⟨b, off, spot⟩, cap', by simp, by simpa using hl, by unfold maxLen at hm; omega, by rw [chunk_len Pol.snkC 3 Pol.snkC_len], fun h0 => ?_⟩, fun s hs => ?_⟩⟩
    · simp at h0
      have hcell : ∀ i, i < len' → ∀ j u, (Pol.snkC (F i))[j]? = some u → W.cell? (((⟨b, off, spot⟩ : Addr).add (i * 3)).add j) = some u := fun i hi j u hu => by
        obtain ⟨_, hlen, hc⟩ := World.cells?_some (hF i hi).2
        have hj := (List.getElem?_eq_some_iff.1 hu)
        have := hc j (by have := hj.1; rw [Pol.snkC_len] at this; omega)
        have h9 : W.cell? (((⟨b, off, spot⟩ : Addr).add (i * 3)).add j) = (Pol.snkC (F i))[j]? := by simpa using this
        exact h9.trans hu
      have hspot : spot = none := by
        have := hcell 0 h0 0 _ rfl
        simpa [Addr.add] using World.cell?_spot this
      subst hspot
      refine ⟨b, off, rfl, hlt (.cell b off) (List.mem_append.2 (.inl (MemPlace.mem_row.2 ⟨0, by rw [cellsSnk]; omega, by simp⟩))), row_of Pol.snkC 3 Pol.snkC_len F b off len' (fun i hi j u hu => ?_)⟩
      have := hcell i hi j u hu
      simpa only [Addr.add_lit] using this
    · simp at hs
      obtain ⟨i, hi, rfl⟩ := hs
      exact (hF i hi).1
def PolArg (W : World) (v : Value) : Prop := ∃ p, IsPol W v p
set_option maxRecDepth 100000 in
theorem open_pol {base : Nat} {v : Value} {d : DataW H} {p : List MemPlace} (hv : Value.okWide Try.prog W .any base 26 v) (h : DataW.Trod enc Try.prog W 0 (fun _ => true) true 26 v d p) (hlt : ∀ y ∈ p, y.block < W.heap.size) : PolArg W v := by
  obtain ⟨cs, rfl, hsz, _⟩ : ∃ cs, v = .agg cs ∧ cs.size = Try.prog.cellsOf 26 ∧ Row.okWide Try.prog W .any base 26 cs := by
    simpa [Value.okWide, Try.underlying26] using hv
  rw [cellsPol] at hsz
  obtain ⟨l⟩ := cs
  obtain ⟨fuel, hf⟩ := h
  obtain ⟨fs, hfs, hfm⟩ := polFs
  obtain ⟨xs, k, hk, hxy, hl, hxl, hff⟩ := DataW.trod_struct hfs hf
  have fsz : fs.size = 3 := by have := congrArg List.length hfm; simpa using this
  rw [fsz] at hxl
  match l, hsz, hff with
  | [v0, v1, v2], _, hff =>
    match xs, hxl, hxy, hff with
    | [y0, y1, y2], _, hxy, hff =>
      obtain ⟨f0, e0, t0, o0⟩ := fldAt hfm 0 _ _ rfl
      obtain ⟨f1, e1, t1, o1⟩ := fldAt hfm 1 _ _ rfl
      obtain ⟨f2, e2, t2, o2⟩ := fldAt hfm 2 _ _ rfl
      have g0 := hff 0 f0 e0
      have g1 := hff 1 f1 e1
      have g2 := hff 2 f2 e2
      rw [t0, o0, cellsB] at g0
      rw [t1, o1, cellsS1] at g1
      rw [t2, o2, cellsS2] at g2
      simp [Value.cells] at g0 g1 g2
      simp only [Prod.mk.injEq] at hxy
      obtain ⟨rfl, rfl⟩ := hxy
      obtain ⟨bb, q0, _⟩ := DataW.trod_bool Try.underlying4 g0
      simp at q0
      subst q0
      obtain ⟨u1, l1, hu1, hS⟩ := open_srcs g1 (fun y hy => hlt y (by simp [hy]))
      obtain ⟨u2, l2, hu2, hK⟩ := open_snks g2 (fun y hy => hlt y (by simp [hy]))
      simp at hu1 hu2
      subst hu1 hu2
      exact ⟨⟨bb, l1, l2⟩, _, _, rfl, hS, hK⟩
def SrcArg (W : World) (v : Value) : Prop := ∃ s, v = Pol.srcV s ∧ Pol.SWf s
set_option maxRecDepth 100000 in
theorem open_src {base : Nat} {v : Value} {d : DataW H} {p : List MemPlace} (hv : Value.okWide Try.prog W .any base 35 v) (h : DataW.Trod enc Try.prog W 0 (fun _ => true) true 35 v d p) (hlt : ∀ y ∈ p, y.block < W.heap.size) : SrcArg W v := by
  obtain ⟨cs, rfl, hsz, _⟩ : ∃ cs, v = .agg cs ∧ cs.size = Try.prog.cellsOf 35 ∧ Row.okWide Try.prog W .any base 35 cs := by
    simpa [Value.okWide, Try.underlying35] using hv
  obtain ⟨l⟩ := cs
  obtain ⟨fuel, hf⟩ := h
  obtain ⟨s, hs, he⟩ := src_cells hf
  simp [Value.cells] at he
  subst he
  exact ⟨s, rfl, hs⟩
end
end Go.Proofs.Ytkffkmiegmaoiaa
