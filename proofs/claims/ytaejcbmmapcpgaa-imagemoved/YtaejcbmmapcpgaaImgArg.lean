/- OPENING ARGUMENTS that are images, bytes. -/
import Derived.Test.YtaejcbmmapcpgaaImgW1
import Derived.ChangeSlices
import Derived.Carry
import Derived.Deep.Slices
namespace Go.Proofs.Ytaejcbmmapcpgaa
open Go.ChangeShapes Go.WideShapes Go.ChangeAt Go.RowKit
open Go.ChangeMaps Go.Deep
set_option linter.unusedVariables false

theorem cellsSeg : Try.prog.cellsOf 30 = 4 := by kernel_rfl
theorem cellsImg : Try.prog.cellsOf 26 = 2 := by kernel_rfl
theorem cells64 : Try.prog.cellsOf 3 = 1 := by kernel_rfl
theorem cells32 : Try.prog.cellsOf 23 = 1 := by kernel_rfl
theorem cells8 : Try.prog.cellsOf 5 = 1 := by kernel_rfl
theorem cellsS8 : Try.prog.cellsOf 28 = 1 := by kernel_rfl
theorem cellsSS : Try.prog.cellsOf 24 = 1 := by kernel_rfl
theorem segFs : ∃ fs, Try.prog.underlying 30 = some (.struct fs) ∧ fs.toList.map (fun f => (f.type, f.offset)) = [(23, 0), (23, 1), (3, 2), (28, 3)] := ⟨_, Try.underlying30, rfl⟩
theorem imgFs : ∃ fs, Try.prog.underlying 26 = some (.struct fs) ∧ fs.toList.map (fun f => (f.type, f.offset)) = [(23, 0), (24, 1)] := ⟨_, Try.underlying26, rfl⟩
theorem fldAt {fs : Array Field} {L : List (TypeId × Nat)} (h : fs.toList.map (fun f => (f.type, f.offset)) = L) (i : Nat) (t : TypeId) (o : Nat) (hi : L[i]? = some (t, o)) : ∃ f : Field, fs[i]? = some f ∧ f.type = t ∧ f.offset = o := by
  rw [← h, List.getElem?_map] at hi
  obtain ⟨f, h1, h2⟩ := Option.map_eq_some_iff.1 hi
  simp only [Prod.mk.injEq] at h2
  exact ⟨f, by simpa using h1, h2.1, h2.2⟩
section
variable {H : Type} {enc : TypeId × Value → H} {W : World}
theorem open_b8 {fuel : Nat} {cs : List Value} {x : DataW H × List MemPlace} (hf : DataW.trod enc Try.prog W 0 (fun _ => true) true fuel 28 cs = some x) (hlt : ∀ y ∈ x.2, y.block < W.heap.size) : ∃ v l, cs = [v] ∧ Rd8 W v l ∧ B8s l := by
  rcases open_ints Try.underlying28 Try.underlying5 cells8 hf with ⟨hcs, hx⟩ | ⟨a', len', cap', zs, hcs, _, hl, hm, hz, hx, hcell, hwz⟩
  · exact ⟨_, [], hcs, RdR.nil _ _, fun x hx => by simp at hx⟩
  · simp only [if_true] at hz
    have hb : ∀ i, B8 (zs.getD i 0) := fun i => by
      by_cases hi : i < zs.length
      · have hm : zs.getD i 0 ∈ zs := by simp [List.getD, List.getElem?_eq_getElem hi]
        have := bounds_u8 (hwz _ hm)
        exact ⟨by omega, by omega⟩
      · simp [List.getD, List.getElem?_eq_none (Nat.le_of_not_lt hi)]; exact ⟨by decide, by decide⟩
    refine ⟨_, (List.range len').map fun i => zs.getD i 0, hcs, ⟨some a', cap', by simp, by simpa using hl, by unfold maxLen at hm; omega, by simp [ints8], fun h0 => ?_⟩, fun x hx => ?_⟩
    · simp at h0
      obtain ⟨b, off, spot⟩ := a'
      have hspot : spot = none := by simpa [Addr.add] using World.cell?_spot (hcell 0 (by omega))
      subst hspot
      subst hx
      refine ⟨b, off, rfl, hlt (.cell b off) (MemPlace.mem_row.2 ⟨0, by omega, by simp⟩), fun j u hu => ?_⟩
      simp only [ints8, List.map_map, List.getElem?_map, Option.map_eq_some_iff] at hu
      obtain ⟨k, hk, rfl⟩ := hu
      have hkl := (List.getElem?_eq_some_iff.1 hk).1
      simp at hkl
      rw [List.getElem?_range hkl] at hk
      simp at hk
      subst hk
      have := hcell j (by omega)
      rw [Addr.add_lit] at this
      exact this
    · simp at hx
      obtain ⟨i, _, rfl⟩ := hx
      exact hb i
set_option maxRecDepth 100000 in
theorem seg_cells {fuel : Nat} {cs : List Value} {x : DataW H × List MemPlace} (h : DataW.trod enc Try.prog W 0 (fun _ => true) true fuel 30 cs = some x) (hlt : ∀ y ∈ x.2, y.block < W.heap.size) : ∃ (s : Img.Seg) (u : Value), Img.Wf s ∧ Rd8 W u s.bytes ∧ cs = Img.segC s u := by
  obtain ⟨fs, hfs, hfm⟩ := segFs
  obtain ⟨xs, k, hk, hxy, hl, hxl, hff⟩ := DataW.trod_struct hfs h
  rw [cellsSeg] at hl
  match cs, hl, hff with
  | [v0, v1, v2, v3], _, hff =>
    have fsz : fs.size = 4 := by have := congrArg List.length hfm; simpa using this
    rw [fsz] at hxl
    match xs, hxl, hxy, hff with
    | [y0, y1, y2, y3], _, hxy, hff =>
      obtain ⟨f0, e0, t0, o0⟩ := fldAt hfm 0 _ _ rfl
      obtain ⟨f1, e1, t1, o1⟩ := fldAt hfm 1 _ _ rfl
      obtain ⟨f2, e2, t2, o2⟩ := fldAt hfm 2 _ _ rfl
      obtain ⟨f3, e3, t3, o3⟩ := fldAt hfm 3 _ _ rfl
      have g0 := hff 0 f0 e0
      have g1 := hff 1 f1 e1
      have g2 := hff 2 f2 e2
      have g3 := hff 3 f3 e3
      rw [t0, o0, cells32] at g0
      rw [t1, o1, cells32] at g1
      rw [t2, o2, cells64] at g2
      rw [t3, o3, cellsS8] at g3
      (try simp at g0); (try simp at g1); (try simp at g2); (try simp at g3)
      obtain ⟨x0, q0, _, w0⟩ := DataW.trod_int Try.underlying23 g0
      obtain ⟨x1, q1, _, w1⟩ := DataW.trod_int Try.underlying23 g1
      obtain ⟨x2, q2, _, w2⟩ := DataW.trod_int Try.underlying3 g2
      obtain ⟨u3, l3, q3, hR, hb⟩ := open_b8 g3 (fun y hy => hlt y (by rw [hxy]; simp [hy]))
      (try simp at q0); (try simp at q1); (try simp at q2); (try simp at q3)
      subst q0 q1 q2 q3
      have k0 := bounds_u32 w0; have k1 := bounds_u32 w1; have k2 := bounds_i64 w2
      exact ⟨⟨x0, x1, x2, l3⟩, v3, ⟨by dsimp only; omega, by dsimp only; omega, by dsimp only; omega, by dsimp only; omega, by dsimp only; omega, by dsimp only; omega, hb⟩, hR, rfl⟩
theorem row_of {α : Type} (f : α → List Value) (sz : Nat) (hsz : ∀ x, (f x).length = sz) (F : Nat → α) (b o n : Nat) (h : ∀ i, i < n → ∀ j u, (f (F i))[j]? = some u → W.cell? ⟨b, o + i * sz + j, none⟩ = some u) :
    ∀ j u, (((List.range n).map F).flatMap f)[j]? = some u → W.cell? ⟨b, o + j, none⟩ = some u := fun j u hu => by
  have hl : j < n * sz := by
    have := (List.getElem?_eq_some_iff.1 hu).1
    rw [chunk_len f sz hsz] at this
    simpa using this
  have hs0 : 0 < sz := Nat.pos_of_ne_zero (fun h0 => by rw [h0] at hl; simp at hl)
  have hi : j / sz < n := Nat.div_lt_of_lt_mul (by rw [Nat.mul_comm]; exact hl)
  have hj : j % sz < sz := Nat.mod_lt _ hs0
  have e : j = j / sz * sz + j % sz := by rw [Nat.mul_comm]; exact (Nat.div_add_mod j sz).symm
  have hg : ((List.range n).map F)[j / sz]? = some (F (j / sz)) := by rw [List.getElem?_map, List.getElem?_range hi]; rfl
  rw [e, chunk f sz hsz _ _ (F (j / sz)) _ hg hj] at hu
  have := h (j / sz) hi (j % sz) u hu
  rwa [Nat.add_assoc, ← e] at this
set_option maxRecDepth 100000 in
theorem open_segs {fuel : Nat} {cs : List Value} {x : DataW H × List MemPlace} (hf : DataW.trod enc Try.prog W 0 (fun _ => true) true fuel 24 cs = some x) (hlt : ∀ y ∈ x.2, y.block < W.heap.size) : ∃ v l, cs = [v] ∧ SegS W v l := by
  rcases open_slice Try.underlying24 hf with ⟨hcs, hx⟩ | ⟨a', len', cap', m, n, D, Pl, hcs, _, hl, hm, hmm, hx, hel⟩
  · exact ⟨_, [], hcs, SegS.nil _⟩
  · simp only [if_true] at hmm
    subst hx
    have each : ∀ i, ∃ s : Img.Seg × Value, i < len' → Img.Wf s.1 ∧ Rd8 W s.2 s.1.bytes ∧ W.cells? 0 (a'.add (i * 4)) 4 = some (Img.segC s.1 s.2) := fun i => by
      by_cases hi : i < len'
      · obtain ⟨cs', h1, h2⟩ := hel i (by omega)
        rw [cellsSeg] at h1
        obtain ⟨s, u, hs, hu, rfl⟩ := seg_cells h2 (fun y hy => hlt y (List.mem_append.2 (.inr (List.mem_flatMap.2 ⟨i, by simp; omega, hy⟩))))
        exact ⟨(s, u), fun _ => ⟨hs, hu, h1⟩⟩
      · exact ⟨(⟨0, 0, 0, []⟩, .slice none 0 0), fun h => absurd h hi⟩
    obtain ⟨F, hF⟩ := Classical.axiomOfChoice each
    obtain ⟨b, off, spot⟩ := a'
    have hcells : Img.cells ((List.range len').map fun i => (F i).1) ((List.range len').map fun i => (F i).2) = ((List.range len').map F).flatMap (fun p : Img.Seg × Value => Img.segC p.1 p.2) := by
      unfold Img.cells; rw [List.zip_map']
    have hln : ((List.range len').map fun i => (F i).1).length = len' := by simp
    refine ⟨_, (List.range len').map fun i => (F i).1, hcs, ⟨(List.range len').map fun i => (F i).2, by simp, ⟨some ⟨b, off, spot⟩, cap', by rw [hln], by simpa using hl, by unfold maxLen at hm; omega, by rw [hcells, chunk_len (fun p : Img.Seg × Value => Img.segC p.1 p.2) 4 (fun _ => rfl)]; simp, fun h0 => ?_⟩, fun i s u hs hu => ?_, fun s hs => ?_⟩⟩
    · simp at h0
      have hcell : ∀ i, i < len' → ∀ j u, (Img.segC (F i).1 (F i).2)[j]? = some u → W.cell? (((⟨b, off, spot⟩ : Addr).add (i * 4)).add j) = some u := fun i hi j u hu => by
        obtain ⟨_, hlen, hc⟩ := World.cells?_some (hF i hi).2.2
        have hj := (List.getElem?_eq_some_iff.1 hu)
        have := hc j (by have := hj.1; simp [Img.segC] at this; omega)
        have h9 : W.cell? (((⟨b, off, spot⟩ : Addr).add (i * 4)).add j) = (Img.segC (F i).1 (F i).2)[j]? := by simpa using this
        exact h9.trans hu
      have hspot : spot = none := by
        have := hcell 0 h0 0 _ rfl
        simpa [Addr.add] using World.cell?_spot this
      subst hspot
      rw [hcells]
      refine ⟨b, off, rfl, hlt (.cell b off) (List.mem_append.2 (.inl (MemPlace.mem_row.2 ⟨0, by rw [cellsSeg]; omega, by simp⟩))), row_of (fun p : Img.Seg × Value => Img.segC p.1 p.2) 4 (fun _ => rfl) F b off len' (fun i hi j u hu => ?_)⟩
      have := hcell i hi j u hu
      simpa only [Addr.add_lit] using this
    · have hi : i < len' := by have := (List.getElem?_eq_some_iff.1 hs).1; simpa using this
      rw [List.getElem?_map, List.getElem?_range hi] at hs hu
      simp at hs hu
      subst hs hu
      exact (hF i hi).2.1
    · simp at hs
      obtain ⟨i, hi, rfl⟩ := hs
      exact (hF i hi).1
def ImgArg (W : World) (v : Value) : Prop := ∃ p, IsImg W v p
set_option maxRecDepth 100000 in
theorem open_img {base : Nat} {v : Value} {d : DataW H} {p : List MemPlace} (hv : Value.okWide Try.prog W .any base 26 v) (h : DataW.Trod enc Try.prog W 0 (fun _ => true) true 26 v d p) (hlt : ∀ x ∈ p, x.block < W.heap.size) : ImgArg W v := by
  obtain ⟨cs, rfl, hsz, _⟩ : ∃ cs, v = .agg cs ∧ cs.size = Try.prog.cellsOf 26 ∧ Row.okWide Try.prog W .any base 26 cs := by
    simpa [Value.okWide, Try.underlying26] using hv
  rw [cellsImg] at hsz
  obtain ⟨l⟩ := cs
  obtain ⟨fuel, hf⟩ := h
  obtain ⟨fs, hfs, hfm⟩ := imgFs
  obtain ⟨xs, k, hk, hxy, hl, hxl, hff⟩ := DataW.trod_struct hfs hf
  have fsz : fs.size = 2 := by have := congrArg List.length hfm; simpa using this
  rw [fsz] at hxl
  match l, hsz, hff with
  | [v0, v1], _, hff =>
    match xs, hxl, hxy, hff with
    | [y0, y1], _, hxy, hff =>
      obtain ⟨f0, e0, t0, o0⟩ := fldAt hfm 0 _ _ rfl
      obtain ⟨f1, e1, t1, o1⟩ := fldAt hfm 1 _ _ rfl
      have g0 := hff 0 f0 e0
      have g1 := hff 1 f1 e1
      rw [t0, o0, cells32] at g0
      rw [t1, o1, cellsSS] at g1
      simp [Value.cells] at g0 g1
      simp only [Prod.mk.injEq] at hxy
      obtain ⟨rfl, rfl⟩ := hxy
      obtain ⟨x0, q0, _, w0⟩ := DataW.trod_int Try.underlying23 g0
      simp at q0
      subst q0
      have k0 := bounds_u32 w0
      obtain ⟨u1, l1, hu1, hS⟩ := open_segs g1 (fun y hy => hlt y (by simp [hy]))
      simp at hu1
      subst hu1
      exact ⟨⟨x0, l1⟩, _, rfl, hS, by dsimp only; omega, by dsimp only; omega⟩
def B8Arg (W : World) (v : Value) : Prop := ∃ l, Rd8 W v l ∧ B8s l
theorem open_bs {base : Nat} {v : Value} {d : DataW H} {p : List MemPlace} (hv : Value.okWide Try.prog W .any base 28 v) (h : DataW.Trod enc Try.prog W 0 (fun _ => true) true 28 v d p) (hlt : ∀ x ∈ p, x.block < W.heap.size) : B8Arg W v := by
  obtain ⟨a, len, cap, rfl⟩ := okWide_slice Try.underlying28 hv
  obtain ⟨fuel, hf⟩ := h
  obtain ⟨v', l, hc, h1, h2⟩ := open_b8 hf hlt
  simp [Value.cells] at hc
  subst hc
  exact ⟨l, h1, h2⟩
end
end Go.Proofs.Ytaejcbmmapcpgaa
