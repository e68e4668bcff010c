/- OPENING ARGUMENTS that are feeds, numbers, bytes. -/
import Derived.Test.YtaepjlaegldkhaaFee
import Derived.ChangeSlices
import Derived.Carry
import Derived.Deep.Slices
import Derived.Deep.Strs
namespace Go.Proofs.Ytaepjlaegldkhaa
open Go.ChangeShapes Go.WideShapes Go.ChangeAt Go.RowKit
open Go.ChangeMaps Go.Deep
set_option linter.unusedVariables false

theorem cells64 : Try.prog.cellsOf 3 = 1 := by kernel_rfl
theorem cells32 : Try.prog.cellsOf 89 = 1 := by kernel_rfl
theorem cells8 : Try.prog.cellsOf 5 = 1 := by kernel_rfl
theorem cellsT : Try.prog.cellsOf 9 = 1 := by kernel_rfl
theorem fldAt {fs : Array Field} {L : List (TypeId × Nat)} (h : fs.toList.map (fun f => (f.type, f.offset)) = L) (i : Nat) (t : TypeId) (o : Nat) (hi : L[i]? = some (t, o)) : ∃ f : Field, fs[i]? = some f ∧ f.type = t ∧ f.offset = o := by
  rw [← h, List.getElem?_map] at hi
  obtain ⟨f, h1, h2⟩ := Option.map_eq_some_iff.1 hi
  simp only [Prod.mk.injEq] at h2
  exact ⟨f, by simpa using h1, h2.1, h2.2⟩
theorem cellsFile : Try.prog.cellsOf 27 = 2 := by kernel_rfl
theorem cellsFeed : Try.prog.cellsOf 33 = 6 := by kernel_rfl
theorem cellsS1 : Try.prog.cellsOf 29 = 1 := by kernel_rfl
theorem cellsS2 : Try.prog.cellsOf 25 = 1 := by kernel_rfl
theorem cellsS3 : Try.prog.cellsOf 30 = 1 := by kernel_rfl
theorem cellsS4 : Try.prog.cellsOf 31 = 1 := by kernel_rfl
theorem cellsS5 : Try.prog.cellsOf 28 = 1 := by kernel_rfl
theorem fileFs : ∃ fs, Try.prog.underlying 27 = some (.struct fs) ∧ fs.toList.map (fun f => (f.type, f.offset)) = [(9, 0), (25, 1)] := ⟨_, Try.underlying27, rfl⟩
theorem feedFs : ∃ fs, Try.prog.underlying 33 = some (.struct fs) ∧ fs.toList.map (fun f => (f.type, f.offset)) = [(29, 0), (25, 1), (30, 2), (25, 3), (31, 4), (28, 5)] := ⟨_, Try.underlying33, rfl⟩
section
variable {H : Type} {enc : TypeId × Value → H} {W : World}
theorem open_b8 {fuel : Nat} {cs : List Value} {x : DataW H × List MemPlace} (hf : DataW.trod enc Try.prog W 0 (fun _ => true) true fuel 25 cs = some x) (hlt : ∀ y ∈ x.2, y.block < W.heap.size) : ∃ v l, cs = [v] ∧ Rd8 W v l ∧ B8s l := by
  rcases open_ints Try.underlying25 Try.underlying5 cells8 hf with ⟨hcs, hx⟩ | ⟨a', len', cap', zs, hcs, _, hl, hm, hz, hx, hcell, hwz⟩
  · exact ⟨_, [], hcs, RdR.nil _ _, fun x hx => by simp at hx⟩
  · simp only [if_true] at hz
    have hb : ∀ i, B8 (zs.getD i 0) := fun i => by
      by_cases hi : i < zs.length
      · have hm : zs.getD i 0 ∈ zs := by simp [List.getD, List.getElem?_eq_getElem hi]
        have := bounds_u8 (hwz _ hm)
        exact ⟨by omega, by omega⟩
      · simp [List.getD, List.getElem?_eq_none (Nat.le_of_not_lt hi)]; exact ⟨by decide, by decide⟩
    refine ⟨_, (List.range len').map fun i => zs.getD i 0, hcs, ⟨some a', cap', by simp, by simpa using hl, by unfold maxLen at hm; omega, by simp [ints8], fun h0 => ?_⟩, fun x hx => ?_⟩
    · simp at h0
      obtain ⟨b, off, spot⟩ := a'
      have hspot : spot = none := by simpa [Addr.add] using World.cell?_spot (hcell 0 (by omega))
      subst hspot
      subst hx
      refine ⟨b, off, rfl, hlt (.cell b off) (MemPlace.mem_row.2 ⟨0, by omega, by simp⟩), fun j u hu => ?_⟩
      simp only [ints8, List.map_map, List.getElem?_map, Option.map_eq_some_iff] at hu
      obtain ⟨k, hk, rfl⟩ := hu
      have hkl := (List.getElem?_eq_some_iff.1 hk).1
      simp at hkl
      rw [List.getElem?_range hkl] at hk
      simp at hk
      subst hk
      have := hcell j (by omega)
      rw [Addr.add_lit] at this
      exact this
    · simp at hx
      obtain ⟨i, _, rfl⟩ := hx
      exact hb i
theorem row_of {α : Type} (f : α → List Value) (sz : Nat) (hsz : ∀ x, (f x).length = sz) (F : Nat → α) (b o n : Nat) (h : ∀ i, i < n → ∀ j u, (f (F i))[j]? = some u → W.cell? ⟨b, o + i * sz + j, none⟩ = some u) :
    ∀ j u, (((List.range n).map F).flatMap f)[j]? = some u → W.cell? ⟨b, o + j, none⟩ = some u := fun j u hu => by
  have hl : j < n * sz := by
    have := (List.getElem?_eq_some_iff.1 hu).1
    rw [chunk_len f sz hsz] at this
    simpa using this
  have hs0 : 0 < sz := Nat.pos_of_ne_zero (fun h0 => by rw [h0] at hl; simp at hl)
  have hi : j / sz < n := Nat.div_lt_of_lt_mul (by rw [Nat.mul_comm]; exact hl)
  have hj : j % sz < sz := Nat.mod_lt _ hs0
  have e : j = j / sz * sz + j % sz := by rw [Nat.mul_comm]; exact (Nat.div_add_mod j sz).symm
  have hg : ((List.range n).map F)[j / sz]? = some (F (j / sz)) := by rw [List.getElem?_map, List.getElem?_range hi]; rfl
  rw [e, chunk f sz hsz _ _ (F (j / sz)) _ hg hj] at hu
  have := h (j / sz) hi (j % sz) u hu
  rwa [Nat.add_assoc, ← e] at this
/-- A slice of one-cell elements, from its cells. -/
theorem rd_of {α : Type} (F : α → Value) (g : Nat → α) (a' : Addr) (len cap : Nat) (hl : len ≤ cap) (hm : cap ≤ maxLen) (hcell : ∀ i, i < len → W.cell? (a'.add i) = some (F (g i))) (hlt : 0 < len → a'.block < W.heap.size) :
    RdR 1 W (.slice (some a') len cap) ((List.range len).map g).length (((List.range len).map g).map F) := by
  refine ⟨some a', cap, by simp, by simpa using hl, by unfold maxLen at hm; omega, by simp, fun h0 => ?_⟩
  simp at h0
  have hb := hlt h0
  obtain ⟨b, off, spot⟩ := a'
  have hspot : spot = none := by simpa [Addr.add] using World.cell?_spot (hcell 0 (by omega))
  subst hspot
  refine ⟨b, off, rfl, hb, fun j u hu => ?_⟩
  simp only [List.map_map, List.getElem?_map, Option.map_eq_some_iff] at hu
  obtain ⟨k, hk, rfl⟩ := hu
  have hkl := (List.getElem?_eq_some_iff.1 hk).1
  simp at hkl
  rw [List.getElem?_range hkl] at hk
  simp at hk
  subst hk
  have := hcell j (by omega)
  rw [Addr.add_lit] at this
  exact this
theorem open_kz {t e : TypeId} {kd : IntKind} (ht : Try.prog.underlying t = some (.slice e)) (he : Try.prog.underlying e = some (.int kd)) (hc : Try.prog.cellsOf e = 1) {fuel : Nat} {cs : List Value} {x : DataW H × List MemPlace} (hf : DataW.trod enc Try.prog W 0 (fun _ => true) true fuel t cs = some x) (hlt : ∀ y ∈ x.2, y.block < W.heap.size) :
    ∃ v, ∃ l : List Int, cs = [v] ∧ RdR 1 W v l.length (l.map (Value.int kd)) ∧ ∀ n ∈ l, (Lit.int kd n).wf = true := by
  rcases open_ints ht he hc hf with ⟨hcs, hx⟩ | ⟨a', len', cap', zs, hcs, _, hl, hm, hz, hx, hcell, hwz⟩
  · exact ⟨_, [], hcs, RdR.nil _ _, fun x hx => by simp at hx⟩
  · simp only [if_true] at hz
    subst hx
    refine ⟨_, (List.range len').map fun i => zs.getD i 0, hcs, rd_of (Value.int kd) (fun i => zs.getD i 0) a' len' cap' hl hm (fun i hi => hcell i (by omega)) (fun h0 => hlt (.cell a'.block a'.off) (MemPlace.mem_row.2 ⟨0, by omega, by simp⟩)), fun n hn => ?_⟩
    simp only [List.mem_map, List.mem_range] at hn
    obtain ⟨i, hi, rfl⟩ := hn
    have hi2 : i < zs.length := by omega
    exact hwz _ (by simp [List.getD, List.getElem?_eq_getElem hi2])
def NsArg (W : World) (v : Value) : Prop := ∃ l, NsS W v l ∧ ∀ n ∈ l, -9223372036854775808 ≤ n ∧ n ≤ 9223372036854775807
theorem open_ns {base : Nat} {v : Value} {d : DataW H} {p : List MemPlace} (hv : Value.okWide Try.prog W .any base 30 v) (h : DataW.Trod enc Try.prog W 0 (fun _ => true) true 30 v d p) (hlt : ∀ x ∈ p, x.block < W.heap.size) : NsArg W v := by
  obtain ⟨a, len, cap, rfl⟩ := okWide_slice Try.underlying30 hv
  obtain ⟨fuel, hf⟩ := h
  obtain ⟨v', l, hc, h1, h2⟩ := open_kz Try.underlying30 Try.underlying3 cells64 hf hlt
  simp [Value.cells] at hc
  subst hc
  exact ⟨l, h1, fun n hn => by have := bounds_i64 (h2 n hn); omega⟩
def B8Arg (W : World) (v : Value) : Prop := ∃ l, Rd8 W v l ∧ B8s l
theorem open_bs {base : Nat} {v : Value} {d : DataW H} {p : List MemPlace} (hv : Value.okWide Try.prog W .any base 25 v) (h : DataW.Trod enc Try.prog W 0 (fun _ => true) true 25 v d p) (hlt : ∀ x ∈ p, x.block < W.heap.size) : B8Arg W v := by
  obtain ⟨a, len, cap, rfl⟩ := okWide_slice Try.underlying25 hv
  obtain ⟨fuel, hf⟩ := h
  obtain ⟨v', l, hc, h1, h2⟩ := open_b8 hf hlt
  simp [Value.cells] at hc
  subst hc
  exact ⟨l, h1, h2⟩
theorem open_txt {fuel : Nat} {cs : List Value} {x : DataW H × List MemPlace} (hf : DataW.trod enc Try.prog W 0 (fun _ => true) true fuel 29 cs = some x) (hlt : ∀ y ∈ x.2, y.block < W.heap.size) : ∃ v l, cs = [v] ∧ TxS W v l := by
  rcases open_strs Try.underlying29 Try.underlying9 cellsT hf with ⟨hcs, hx⟩ | ⟨a', len', cap', m, Sx, hcs, _, hl, hm, hmm, hx, hcell⟩
  · exact ⟨_, [], hcs, RdR.nil _ _⟩
  · simp only [if_true] at hmm
    subst hx
    exact ⟨_, (List.range len').map Sx, hcs, rd_of Value.string Sx a' len' cap' hl hm (fun i hi => (hcell i (by omega)).1) (fun h0 => hlt (.cell a'.block a'.off) (MemPlace.mem_row.2 ⟨0, by omega, by simp⟩))⟩
set_option maxRecDepth 100000 in
theorem file_cells {fuel : Nat} {cs : List Value} {x : DataW H × List MemPlace} (h : DataW.trod enc Try.prog W 0 (fun _ => true) true fuel 27 cs = some x) (hlt : ∀ y ∈ x.2, y.block < W.heap.size) : ∃ (f : Fee.Fl) (u : Value), B8s f.data ∧ Rd8 W u f.data ∧ cs = Fee.flC f u := by
  obtain ⟨fs, hfs, hfm⟩ := fileFs
  obtain ⟨xs, k, hk, hxy, hl, hxl, hff⟩ := DataW.trod_struct hfs h
  rw [cellsFile] at hl
  match cs, hl, hff with
  | [v0, v1], _, hff =>
    have fsz : fs.size = 2 := by have := congrArg List.length hfm; simpa using this
    rw [fsz] at hxl
    match xs, hxl, hxy, hff with
    | [y0, y1], _, hxy, hff =>
      obtain ⟨f0, e0, t0, o0⟩ := fldAt hfm 0 _ _ rfl
      obtain ⟨f1, e1, t1, o1⟩ := fldAt hfm 1 _ _ rfl
      have g0 := hff 0 f0 e0
      have g1 := hff 1 f1 e1
      rw [t0, o0, cellsT] at g0
      rw [t1, o1, cellsS2] at g1
      (try simp at g0); (try simp at g1)
      obtain ⟨s0, q0, _, _⟩ := DataW.trod_string Try.underlying9 g0
      obtain ⟨u1, l1, q1, hR, hb⟩ := open_b8 g1 (fun y hy => hlt y (by rw [hxy]; simp [hy]))
      (try simp at q0); (try simp at q1)
      subst q0 q1
      exact ⟨⟨s0, l1⟩, v1, hb, hR, rfl⟩
set_option maxRecDepth 100000 in
theorem open_files {fuel : Nat} {cs : List Value} {x : DataW H × List MemPlace} (hf : DataW.trod enc Try.prog W 0 (fun _ => true) true fuel 28 cs = some x) (hlt : ∀ y ∈ x.2, y.block < W.heap.size) : ∃ v l, cs = [v] ∧ FlS W v l := by
  rcases open_slice Try.underlying28 hf with ⟨hcs, hx⟩ | ⟨a', len', cap', m, n, D, Pl, hcs, _, hl, hm, hmm, hx, hel⟩
  · exact ⟨_, [], hcs, FlS.nil _⟩
  · simp only [if_true] at hmm
    subst hx
    have each : ∀ i, ∃ s : Fee.Fl × Value, i < len' → B8s s.1.data ∧ Rd8 W s.2 s.1.data ∧ W.cells? 0 (a'.add (i * 2)) 2 = some (Fee.flC s.1 s.2) := fun i => by
      by_cases hi : i < len'
      · obtain ⟨cs', h1, h2⟩ := hel i (by omega)
        rw [cellsFile] at h1
        obtain ⟨s, u, hs, hu, rfl⟩ := file_cells h2 (fun y hy => hlt y (List.mem_append.2 (.inr (List.mem_flatMap.2 ⟨i, by simp; omega, hy⟩))))
        exact ⟨(s, u), fun _ => ⟨hs, hu, h1⟩⟩
      · exact ⟨(⟨⟨#[]⟩, []⟩, .slice none 0 0), fun h => absurd h hi⟩
    obtain ⟨F, hF⟩ := Classical.axiomOfChoice each
    obtain ⟨b, off, spot⟩ := a'
    have hcells : Fee.cells ((List.range len').map fun i => (F i).1) ((List.range len').map fun i => (F i).2) = ((List.range len').map F).flatMap (fun p : Fee.Fl × Value => Fee.flC p.1 p.2) := by
      unfold Fee.cells; rw [List.zip_map']
    have hln : ((List.range len').map fun i => (F i).1).length = len' := by simp
    refine ⟨_, (List.range len').map fun i => (F i).1, hcs, ⟨(List.range len').map fun i => (F i).2, by simp, ⟨some ⟨b, off, spot⟩, cap', by rw [hln], by simpa using hl, by unfold maxLen at hm; omega, by rw [hcells, chunk_len (fun p : Fee.Fl × Value => Fee.flC p.1 p.2) 2 (fun _ => rfl)]; simp, fun h0 => ?_⟩, fun i s u hs hu => ?_, fun s hs => ?_⟩⟩
    · simp at h0
      have hcell : ∀ i, i < len' → ∀ j u, (Fee.flC (F i).1 (F i).2)[j]? = some u → W.cell? (((⟨b, off, spot⟩ : Addr).add (i * 2)).add j) = some u := fun i hi j u hu => by
        obtain ⟨_, hlen, hc⟩ := World.cells?_some (hF i hi).2.2
        have hj := (List.getElem?_eq_some_iff.1 hu)
        have := hc j (by have := hj.1; simp [Fee.flC] at this; omega)
        have h9 : W.cell? (((⟨b, off, spot⟩ : Addr).add (i * 2)).add j) = (Fee.flC (F i).1 (F i).2)[j]? := by simpa using this
        exact h9.trans hu
      have hspot : spot = none := by
        have := hcell 0 h0 0 _ rfl
        simpa [Addr.add] using World.cell?_spot this
      subst hspot
      rw [hcells]
      refine ⟨b, off, rfl, hlt (.cell b off) (List.mem_append.2 (.inl (MemPlace.mem_row.2 ⟨0, by rw [cellsFile]; omega, by simp⟩))), row_of (fun p : Fee.Fl × Value => Fee.flC p.1 p.2) 2 (fun _ => rfl) F b off len' (fun i hi j u hu => ?_)⟩
      have := hcell i hi j u hu
      simpa only [Addr.add_lit] using this
    · have hi : i < len' := by have := (List.getElem?_eq_some_iff.1 hs).1; simpa using this
      rw [List.getElem?_map, List.getElem?_range hi] at hs hu
      simp at hs hu
      subst hs hu
      exact (hF i hi).2.1
    · simp at hs
      obtain ⟨i, hi, rfl⟩ := hs
      exact (hF i hi).1
def FdArg (W : World) (v : Value) : Prop := ∃ f, IsFd W v f
set_option maxRecDepth 100000 in
theorem open_fd {base : Nat} {v : Value} {d : DataW H} {p : List MemPlace} (hv : Value.okWide Try.prog W .any base 33 v) (h : DataW.Trod enc Try.prog W 0 (fun _ => true) true 33 v d p) (hlt : ∀ x ∈ p, x.block < W.heap.size) : FdArg W v := by
  obtain ⟨cs, rfl, hsz, _⟩ : ∃ cs, v = .agg cs ∧ cs.size = Try.prog.cellsOf 33 ∧ Row.okWide Try.prog W .any base 33 cs := by
    simpa [Value.okWide, Try.underlying33] using hv
  rw [cellsFeed] at hsz
  obtain ⟨l⟩ := cs
  obtain ⟨fuel, hf⟩ := h
  obtain ⟨fs, hfs, hfm⟩ := feedFs
  obtain ⟨xs, k, hk, hxy, hl, hxl, hff⟩ := DataW.trod_struct hfs hf
  have fsz : fs.size = 6 := by have := congrArg List.length hfm; simpa using this
  rw [fsz] at hxl
  match l, hsz, hff with
  | [v0, v1, v2, v3, v4, v5], _, hff =>
    match xs, hxl, hxy, hff with
    | [y0, y1, y2, y3, y4, y5], _, hxy, hff =>
      obtain ⟨f0, e0, t0, o0⟩ := fldAt hfm 0 _ _ rfl
      obtain ⟨f1, e1, t1, o1⟩ := fldAt hfm 1 _ _ rfl
      obtain ⟨f2, e2, t2, o2⟩ := fldAt hfm 2 _ _ rfl
      obtain ⟨f3, e3, t3, o3⟩ := fldAt hfm 3 _ _ rfl
      obtain ⟨f4, e4, t4, o4⟩ := fldAt hfm 4 _ _ rfl
      obtain ⟨f5, e5, t5, o5⟩ := fldAt hfm 5 _ _ rfl
      have g0 := hff 0 f0 e0
      have g1 := hff 1 f1 e1
      have g2 := hff 2 f2 e2
      have g3 := hff 3 f3 e3
      have g4 := hff 4 f4 e4
      have g5 := hff 5 f5 e5
      rw [t0, o0, cellsS1] at g0
      rw [t1, o1, cellsS2] at g1
      rw [t2, o2, cellsS3] at g2
      rw [t3, o3, cellsS2] at g3
      rw [t4, o4, cellsS4] at g4
      rw [t5, o5, cellsS5] at g5
      simp [Value.cells] at g0 g1 g2 g3 g4 g5
      simp only [Prod.mk.injEq] at hxy
      obtain ⟨rfl, rfl⟩ := hxy
      obtain ⟨u0, l0, q0, hA⟩ := open_txt g0 (fun y hy => hlt y (by simp [hy]))
      obtain ⟨u1, l1, q1, hI, hI8⟩ := open_b8 g1 (fun y hy => hlt y (by simp [hy]))
      obtain ⟨u2, l2, q2, hS, hSw⟩ := open_kz Try.underlying30 Try.underlying3 cells64 g2 (fun y hy => hlt y (by simp [hy]))
      obtain ⟨u3, l3, q3, hR, hR8⟩ := open_b8 g3 (fun y hy => hlt y (by simp [hy]))
      obtain ⟨u4, l4, q4, hC, hCw⟩ := open_kz Try.underlying31 Try.underlying89 cells32 g4 (fun y hy => hlt y (by simp [hy]))
      obtain ⟨u5, l5, q5, hF⟩ := open_files g5 (fun y hy => hlt y (by simp [hy]))
      simp at q0 q1 q2 q3 q4 q5
      subst q0 q1 q2 q3 q4 q5
      exact ⟨⟨l0, l1, l2, l3, l4, l5⟩, _, _, _, _, _, _, rfl, hA, hI, hS, hR, hC, hF, ⟨hI8, fun n hn => by have := bounds_i64 (hSw n hn); omega, hR8, fun n hn => by have := bounds_u32 (hCw n hn); omega⟩⟩
end
end Go.Proofs.Ytaepjlaegldkhaa
