/- OPENING ARGUMENTS that are slices of layer 4's acts. -/
import Derived.Test.YtgebmedkhakhfaaShArgs
import Derived.Deep.Slices
namespace Go.Proofs.Ytgebmedkhakhfaa
open Go.ChangeShapes Go.WideShapes Go.ChangeAt Go.RowKit
open Go.ChangeMaps Go.Deep
set_option linter.unusedVariables false

structure Act4 where
  op : Int
  n : Int
  a : Int
  l : Int
  bv : Value
  bn : Nat
  bs : Nat → Int
/-- A slice of acts that came in. -/
def AArg (W : World) (v : Value) (n : Nat) (f : Nat → Act4) : Prop :=
  ∃ q cap, v = .slice q n cap ∧ n ≤ cap ∧ (∀ i, i < n → U4 (f i).a ∧ BArg W (f i).bv (f i).bn (f i).bs) ∧
    (0 < n → ∃ b o, q = some ⟨b, o, none⟩ ∧ b < W.heap.size ∧ ∀ i, i < n → W.cell? ⟨b, o + i * 9, none⟩ = some (.int .i64 (f i).op) ∧ W.cell? ⟨b, o + i * 9 + 1, none⟩ = some (.int .i64 (f i).n) ∧ W.cell? ⟨b, o + i * 9 + 2, none⟩ = some (.int .u32 (f i).a) ∧
      W.cell? ⟨b, o + i * 9 + 3, none⟩ = some (.int .u8 (f i).l) ∧ W.cell? ⟨b, o + i * 9 + 4, none⟩ = some (f i).bv)
theorem actFs : ∃ fs, Try.prog.underlying 71 = some (.struct fs) ∧ fs.toList.map (fun f => (f.type, f.offset)) = [(3, 0), (3, 1), (33, 2), (5, 3), (34, 4), (57, 5)] := ⟨_, Try.underlying71, rfl⟩
theorem actCells : Try.prog.cellsOf 71 = 9 := by kernel_rfl
theorem cI : Try.prog.cellsOf 3 = 1 := by kernel_rfl
theorem cU : Try.prog.cellsOf 33 = 1 := by kernel_rfl
theorem cB : Try.prog.cellsOf 5 = 1 := by kernel_rfl
theorem cS : Try.prog.cellsOf 34 = 1 := by kernel_rfl
theorem open_bytes_core {H : Type} {enc : TypeId × Value → H} {W : World} {fuel : Nat} {v : Value} {x : DataW H × List MemPlace} (hf : DataW.trod enc Try.prog W 0 (fun _ => true) true fuel 34 [v] = some x)
    (hlt : ∀ y ∈ x.2, y.block < W.heap.size) : ∃ n bs, BArg W v n bs := by
  rcases open_ints Try.underlying34 Try.underlying5 cB hf with ⟨hcs, hx⟩ | ⟨a', len, cap, zs, hcs, _, hl, hm, hz, hx, hcell, hwz⟩
  · simp at hcs
    subst hcs
    exact ⟨0, fun _ => 0, none, 0, rfl, Nat.le_refl _, by omega, fun _ => by simp, fun h => by omega⟩
  · simp at hcs
    subst hcs
    subst hx
    simp only [if_true] at hz
    refine ⟨len, fun i => zs.getD i 0, some a', cap, rfl, hl, by unfold maxLen at hm; omega, fun i => ?_, fun h0 => ?_⟩
    · show 0 ≤ zs.getD i 0 ∧ zs.getD i 0 < 256
      by_cases hi : i < zs.length
      · have hm : zs.getD i 0 ∈ zs := by simp [List.getD, List.getElem?_eq_getElem hi]
        have := bounds_u8 (hwz _ hm)
        omega
      · simp [List.getD, List.getElem?_eq_none (Nat.le_of_not_lt hi)]
    · obtain ⟨b, off, spot⟩ := a'
      have hspot : spot = none := by simpa [Addr.add] using World.cell?_spot (hcell 0 (by omega))
      subst hspot
      refine ⟨b, off, rfl, hlt (.cell b off) (MemPlace.mem_row.2 ⟨0, by omega, by simp⟩), fun i hi => ?_⟩
      have := hcell i (by omega)
      rwa [Addr.add_lit] at this
set_option maxRecDepth 100000 in
theorem open_acts {H : Type} {enc : TypeId × Value → H} {W : World} {base : Nat} {v : Value} {d : DataW H} {p : List MemPlace}
    (hv : Value.okWide Try.prog W .any base 65 v) (h : DataW.Trod enc Try.prog W 0 (fun _ => true) true 65 v d p)
    (hlt : ∀ x ∈ p, x.block < W.heap.size) : ∃ n f, AArg W v n f := by
  obtain ⟨a, len, cap, rfl⟩ := okWide_slice Try.underlying65 hv
  obtain ⟨fuel, hf⟩ := h
  obtain ⟨fs, hfs, hfm⟩ := actFs
  have fld : ∀ (i : Nat) (t : TypeId) (o : Nat), ([(3, 0), (3, 1), (33, 2), (5, 3), (34, 4), (57, 5)] : List (TypeId × Nat))[i]? = some (t, o) → ∃ f : Field, fs[i]? = some f ∧ f.type = t ∧ f.offset = o := fun i t o hi => by
    rw [← hfm, List.getElem?_map] at hi
    obtain ⟨f, h1, h2⟩ := Option.map_eq_some_iff.1 hi
    simp only [Prod.mk.injEq] at h2
    exact ⟨f, by simpa using h1, h2.1, h2.2⟩
  rcases open_slice Try.underlying65 hf with ⟨hcs, hx⟩ | ⟨a', len', cap', m, n, D, Pl, hcs, _, hl, hm, hmm, hx, hel⟩
  · simp [Value.cells] at hcs
    obtain ⟨rfl, rfl, rfl⟩ := hcs
    exact ⟨0, fun _ => ⟨0, 0, 0, 0, .int .i64 0, 0, fun _ => 0⟩, none, 0, rfl, Nat.le_refl _, fun i hi => by omega, fun h => by omega⟩
  · simp [Value.cells] at hcs
    obtain ⟨rfl, rfl, rfl⟩ := hcs
    simp only [Prod.mk.injEq] at hx
    obtain ⟨rfl, rfl⟩ := hx
    simp only [if_true] at hmm
    have each : ∀ i, i < len → ∃ x : Act4, (U4 x.a ∧ BArg W x.bv x.bn x.bs) ∧ W.cell? ((a'.add (i * 9)).add 0) = some (.int .i64 x.op) ∧ W.cell? ((a'.add (i * 9)).add 1) = some (.int .i64 x.n) ∧ W.cell? ((a'.add (i * 9)).add 2) = some (.int .u32 x.a) ∧
        W.cell? ((a'.add (i * 9)).add 3) = some (.int .u8 x.l) ∧ W.cell? ((a'.add (i * 9)).add 4) = some x.bv := by
      intro i hi
      obtain ⟨cs', h1, h2⟩ := hel i (by omega)
      rw [actCells] at h1
      obtain ⟨_, hlen, hcell⟩ := World.cells?_some h1
      obtain ⟨xs, k, hk, hxy, _, hxl, hff⟩ := DataW.trod_struct hfs h2
      match cs', hlen, hcell, hff with
      | [v0, v1, v2, v3, v4, v5, v6, v7, v8], _, hcell, hff =>
        have fsz : fs.size = 6 := by have := congrArg List.length hfm; simpa using this
        rw [fsz] at hxl
        match xs, hxl, hxy, hff with
        | [y0, y1, y2, y3, y4, y5], _, hxy, hff =>
          obtain ⟨f0, e0, t0, o0⟩ := fld 0 _ _ rfl
          obtain ⟨f1, e1, t1, o1⟩ := fld 1 _ _ rfl
          obtain ⟨f2, e2, t2, o2⟩ := fld 2 _ _ rfl
          obtain ⟨f3, e3, t3, o3⟩ := fld 3 _ _ rfl
          obtain ⟨f4, e4, t4, o4⟩ := fld 4 _ _ rfl
          have g0 := hff 0 f0 e0
          have g1 := hff 1 f1 e1
          have g2 := hff 2 f2 e2
          have g3 := hff 3 f3 e3
          have g4 := hff 4 f4 e4
          rw [t0, o0, cI] at g0
          rw [t1, o1, cI] at g1
          rw [t2, o2, cU] at g2
          rw [t3, o3, cB] at g3
          rw [t4, o4, cS] at g4
          simp at g0 g1 g2 g3 g4
          obtain ⟨x0, q0, _, w0⟩ := DataW.trod_int Try.underlying3 g0
          obtain ⟨x1, q1, _, w1⟩ := DataW.trod_int Try.underlying3 g1
          obtain ⟨x2, q2, _, w2⟩ := DataW.trod_int Try.underlying33 g2
          obtain ⟨x3, q3, _, w3⟩ := DataW.trod_int Try.underlying5 g3
          simp at q0 q1 q2 q3
          subst q0 q1 q2 q3
          obtain ⟨bn, bs, hB⟩ := open_bytes_core g4 (fun y hy => hlt y (by
            simp only [Prod.mk.injEq] at hxy
            have hPl : y ∈ Pl i := by rw [hxy.2]; simp [hy]
            simp only [List.mem_append, List.mem_flatMap, List.mem_range]
            exact .inr ⟨i, by omega, hPl⟩))
          refine ⟨⟨x0, x1, x2, x3, v4, bn, bs⟩, ⟨u4_is w2, hB⟩, ?_, ?_, ?_, ?_, ?_⟩
          · have := hcell 0 (by omega); simpa using this
          · have := hcell 1 (by omega); simpa using this
          · have := hcell 2 (by omega); simpa using this
          · have := hcell 3 (by omega); simpa using this
          · have := hcell 4 (by omega); simpa using this
    obtain ⟨f, hfE⟩ := @choose_lt Act4 ⟨⟨0, 0, 0, 0, .int .i64 0, 0, fun _ => 0⟩⟩ len _ each
    refine ⟨len, f, some a', cap, rfl, hl, fun i hi => (hfE i hi).1, fun h0 => ?_⟩
    obtain ⟨b, off, spot⟩ := a'
    have hspot : spot = none := by
      have := (hfE 0 h0).2.1
      simpa [Addr.add] using World.cell?_spot this
    subst hspot
    refine ⟨b, off, rfl, hlt (.cell b off) (List.mem_append.2 (.inl (MemPlace.mem_row.2 ⟨0, by rw [actCells]; omega, by simp⟩))), fun i hi => ?_⟩
    have := (hfE i hi).2
    simp only [Addr.add_lit, Nat.add_zero] at this
    exact this
end Go.Proofs.Ytgebmedkhakhfaa
