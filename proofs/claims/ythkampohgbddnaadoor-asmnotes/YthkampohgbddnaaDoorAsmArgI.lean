/- OPENING ARGUMENTS that are slices of instructions. -/
import Derived.Test.YthkampohgbddnaaDoorAsmB
import Derived.Test.YthkampohgbddnaaDoorLiftI
import Derived.ChangeSlices
import Derived.Carry
import Derived.Deep.Slices
namespace Go.Proofs.YthkampohgbddnaaDoor
open Go.ChangeShapes Go.WideShapes Go.ChangeAt Go.RowKit
open Go.ChangeMaps Go.Deep
set_option linter.unusedVariables false

/-- A slice of instructions that came in. -/
def IArg (W : World) (v : Value) (n : Nat) (f : Nat → Rv.Ins) : Prop :=
  ∃ q cap, v = .slice q n cap ∧ n ≤ cap ∧ cap ≤ 9223372036854775807 ∧ (∀ i, i < n → Rv.IWf (f i)) ∧
    (0 < n → ∃ b o, q = some ⟨b, o, none⟩ ∧ b < W.heap.size ∧ ∀ i, i < n → W.cell? ⟨b, o + i * 5, none⟩ = some (.int .i64 (f i).op) ∧ W.cell? ⟨b, o + i * 5 + 1, none⟩ = some (.int .i64 (f i).rd) ∧ W.cell? ⟨b, o + i * 5 + 2, none⟩ = some (.int .i64 (f i).rs1) ∧
      W.cell? ⟨b, o + i * 5 + 3, none⟩ = some (.int .i64 (f i).rs2) ∧ W.cell? ⟨b, o + i * 5 + 4, none⟩ = some (.int .i32 (f i).imm))
def IArgs (W : World) (v : Value) : Prop := ∃ n f, IArg W v n f
theorem insFs : ∃ fs, Tryd.prog.underlying 23 = some (.struct fs) ∧ fs.toList.map (fun f => (f.type, f.offset)) = [(3, 0), (3, 1), (3, 2), (3, 3), (21, 4)] := ⟨_, Tryd.underlying23, rfl⟩
set_option maxRecDepth 100000 in
theorem open_inss {H : Type} {enc : TypeId × Value → H} {W : World} {base : Nat} {v : Value} {d : DataW H} {p : List MemPlace}
    (hv : Value.okWide Tryd.prog W .any base 40 v) (h : DataW.Trod enc Tryd.prog W 0 (fun _ => true) true 40 v d p)
    (hlt : ∀ x ∈ p, x.block < W.heap.size) : IArgs W v := by
  obtain ⟨a, len, cap, rfl⟩ := okWide_slice Tryd.underlying40 hv
  obtain ⟨fuel, hf⟩ := h
  obtain ⟨fs, hfs, hfm⟩ := insFs
  have fld : ∀ (i : Nat) (t : TypeId) (o : Nat), ([(3, 0), (3, 1), (3, 2), (3, 3), (21, 4)] : List (TypeId × Nat))[i]? = some (t, o) → ∃ f : Field, fs[i]? = some f ∧ f.type = t ∧ f.offset = o := fun i t o hi => by
    rw [← hfm, List.getElem?_map] at hi
    obtain ⟨f, h1, h2⟩ := Option.map_eq_some_iff.1 hi
    simp only [Prod.mk.injEq] at h2
    exact ⟨f, by simpa using h1, h2.1, h2.2⟩
  rcases open_slice Tryd.underlying40 hf with ⟨hcs, hx⟩ | ⟨a', len', cap', m, n, D, Pl, hcs, _, hl, hm, hmm, hx, hel⟩
  · simp [Value.cells] at hcs
    obtain ⟨rfl, rfl, rfl⟩ := hcs
    exact ⟨0, fun _ => ⟨0, 0, 0, 0, 0⟩, none, 0, rfl, Nat.le_refl _, by omega, fun i hi => by omega, fun h => by omega⟩
  · simp [Value.cells] at hcs
    obtain ⟨rfl, rfl, rfl⟩ := hcs
    simp only [Prod.mk.injEq] at hx
    obtain ⟨rfl, rfl⟩ := hx
    simp only [if_true] at hmm
    have each : ∀ i, i < len → ∃ x : Rv.Ins, Rv.IWf x ∧ W.cell? ((a'.add (i * 5)).add 0) = some (.int .i64 x.op) ∧ W.cell? ((a'.add (i * 5)).add 1) = some (.int .i64 x.rd) ∧ W.cell? ((a'.add (i * 5)).add 2) = some (.int .i64 x.rs1) ∧
        W.cell? ((a'.add (i * 5)).add 3) = some (.int .i64 x.rs2) ∧ W.cell? ((a'.add (i * 5)).add 4) = some (.int .i32 x.imm) := by
      intro i hi
      obtain ⟨cs', h1, h2⟩ := hel i (by omega)
      rw [cellsI] at h1
      obtain ⟨_, hlen, hcell⟩ := World.cells?_some h1
      obtain ⟨xs, k, hk, hxy, _, hxl, hff⟩ := DataW.trod_struct hfs h2
      match cs', hlen, hcell, hff with
      | [v0, v1, v2, v3, v4], _, hcell, hff =>
        have fsz : fs.size = 5 := by have := congrArg List.length hfm; simpa using this
        rw [fsz] at hxl
        match xs, hxl, hxy, hff with
        | [y0, y1, y2, y3, y4], _, hxy, hff =>
          obtain ⟨f0, e0, t0, o0⟩ := fld 0 _ _ rfl
          obtain ⟨f1, e1, t1, o1⟩ := fld 1 _ _ rfl
          obtain ⟨f2, e2, t2, o2⟩ := fld 2 _ _ rfl
          obtain ⟨f3, e3, t3, o3⟩ := fld 3 _ _ rfl
          obtain ⟨f4, e4, t4, o4⟩ := fld 4 _ _ rfl
          have g0 := hff 0 f0 e0
          have g1 := hff 1 f1 e1
          have g2 := hff 2 f2 e2
          have g3 := hff 3 f3 e3
          have g4 := hff 4 f4 e4
          rw [t0, o0, cells64] at g0
          rw [t1, o1, cells64] at g1
          rw [t2, o2, cells64] at g2
          rw [t3, o3, cells64] at g3
          rw [t4, o4, cells32] at g4
          simp at g0 g1 g2 g3 g4
          obtain ⟨x0, q0, _, w0⟩ := DataW.trod_int Tryd.underlying3 g0
          obtain ⟨x1, q1, _, w1⟩ := DataW.trod_int Tryd.underlying3 g1
          obtain ⟨x2, q2, _, w2⟩ := DataW.trod_int Tryd.underlying3 g2
          obtain ⟨x3, q3, _, w3⟩ := DataW.trod_int Tryd.underlying3 g3
          obtain ⟨x4, q4, _, w4⟩ := DataW.trod_int Tryd.underlying21 g4
          simp at q0 q1 q2 q3 q4
          subst q0 q1 q2 q3 q4
          refine ⟨⟨x0, x1, x2, x3, x4⟩, ⟨w0, w1, w2, w3, w4⟩, ?_, ?_, ?_, ?_, ?_⟩
          · have := hcell 0 (by omega); simpa using this
          · have := hcell 1 (by omega); simpa using this
          · have := hcell 2 (by omega); simpa using this
          · have := hcell 3 (by omega); simpa using this
          · have := hcell 4 (by omega); simpa using this
    have each2 : ∀ i, ∃ x : Rv.Ins, i < len → Rv.IWf x ∧ W.cell? ((a'.add (i * 5)).add 0) = some (.int .i64 x.op) ∧ W.cell? ((a'.add (i * 5)).add 1) = some (.int .i64 x.rd) ∧ W.cell? ((a'.add (i * 5)).add 2) = some (.int .i64 x.rs1) ∧
        W.cell? ((a'.add (i * 5)).add 3) = some (.int .i64 x.rs2) ∧ W.cell? ((a'.add (i * 5)).add 4) = some (.int .i32 x.imm) := fun i => by
      by_cases hi : i < len
      · obtain ⟨x, hx⟩ := each i hi; exact ⟨x, fun _ => hx⟩
      · exact ⟨⟨0, 0, 0, 0, 0⟩, fun h => absurd h hi⟩
    obtain ⟨F, hF⟩ := Classical.axiomOfChoice each2
    obtain ⟨b, off, spot⟩ := a'
    refine ⟨len, F, some ⟨b, off, spot⟩, cap, rfl, hl, by unfold maxLen at hm; omega, fun i hi => (hF i hi).1, fun h0 => ?_⟩
    have hspot : spot = none := by
      have := (hF 0 h0).2.1
      simpa [Addr.add] using World.cell?_spot this
    subst hspot
    refine ⟨b, off, rfl, hlt (.cell b off) (List.mem_append.2 (.inl (MemPlace.mem_row.2 ⟨0, by rw [cellsI]; omega, by simp⟩))), fun i hi => ?_⟩
    have := (hF i hi).2
    simp only [Addr.add_lit, Nat.add_zero] at this
    exact this
end Go.Proofs.YthkampohgbddnaaDoor
