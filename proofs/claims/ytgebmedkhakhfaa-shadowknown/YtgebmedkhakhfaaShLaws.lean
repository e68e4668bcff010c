/- LABELS: what the laws share. -/
import Derived.Test.YtgebmedkhakhfaaShAwake
import Derived.Test.YtgebmedkhakhfaaShArgs
namespace Go.Proofs.Ytgebmedkhakhfaa
open Go.ChangeShapes Go.WideShapes Go.ChangeAt Go.RowKit Go.Shelf
set_option linter.unusedSimpArgs false
set_option linter.unusedVariables false

/-- A slice that came in, as Set takes it. -/
theorem BArg.sarg {W w : World} {v : Value} {n : Nat} {bs : Nat → Int} (h : BArg W v n bs) (b : Below W.heap.size W w) : ∃ g o cap, SArg w v g o n cap bs ∧ (n ≠ 0 → g < W.heap.size) := by
  obtain ⟨q, cap, rfl, h1, h2, h3, h4⟩ := h
  by_cases hn : n = 0
  · subst hn
    exact ⟨0, 0, cap, ⟨h1, h2, fun i hi => by omega, .inl ⟨rfl, q, rfl⟩⟩, fun h => absurd rfl h⟩
  · obtain ⟨g, o, rfl, hg, hc⟩ := h4 (by omega)
    exact ⟨g, o, cap, ⟨h1, h2, fun i hi => ⟨bl_keep b (hc i hi), h3 i⟩, .inr rfl⟩, fun _ => hg⟩
/-- A stretch that is laid makes at most its own pages unclean. -/
theorem Enum.put_le {S : SS} {ks ks' : List Int} {A : Int} {bs : Nat → Int} {m : Nat} (h : Enum S ks) (h' : Enum (S.put A bs m) ks') : ks'.length ≤ ks.length + rowN A m := by
  have := h'.le (ps := ks ++ (List.range (rowN A m)).map (fun j : Nat => A / 256 + (j : Int))) (fun k k0 k1 hk => by
    rw [List.mem_append, not_or] at hk
    have e : nz ((S.put A bs m).pg k) 256 = nz (S.pg k) 256 := nz_congr (fun i hi => by
      unfold SS.pg SS.put
      dsimp only
      rw [if_neg]
      intro x
      refine hk.2 (List.mem_map.2 ⟨(k - A / 256).toNat, List.mem_range.2 ?_, by omega⟩)
      unfold rowN
      rw [if_neg (by omega)]
      omega)
    rw [e]
    apply Decidable.byContradiction
    intro y
    exact hk.1 ((h.2 k).2 ⟨k0, k1, by omega⟩))
  simpa using this
theorem rowN_600 {A : Int} {m : Nat} (h : m ≤ 600) : rowN A m ≤ 4 := by have := rowN_le (A := A) (n := m); omega
end Go.Proofs.Ytgebmedkhakhfaa
