/- LAYER 12, the document's own steps (tinctureref11): Step. -/
import Derived.Test.YtbackacbdfgdoaaDoorKR1
import Derived.Test.YtbackacbdfgdoaaDoorKPg
import Derived.Test.YtbackacbdfgdoaaDoorKAl
import Derived.Test.YtbackacbdfgdoaaDoorKRc
import Derived.BigQuiet
namespace Go.Proofs.YtbackacbdfgdoaaDoor
open Go.ChangeShapes Go.WideShapes Go.ChangeAt Go.RowKit
open Cpu
set_option linter.unusedVariables false
set_option linter.unusedSimpArgs false

theorem RM.two {G : Nat → Prop} {X Y Z : World} {rb N b1 b2 : Nat} {S : MS} (h : RM G X rb N S) (q7 : Bq b1 X Y) (q8 : Bq b2 Y Z) (h1 : ¬ G b1) (h2 : ¬ G b2) : RM G Z rb N S :=
  h.keep (Nat.le_trans q7.b0.size q8.b0.size) (fun i hi hg => (q8.block i (Nat.lt_of_lt_of_le hi q7.b0.size) (fun e => h2 (e ▸ hg))).trans (q7.block i hi (fun e => h1 (e ▸ hg))))
theorem Sq.two {G G' : Nat → Prop} {w X Y Z : World} {b1 b2 : Nat} (h : Sq G G' w X) (q7 : Bq b1 X Y) (q8 : Bq b2 Y Z) (hb1 : w.heap.size ≤ b1) (hb2 : w.heap.size ≤ b2) : Sq G G' w Z := by
  have hs := h.fz.b0.size
  refine ⟨⟨h.fz.b0.trans (q7.b0.trans q8.b0), fun i hi hn => ?_⟩, h.le⟩
  rw [q8.block i (Nat.lt_of_lt_of_le (Nat.lt_of_lt_of_le hi hs) q7.b0.size) (by omega), q7.block i (Nat.lt_of_lt_of_le hi hs) (by omega)]
  exact h.fz.block i hi hn
theorem fetch_fine {S : MS} (hS : S.Ok) {pc : Int} (h : (fetch S pc).2.kind = 0) : InsOk (fetch S pc).1 ∧ (fetch S pc).2 = nx ∧ (fetch S pc).1.op ≠ 0 := by
  unfold fetch at h ⊢
  by_cases h0 : S.ask pc 4 4 = 0
  · rw [if_pos h0] at h ⊢
    by_cases h1 : (Rv.dec (S.load pc 4 4)).op = 0
    · rw [if_pos h1] at h
      exact absurd h (by dsimp only; omega)
    · rw [if_neg h1]
      exact ⟨dec_ok (MS.load_u4 hS _ _ _), rfl, h1⟩
  · rw [if_neg h0] at h
    exact absurd h (by dsimp only; omega)
end Go.Proofs.YtbackacbdfgdoaaDoor
