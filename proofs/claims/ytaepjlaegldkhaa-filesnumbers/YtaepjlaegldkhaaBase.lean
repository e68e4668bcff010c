/- WHAT EVERY LAYER USES: the world behind a call ('Gr': old blocks stand, nothing is frozen anew); endings. -/
import Derived.Test.YtaepjlaegldkhaaRows
import Derived.WalkKit
import Derived.ProofKit
import Derived.OpenShut
import Derived.Handy
import Derived.Deep.Draws
namespace Go.Proofs.Ytaepjlaegldkhaa
open Go.ChangeShapes Go.WideShapes Go.ChangeAt Go.RowKit

/-- Behind a call that makes memory of its own alone: what was there is as it was. -/
structure Gr (w w' : World) : Prop where
  b : Below w.heap.size w w'
  f : ∀ a, w'.frozen? a = w.frozen? a

theorem Gr.refl (w : World) : Gr w w := ⟨Below.refl _ _, fun _ => rfl⟩
theorem Gr.trans {a b c : World} (h : Gr a b) (k : Gr b c) : Gr a c := ⟨h.b.trans (k.b.mono h.b.size), fun x => (k.f x).trans (h.f x)⟩
theorem Gr.alloc {a w : World} (h : Gr a w) (c : Array Value) (t : TypeId) : Gr a (w.alloc (.cells c t)) :=
  ⟨h.b.alloc h.b.size _, fun x => (frozen?_alloc_cells w c t x).trans (h.f x)⟩
theorem Gr.setCell {a w : World} (h : Gr a w) {p : Addr} (hp : a.heap.size ≤ p.block) (v : Value) : Gr a (w.setCell p v) :=
  ⟨h.b.setCell hp v, fun x => (World.frozen?_setCell _ _ _ _).trans (h.f x)⟩
theorem Gr.drew {a w : World} (h : Gr a w) : Gr a w.drew := ⟨h.b.drew, h.f⟩
theorem Gr.of_eq {a w : World} (h : w = a) : Gr a w := h ▸ Gr.refl _
theorem Gr.grown {a w : World} (h : Gr a w) : Grown a w := ⟨h.b.frame _, h.f, h.b.size⟩
theorem Gr.size {a w : World} (h : Gr a w) : a.heap.size ≤ w.heap.size := h.b.size
theorem Gr.cell {a w : World} (h : Gr a w) (b o : Nat) (hb : b < a.heap.size) : w.cell? ⟨b, o, none⟩ = a.cell? ⟨b, o, none⟩ := h.b.cell (p := ⟨b, o, none⟩) hb
theorem Gr.cellA {a w : World} (h : Gr a w) (b o : Nat) (hb : b < a.heap.size) (X : Obj) : (w.alloc X).cell? ⟨b, o, none⟩ = a.cell? ⟨b, o, none⟩ := by
  have h2 : Below a.heap.size a (w.alloc X) := h.b.alloc h.b.size X
  exact h2.cell (p := ⟨b, o, none⟩) hb
theorem Gr.frozenA {a w : World} (h : Gr a w) (b o : Nat) (_ : b < a.heap.size) (c : Array Value) (t : TypeId) : (w.alloc (.cells c t)).frozen? ⟨b, o, none⟩ = a.frozen? ⟨b, o, none⟩ := (frozen?_alloc_cells w c t _).trans (h.f _)
theorem Gr.keep {a w : World} (h : Gr a w) {p : Addr} {v : Value} (hv : a.cell? p = some v) : w.cell? p = some v := by
  have hb : p.block < a.heap.size := by
    apply Decidable.byContradiction
    intro hn
    have : a.heap[p.block]? = none := by simp; omega
    simp [World.cell?, this] at hv
  rw [h.b.cell hb]; exact hv
@[go_sem] theorem setCell_drewN (w : World) (n : Nat) (a : Addr) (v : Value) : (w.drewN n).setCell a v = (w.setCell a v).drewN n := rfl
@[go_sem] theorem alloc_drewN (w : World) (n : Nat) (x : Obj) : (w.drewN n).alloc x = (w.alloc x).drewN n := rfl
theorem Gr.drewN {a w : World} (h : Gr a w) (n : Nat) : Gr a (w.drewN n) := ⟨⟨h.b.os, h.b.tape, h.b.output, h.b.size, h.b.block⟩, h.f⟩
end Go.Proofs.Ytaepjlaegldkhaa
