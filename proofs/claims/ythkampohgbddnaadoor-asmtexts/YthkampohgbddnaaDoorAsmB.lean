/- LAYER 6's walks, what they stand on: the world behind a call (its old blocks stand), strings as lists of bytes, the library's contracts at this cut. -/
import Derived.Test.YthkampohgbddnaaDoorAsm
import Derived.Test.YthkampohgbddnaaDoorBase
import Derived.Test.YthkampohgbddnaaDoorShelf
import Derived.Lib.OthersKept
namespace Go.Proofs.YthkampohgbddnaaDoor
open Go.ChangeShapes Go.WideShapes Go.ChangeAt Go.RowKit

/-- Behind a call: every block that was there stands. -/
def Bw (w w' : World) : Prop := Below w.heap.size w w'
theorem Bw.refl (w : World) : Bw w w := Below.refl _ _
theorem Bw.trans {a b c : World} (h : Bw a b) (k : Bw b c) : Bw a c := Below.trans h (Below.mono k h.size)
theorem Bw.alloc {a w : World} (h : Bw a w) (o : Obj) : Bw a (w.alloc o) := Below.alloc h h.size o
theorem Bw.drew {a w : World} (h : Bw a w) : Bw a w.drew := Below.drew h
theorem Bw.drewN {a w : World} (h : Bw a w) (n : Nat) : Bw a (w.drewN n) := ⟨h.os, h.tape, h.output, h.size, h.block⟩
theorem Bw.setCell {a w : World} (h : Bw a w) {p : Addr} (hp : a.heap.size ≤ p.block) (v : Value) : Bw a (w.setCell p v) := Below.setCell h hp v
theorem Gr.bw {a w : World} (h : Gr a w) : Bw a w := h.b
theorem Bw.gr {a b c : World} (h : Bw a b) (k : Gr b c) : Bw a c := h.trans k.b
theorem Bw.keep {a w : World} (h : Bw a w) {p : Addr} {v : Value} (hv : a.cell? p = some v) : w.cell? p = some v := by
  have hb : p.block < a.heap.size := by
    apply Decidable.byContradiction
    intro hn
    have : a.heap[p.block]? = none := by simp; omega
    simp [World.cell?, this] at hv
  rw [Below.cell h hb]; exact hv
/-- A list of bytes as a Go string. -/
def bs (l : List UInt8) : ByteArray := ⟨l.toArray⟩
theorem bs_of (s : ByteArray) : bs s.data.toList = s := by cases s; simp [bs]
theorem bs_data (l : List UInt8) : (bs l).data.toList = l := by simp [bs]
@[go_sem] theorem bs_size (l : List UInt8) : (bs l).size = l.length := by simp [bs, ByteArray.size]
@[go_sem] theorem bs_toList (l : List UInt8) : (bs l).toList = l := by rw [Lib.toList_data, bs_data]
theorem bs_inj {a b : List UInt8} (h : bs a = bs b) : a = b := by rw [← bs_data a, ← bs_data b, h]
theorem bs_get (l : List UInt8) (i : Nat) (b : UInt8) (h : l[i]? = some b) : ∀ hi, (bs l)[i]'hi = b := by
  intro hi
  have hl : i < l.length := (List.getElem?_eq_some_iff.1 h).1
  have : l[i] = b := by rw [List.getElem?_eq_getElem hl] at h; exact Option.some.inj h
  rw [← this]
  simp [bs, ByteArray.getElem_eq_getElem_data]
end Go.Proofs.YthkampohgbddnaaDoor
