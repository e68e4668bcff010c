/- PLAIN MATHEMATICS OF LAYER 2 (labels of four bytes): what tag's calls come to. No Go but the model's 'bits'. -/
import Derived.Test.YtcpgfogijdmaoaaAlu
import Derived.WalkKit
namespace Go.Proofs.Ytcpgfogijdmaoaa.Tag
open Go.RowKit

/-- Four labels, the lowest byte's first. -/
structure T4 where
  x0 : Int
  x1 : Int
  x2 : Int
  x3 : Int

/-- Or of two labels. -/
def o (a b : Int) : Int := bits .or .u8 a b
/-- And of two labels. -/
def n (a b : Int) : Int := bits .and .u8 a b
def T4.get (t : T4) : Nat → Int
  | 0 => t.x0
  | 1 => t.x1
  | 2 => t.x2
  | _ => t.x3
def join (s t : T4) : T4 := ⟨o s.x0 t.x0, o s.x1 t.x1, o s.x2 t.x2, o s.x3 t.x3⟩
def up (t : T4) : T4 := ⟨t.x0, o t.x1 t.x0, o t.x2 (o t.x1 t.x0), o t.x3 (o t.x2 (o t.x1 t.x0))⟩
def fill (l : Int) : T4 := ⟨l, l, l, l⟩
def all (t : T4) : Int := o (o (o t.x0 t.x1) t.x2) t.x3
/-- Byte i of a number. -/
def by4 (a : Int) (i : Nat) : Int := a / 2 ^ (8 * i) % 256
def narrow (t : T4) (size : Int) (signed : Bool) : T4 :=
  if size = 1 then ⟨t.x0, if signed then t.x0 else 0, if signed then t.x0 else 0, if signed then t.x0 else 0⟩
  else if size = 2 then ⟨t.x0, t.x1, if signed then t.x1 else 0, if signed then t.x1 else 0⟩
  else t
/-- One byte of an and. -/
def mk1 (s t a b : Int) : Int := if (s == 0 && a == 0 || t == 0 && b == 0) = true then 0 else o s t
def masked (a b : Int) (s t : T4) : T4 :=
  ⟨mk1 s.x0 t.x0 (by4 a 0) (by4 b 0), mk1 s.x1 t.x1 (by4 a 1) (by4 b 1), mk1 s.x2 t.x2 (by4 a 2) (by4 b 2), mk1 s.x3 t.x3 (by4 a 3) (by4 b 3)⟩
/-- Does a bit of byte i come to stand in byte j? -/
def hit (k b : Int) (i j : Nat) : Bool := by4 (Alu.val k (255 * 2 ^ (8 * i)) b) j != 0
def st (m : Int) (h : Bool) (l : Int) : Int := if h = true then o m l else m
/-- Byte j behind n of the bytes. -/
def mvN (k b : Int) (s : T4) : Nat → Nat → Int
  | 0, _ => 0
  | m + 1, j => st (mvN k b s m j) (hit k b m j) (s.get m)
/-- Within the round of byte m: the bytes below j are done. -/
def inn (k b : Int) (s : T4) (m j i : Nat) : Int := if i < j then mvN k b s (m + 1) i else mvN k b s m i
def moved (k b : Int) (s : T4) : T4 := ⟨mvN k b s 4 0, mvN k b s 4 1, mvN k b s 4 2, mvN k b s 4 3⟩
def shifted (k b : Int) (s : T4) (c : Int) : T4 := if c = 0 then moved k b s else fill (o (all s) c)
def flow (k a b : Int) (s t : T4) : T4 :=
  if k = 5 ∨ k = 8 then join s t
  else if k = 9 then masked a b s t
  else if k = 0 ∨ k = 1 ∨ k = 10 then up (join s t)
  else if k = 2 ∨ k = 6 ∨ k = 7 then shifted k b s t.x0
  else if k = 3 ∨ k = 4 then ⟨all (join s t), 0, 0, 0⟩
  else if 11 ≤ k ∧ k ≤ 17 then fill (all (join s t))
  else ⟨0, 0, 0, 0⟩

theorem inn_start (k b : Int) (s : T4) (m i : Nat) : inn k b s m 0 i = mvN k b s m i := by unfold inn; rw [if_neg (by omega)]
theorem inn_end (k b : Int) (s : T4) (m i : Nat) (h : i < 4) : inn k b s m 4 i = mvN k b s (m + 1) i := by unfold inn; rw [if_pos h]
theorem inn_other (k b : Int) (s : T4) (m : Nat) {j i : Nat} (h : i ≠ j) : inn k b s m (j + 1) i = inn k b s m j i := by
  unfold inn
  by_cases h1 : i < j
  · rw [if_pos h1, if_pos (by omega)]
  · rw [if_neg h1, if_neg (by omega)]
theorem inn_hit (k b : Int) (s : T4) (m j : Nat) (h : hit k b m j = true) : inn k b s m (j + 1) j = o (inn k b s m j j) (s.get m) := by
  unfold inn
  rw [if_pos (by omega), if_neg (by omega), mvN, st, if_pos h]
theorem inn_miss (k b : Int) (s : T4) (m j : Nat) (h : hit k b m j = false) : inn k b s m (j + 1) j = inn k b s m j j := by
  unfold inn
  rw [if_pos (by omega), if_neg (by omega), mvN, st, if_neg (by simp [h])]
end Go.Proofs.Ytcpgfogijdmaoaa.Tag
