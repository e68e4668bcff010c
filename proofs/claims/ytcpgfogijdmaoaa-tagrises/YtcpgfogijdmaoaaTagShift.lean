/- PLAIN MATHEMATICS OF LAYER 2: shifts: which bit comes from where. -/
import Derived.Test.YtcpgfogijdmaoaaTagMath
import Derived.Test.YtcpgfogijdmaoaaAluBits
namespace Go.Proofs.Ytcpgfogijdmaoaa.Tag

/-- Whence comes bit m of a shift by n? -/
def src (k : Int) (n m : Nat) : Option Nat :=
  if k = 2 then (if n ≤ m then some (m - n) else none)
  else if k = 6 then (if m + n < 32 then some (m + n) else none)
  else some (if m + n < 32 then m + n else 31)
/-- Byte j behind m bits. -/
def rfN (k : Int) (n : Nat) (s : T4) : Nat → Nat → Int
  | 0, _ => 0
  | m + 1, j => if j = m / 8 then (match src k n m with | some f => o (rfN k n s m j) (s.get (f / 8)) | none => rfN k n s m j) else rfN k n s m j

theorem rfN_other (k : Int) (n : Nat) (s : T4) {m j : Nat} (h : j ≠ m / 8) : rfN k n s (m + 1) j = rfN k n s m j := by
  rw [rfN, if_neg h]
theorem rfN_none (k : Int) (n : Nat) (s : T4) {m : Nat} (j : Nat) (h : src k n m = none) : rfN k n s (m + 1) j = rfN k n s m j := by
  rw [rfN, h]; split <;> rfl
theorem rfN_some (k : Int) (n : Nat) (s : T4) {m f j c : Nat} (h : src k n m = some f) (hj : m / 8 = j) (hc : f / 8 = c) : rfN k n s (m + 1) j = o (rfN k n s m j) (s.get c) := by
  rw [rfN, if_pos hj.symm, h, ← hc]
end Go.Proofs.Ytcpgfogijdmaoaa.Tag
