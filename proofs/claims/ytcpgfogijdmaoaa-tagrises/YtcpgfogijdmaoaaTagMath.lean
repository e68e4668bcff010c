/- PLAIN MATHEMATICS OF LAYER 2: bytes as vectors of eight bits. -/
import Derived.Test.YtcpgfogijdmaoaaTag
import Derived.Laws.BitsAllLaws
import Derived.OpenShut
namespace Go.Proofs.Ytcpgfogijdmaoaa.Tag
open Go.RowKit

def U8 (a : Int) : Prop := 0 ≤ a ∧ a < 256
/-- Eight bits as a number. -/
def b8 (x : BitVec 8) : Int := (x.toNat : Int)
theorem b8_of {a : Int} (h : U8 a) : ∃ x : BitVec 8, a = b8 x := by
  obtain ⟨h0, h1⟩ := h
  refine ⟨BitVec.ofNat 8 a.toNat, ?_⟩
  unfold b8
  rw [BitVec.toNat_ofNat]
  omega
theorem u8_of {a : Int} (h : (Lit.int .u8 a).wf = true) : U8 a := by
  have := bounds_u8 h; exact ⟨by omega, by omega⟩
theorem b8_U8 (x : BitVec 8) : U8 (b8 x) := by
  have h : x.toNat < 256 := x.isLt
  unfold U8 b8; omega
theorem b8_inj {x y : BitVec 8} : b8 x = b8 y ↔ x = y := by
  unfold b8
  constructor
  · intro h; exact BitVec.eq_of_toNat_eq (by omega)
  · intro h; rw [h]
theorem b8_0 : b8 0#8 = 0 := by rfl
theorem o_b8 (x y : BitVec 8) : o (b8 x) (b8 y) = b8 (x ||| y) := by
  have h := b8_U8 x
  have k := b8_U8 y
  unfold o
  rw [u8_or _ _ h.1 h.2 k.1 k.2]
  unfold b8
  simp
theorem o_b8_0 (x : BitVec 8) : o (b8 x) 0 = b8 x := by
  rw [← b8_0, o_b8]; simp
theorem o_0_b8 (x : BitVec 8) : o 0 (b8 x) = b8 x := by
  rw [← b8_0, o_b8]; simp
theorem n_b8 (x y : BitVec 8) : n (b8 x) (b8 y) = b8 (x &&& y) := by
  have h := b8_U8 x
  have k := b8_U8 y
  unfold n
  rw [u8_and _ _ h.1 h.2 k.1 k.2]
  unfold b8
  simp
theorem or_or (x y : BitVec 8) : x ||| (x ||| y) = x ||| y := by rw [← BitVec.or_assoc, BitVec.or_self]
theorem or_lc (x y z : BitVec 8) : x ||| (y ||| z) = y ||| (x ||| z) := by rw [← BitVec.or_assoc, BitVec.or_comm x y, BitVec.or_assoc]
theorem or_all (x y : Int) : bits .or .u8 x y = o x y := rfl
theorem and_all (x y : Int) : bits .and .u8 x y = n x y := rfl
end Go.Proofs.Ytcpgfogijdmaoaa.Tag
