/- LAYER 6: one byte cut out of a string. -/
import Derived.Test.YthkampohgbddnaaDoorAsmW1
namespace Go.Proofs.YthkampohgbddnaaDoor
open Go.ChangeShapes Go.WideShapes Go.ChangeAt Go.RowKit

theorem bs_one {L : List UInt8} {k : Nat} {c : UInt8} (h : L[k]? = some c) : (bs L).extract k (k + 1) = bs [c] := by
  apply ByteArray.ext
  simp [bs, List.take_one, h]
theorem run_slice_one {L : List UInt8} {k : Nat} {c : UInt8} (h : L[k]? = some c) (w : World) :
    (Instr.slice 9 (.string (bs L)) (some (.int .i64 (k : Int))) (some (.int .i64 ((k : Int) + 1))) none).run Tryd.prog w = .ok (.string (bs [c])) w := by
  have hk : k < L.length := (List.getElem?_eq_some_iff.1 h).1
  have e := bs_one h
  have hs := bs_size L
  have hu := run_underlying (P := Tryd.prog) Tryd.underlying9
  simp [Instr.slice, go_sem, hu, hs]
  rw [if_pos ⟨by omega, by omega⟩, e]
end Go.Proofs.YthkampohgbddnaaDoor
