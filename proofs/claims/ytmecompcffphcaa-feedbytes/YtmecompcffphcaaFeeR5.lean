/- LAYER 9, the reference's: W32, text. -/
import Derived.Test.YtmecompcffphcaaFeeP
import Derived.Test.YtmecompcffphcaaFeeR1
import Derived.Test.YtmecompcffphcaaAppS
namespace Go.Proofs.Ytmecompcffphcaa
open Go.ChangeShapes Go.WideShapes Go.ChangeAt Go.RowKit
set_option linter.unusedSimpArgs false

set_option maxHeartbeats 1000000 in
set_option maxRecDepth 100000 in
theorem rText_c (w : World) (v : Value) (L : List Int) (s : ByteArray) (hv : Rd8 w v L) (hs : s.size ≤ 10000) (hn : L.length ≤ 800000) :
    Calls Try.prog 26 #[v, .string s] w fun e w' => ∃ v', e = .returned v' ∧ P8 w w' v' (L ++ Fee.txt (Fee.sb s)) ∧ Bw w w' := by
  have e1 : (s.size : Int) % 4294967296 = (s.size : Int) := by omega
  have hC := rW32_c w v L (s.size : Int) hv (by omega) (by omega) (by omega)
  go_enter Try.func26, Try.ntmps26
  go_wp2_with fail
  refine hC.mono ?_
  rintro e w2 ⟨v2, rfl, o2, b2⟩
  obtain ⟨v3, w3, hr, o3, b3, -⟩ := o2.str b2 s (by rw [List.length_append, Fee.w4_len]; omega)
  have HFin : Hid (P8 w w3 v3 (L ++ Fee.txt (Fee.sb s)) ∧ Bw w w3) := by
    refine ⟨?_, b3⟩
    unfold Fee.txt
    rw [Fee.sb_len, ← List.append_assoc]
    exact o3
  clear o3 b3 o2 b2 hC
  go_wp2_with (first | (at_builtin; refine wpApp2 rfl _ _ 22 9 rfl rfl rfl hr ?_) | go_in)
  go_returns
  exact ⟨v3, rfl, HFin⟩
end Go.Proofs.Ytmecompcffphcaa
