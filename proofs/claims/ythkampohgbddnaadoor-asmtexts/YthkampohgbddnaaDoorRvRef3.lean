/- LAYER 5: the document's own answer: Encode's tests, Kind, Name, Ends. -/
import Derived.Test.YthkampohgbddnaaDoorRvRefM
namespace Go.Proofs.YthkampohgbddnaaDoor
open Go.ChangeShapes Go.WideShapes Go.ChangeAt Go.RowKit

theorem rreg_c (r : Int) (w : World) :
    Calls Tryd.prog 39 #[.int .i64 r] w fun e w' => e = .returned (.bool (decide (0 ≤ r ∧ r < 32))) ∧ w' = w := by
  by_cases h1 : 0 ≤ r
  · by_cases h2 : r < 32
    · go_enter Tryd.func39, Tryd.ntmps39
      go_wp2
      go_ret
      exact ⟨Rv.ret_bool (by simp; omega), rfl⟩
    · go_enter Tryd.func39, Tryd.ntmps39
      go_wp2
      go_ret
      exact ⟨Rv.ret_bool (by simp; omega), rfl⟩
  · go_enter Tryd.func39, Tryd.ntmps39
    go_wp2
    go_ret
    exact ⟨Rv.ret_bool (by simp; omega), rfl⟩
end Go.Proofs.YthkampohgbddnaaDoor
