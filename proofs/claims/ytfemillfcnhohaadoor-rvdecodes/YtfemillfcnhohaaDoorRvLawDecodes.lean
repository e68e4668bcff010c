/- LAYER 5's law RvDecodes. -/
import Derived.Test.YtfemillfcnhohaaDoorRvLaws
import Derived.Test.YtfemillfcnhohaaDoorRvRef2
namespace Go.Proofs.YtfemillfcnhohaaDoor
open Go.ChangeShapes Go.WideShapes Go.ChangeAt Go.RowKit

set_option maxHeartbeats 1600000 in
theorem RvDecodes_w (v : Int) (hv : Alu.U32 v) (w : World) (ht : Tabs w) (hn : NTab w) :
    Calls Tryd.prog 4 #[.int .u32 v] w fun e w' => e = .returned (.bool true) ∧ Gr w w' := by
  have hD := fun w ht => Decode_c v hv.1 hv.2 w ht
  have hR := fun w => rDecode_c v hv.1 hv.2 w
  generalize Rv.dec v = d at *
  go_enter Tryd.func4, Tryd.ntmps4
  go_wp2_with fail
  refine (awake5_c _ ht hn).mono ?_
  rintro e w1 ⟨rfl, g1⟩
  go_wp2_with fail
  refine (hD _ (ht.gr g1)).mono ?_
  rintro e w2 ⟨rfl, h2⟩
  replace g1 := g1.trans h2; clear h2
  go_wp2_with fail
  refine (own_c d _).mono ?_
  rintro e w3 ⟨rfl, h2⟩
  replace g1 := g1.trans h2; clear h2
  go_wp2_with fail
  refine (hR _).mono ?_
  rintro e w4 ⟨rfl, h2⟩
  replace g1 := g1.trans h2; clear h2
  unfold Rv.iv
  go_wp2_with fail
  go_ret
  exact ⟨rfl, g1⟩
end Go.Proofs.YtfemillfcnhohaaDoor
