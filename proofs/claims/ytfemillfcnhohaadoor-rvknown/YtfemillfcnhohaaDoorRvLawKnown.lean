/- LAYER 5's law RvKnown. -/
import Derived.Test.YtfemillfcnhohaaDoorRvLaws
import Derived.Deep.RegionHeld3
namespace Go.Proofs.YtfemillfcnhohaaDoor
open Go.ChangeShapes Go.WideShapes Go.ChangeAt Go.RowKit

theorem Rv.bad0 : ¬ Rv.good ⟨0, 0, 0, 0, 0⟩ := by unfold Rv.good Rv.reg; decide
theorem Rv.bad1 : ¬ Rv.good ⟨3, 0, 0, 0, 1⟩ := by unfold Rv.good Rv.reg; decide
theorem Rv.bad2 : ¬ Rv.good ⟨19, 0, 0, 0, 2048⟩ := by unfold Rv.good Rv.reg; decide
theorem Rv.bad3 : ¬ Rv.good ⟨28, 0, 0, 0, 1⟩ := by unfold Rv.good Rv.reg; decide
theorem Rv.bad4 : ¬ Rv.good ⟨19, 32, 0, 0, 0⟩ := by unfold Rv.good Rv.reg; decide
theorem Rv.good47 : Rv.good ⟨47, 0, 0, 0, 0⟩ := by unfold Rv.good Rv.reg; decide
theorem Rv.enc47 : Rv.enc ⟨47, 0, 0, 0, 0⟩ = 4111 := by decide +kernel
theorem Rv.kdec0 : Rv.dec 0 = ⟨0, 0, 0, 0, 0⟩ := by rw [Rv.Ins.ext_iff]; decide +kernel
theorem Rv.kdec1 : Rv.dec 4294967295 = ⟨0, 0, 0, 0, 0⟩ := by rw [Rv.Ins.ext_iff]; decide +kernel
theorem Rv.kdec2 : Rv.dec 115 = ⟨48, 0, 0, 0, 0⟩ := by rw [Rv.Ins.ext_iff]; decide +kernel
theorem Rv.kdec3 : Rv.dec 1048691 = ⟨49, 0, 0, 0, 0⟩ := by rw [Rv.Ins.ext_iff]; decide +kernel
theorem Rv.kdec4 : Rv.dec 2097267 = ⟨0, 0, 0, 0, 0⟩ := by rw [Rv.Ins.ext_iff]; decide +kernel
theorem Rv.kdec5 : Rv.dec 10560547 = ⟨18, 0, 2, 10, 8⟩ := by rw [Rv.Ins.ext_iff]; decide +kernel
theorem Rv.kdec6 : Rv.dec 4261416675 = ⟨5, 0, 0, 0, -4⟩ := by rw [Rv.Ins.ext_iff]; decide +kernel
theorem Rv.kdec7 : Rv.dec 1074876563 = ⟨27, 1, 2, 0, 1⟩ := by rw [Rv.Ins.ext_iff]; decide +kernel
theorem Rv.kdec8 : Rv.dec 4292866159 = ⟨3, 0, 0, 0, -4⟩ := by rw [Rv.Ins.ext_iff]; decide +kernel
theorem Rv.kdec9 : Rv.dec 45417779 = ⟨38, 10, 10, 11, 0⟩ := by rw [Rv.Ins.ext_iff]; decide +kernel
theorem Rv.kdec10 : Rv.dec 305419575 = ⟨1, 10, 0, 0, 305418240⟩ := by rw [Rv.Ins.ext_iff]; decide +kernel
theorem Rv.kn0 : Rv.name 0 = ByteArray.empty := by decide +kernel
theorem Rv.kn50 : Rv.name 50 = ByteArray.empty := by decide +kernel

set_option maxHeartbeats 6400000 in
set_option maxRecDepth 100000 in
theorem RvKnown_w (w : World) (ht : Tabs w) (hn : NTab w) (hk : KTab w) :
    Calls Tryd.prog 3 #[] w fun e w' => e = .returned (.bool true) ∧ Gr w w' := by
  go_enter Tryd.func3, Tryd.ntmps3
  go_wp2_with fail
  refine (awake5_c _ ht hn).mono ?_
  rintro e w1 ⟨rfl, g1⟩
  go_wp2_with fail
  refine (Encode_bad ⟨0, 0, 0, 0, 0⟩ _ (ht.gr g1) (by decide) Rv.bad0).mono ?_
  rintro e w2 ⟨rfl, h2⟩
  replace g1 := g1.trans h2; clear h2
  go_wp2_with fail
  refine (Encode_bad ⟨3, 0, 0, 0, 1⟩ _ (ht.gr g1) (by decide) Rv.bad1).mono ?_
  rintro e w2 ⟨rfl, h2⟩
  replace g1 := g1.trans h2; clear h2
  go_wp2_with fail
  refine (Encode_bad ⟨19, 0, 0, 0, 2048⟩ _ (ht.gr g1) (by decide) Rv.bad2).mono ?_
  rintro e w2 ⟨rfl, h2⟩
  replace g1 := g1.trans h2; clear h2
  go_wp2_with fail
  refine (Encode_bad ⟨28, 0, 0, 0, 1⟩ _ (ht.gr g1) (by decide) Rv.bad3).mono ?_
  rintro e w2 ⟨rfl, h2⟩
  replace g1 := g1.trans h2; clear h2
  go_wp2_with fail
  refine (Encode_bad ⟨19, 32, 0, 0, 0⟩ _ (ht.gr g1) (by decide) Rv.bad4).mono ?_
  rintro e w2 ⟨rfl, h2⟩
  replace g1 := g1.trans h2; clear h2
  go_wp2_with fail
  refine (Encode_good ⟨47, 0, 0, 0, 0⟩ _ (ht.gr g1) (by decide) Rv.good47).mono ?_
  rintro e w2 ⟨rfl, h2⟩
  rw [Rv.enc47]
  replace g1 := g1.trans h2; clear h2
  go_wp2_with fail
  refine (Kind_c 24 (by decide) _ (hk.gr g1)).mono ?_
  rintro e w3 ⟨rfl, rfl⟩
  rw [show Rv.kd 24 = 9 from by decide, show Rv.kb 24 = true from by decide]
  go_wp2_with fail
  refine (Kind_c 18 (by decide) _ (hk.gr g1)).mono ?_
  rintro e w4 ⟨rfl, rfl⟩
  rw [show Rv.kd 18 = 0 from by decide, show Rv.kb 18 = false from by decide]
  go_wp2_with fail
  refine (Decode_c 0 (by decide) (by decide) _ (ht.gr g1)).mono ?_
  rintro e w5 ⟨rfl, h2⟩
  rw [Rv.kdec0]; unfold Rv.iv
  replace g1 := g1.trans h2; clear h2
  go_wp2_with fail
  refine (Decode_c 4294967295 (by decide) (by decide) _ (ht.gr g1)).mono ?_
  rintro e w5 ⟨rfl, h2⟩
  rw [Rv.kdec1]; unfold Rv.iv
  replace g1 := g1.trans h2; clear h2
  go_wp2_with fail
  refine (Decode_c 115 (by decide) (by decide) _ (ht.gr g1)).mono ?_
  rintro e w5 ⟨rfl, h2⟩
  rw [Rv.kdec2]; unfold Rv.iv
  replace g1 := g1.trans h2; clear h2
  go_wp2_with fail
  refine (Decode_c 1048691 (by decide) (by decide) _ (ht.gr g1)).mono ?_
  rintro e w5 ⟨rfl, h2⟩
  rw [Rv.kdec3]; unfold Rv.iv
  replace g1 := g1.trans h2; clear h2
  go_wp2_with fail
  refine (Decode_c 2097267 (by decide) (by decide) _ (ht.gr g1)).mono ?_
  rintro e w5 ⟨rfl, h2⟩
  rw [Rv.kdec4]; unfold Rv.iv
  replace g1 := g1.trans h2; clear h2
  go_wp2_with fail
  refine (Decode_c 10560547 (by decide) (by decide) _ (ht.gr g1)).mono ?_
  rintro e w5 ⟨rfl, h2⟩
  rw [Rv.kdec5]; unfold Rv.iv
  replace g1 := g1.trans h2; clear h2
  go_wp2_with fail
  refine (Decode_c 4261416675 (by decide) (by decide) _ (ht.gr g1)).mono ?_
  rintro e w5 ⟨rfl, h2⟩
  rw [Rv.kdec6]; unfold Rv.iv
  replace g1 := g1.trans h2; clear h2
  go_wp2_with fail
  refine (Decode_c 1074876563 (by decide) (by decide) _ (ht.gr g1)).mono ?_
  rintro e w5 ⟨rfl, h2⟩
  rw [Rv.kdec7]; unfold Rv.iv
  replace g1 := g1.trans h2; clear h2
  go_wp2_with fail
  refine (Decode_c 4292866159 (by decide) (by decide) _ (ht.gr g1)).mono ?_
  rintro e w5 ⟨rfl, h2⟩
  rw [Rv.kdec8]; unfold Rv.iv
  replace g1 := g1.trans h2; clear h2
  go_wp2_with fail
  refine (Decode_c 45417779 (by decide) (by decide) _ (ht.gr g1)).mono ?_
  rintro e w5 ⟨rfl, h2⟩
  rw [Rv.kdec9]; unfold Rv.iv
  replace g1 := g1.trans h2; clear h2
  go_wp2_with fail
  refine (Decode_c 305419575 (by decide) (by decide) _ (ht.gr g1)).mono ?_
  rintro e w5 ⟨rfl, h2⟩
  rw [Rv.kdec10]; unfold Rv.iv
  replace g1 := g1.trans h2; clear h2
  go_wp2_with fail
  refine (Ends_c ⟨0, 0, 0, 0, 0⟩ _).mono ?_
  rintro e w6 ⟨rfl, h2⟩
  rw [show Rv.ends (Rv.Ins.op ⟨0, 0, 0, 0, 0⟩) = true from by decide]
  replace g1 := g1.trans h2; clear h2
  go_wp2_with fail
  refine (Ends_c ⟨47, 0, 0, 0, 0⟩ _).mono ?_
  rintro e w6 ⟨rfl, h2⟩
  rw [show Rv.ends (Rv.Ins.op ⟨47, 0, 0, 0, 0⟩) = true from by decide]
  replace g1 := g1.trans h2; clear h2
  go_wp2_with fail
  refine (Ends_c ⟨46, 0, 0, 0, 0⟩ _).mono ?_
  rintro e w6 ⟨rfl, h2⟩
  rw [show Rv.ends (Rv.Ins.op ⟨46, 0, 0, 0, 0⟩) = false from by decide]
  replace g1 := g1.trans h2; clear h2
  go_wp2_with fail
  refine (Name_c 0 _ (hn.gr g1)).mono ?_
  rintro e w7 ⟨rfl, rfl⟩
  rw [Rv.kn0]
  go_wp2_with fail
  refine (Name_c 50 _ (hn.gr g1)).mono ?_
  rintro e w8 ⟨rfl, rfl⟩
  rw [Rv.kn50]
  go_wp2_with fail
  go_ret
  exact ⟨by first | rfl | exact Rv.ret_bool (by decide +kernel), g1⟩
end Go.Proofs.YtfemillfcnhohaaDoor
