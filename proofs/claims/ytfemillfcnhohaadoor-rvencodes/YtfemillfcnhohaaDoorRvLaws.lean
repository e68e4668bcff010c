/- LAYER 5's laws: awake. -/
import Derived.Test.YtfemillfcnhohaaDoorRvName
namespace Go.Proofs.YtfemillfcnhohaaDoor
open Go.ChangeShapes Go.WideShapes Go.ChangeAt Go.RowKit

def Rv.i28 : Rv.Ins := ⟨28, 1, 2, 3, 0⟩
theorem Rv.good28 : Rv.good Rv.i28 := (Rv.good_7 (by decide)).2 (by unfold Rv.i28 Rv.reg; dsimp only; omega)
theorem Rv.dec19 : Rv.dec 19 = ⟨19, 0, 0, 0, 0⟩ := by rw [Rv.Ins.ext_iff]; decide +kernel
theorem Rv.name28 : Rv.name 28 = ⟨#[97, 100, 100]⟩ := by decide +kernel

theorem awake5_c (w : World) (ht : Tabs w) (hn : NTab w) :
    Calls Tryd.prog 11 #[] w fun e w' => e = .returned (.bool true) ∧ Gr w w' := by
  have hd : Rv.dec (Rv.enc Rv.i28) = Rv.i28 := Rv.dec_enc Rv.good28 (by decide)
  have hu := Rv.enc_U32 Rv.good28.1
  have hE := fun w ht => Encode_good Rv.i28 w ht (by decide) Rv.good28
  generalize Rv.enc Rv.i28 = E at *
  go_enter Tryd.func11, Tryd.ntmps11
  go_wp2_with fail
  refine (hE _ ht).mono ?_
  rintro e w1 ⟨rfl, h1⟩
  go_wp2_with fail
  refine (Decode_c 19 (by decide) (by decide) _ (ht.gr h1)).mono ?_
  rintro e w2 ⟨rfl, h2⟩
  rw [Rv.dec19]; unfold Rv.iv
  replace h1 := h1.trans h2; clear h2
  go_wp2_with fail
  refine (Decode_c E hu.1 hu.2 _ (ht.gr h1)).mono ?_
  rintro e w3 ⟨rfl, h2⟩
  rw [hd]; unfold Rv.iv Rv.i28
  replace h1 := h1.trans h2; clear h2
  go_wp2_with fail
  refine (Name_c 28 _ (hn.gr h1)).mono ?_
  rintro e w4 ⟨rfl, rfl⟩
  rw [Rv.name28]
  go_wp2_with fail
  go_ret
  exact ⟨rfl, h1⟩
end Go.Proofs.YtfemillfcnhohaaDoor
