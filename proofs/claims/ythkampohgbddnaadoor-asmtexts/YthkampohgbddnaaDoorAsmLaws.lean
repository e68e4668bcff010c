/- LAYER 6's laws: awake. -/
import Derived.Test.YthkampohgbddnaaDoorAsmW9
namespace Go.Proofs.YthkampohgbddnaaDoor
open Go.ChangeShapes Go.WideShapes Go.ChangeAt Go.RowKit

def Asm.i19 : Rv.Ins := ⟨19, 1, 0, 0, -1⟩
def Asm.l19 : List UInt8 := [97, 100, 100, 105, 32, 120, 49, 44, 32, 120, 48, 44, 32, 45, 49]
theorem Asm.good19 : Rv.good Asm.i19 := (Rv.good_5 (by decide)).2 (by unfold Asm.i19 Rv.reg; dsimp only; omega)
theorem Asm.gtext19 : Asm.gtext Asm.i19 = Asm.l19 := by
  have h0 : Lib.itoa 0 = [48] := by rw [Lib.itoa, if_neg (by omega), Asm.dec_small (by decide)]; rfl
  have h1 : Lib.itoa 1 = [49] := by rw [Lib.itoa, if_neg (by omega), Asm.dec_small (by decide)]; rfl
  have h2 : Lib.itoa (-1) = [45, 49] := by rw [Lib.itoa, if_pos (by omega), Asm.dec_small (by decide)]; rfl
  simp [Asm.gtext, Asm.i19, Asm.shape, Asm.ptexts, Asm.ptext, h0, h1, h2, Rv.nmT, Asm.l19]
theorem Asm.parse19 : Asm.parse (Asm.tok Asm.l19) = (Asm.i19, 0) := by rw [← Asm.gtext19]; exact Asm.parse_gtext Asm.good19 (by decide)
/-- What the walks need of the world: the tables as the program's text lays them. -/
structure All6 (w : World) : Prop where
  t : Tabs w
  n : NTab w
  p : PTab w
theorem All6.bw {w w' : World} (h : All6 w) (g : Bw w w') : All6 w' := ⟨h.t.bw g, h.n.bw g, h.p.bw g⟩
theorem awake6_c (w : World) (ha : All6 w) :
    Calls Tryd.prog 9 #[] w fun e w' => e = .returned (.bool true) ∧ Bw w w' := by
  have hP := Parse_c Asm.l19 w (by decide) ha.t ha.n
  rw [Asm.parse19] at hP
  have hT := fun w h => Text_good Asm.i19 w (All6.t h) h.n h.p (by decide) Asm.good19
  rw [Asm.gtext19] at hT
  unfold Rv.iv Asm.i19 at hP hT
  dsimp only at hP hT
  go_enter Tryd.func9, Tryd.ntmps9
  go_wp2_with fail
  refine hP.mono ?_
  rintro e w1 ⟨rfl, hb1⟩
  go_wp2_with fail
  refine (hT _ (ha.bw (hb1.alloc _))).mono ?_
  rintro e w2 ⟨rfl, hb2⟩
  have hq : (Asm.l19 == [97, 100, 100, 105, 32, 120, 49, 44, 32, 120, 48, 44, 32, 45, 49]) = true := by decide
  go_wp2_with fail
  go_ret
  exact ⟨rfl, (hb1.alloc _).trans hb2⟩
end Go.Proofs.YthkampohgbddnaaDoor
