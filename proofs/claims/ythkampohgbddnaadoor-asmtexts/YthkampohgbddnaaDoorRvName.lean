/- LAYER 5's walks: Name, Kind, Ends. -/
import Derived.Test.YthkampohgbddnaaDoorRvEnc
namespace Go.Proofs.YthkampohgbddnaaDoor
open Go.ChangeShapes Go.WideShapes Go.ChangeAt Go.RowKit

def Rv.nmT : List (List UInt8) := [[], [108, 117, 105], [97, 117, 105, 112, 99], [106, 97, 108], [106, 97, 108, 114], [98, 101, 113], [98, 110, 101], [98, 108, 116], [98, 103, 101], [98, 108, 116, 117], [98, 103, 101, 117], [108, 98], [108, 104], [108, 119], [108, 98, 117], [108, 104, 117], [115, 98], [115, 104], [115, 119], [97, 100, 100, 105], [115, 108, 116, 105], [115, 108, 116, 105, 117], [120, 111, 114, 105], [111, 114, 105], [97, 110, 100, 105], [115, 108, 108, 105], [115, 114, 108, 105], [115, 114, 97, 105], [97, 100, 100], [115, 117, 98], [115, 108, 108], [115, 108, 116], [115, 108, 116, 117], [120, 111, 114], [115, 114, 108], [115, 114, 97], [111, 114], [97, 110, 100], [109, 117, 108], [109, 117, 108, 104], [109, 117, 108, 104, 115, 117], [109, 117, 108, 104, 117], [100, 105, 118], [100, 105, 118, 117], [114, 101, 109], [114, 101, 109, 117], [102, 101, 110, 99, 101], [102, 101, 110, 99, 101, 46, 105], [101, 99, 97, 108, 108], [101, 98, 114, 101, 97, 107]]
def Rv.nmS (i : Nat) : ByteArray := ⟨(Rv.nmT.getD i []).toArray⟩
def Rv.name (op : Int) : ByteArray := if 1 ≤ op ∧ op ≤ 49 then Rv.nmS op.toNat else ByteArray.empty
/-- Package rv's names hold what their text says. -/
def NTab (w : World) : Prop := ∀ i : Nat, i < 50 → w.cell? ⟨1, i, none⟩ = some (.string (Rv.nmS i))
theorem NTab.gr {w w' : World} (h : NTab w) (g : Gr w w') : NTab w' := fun i hi => g.keep (h i hi)
theorem Rv.ret_str {a b : ByteArray} (h : a = b) : Ending.returned (.string a) = .returned (.string b) := by rw [h]

theorem Name_c (op : Int) (w : World) (ht : NTab w) :
    Calls Tryd.prog 17 #[.int .i64 op] w fun e w' => e = .returned (.string (Rv.name op)) ∧ w' = w := by
  by_cases h : 1 ≤ op ∧ op ≤ 49
  · have hk : decide (1 ≤ op ∧ op ≤ 49) = true := by simpa using h
    have hc := ht op.toNat (by omega)
    have hn : Rv.name op = Rv.nmS op.toNat := by unfold Rv.name; rw [if_pos h]
    rw [hn]
    generalize Rv.nmS op.toNat = s at hc
    have o0 : 0 ≤ op := by omega
    have o1 : op < 50 := by omega
    clear h
    go_enter Tryd.func17, Tryd.ntmps17
    go_wp2_with (go_at_call 34; refine (known_c _ _).mono ?_; rintro e w' ⟨rfl, rfl⟩; rw [hk])
    go_ret
    exact ⟨rfl, rfl⟩
  · have hk : decide (1 ≤ op ∧ op ≤ 49) = false := by simpa using h
    have hn : Rv.name op = ByteArray.empty := by unfold Rv.name; rw [if_neg h]
    rw [hn]; clear h
    go_enter Tryd.func17, Tryd.ntmps17
    go_wp2_with (go_at_call 34; refine (known_c _ _).mono ?_; rintro e w' ⟨rfl, rfl⟩; rw [hk])
    go_ret
    exact ⟨rfl, rfl⟩
end Go.Proofs.YthkampohgbddnaaDoor
