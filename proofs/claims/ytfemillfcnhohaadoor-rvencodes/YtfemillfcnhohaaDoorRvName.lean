/- LAYER 5's walks: Name, Kind, Ends. -/
import Derived.Test.YtfemillfcnhohaaDoorRvEnc
namespace Go.Proofs.YtfemillfcnhohaaDoor
open Go.ChangeShapes Go.WideShapes Go.ChangeAt Go.RowKit

def Rv.nmT : List (List UInt8) := [[], [108, 117, 105], [97, 117, 105, 112, 99], [106, 97, 108], [106, 97, 108, 114], [98, 101, 113], [98, 110, 101], [98, 108, 116], [98, 103, 101], [98, 108, 116, 117], [98, 103, 101, 117], [108, 98], [108, 104], [108, 119], [108, 98, 117], [108, 104, 117], [115, 98], [115, 104], [115, 119], [97, 100, 100, 105], [115, 108, 116, 105], [115, 108, 116, 105, 117], [120, 111, 114, 105], [111, 114, 105], [97, 110, 100, 105], [115, 108, 108, 105], [115, 114, 108, 105], [115, 114, 97, 105], [97, 100, 100], [115, 117, 98], [115, 108, 108], [115, 108, 116], [115, 108, 116, 117], [120, 111, 114], [115, 114, 108], [115, 114, 97], [111, 114], [97, 110, 100], [109, 117, 108], [109, 117, 108, 104], [109, 117, 108, 104, 115, 117], [109, 117, 108, 104, 117], [100, 105, 118], [100, 105, 118, 117], [114, 101, 109], [114, 101, 109, 117], [102, 101, 110, 99, 101], [102, 101, 110, 99, 101, 46, 105], [101, 99, 97, 108, 108], [101, 98, 114, 101, 97, 107]]
def Rv.nmS (i : Nat) : ByteArray := ⟨(Rv.nmT.getD i []).toArray⟩
def Rv.name (op : Int) : ByteArray := if 1 ≤ op ∧ op ≤ 49 then Rv.nmS op.toNat else ByteArray.empty
/-- Package rv's names hold what their text says. -/
def NTab (w : World) : Prop := ∀ i : Nat, i < 50 → w.cell? ⟨2, i, none⟩ = some (.string (Rv.nmS i))
theorem NTab.gr {w w' : World} (h : NTab w) (g : Gr w w') : NTab w' := fun i hi => g.keep (h i hi)
theorem Rv.ret_str {a b : ByteArray} (h : a = b) : Ending.returned (.string a) = .returned (.string b) := by rw [h]

theorem Name_c (op : Int) (w : World) (ht : NTab w) :
    Calls Tryd.prog 16 #[.int .i64 op] w fun e w' => e = .returned (.string (Rv.name op)) ∧ w' = w := by
  by_cases h : 1 ≤ op ∧ op ≤ 49
  · have hk : decide (1 ≤ op ∧ op ≤ 49) = true := by simpa using h
    have hc := ht op.toNat (by omega)
    have hn : Rv.name op = Rv.nmS op.toNat := by unfold Rv.name; rw [if_pos h]
    rw [hn]
    generalize Rv.nmS op.toNat = s at hc
    have o0 : 0 ≤ op := by omega
    have o1 : op < 50 := by omega
    clear h
    go_enter Tryd.func16, Tryd.ntmps16
    go_wp2_with (go_at_call 23; refine (known_c _ _).mono ?_; rintro e w' ⟨rfl, rfl⟩; rw [hk])
    go_ret
    exact ⟨rfl, rfl⟩
  · have hk : decide (1 ≤ op ∧ op ≤ 49) = false := by simpa using h
    have hn : Rv.name op = ByteArray.empty := by unfold Rv.name; rw [if_neg h]
    rw [hn]; clear h
    go_enter Tryd.func16, Tryd.ntmps16
    go_wp2_with (go_at_call 23; refine (known_c _ _).mono ?_; rintro e w' ⟨rfl, rfl⟩; rw [hk])
    go_ret
    exact ⟨rfl, rfl⟩
def KTab (w : World) : Prop := ∀ i : Nat, i < 9 → w.cell? ⟨1, i, none⟩ = some (.int .i64 ((Rv.kdT.getD i 0 : Nat) : Int))
theorem KTab.gr {w w' : World} (h : KTab w) (g : Gr w w') : KTab w' := fun i hi => g.keep (h i hi)
def Rv.kd (op : Int) : Int := if 19 ≤ op ∧ op ≤ 27 then ((Rv.kdT.getD (op - 19).toNat 0 : Nat) : Int) else if 28 ≤ op ∧ op ≤ 45 then op - 28 else 0
def Rv.kb (op : Int) : Bool := decide (19 ≤ op ∧ op ≤ 45)
theorem Rv.ret_kb {a c : Int} {b d : Bool} (h : a = c) (h2 : b = d) : Ending.returned (.tuple #[.int .i64 a, .bool b]) = .returned (.tuple #[.int .i64 c, .bool d]) := by rw [h, h2]
theorem Kind_c (op : Int) (hop : -9223372036854775808 ≤ op ∧ op ≤ 9223372036854775807) (w : World) (ht : KTab w) :
    Calls Tryd.prog 13 #[.int .i64 op] w fun e w' => e = .returned (.tuple #[.int .i64 (Rv.kd op), .bool (Rv.kb op)]) ∧ w' = w := by
  by_cases h1 : 19 ≤ op ∧ op ≤ 27
  · have hb : Rv.kb op = true := by unfold Rv.kb; simp; omega
    have hk : Rv.kd op = ((Rv.kdT.getD (op - 19).toNat 0 : Nat) : Int) := by unfold Rv.kd; rw [if_pos h1]
    rw [hb, hk]
    have hc := ht (op - 19).toNat (by omega)
    generalize Rv.kdT.getD (op - 19).toNat 0 = x at hc
    obtain ⟨a0, a1⟩ := h1
    go_enter Tryd.func13, Tryd.ntmps13
    go_wp2
    go_returns
    exact ⟨rfl, rfl⟩
  by_cases h2 : 28 ≤ op ∧ op ≤ 45
  · have hb : Rv.kb op = true := by unfold Rv.kb; simp; omega
    have hk : Rv.kd op = op - 28 := by unfold Rv.kd; rw [if_neg h1, if_pos h2]
    rw [hb, hk]
    obtain ⟨a0, a1⟩ := h2
    clear h1
    go_enter Tryd.func13, Tryd.ntmps13
    go_wp2
    go_returns
    exact ⟨rfl, rfl⟩
  · have hb : Rv.kb op = false := by unfold Rv.kb; simp; omega
    have hk : Rv.kd op = 0 := by unfold Rv.kd; rw [if_neg h1, if_neg h2]
    rw [hb, hk]
    obtain h | h : op < 19 ∨ 45 < op := by omega
    all_goals
      clear h1 h2
      go_enter Tryd.func13, Tryd.ntmps13
      go_wp2
      go_returns
      exact ⟨rfl, rfl⟩
def Rv.ends (op : Int) : Bool := decide (op = 0 ∨ (3 ≤ op ∧ op ≤ 10) ∨ (47 ≤ op ∧ op ≤ 49))
theorem Ends_c (i : Rv.Ins) (w : World) :
    Calls Tryd.prog 15 #[Rv.iv i] w fun e w' => e = .returned (.bool (Rv.ends i.op)) ∧ Gr w w' := by
  unfold Rv.iv
  obtain ⟨op, rd, rs1, rs2, imm⟩ := i
  dsimp only
  obtain h | h | h | h | h | h : op = 0 ∨ (3 ≤ op ∧ op ≤ 10) ∨ (47 ≤ op ∧ op ≤ 49) ∨ (op < 3 ∧ op ≠ 0) ∨ (10 < op ∧ op < 47) ∨ 49 < op := by omega
  · subst h
    go_enter Tryd.func15, Tryd.ntmps15
    go_wp2
    go_ret
    exact ⟨rfl, by (repeat' (first | (with_reducible assumption) | (with_reducible exact Gr.refl _) | (with_reducible refine Gr.alloc ?_ _ _) | (with_reducible refine Gr.drew ?_) | (with_reducible refine Gr.drewN ?_ _) | (with_reducible refine Gr.setCell ?_ ?_ _) | (with_reducible refine Gr.trans ?_ (by assumption)) | omega | (dsimp only; omega) | (simp; done) | (simp; omega)))⟩
  · have hr : Rv.ends op = true := by unfold Rv.ends; simp; omega
    rw [hr]; obtain ⟨h0, h1⟩ := h
    have e0 := Rv.beqF (show op ≠ 0 by omega)
    go_enter Tryd.func15, Tryd.ntmps15
    go_wp2
    go_ret
    exact ⟨rfl, by (repeat' (first | (with_reducible assumption) | (with_reducible exact Gr.refl _) | (with_reducible refine Gr.alloc ?_ _ _) | (with_reducible refine Gr.drew ?_) | (with_reducible refine Gr.drewN ?_ _) | (with_reducible refine Gr.setCell ?_ ?_ _) | (with_reducible refine Gr.trans ?_ (by assumption)) | omega | (dsimp only; omega) | (simp; done) | (simp; omega)))⟩
  · have hr : Rv.ends op = true := by unfold Rv.ends; simp; omega
    rw [hr]; obtain ⟨h0, h1⟩ := h
    have e0 := Rv.beqF (show op ≠ 0 by omega)
    go_enter Tryd.func15, Tryd.ntmps15
    go_wp2
    go_ret
    exact ⟨rfl, by (repeat' (first | (with_reducible assumption) | (with_reducible exact Gr.refl _) | (with_reducible refine Gr.alloc ?_ _ _) | (with_reducible refine Gr.drew ?_) | (with_reducible refine Gr.drewN ?_ _) | (with_reducible refine Gr.setCell ?_ ?_ _) | (with_reducible refine Gr.trans ?_ (by assumption)) | omega | (dsimp only; omega) | (simp; done) | (simp; omega)))⟩
  · have hr : Rv.ends op = false := by unfold Rv.ends; simp; omega
    rw [hr]; obtain ⟨h0, h1⟩ := h
    have e0 := Rv.beqF h1
    go_enter Tryd.func15, Tryd.ntmps15
    go_wp2
    go_ret
    exact ⟨rfl, by (repeat' (first | (with_reducible assumption) | (with_reducible exact Gr.refl _) | (with_reducible refine Gr.alloc ?_ _ _) | (with_reducible refine Gr.drew ?_) | (with_reducible refine Gr.drewN ?_ _) | (with_reducible refine Gr.setCell ?_ ?_ _) | (with_reducible refine Gr.trans ?_ (by assumption)) | omega | (dsimp only; omega) | (simp; done) | (simp; omega)))⟩
  · have hr : Rv.ends op = false := by unfold Rv.ends; simp; omega
    rw [hr]; obtain ⟨h0, h1⟩ := h
    have e0 := Rv.beqF (show op ≠ 0 by omega)
    go_enter Tryd.func15, Tryd.ntmps15
    go_wp2
    go_ret
    exact ⟨Rv.ret_bool (by simp; omega), by (repeat' (first | (with_reducible assumption) | (with_reducible exact Gr.refl _) | (with_reducible refine Gr.alloc ?_ _ _) | (with_reducible refine Gr.drew ?_) | (with_reducible refine Gr.drewN ?_ _) | (with_reducible refine Gr.setCell ?_ ?_ _) | (with_reducible refine Gr.trans ?_ (by assumption)) | omega | (dsimp only; omega) | (simp; done) | (simp; omega)))⟩
  · have hr : Rv.ends op = false := by unfold Rv.ends; simp; omega
    rw [hr]
    have e0 := Rv.beqF (show op ≠ 0 by omega)
    go_enter Tryd.func15, Tryd.ntmps15
    go_wp2
    go_ret
    exact ⟨Rv.ret_bool (by simp; omega), by (repeat' (first | (with_reducible assumption) | (with_reducible exact Gr.refl _) | (with_reducible refine Gr.alloc ?_ _ _) | (with_reducible refine Gr.drew ?_) | (with_reducible refine Gr.drewN ?_ _) | (with_reducible refine Gr.setCell ?_ ?_ _) | (with_reducible refine Gr.trans ?_ (by assumption)) | omega | (dsimp only; omega) | (simp; done) | (simp; omega)))⟩
end Go.Proofs.YtfemillfcnhohaaDoor
