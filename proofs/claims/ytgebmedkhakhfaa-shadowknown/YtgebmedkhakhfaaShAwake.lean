/- LAYER 4's LAWS: awake. -/
import Derived.Test.YtgebmedkhakhfaaShHas
namespace Go.Proofs.Ytgebmedkhakhfaa
open Go.ChangeShapes Go.WideShapes Go.ChangeAt Go.RowKit Go.Shelf
set_option linter.unusedSimpArgs false
set_option linter.unusedVariables false

theorem put5_ge {n : Int} {ks : List Int} (h : Enum ((⟨n, fun _ => 0⟩ : SS).put 5 (fun _ => 1) 1) ks) : 0 < ks.length :=
  h.pos (k := 0) (by omega) (by omega) (i := 5) (by omega) (by simp [SS.pg, SS.put])
theorem put5_le {n : Int} {ks : List Int} (h : Enum ((⟨n, fun _ => 0⟩ : SS).put 5 (fun _ => 1) 1) ks) : ks.length ≤ 1 := by
  have := h.le (ps := [0]) (fun k k0 k1 hk => nz_zero.2 (fun i hi => by
    have hk : k ≠ 0 := fun e => hk (by simp [e])
    simp only [SS.pg, SS.put]
    rw [if_neg (by omega)]))
  simpa using this
set_option maxRecDepth 100000 in
set_option maxHeartbeats 2000000 in
theorem awake4_c (w : World) : Calls Try.prog 36 #[] w fun e w' => e = .returned (.bool true) ∧ Below w.heap.size w w' := by
  go_enter Try.func36, Try.ntmps36
  go_wp2_with fail
  refine (SNew_h 0 (by omega) (by omega) w w (Below.refl _ _)).mono ?_
  rintro e w1 ⟨sb, rfl, b1, hs⟩
  go_wp2_with fail
  refine (SNew_h 1 (by omega) (by omega) w w1 b1).mono ?_
  rintro e w2 ⟨tb, rfl, b2, ht⟩
  have hs2 := hs.on b2
  go_wp2_with fail
  refine (Fill_h hs2 5 1 1 (by unfold U4; omega) (by omega) (by omega) 1 (by omega) (by omega) (by omega)).mono ?_
  rintro e w3 (⟨ks', he, hlt, rfl, b3⟩ | ⟨ks', rfl, hH, _⟩)
  rotate_left
  · have := hH.room
    have := put5_ge hH.enum
    simp only [SS.put] at *
    omega
  have hs3 := hs2.on b3
  have ht3 := ht.on b3
  have A0 := SAt_h hs3 5 (by unfold U4; omega)
  go_wp2_with fail
  refine A0.mono ?_
  rintro e w4 ⟨rfl, rfl⟩
  go_wp2_with fail
  refine (Fill_h ht3 5 1 1 (by unfold U4; omega) (by omega) (by omega) 1 (by omega) (by omega) (by omega)).mono ?_
  rintro e w5 (⟨ks', he, hlt, rfl, b5⟩ | ⟨ks', rfl, hH, _⟩)
  · have := put5_le he
    simp only at hlt
    omega
  have A1 := SAt_h hH 5 (by unfold U4; omega)
  have e1 : ((⟨1, fun _ => 0⟩ : SS).put 5 (fun _ => 1) 1).lab 5 = 1 := by simp [SS.put]
  rw [e1] at A1
  have hl : ks'.length = 1 := by have := put5_le hH.enum; have := put5_ge hH.enum; omega
  have D := Dirty_h hH (by omega)
  rw [hl] at D
  go_wp2_with fail
  refine A1.mono ?_
  rintro e w6 ⟨rfl, rfl⟩
  go_wp2_with fail
  refine D.mono ?_
  rintro e w7 ⟨q, cap, rfl, b7⟩
  go_wp2_with fail
  go_returns
  exact ⟨rfl, (hH.on b7).bl⟩
end Go.Proofs.Ytgebmedkhakhfaa
