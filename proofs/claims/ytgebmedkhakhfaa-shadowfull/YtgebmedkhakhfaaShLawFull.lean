/- LAYER 4's LAWS: ShadowFull. -/
import Derived.Test.YtgebmedkhakhfaaShAwake
import Derived.Test.YtgebmedkhakhfaaShArgs
namespace Go.Proofs.Ytgebmedkhakhfaa
open Go.ChangeShapes Go.WideShapes Go.ChangeAt Go.RowKit Go.Shelf
set_option linter.unusedSimpArgs false
set_option linter.unusedVariables false

theorem put1_lab (S : SS) (x l : Int) : (S.put x (fun _ => l) 1).lab x = l := by
  simp only [SS.put]; rw [if_pos (by omega)]
/-- With no room, the byte's page was clean. -/
theorem full_clean {S : SS} {ks ks' : List Int} {x l : Int} (hx : U4 x) (h : Enum S ks) (h' : Enum (S.put x (fun _ => l) 1) ks') (hr : (ks.length : Int) ≤ S.budget) (hf : S.budget < ks'.length) : S.lab x = 0 := by
  apply Decidable.byContradiction
  intro hn
  obtain ⟨x0, x1⟩ := hx
  have hin : x / 256 ∈ ks := (h.2 _).2 ⟨by omega, by omega, by
    apply Decidable.byContradiction
    intro y
    have := nz_zero.1 (show nz (S.pg (x / 256)) 256 = 0 by omega) (x % 256).toNat (by omega)
    unfold SS.pg at this
    rw [show 256 * (x / 256) + (((x % 256).toNat : Nat) : Int) = x by omega] at this
    exact hn this⟩
  have := h'.le (ps := ks) (fun k k0 k1 hk => by
    have hne : k ≠ x / 256 := fun e => hk (e ▸ hin)
    rw [nz_congr (fun i hi => put_pg_other S (fun _ => l) (by omega) hne i hi)]
    apply Decidable.byContradiction
    intro y
    exact hk ((h.2 k).2 ⟨k0, k1, by omega⟩))
  omega
set_option maxRecDepth 100000 in
set_option maxHeartbeats 4000000 in
theorem ShadowFull_w {W : World} {v : Value} {n : Nat} {xs : Nat → Int} (ha : WArg W v n xs) (b : Int) :
    Calls Try.prog 6 #[.int .i64 b, v] W fun e w' => e = .returned (.bool true) ∧ Below W.heap.size W w' := by
  obtain ⟨q, cap, rfl, hnc, hu, hcell⟩ := ha
  by_cases hb : (b < 0 ∨ 10 < b) ∨ 40 < (n : Int)
  · rcases hb with (hb | hb) | hb
    · go_enter Try.func6, Try.ntmps6
      go_wp2_with fail
      refine (awake4_c _).mono ?_
      rintro e w1 ⟨rfl, b1⟩
      go_wp2_with fail
      go_returns
      exact ⟨rfl, b1⟩
    · have hb' : ¬ b < 0 := by omega
      go_enter Try.func6, Try.ntmps6
      go_wp2_with fail
      refine (awake4_c _).mono ?_
      rintro e w1 ⟨rfl, b1⟩
      go_wp2_with fail
      go_returns
      exact ⟨rfl, b1⟩
    · by_cases h1 : b < 0
      · go_enter Try.func6, Try.ntmps6
        go_wp2_with fail
        refine (awake4_c _).mono ?_
        rintro e w1 ⟨rfl, b1⟩
        go_wp2_with fail
        go_returns
        exact ⟨rfl, b1⟩
      · by_cases h2 : 10 < b
        · go_enter Try.func6, Try.ntmps6
          go_wp2_with fail
          refine (awake4_c _).mono ?_
          rintro e w1 ⟨rfl, b1⟩
          go_wp2_with fail
          go_returns
          exact ⟨rfl, b1⟩
        · go_enter Try.func6, Try.ntmps6
          go_wp2_with fail
          refine (awake4_c _).mono ?_
          rintro e w1 ⟨rfl, b1⟩
          go_wp2_with fail
          go_returns
          exact ⟨rfl, b1⟩
  · have h1 : ¬ b < 0 := by omega
    have h2 : ¬ 10 < b := by omega
    have h3 : ¬ 40 < (n : Int) := by omega
    clear hb
    go_enter Try.func6, Try.ntmps6
    go_wp2_with fail
    refine (awake4_c _).mono ?_
    rintro e w1 ⟨rfl, b1⟩
    go_wp2_with fail
    refine (SNew_h b (by omega) (by omega) W w1 b1).mono ?_
    rintro e w2 ⟨sb, rfl, b2, hs⟩
    go_wp2_with fail
    go_loopw [7] (fun x wr => ∃ (i N : Nat) (S : SS) (ks : List Int), i ≤ n ∧ x = .int .i64 i ∧ HasS W wr sb N S ks ∧ S.budget = b ∧ N ≤ 3 * i) (fun x _ => n - (intOf x).toNat)
    case atStart => exact ⟨0, 0, _, _, Nat.zero_le _, rfl, hs, rfl, Nat.le_refl _⟩
    case round =>
      clear hs
      obtain ⟨i, N, S, ks, hi, rfl, hs, hSb, hN⟩ := hrel
      by_cases hlt : (i : Int) < n
      · have hin : i < n := by omega
        obtain ⟨gb, go, rfl, hgb, hc⟩ := hcell (by omega)
        have hci := hc i hin
        have hux := hu i
        obtain ⟨x, hx⟩ : ∃ x, xs i = x := ⟨_, rfl⟩
        rw [hx] at hci hux
        have hroom := hs.room
        have D1 := Dirty_h hs (by omega)
        go_wp2_with fail
        refine D1.mono ?_
        rintro e w3 ⟨q3, cap3, rfl, b3⟩
        have hs3 := hs.on b3
        have hc3 := bl_keep hs3.bl hci
        have ux := hux
        obtain ⟨x0, x1⟩ := hux
        go_wp2_with fail
        refine (Fill_h hs3 x 1 7 ux (by omega) (by omega) 1 (by omega) (by omega) (by omega)).mono ?_
        rintro e w4 (⟨ks', he, hf, rfl, b4⟩ | ⟨ks', rfl, hT, b4⟩)
        · have hcl := full_clean ux hs3.enum he hroom hf
          have hs4 := hs3.on b4
          have D2 := Dirty_h hs4 (by omega)
          go_wp2_with fail
          refine D2.mono ?_
          rintro e w5 ⟨q5, cap5, rfl, b5⟩
          have hs5 := hs4.on b5
          have hc5 := bl_keep hs5.bl hci
          have A5 := SAt_h hs5 x ux
          rw [hcl] at A5
          have hbk : ¬ b < (ks.length : Int) := by omega
          go_wp2_with fail
          refine A5.mono ?_
          rintro e w6 ⟨rfl, rfl⟩
          go_wp2_with fail
          refine ⟨⟨i + 1, N, S, ks, by omega, by simp, hs5, hSb, by omega⟩, by simp only [intOf]; omega⟩
        · have hr' := hT.room
          have hTb : (S.put x (fun _ => 7) 1).budget = b := hSb
          have D2 := Dirty_h hT (by omega)
          go_wp2_with fail
          refine D2.mono ?_
          rintro e w5 ⟨q5, cap5, rfl, b5⟩
          have hs5 := hT.on b5
          have hc5 := bl_keep hs5.bl hci
          have A5 := SAt_h hs5 x ux
          rw [put1_lab] at A5
          have hbk : ¬ b < (ks'.length : Int) := by omega
          go_wp2_with fail
          refine A5.mono ?_
          rintro e w6 ⟨rfl, rfl⟩
          go_wp2_with fail
          have hrn := rowN_le (A := x) (n := 1)
          refine ⟨⟨i + 1, N + rowN x 1, _, ks', by omega, by simp, hs5, hSb, by omega⟩, by simp only [intOf]; omega⟩
      · go_wp2_with fail
        go_returns
        exact ⟨rfl, hs.bl⟩
end Go.Proofs.Ytgebmedkhakhfaa
