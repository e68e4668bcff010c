/- LAYER 4's LAWS: ShadowApart. -/
import Derived.Test.YtgebmedkhakhfaaShLaws
namespace Go.Proofs.Ytgebmedkhakhfaa
open Go.ChangeShapes Go.WideShapes Go.ChangeAt Go.RowKit Go.Shelf
set_option linter.unusedSimpArgs false
set_option linter.unusedVariables false

set_option maxRecDepth 100000 in
set_option maxHeartbeats 4000000 in
theorem ShadowApart_w {W : World} {va vb : Value} {na nb : Nat} {cs bs : Nat → Int} (ha : BArg W va na cs) (hb : BArg W vb nb bs) (x n y : Int) (hx : U4 x) (hy : U4 y) :
    Calls Try.prog 7 #[va, .int .u32 x, vb, .int .i64 n, .int .u32 y] W fun e w' => e = .returned (.bool true) ∧ Below W.heap.size W w' := by
  have SA := fun (w : World) (b : Below W.heap.size W w) => ha.sarg b
  have SB := fun (w : World) (b : Below W.heap.size W w) => hb.sarg b
  have hbc := hb
  obtain ⟨qa, ca, rfl, _⟩ := ha
  obtain ⟨qb, cb, rfl, _⟩ := hb
  by_cases h1 : 300 < (na : Int)
  · (go_enter Try.func7, Try.ntmps7; go_wp2_with fail; refine (awake4_c _).mono ?_; rintro e w1 ⟨rfl, b1⟩; go_wp2_with fail; go_returns; exact ⟨rfl, b1⟩)
  by_cases h2 : 300 < (nb : Int)
  · (go_enter Try.func7, Try.ntmps7; go_wp2_with fail; refine (awake4_c _).mono ?_; rintro e w1 ⟨rfl, b1⟩; go_wp2_with fail; go_returns; exact ⟨rfl, b1⟩)
  by_cases h3 : n < 0
  · (go_enter Try.func7, Try.ntmps7; go_wp2_with fail; refine (awake4_c _).mono ?_; rintro e w1 ⟨rfl, b1⟩; go_wp2_with fail; go_returns; exact ⟨rfl, b1⟩)
  by_cases h4 : 1000 < n
  · (go_enter Try.func7, Try.ntmps7; go_wp2_with fail; refine (awake4_c _).mono ?_; rintro e w1 ⟨rfl, b1⟩; go_wp2_with fail; go_returns; exact ⟨rfl, b1⟩)
  by_cases h5 : 4294960000 < x
  · (go_enter Try.func7, Try.ntmps7; go_wp2_with fail; refine (awake4_c _).mono ?_; rintro e w1 ⟨rfl, b1⟩; go_wp2_with fail; go_returns; exact ⟨rfl, b1⟩)
  have ux := hx
  obtain ⟨x0, x1⟩ := hx
  have y0 := hy.1
  have y1 := hy.2
  go_enter Try.func7, Try.ntmps7
  go_wp2_with fail
  refine (awake4_c _).mono ?_
  rintro e w1 ⟨rfl, b1⟩
  go_wp2_with fail
  refine (SNew_h 50 (by omega) (by omega) W w1 b1).mono ?_
  rintro e w2 ⟨sb, rfl, b2, hs⟩
  obtain ⟨g1, o1, c1, sa1, hg1⟩ := SA w2 hs.bl
  go_wp2_with fail
  refine (Set_h hs x ux sa1 na (by omega) (by omega) (by omega) hg1).mono ?_
  have hr1 := rowN_600 (A := x) (m := na) (by omega)
  rintro e w3 (⟨ks1, he1, hf1, rfl, b3⟩ | ⟨ks1, rfl, h3', b3⟩)
  · have := hs.enum.put_le he1
    simp at this hf1
    omega
  have hk1 := hs.enum.put_le h3'.enum
  have A3 := SAt_h h3' y hy
  go_wp2_with fail
  refine A3.mono ?_
  rintro e w4 ⟨rfl, rfl⟩
  obtain ⟨g2, o2, c2, sa2, hg2⟩ := SB w4 h3'.bl
  have up : U4 (x + n) := ⟨by omega, by omega⟩
  go_wp2_with fail
  refine (Set_h h3' (x + n) up sa2 nb (by omega) (by omega) (by omega) hg2).mono ?_
  have hr2 := rowN_600 (A := x + n) (m := nb) (by omega)
  rintro e w5 (⟨ks2, he2, hf2, rfl, b5⟩ | ⟨ks2, rfl, h5', b5⟩)
  · have := h3'.enum.put_le he2
    simp [SS.put] at this hf2 hk1
    omega
  have hlab : ∀ i, i < nb → (((⟨50, fun _ => 0⟩ : SS).put x cs na).put (x + n) bs nb).lab (x + n + (i : Int)) = bs i := fun i hi => by
    show (if _ then _ else _) = _
    rw [if_pos (by omega)]
    congr 1; omega
  have hoth : ¬ (x + n ≤ y ∧ y - (x + n) < nb) → (((⟨50, fun _ => 0⟩ : SS).put x cs na).put (x + n) bs nb).lab y = ((⟨50, fun _ => 0⟩ : SS).put x cs na).lab y := fun h => by
    show (if _ then _ else _) = _
    rw [if_neg (by omega)]
  obtain ⟨Z, hZ⟩ : ∃ Z, ((⟨50, fun _ => 0⟩ : SS).put x cs na).lab y = Z := ⟨_, rfl⟩
  rw [hZ] at hoth ⊢
  have hSS : ∃ S2, ((⟨50, fun _ => 0⟩ : SS).put x cs na).put (x + n) bs nb = S2 := ⟨_, rfl⟩
  obtain ⟨S2, hS2⟩ := hSS
  rw [hS2] at hlab hoth h5'
  clear hS2 h3' A3 hk1 hs sa1 sa2 b1 b2 b3 b5
  go_wp2_with fail
  go_loopw [15] (fun v wr => ∃ (i N : Nat), i ≤ nb ∧ v = .int .i64 i ∧ HasS W wr sb N S2 ks2) (fun v _ => nb - (intOf v).toNat)
  case atStart => exact ⟨0, _, Nat.zero_le _, rfl, h5'⟩
  case round =>
    clear h5'
    obtain ⟨i, N, hi, rfl, h6⟩ := hrel
    by_cases hlt : (i : Int) < nb
    · have hin : i < nb := by omega
      obtain ⟨_, _, e, _, _, hr, hc⟩ := hbc
      cases e
      obtain ⟨gb, go, rfl, hgb, hc⟩ := hc (by omega)
      have hci := bl_keep h6.bl (hc i hin)
      have A6 := fun wx (hx : Below wr.heap.size wr wx) => SAt_h (h6.on hx) (x + n + i) ⟨by omega, by omega⟩
      rw [hlab i hin] at A6
      go_wp2_with fail
      go_quiet (first | (go_at_call 43; refine Calls.quiet_of_same (A6 _ (by first | exact Below.refl _ _ | exact blN (Below.refl _ _) _))))
      go_wp2_with fail
      refine ⟨⟨i + 1, N, by omega, by simp, h6.on (blN (Below.refl _ _) nq)⟩, by simp only [intOf]; omega⟩
    · by_cases hyp : x + n ≤ y
      · by_cases hyq : y - (x + n) < nb
        · go_wp2_with fail
          go_returns
          exact ⟨rfl, h6.bl⟩
        · have A6 := SAt_h h6 y hy
          rw [hoth (fun z => hyq z.2)] at A6
          go_wp2_with fail
          refine A6.mono ?_
          rintro e w7 ⟨rfl, rfl⟩
          go_wp2_with fail
          go_returns
          exact ⟨rfl, h6.bl⟩
      · have A6 := SAt_h h6 y hy
        rw [hoth (fun z => hyp z.1)] at A6
        go_wp2_with fail
        refine A6.mono ?_
        rintro e w7 ⟨rfl, rfl⟩
        go_wp2_with fail
        go_returns
        exact ⟨rfl, h6.bl⟩
end Go.Proofs.Ytgebmedkhakhfaa
