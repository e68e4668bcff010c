/- LAYER 9's law FeedTakes. -/
import Derived.Test.YtldapnefhlmdiaaFeeA
import Derived.Test.YtldapnefhlmdiaaFeeR2
namespace Go.Proofs.Ytldapnefhlmdiaa
open Go.ChangeShapes Go.WideShapes Go.ChangeAt Go.RowKit

def I64s (l : List Int) : Prop := ∀ n ∈ l, -9223372036854775808 ≤ n ∧ n ≤ 9223372036854775807
theorem ret_true {w w' : World} (g : Bw w w') : Ending.returned (.bool true) = .returned (.bool true) ∧ Bw w w' := ⟨rfl, g⟩
set_option maxHeartbeats 4000000 in
set_option maxRecDepth 100000 in
theorem FeedTakes_w (v0 v1 : Value) (W : World) (h0 : ∃ sh, NsS W v0 sh ∧ I64s sh) (h1 : ∃ l, NsS W v1 l ∧ I64s l) : Calls Try.prog 8 #[v0, v1] W fun e w' => e = .returned (.bool true) ∧ Bw W w' := by
  obtain ⟨sh, hs, si⟩ := h0
  obtain ⟨l, hl, li⟩ := h1
  have hs2 := hs
  have hl2 := hl
  obtain ⟨qs, cs, rfl, hs1, hs3, hcs⟩ := RdR.at1 hs
  obtain ⟨ql, cl, rfl, hl1, hl3, hcl⟩ := RdR.at1 hl
  go_enter Try.func8, Try.ntmps8
  go_wp2_with fail
  refine (awake9_c _).mono ?_
  rintro e w1 ⟨rfl, hb1⟩
  by_cases hn1 : 64 < sh.length
  · have hn1i : decide ((64 : Int) < (sh.length : Int)) = true := decide_eq_true (by omega)
    go_wp2_with fail
    go_returns
    exact ⟨rfl, hb1⟩
  have hn1i : decide ((64 : Int) < (sh.length : Int)) = false := decide_eq_false (by omega)
  by_cases hn2 : 80 < l.length
  · have hn2i : decide ((80 : Int) < (l.length : Int)) = true := decide_eq_true (by omega)
    go_wp2_with fail
    go_returns
    exact ⟨rfl, hb1⟩
  have hn2i : decide ((80 : Int) < (l.length : Int)) = false := decide_eq_false (by omega)
  have hI : ∀ X, Bw W X → IsFd X (.agg #[.slice none 0 0, .slice none 0 0, .slice qs sh.length cs, .slice none 0 0, .slice none 0 0, .slice none 0 0]) ⟨[], [], sh, [], [], []⟩ := fun X g =>
    ⟨_, _, _, _, _, _, rfl, RdR.nil _ _, RdR.nil _ _, RdR.bw hs2 g, RdR.nil _ _, RdR.nil _ _, FlS.nil _, ⟨by simp [B8s], si, by simp [B8s], by simp⟩⟩
  have hM := fun X g => rMay_c _ _ X (hI X g) ⟨by simp, by simp⟩
  have hBg := fun X g => Begin_c _ _ X (hI X g)
  cases hgd : Fee.good ⟨[], [], sh, [], [], []⟩ with
  | false =>
    rw [hgd] at hM
    clear hBg hI hcs hcl
    go_wp2_with (go_at_call 28; refine (hM _ hb1).mono ?_; rintro e w2 ⟨rfl, hb2⟩)
    go_returns
    exact ⟨rfl, hb1.trans hb2⟩
  | true =>
    rw [hgd] at hM
    have hbeg : Fee.beg ⟨[], [], sh, [], [], []⟩ = ⟨[], [], sh, [], [], []⟩ := by unfold Fee.beg; rw [hgd]; rfl
    rw [hbeg] at hBg
    dsimp only at hBg
    clear hI hbeg hgd
    go_wp2_with (first | (go_at_call 28; refine (hM _ hb1).mono ?_; rintro e w2 ⟨rfl, hb2⟩) | (go_at_call 12; refine (hBg _ (hb1.trans hb2)).mono ?_; rintro e w3 ⟨ub, rfl, hub, hb3, hU, -⟩))
    have hle : W.heap.size ≤ ub := Nat.le_trans (hb1.trans hb2).size hub
    replace hb3 := (hb1.trans hb2).trans hb3
    clear hb1 hb2 hub hM hBg hn1i hn2i
    go_loopg [6, 7] l.length (fun g x j wr => ∃ k a : Nat, k + g = l.length ∧ x = .int .i64 a ∧ j = .int .i64 k ∧ Bw W wr ∧ UseS wr ub sh [] [] a 0 0)
    case atStart => exact ⟨0, 0, by omega, rfl, rfl, hb3, hU⟩
    case round =>
      obtain ⟨k, a, hkg, rfl, rfl, hbw, hU2⟩ := hrel
      clear hb3 hU
      by_cases hk : k = l.length
      · subst hk
        clear hU2 hcs hcl
        go_wp2_with fail
        go_returns
        exact ⟨rfl, hbw⟩
      · have hkl : k < l.length := by omega
        have hki : (k : Int) < (l.length : Int) := by omega
        obtain ⟨x, hx, -⟩ := dropAt hkl
        have hxb := li x (List.mem_of_getElem? hx)
        obtain ⟨bl, ol, rfl, -, c0⟩ := hcl k x hx
        have la := hU2.la
        have hT := Take_c _ _ _ _ _ _ _ _ hU2 (by omega) x
        have c1 := hbw.keep c0
        clear hx hcl
        by_cases hx0 : x < 0
        · have hF : Fee.take sh a x = (0, a) := by unfold Fee.take; rw [if_pos hx0]
          rw [hF] at hT
          clear hU2 hcs
          go_wp2_with (go_at_call 15; refine hT.mono ?_; rintro e w4 ⟨rfl, hU4, q4, -⟩; have hb4 := q4.toBw hbw hle; have c2 := hb4.keep c0)
          go_roundg (l.length - (k + 1))
          case measure => omega
          case rel => exact ⟨k + 1, a, by omega, rfl, by simp, hb4, hU4⟩
        · have hx1 : decide (x < 0) = false := decide_eq_false hx0
          by_cases ha : a = sh.length
          · have hF : Fee.take sh a x = (x, a) := by unfold Fee.take; rw [if_neg hx0, ha, List.getElem?_eq_none (Nat.le_refl _)]
            rw [hF] at hT
            subst ha
            clear hU2 hcs
            go_wp2_with (first | (go_at_call 15; refine hT.mono ?_; rintro e w4 ⟨rfl, hU4, q4, -⟩; have hb4 := q4.toBw hbw hle; have c2 := hb4.keep c0) | (go_at_call 27; refine (Used_c _ _ _ _ _ _ _ _ hU4).mono ?_; rintro e w5 ⟨rfl, hb5⟩))
            go_roundg (l.length - (k + 1))
            case measure => omega
            case rel => exact ⟨k + 1, sh.length, by omega, rfl, by simp, hb4.trans hb5, hU4.bw hb5⟩
          · have hal : a < sh.length := by omega
            have hai : (a : Int) < (sh.length : Int) := by omega
            obtain ⟨m, hm, -⟩ := dropAt hal
            have hF : Fee.take sh a x = (min x m, a + 1) := by unfold Fee.take; rw [if_neg hx0, hm]
            rw [hF] at hT
            obtain ⟨bs', os', rfl, -, d0⟩ := hcs a m hm
            have hmin : min x m = if m < x then m else x := by split <;> omega
            clear hU2 hcs hm hF
            by_cases hmx : m < x
            · have hT2 : (min x m) = m := by omega
              rw [hT2] at hT
              have hmx1 : decide (m < x) = true := decide_eq_true hmx
              clear hmin hT2
              go_wp2_with (first | (go_at_call 15; refine hT.mono ?_; rintro e w4 ⟨rfl, hU4, q4, -⟩; have hb4 := q4.toBw hbw hle; have c2 := hb4.keep c0; have d2 := hb4.keep d0) | (go_at_call 27; refine (Used_c _ _ _ _ _ _ _ _ hU4).mono ?_; rintro e w5 ⟨rfl, hb5⟩))
              go_roundg (l.length - (k + 1))
              case measure => omega
              case rel => exact ⟨k + 1, a + 1, by omega, by simp, by simp, hb4.trans hb5, hU4.bw hb5⟩
            · have hT2 : (min x m) = x := by omega
              rw [hT2] at hT
              have hmx1 : decide (m < x) = false := decide_eq_false hmx
              clear hmin hT2
              go_wp2_with (first | (go_at_call 15; refine hT.mono ?_; rintro e w4 ⟨rfl, hU4, q4, -⟩; have hb4 := q4.toBw hbw hle; have c2 := hb4.keep c0; have d2 := hb4.keep d0) | (go_at_call 27; refine (Used_c _ _ _ _ _ _ _ _ hU4).mono ?_; rintro e w5 ⟨rfl, hb5⟩))
              go_roundg (l.length - (k + 1))
              case measure => omega
              case rel => exact ⟨k + 1, a + 1, by omega, by simp, by simp, hb4.trans hb5, hU4.bw hb5⟩
end Go.Proofs.Ytldapnefhlmdiaa
