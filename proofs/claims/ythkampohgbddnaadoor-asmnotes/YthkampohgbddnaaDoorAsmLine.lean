/- LAYER 6's walks: lineWord. -/
import Derived.Test.YthkampohgbddnaaDoorAsmCut
namespace Go.Proofs.YthkampohgbddnaaDoor
open Go.ChangeShapes Go.WideShapes Go.ChangeAt Go.RowKit

theorem Asm.ret_ue {a b c d : Int} (h : a = b) (h2 : c = d) : Ending.returned (.tuple #[.int .u32 a, .int .i64 c]) = .returned (.tuple #[.int .u32 b, .int .i64 d]) := by rw [h, h2]
/-- A line's word by its first word. -/
theorem Asm.lineW_no {l : List UInt8} (h : Asm.word l ≠ Asm.wordName) : Asm.lineW (Asm.tok l) = (Asm.wrd (Asm.parse (Asm.tok l)), (Asm.parse (Asm.tok l)).2) := by
  unfold Asm.lineW
  rw [if_neg]
  by_cases hw : Asm.word l = []
  · rcases Asm.tok_none hw with ⟨_, e⟩ | ⟨b, r, hb, _, e⟩
    · rw [e]; simp
    · rw [e]; simp [Asm.wordName]
  · rw [Asm.tok_cut hw]; simpa using h
theorem Asm.lineW_yes {l : List UInt8} (h : Asm.word l = Asm.wordName) : Asm.lineW (Asm.tok l) = Asm.plainW (Asm.tok (Asm.rest l)) := by
  have hw : Asm.word l ≠ [] := by rw [h]; decide
  unfold Asm.lineW
  rw [Asm.tok_cut hw, if_pos (by simp [h])]; rfl
/-- What stands behind 'word': one number, and nothing else. -/
theorem Asm.plainW_cut (r : List UInt8) : Asm.plainW (Asm.tok r) = if (Asm.numOk (Asm.word r) = true ∧ 0 ≤ Asm.num (Asm.word r) ∧ Asm.num (Asm.word r) < 4294967296) ∧ Asm.trimB (Asm.rest r) = [] then (Asm.num (Asm.word r), 0) else (0, 7) := by
  by_cases hw : Asm.word r = []
  · rw [Asm.numOk_short (Or.inl hw), if_neg (by simp)]
    rcases Asm.tok_none hw with ⟨_, e⟩ | ⟨b, r', hb, _, e⟩
    · rw [e]; rfl
    · rw [e]
      cases ht : Asm.tok r' with
      | nil => simp [Asm.plainW, Asm.numOk_short (Or.inr ⟨b, hb, rfl⟩)]
      | cons x xs => rfl
  · rw [Asm.tok_cut hw]
    by_cases ht : Asm.trimB (Asm.rest r) = []
    · rw [(Asm.tok_empty _).2 ht]; simp [Asm.plainW, ht]
    · have h2 : Asm.tok (Asm.rest r) ≠ [] := fun h => ht ((Asm.tok_empty _).1 h)
      rw [if_neg (fun h => ht h.2)]
      cases hx : Asm.tok (Asm.rest r) with
      | nil => exact absurd hx h2
      | cons x xs => rfl
set_option maxHeartbeats 2000000 in
set_option maxRecDepth 100000 in
theorem lineWord_c (l : List UInt8) (w : World) (hl : l.length < 4294967281) (ht : Tabs w) (hn : NTab w) :
    Calls Tryd.prog 28 #[.string (bs l)] w fun e w' => e = .returned (.tuple #[.int .u32 (Asm.lineW (Asm.tok l)).1, .int .i64 (Asm.lineW (Asm.tok l)).2]) ∧ Bw w w' := by
  have hC := cutWord_c l w hl
  have hlen := Asm.word_len l
  by_cases hw : Asm.word l = Asm.wordName
  · rw [Asm.lineW_yes hw, Asm.plainW_cut]
    rw [hw] at hC
    have hC2 := fun w => cutWord_c (Asm.rest l) w (by omega)
    have hlen2 := Asm.word_len (Asm.rest l)
    have hN := fun w => numberOf_c (Asm.word (Asm.rest l)) w (by omega)
    have hT := fun w => trimBlanks_c (Asm.rest (Asm.rest l)) w
    obtain ⟨n0, n1⟩ := Asm.num_bd (Asm.word (Asm.rest l))
    generalize Asm.num (Asm.word (Asm.rest l)) = N at *
    generalize Asm.numOk (Asm.word (Asm.rest l)) = k at *
    generalize Asm.trimB (Asm.rest (Asm.rest l)) = T at *
    generalize Asm.word (Asm.rest l) = wd at *
    generalize Asm.rest (Asm.rest l) = rr at *
    generalize Asm.rest l = r at *
    have hq : (Asm.wordName == [119, 111, 114, 100]) = true := by decide
    clear hw
    cases k
    · rw [if_neg (by simp)]
      go_enter Tryd.func28, Tryd.ntmps28
      go_wp2_with fail
      refine hC.mono ?_
      rintro e w1 ⟨rfl, hb1⟩
      go_wp2_with fail
      refine (hC2 _).mono ?_
      rintro e w2 ⟨rfl, hb2⟩
      go_wp2_with (first
        | (go_at_call 54; refine (hN _).mono ?_; rintro e w3 ⟨rfl, hb3⟩))
      go_returns
      exact ⟨rfl, (hb1.trans hb2).trans hb3⟩
    · by_cases hr : 0 ≤ N ∧ N < 4294967296
      · have hs : (N / 4294967296 == 0) = true := by simp; omega
        have hs2 : (N / 4294967296 != 0) = false := by simp; omega
        by_cases hT0 : T = []
        · subst hT0
          rw [if_pos (by simpa using hr)]
          go_enter Tryd.func28, Tryd.ntmps28
          go_wp2_with fail
          refine hC.mono ?_
          rintro e w1 ⟨rfl, hb1⟩
          go_wp2_with fail
          refine (hC2 _).mono ?_
          rintro e w2 ⟨rfl, hb2⟩
          go_wp2_with (first
            | (go_at_call 54; refine (hN _).mono ?_; rintro e w3 ⟨rfl, hb3⟩)
            | (go_at_call 55; refine (hT _).mono ?_; rintro e w4 ⟨rfl, hb4⟩))
          go_returns
          exact ⟨Asm.ret_ue (by omega) rfl, ((hb1.trans hb2).trans hb3).trans hb4⟩
        · have hTe : T.isEmpty = false := by simpa using hT0
          rw [if_neg (fun h => hT0 h.2)]
          go_enter Tryd.func28, Tryd.ntmps28
          go_wp2_with fail
          refine hC.mono ?_
          rintro e w1 ⟨rfl, hb1⟩
          go_wp2_with fail
          refine (hC2 _).mono ?_
          rintro e w2 ⟨rfl, hb2⟩
          go_wp2_with (first
            | (go_at_call 54; refine (hN _).mono ?_; rintro e w3 ⟨rfl, hb3⟩)
            | (go_at_call 55; refine (hT _).mono ?_; rintro e w4 ⟨rfl, hb4⟩))
          go_returns
          exact ⟨rfl, ((hb1.trans hb2).trans hb3).trans hb4⟩
      · have hs2 : (N / 4294967296 != 0) = true := by simp; omega
        rw [if_neg (fun h => hr h.1.2)]
        go_enter Tryd.func28, Tryd.ntmps28
        go_wp2_with fail
        refine hC.mono ?_
        rintro e w1 ⟨rfl, hb1⟩
        go_wp2_with fail
        refine (hC2 _).mono ?_
        rintro e w2 ⟨rfl, hb2⟩
        go_wp2_with (first
          | (go_at_call 54; refine (hN _).mono ?_; rintro e w3 ⟨rfl, hb3⟩))
        go_returns
        exact ⟨rfl, (hb1.trans hb2).trans hb3⟩
  · rw [Asm.lineW_no hw]
    have hP := fun w2 (hb : Bw w w2) => parse_c l w2 hl (ht.bw hb) (hn.bw hb)
    have hq : (Asm.word l == [119, 111, 114, 100]) = false := by simpa [Asm.wordName] using hw
    generalize Asm.parse (Asm.tok l) = R at *
    unfold Rv.iv at hP
    generalize Asm.word l = wd at *
    clear hw
    go_enter Tryd.func28, Tryd.ntmps28
    go_wp2_with (first
      | (go_at_call 53; refine hC.mono ?_; rintro e w1 ⟨rfl, hb1⟩)
      | (go_at_call 37; refine (hP _ hb1).mono ?_; rintro e w2 ⟨rfl, hb2⟩))
    go_returns
    exact ⟨rfl, (hb1.trans hb2).alloc _⟩
end Go.Proofs.YthkampohgbddnaaDoor
