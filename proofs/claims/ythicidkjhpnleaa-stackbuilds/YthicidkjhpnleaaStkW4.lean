/- LAYER 10's walks: Build. -/
import Derived.Test.YthicidkjhpnleaaStkW3
namespace Go.Proofs.Ythicidkjhpnleaa
open Go.ChangeShapes Go.WideShapes Go.ChangeAt Go.RowKit
set_option linter.unusedSimpArgs false

/-- What Build leaves. -/
def BuildPost (w : World) (l : List ByteArray) (e : Ending) (w' : World) : Prop :=
  (Stk.err l ≠ 0 ∧ e = .returned (.tuple #[.slice none 0 0, .int .u32 0, .slice none 0 0, .int .i64 (Stk.err l)]) ∧ Bw w w') ∨
  (Stk.err l = 0 ∧ ∃ gb pg, e = .returned (.tuple #[.slice (some ⟨gb, 0, none⟩) 4096 4096, .int .u32 (2147475456 + (Stk.sp l : Int)), .slice (some ⟨pg, 0, none⟩) l.length l.length, .int .i64 0]) ∧
    Own8 w w' (.slice (some ⟨gb, 0, none⟩) 4096 4096) (Stk.bytes l) ∧ PlW w' pg l.length (Stk.pls (Stk.first l) l) l.length ∧ w.heap.size ≤ pg ∧ Bw w w')
set_option maxHeartbeats 2000000 in
set_option maxRecDepth 100000 in
theorem Build_c (w : World) (v : Value) (l : List ByteArray) (hv : TxS w v l) (hl : Stk.room l ≤ 1000000000) :
    Calls Try.prog 8 #[v] w fun e w' => BuildPost w l e w' := by
  have hAny := anyNought_c v l w hv
  have hRoom := fun X (g : Bw w X) => roomOf_c v l X (RdR.bw hv g) hl
  have hv2 := hv
  obtain ⟨q, cap, rfl, hc1, hc2, -⟩ := RdR.at1 hv
  by_cases h1 : 16 < l.length
  · have h1i : decide ((16 : Int) < (l.length : Int)) = true := decide_eq_true (by omega)
    have he : Stk.err l = 1 := by unfold Stk.err; rw [if_pos (Or.inl h1)]
    go_enter Try.func8, Try.ntmps8
    go_wp2_with fail
    go_returns
    exact Or.inl ⟨by omega, by rw [he]; rfl, Bw.refl _⟩
  have h1i : decide ((16 : Int) < (l.length : Int)) = false := decide_eq_false (by omega)
  cases hn : l.any Fee.nul with
  | true =>
    have he : Stk.err l = 1 := by unfold Stk.err; rw [if_pos (Or.inr hn)]
    rw [hn] at hAny
    go_enter Try.func8, Try.ntmps8
    go_wp2_with fail
    refine hAny.mono ?_
    rintro e w1 ⟨rfl, b1⟩
    go_wp2_with fail
    go_returns
    exact Or.inl ⟨by omega, by rw [he]; rfl, b1⟩
  | false =>
    rw [hn] at hAny
    by_cases h2 : 3000 < Stk.room l
    · have he : Stk.err l = 2 := by unfold Stk.err; rw [if_neg (by rw [hn]; simp; omega), if_pos h2]
      have h2i : decide ((3000 : Int) < (Stk.room l : Int)) = true := decide_eq_true (by omega)
      go_enter Try.func8, Try.ntmps8
      go_wp2_with fail
      refine hAny.mono ?_
      rintro e w1 ⟨rfl, b1⟩
      go_wp2_with fail
      refine (hRoom _ b1).mono ?_
      rintro e w2 ⟨rfl, b2⟩
      go_wp2_with fail
      go_returns
      exact Or.inl ⟨by omega, by rw [he]; rfl, b1.trans b2⟩
    have h2i : decide ((3000 : Int) < (Stk.room l : Int)) = false := decide_eq_false (by omega)
    have he : Stk.err l = 0 := by unfold Stk.err; rw [if_neg (by rw [hn]; simp; omega), if_neg h2]
    have hf : ((4096 : Int) - (Stk.room l : Int)) = ((Stk.first l : Nat) : Int) := by unfold Stk.first; omega
    have hsp : Stk.sp l + 4 * (l.length + 3) ≤ Stk.first l ∧ Stk.first l ≤ 4096 := by unfold Stk.sp Stk.first; omega
    go_enter Try.func8, Try.ntmps8
    go_wp2_with fail
    refine hAny.mono ?_
    rintro e w1 ⟨rfl, b1⟩
    go_wp2_with fail
    refine (hRoom _ b1).mono ?_
    rintro e w2 ⟨rfl, b2⟩
    replace b2 := b1.trans b2
    obtain ⟨w3, hmk, hO, b3⟩ := mk8 w2 4096 (by omega)
    have hO2 : Own8 w w3 (.slice (some ⟨w2.heap.size, 0, none⟩) 4096 4096) (List.replicate 4096 0) := hO.le b2.size
    have hlt := (hO.blk w2.heap.size rfl).2
    have hge := b2.size
    obtain ⟨gb, hgb⟩ : ∃ gb, w2.heap.size = gb := ⟨_, rfl⟩
    rw [hgb] at hO2 hmk hlt hge
    have hmk' : (Instr.makeSlice 23 (.int .i64 4096) (.int .i64 4096)).run Try.prog w2 = .ok (.slice (some ⟨gb, 0, none⟩) 4096 4096) w3 := hmk
    replace b3 := b2.trans b3
    have hT := layTexts_c w w3 gb 4096 (Stk.first l) (List.replicate 4096 0) _ l b3 hv2 (by simp) (by omega) (by omega) hO2 hge hlt (by omega) (by unfold Stk.first; omega)
    clear hO hmk b2
    go_wp2_with fail
    refine hT.mono ?_
    rintro e w4 ⟨pg, rfl, hP, hne, hpg, hO4, b4⟩
    have hsl := slice_own gb 0 4096 4096 (Stk.sp l) (by omega) (by omega) (by omega)
    rw [Nat.zero_add] at hsl
    have hS : ∀ X, Calls Try.prog 21 #[.int .i64 (Stk.first l), .int .i64 l.length] X fun e w' => e = .returned (.int .i64 (Stk.sp l)) ∧ w' = X := fun X => spBelow_c (Stk.first l) l.length X (by omega) (by omega) (by omega)
    have hN := layNumbers_c w w4 gb 4096 (Stk.sp l) (4096 - Stk.sp l) (4096 - Stk.sp l) pg l.length l.length _ _ b4 (by rw [Stk.txs_len _ _ _ (by rw [List.length_replicate]; unfold Stk.first; omega), List.length_replicate]) hO4 hge hP hne (Stk.pls_len _ _) (by omega)
      (fun p hp => by
        obtain ⟨k, hk⟩ := List.getElem?_of_mem hp
        obtain ⟨s, h1, h2⟩ := Stk.pls_at _ _ _ _ hk
        rw [h2]
        have := Stk.room_take l k
        unfold Stk.first
        dsimp only
        omega) (by omega) (Nat.le_refl _) (by omega) (Nat.le_refl _)
    have hA := fun X => addrOf_c (Stk.sp l) X (by omega)
    go_wp2_with fail
    refine (hS _).mono ?_
    rintro e w5 ⟨rfl, rfl⟩
    go_wp2_with fail
    refine hN.mono ?_
    rintro e w6 ⟨rfl, hO6, b6, hP6⟩
    go_wp2_with fail
    refine (hA _).mono ?_
    rintro e w7 ⟨rfl, rfl⟩
    go_wp2_with fail
    go_returns
    exact Or.inr ⟨he, gb, pg, rfl, hO6, hP6, hpg, b6⟩
end Go.Proofs.Ythicidkjhpnleaa
