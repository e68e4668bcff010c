/- Fill; Put. -/
import Derived.Test.YtgebmedkhakhfaaShSet2
import Derived.Test.YtgebmedkhakhfaaShRep
namespace Go.Proofs.Ytgebmedkhakhfaa
open Go.ChangeShapes Go.WideShapes Go.ChangeAt Go.RowKit Go.Shelf
set_option linter.unusedSimpArgs false
set_option linter.unusedVariables false

section
variable {w : World} {sb : Nat} {F : Nat → Prop} {N : Nat} {S : SS} {L : SLay}
/-- What Set leaves. -/
def SetPost (w : World) (sb : Nat) (F : Nat → Prop) (N : Nat) (S T : SS) (e : Ending) (w' : World) : Prop := ∃ ks', Enum T ks' ∧
      ((e = .returned (.int .i64 6) ∧ Below w.heap.size w w' ∧ S.budget < ks'.length) ∨
       (e = .returned (.int .i64 0) ∧ (ks'.length : Int) ≤ S.budget ∧ Fs F w w' ∧ ∃ L' G, ShL w' sb G N T L' ∧ LaidF F G w w' ∧ (L'.ks.length : Int) ≤ S.budget))
theorem SetPost.up {w1 w' : World} {T : SS} {e : Ending} (g : Below w.heap.size w w1) (h : SetPost w1 sb F N S T e w') : SetPost w sb F N S T e w' := by
  obtain ⟨ks', he, (⟨rfl, hb, hf⟩ | ⟨rfl, hf, hF, L', G, hS, hG, hl⟩)⟩ := h
  · exact ⟨ks', he, .inl ⟨rfl, bl_trans g hb, hf⟩⟩
  · refine ⟨ks', he, .inr ⟨rfl, hf, (bl_fs g F).trans hF (fun _ _ h => h), L', G, hS, ⟨hG.1, fun i hi => ?_⟩, hl⟩⟩
    rcases hG.2 i hi with x | ⟨x, y⟩
    · exact .inl x
    · exact .inr ⟨Nat.le_trans g.size x, y⟩
set_option maxRecDepth 100000 in
set_option maxHeartbeats 2000000 in
theorem Fill_pos (h : ShL w sb F N S L) (A n l : Int) (hA : U4 A) (hn : n ≤ 1048576) (hl : 0 ≤ l ∧ l < 256) (m : Nat) (hm : (m : Int) = min n (4294967296 - A)) (hm0 : 1 ≤ m) (hks : (L.ks.length : Int) ≤ S.budget) (hN : N + rowN A m < maxLen) :
    Calls Try.prog 38 #[.pointer (some ⟨sb, 0, none⟩), .int .u32 A, .int .i64 n, .int .u8 l] w (SetPost w sb F (N + rowN A m) S (S.put A (fun _ => l) m)) := by
  have hn' : ¬ 1048576 < n := by omega
  obtain ⟨a0, a1⟩ := hA
  have HR : ∀ wx, Calls Try.prog 78 #[.int .u32 A, .int .i64 n] wx fun e w' => e = .returned (.int .i64 m) ∧ w' = wx := fun wx => by
    have := reach_c A n ⟨a0, a1⟩ (by omega) (by omega) wx
    rwa [show max 0 (min n (4294967296 - A)) = (m : Int) by omega] at this
  have hmA : A + m ≤ 4294967296 := by omega
  have hm9 : m ≤ 1048576 := by omega
  clear hm
  go_enter Try.func38, Try.ntmps38
  go_wp2_with fail
  refine (HR _).mono ?_
  rintro e w1 ⟨rfl, rfl⟩
  have g1 : Below w.heap.size w (w.alloc (.cells #[.int .u8 l] 5)) := bl_alloc (Below.refl _ _) _
  go_wp2_with fail
  refine (Repeat_c (l := l) (by simp) hm0 (by omega)).mono ?_
  rintro e w2 ⟨G, rfl, g2, hG, sz, hF⟩
  have g3 := bl_trans g1 g2
  have zz := g1.size
  go_wp2_with fail
  refine (Set_c (h.bl g3) A ⟨a0, a1⟩ (g := G) (o := 0) (len := m) (cap := m) (bs := fun _ => l) ⟨Nat.le_refl _, by omega, hF.bys hl, .inr rfl⟩ m (by omega) hks (by omega) hN (fun _ x => by have := h.lt _ x; omega)).mono ?_
  intro e w' hp
  have hq := SetPost.up g3 hp
  obtain ⟨x, hx⟩ : ∃ x, e = .returned (.int .i64 x) := by
    obtain ⟨ks', he, (⟨rfl, _⟩ | ⟨rfl, _⟩)⟩ := hq <;> exact ⟨_, rfl⟩
  subst hx
  go_wp2_with fail
  go_returns
  exact hq
theorem Fill_big (A n l : Int) (hn : 1048576 < n) :
    Calls Try.prog 38 #[.pointer (some ⟨sb, 0, none⟩), .int .u32 A, .int .i64 n, .int .u8 l] w fun e w' => e = .returned (.int .i64 1) ∧ w' = w := by
  go_enter Try.func38, Try.ntmps38
  go_wp2_with fail
  go_returns
  exact ⟨rfl, rfl⟩
end
end Go.Proofs.Ytgebmedkhakhfaa
