/- PLAIN MATHEMATICS OF LAYER 2: Flow as eight bits: clean stays clean, no label comes from nowhere, more labels give more. -/
import Derived.Test.YtcpgfogijdmaoaaTagMath
import Derived.Test.YtcpgfogijdmaoaaTagShift2
namespace Go.Proofs.Ytcpgfogijdmaoaa.Tag
set_option linter.unusedSimpArgs false

def g4 (s0 s1 s2 s3 : BitVec 8) : Nat → BitVec 8
  | 0 => s0
  | 1 => s1
  | 2 => s2
  | _ => s3
/-- Flow over vectors of eight bits, byte j. -/
def fb (k a b : Int) (s0 s1 s2 s3 t0 t1 t2 t3 : BitVec 8) (j : Nat) : BitVec 8 :=
  if k = 5 ∨ k = 8 then g4 s0 s1 s2 s3 j ||| g4 t0 t1 t2 t3 j
  else if k = 9 then (if (g4 s0 s1 s2 s3 j = 0#8 ∧ by4 a j = 0) ∨ (g4 t0 t1 t2 t3 j = 0#8 ∧ by4 b j = 0) then 0#8 else g4 s0 s1 s2 s3 j ||| g4 t0 t1 t2 t3 j)
  else if k = 0 ∨ k = 1 ∨ k = 10 then (if 0 ≤ j then s0 ||| t0 else 0#8) ||| (if 1 ≤ j then s1 ||| t1 else 0#8) ||| (if 2 ≤ j then s2 ||| t2 else 0#8) ||| (if 3 ≤ j then s3 ||| t3 else 0#8)
  else if k = 2 ∨ k = 6 ∨ k = 7 then (if t0 = 0#8 then (if hit k b 0 j then s0 else 0#8) ||| (if hit k b 1 j then s1 else 0#8) ||| (if hit k b 2 j then s2 else 0#8) ||| (if hit k b 3 j then s3 else 0#8) else s0 ||| s1 ||| s2 ||| s3 ||| t0)
  else if k = 3 ∨ k = 4 then (if j = 0 then s0 ||| s1 ||| s2 ||| s3 ||| (t0 ||| t1 ||| t2 ||| t3) else 0#8)
  else if 11 ≤ k ∧ k ≤ 17 then s0 ||| s1 ||| s2 ||| s3 ||| (t0 ||| t1 ||| t2 ||| t3)
  else 0#8

theorem b8_z (x : BitVec 8) : (b8 x == 0) = decide (x = 0#8) := by
  rw [Bool.eq_iff_iff]; simp only [beq_iff_eq, decide_eq_true_eq]; rw [← b8_0, b8_inj]
theorem b8_ze (x : BitVec 8) : b8 x = 0 ↔ x = 0#8 := by rw [← b8_0, b8_inj]
theorem mk1_b8 (s t : BitVec 8) (a b : Int) : mk1 (b8 s) (b8 t) a b = b8 (if (s = 0#8 ∧ a = 0) ∨ (t = 0#8 ∧ b = 0) then 0#8 else s ||| t) := by
  unfold mk1
  rw [b8_z, b8_z]
  by_cases h : (s = 0#8 ∧ a = 0) ∨ (t = 0#8 ∧ b = 0)
  · rw [if_pos h, if_pos (by simpa using h), b8_0]
  · rw [if_neg h, if_neg (by simpa using h), o_b8]
theorem flow_fb (k a b : Int) (s0 s1 s2 s3 t0 t1 t2 t3 : BitVec 8) :
    flow k a b ⟨b8 s0, b8 s1, b8 s2, b8 s3⟩ ⟨b8 t0, b8 t1, b8 t2, b8 t3⟩ = ⟨b8 (fb k a b s0 s1 s2 s3 t0 t1 t2 t3 0), b8 (fb k a b s0 s1 s2 s3 t0 t1 t2 t3 1), b8 (fb k a b s0 s1 s2 s3 t0 t1 t2 t3 2), b8 (fb k a b s0 s1 s2 s3 t0 t1 t2 t3 3)⟩ := by
  unfold flow fb
  simp only [g4]
  by_cases h1 : k = 5 ∨ k = 8
  · simp [h1, join, o_b8]
  by_cases h2 : k = 9
  · simp [h1, h2, masked, mk1_b8]
  by_cases h3 : k = 0 ∨ k = 1 ∨ k = 10
  · simp [h1, h2, h3, join, up, o_b8, b8_inj, BitVec.or_assoc, BitVec.or_comm, or_lc]
  by_cases h4 : k = 2 ∨ k = 6 ∨ k = 7
  · simp only [h1, h2, h3, h4, if_true, if_false, shifted, b8_ze]
    by_cases h5 : t0 = 0#8
    · simp only [h5, if_true, moved, mv_sel, sel_b8]
    · simp only [h5, if_false, fill, all, o_b8]
  by_cases h5 : k = 3 ∨ k = 4
  · simp [h1, h2, h3, h4, h5, join, all, o_b8, b8_inj, b8_0, BitVec.or_assoc, BitVec.or_comm, or_lc]
  by_cases h6 : 11 ≤ k ∧ k ≤ 17
  · simp [h1, h2, h3, h4, h5, h6, join, all, fill, o_b8, b8_inj, b8_0, BitVec.or_assoc, BitVec.or_comm, or_lc]
  · simp [h1, h2, h3, h4, h5, h6, b8_0]

/-- Every label of x is one of m. -/
def sb (x m : BitVec 8) : Prop := x ||| m = m
theorem sb_0 (m : BitVec 8) : sb 0#8 m := by unfold sb; simp
theorem sb_or {x y m : BitVec 8} (h : sb x m) (k : sb y m) : sb (x ||| y) m := by unfold sb at *; rw [BitVec.or_assoc, k, h]
theorem sb_ite {c : Prop} [Decidable c] {x y m : BitVec 8} (h : c → sb x m) (k : ¬ c → sb y m) : sb (if c then x else y) m := by
  split
  · exact h ‹_›
  · exact k ‹_›
theorem sb_mono {x y u v : BitVec 8} (h : sb x u) (k : sb y v) : sb (x ||| y) (u ||| v) := by
  unfold sb at *
  rw [← h, ← k]; simp only [BitVec.or_assoc, BitVec.or_comm, or_lc, or_or, BitVec.or_self]
theorem sb_self (x : BitVec 8) : sb x x := by unfold sb; simp
theorem sb_l (x u : BitVec 8) : sb x (x ||| u) := by unfold sb; exact or_or x u
theorem sb_and {x m : BitVec 8} (h : sb x m) : x &&& ~~~m = 0#8 := by
  unfold sb at h
  rw [← h]
  apply BitVec.eq_of_getLsbD_eq
  intro i hi
  simp
  cases x.getLsbD i <;> simp

theorem sb_g4 {a0 a1 a2 a3 b0 b1 b2 b3 : BitVec 8} (h0 : sb a0 b0) (h1 : sb a1 b1) (h2 : sb a2 b2) (h3 : sb a3 b3) (j : Nat) : sb (g4 a0 a1 a2 a3 j) (g4 b0 b1 b2 b3 j) := by
  unfold g4; split <;> assumption
theorem g4_or (a0 a1 a2 a3 b0 b1 b2 b3 : BitVec 8) (j : Nat) : g4 (a0 ||| b0) (a1 ||| b1) (a2 ||| b2) (a3 ||| b3) j = g4 a0 a1 a2 a3 j ||| g4 b0 b1 b2 b3 j := by
  unfold g4; split <;> rfl
def tot (s0 s1 s2 s3 t0 t1 t2 t3 : BitVec 8) : BitVec 8 := s0 ||| s1 ||| s2 ||| s3 ||| (t0 ||| t1 ||| t2 ||| t3)
theorem fb_sb (k a b : Int) (s0 s1 s2 s3 t0 t1 t2 t3 : BitVec 8) (j : Nat) : sb (fb k a b s0 s1 s2 s3 t0 t1 t2 t3 j) (tot s0 s1 s2 s3 t0 t1 t2 t3) := by
  have b0 : sb s0 (tot s0 s1 s2 s3 t0 t1 t2 t3) := by unfold sb tot; simp only [BitVec.or_assoc, BitVec.or_comm, or_lc, or_or, BitVec.or_self]
  have b1 : sb s1 (tot s0 s1 s2 s3 t0 t1 t2 t3) := by unfold sb tot; simp only [BitVec.or_assoc, BitVec.or_comm, or_lc, or_or, BitVec.or_self]
  have b2 : sb s2 (tot s0 s1 s2 s3 t0 t1 t2 t3) := by unfold sb tot; simp only [BitVec.or_assoc, BitVec.or_comm, or_lc, or_or, BitVec.or_self]
  have b3 : sb s3 (tot s0 s1 s2 s3 t0 t1 t2 t3) := by unfold sb tot; simp only [BitVec.or_assoc, BitVec.or_comm, or_lc, or_or, BitVec.or_self]
  have c0 : sb t0 (tot s0 s1 s2 s3 t0 t1 t2 t3) := by unfold sb tot; simp only [BitVec.or_assoc, BitVec.or_comm, or_lc, or_or, BitVec.or_self]
  have c1 : sb t1 (tot s0 s1 s2 s3 t0 t1 t2 t3) := by unfold sb tot; simp only [BitVec.or_assoc, BitVec.or_comm, or_lc, or_or, BitVec.or_self]
  have c2 : sb t2 (tot s0 s1 s2 s3 t0 t1 t2 t3) := by unfold sb tot; simp only [BitVec.or_assoc, BitVec.or_comm, or_lc, or_or, BitVec.or_self]
  have c3 : sb t3 (tot s0 s1 s2 s3 t0 t1 t2 t3) := by unfold sb tot; simp only [BitVec.or_assoc, BitVec.or_comm, or_lc, or_or, BitVec.or_self]
  generalize tot s0 s1 s2 s3 t0 t1 t2 t3 = m at *
  have z := sb_0 m
  have hs : sb (g4 s0 s1 s2 s3 j) m := by unfold g4; split <;> assumption
  have ht : sb (g4 t0 t1 t2 t3 j) m := by unfold g4; split <;> assumption
  unfold fb
  repeat' (first | assumption | (refine sb_or ?_ ?_) | (refine sb_ite (fun _ => ?_) (fun _ => ?_)))

theorem fb_clean (k a b : Int) (j : Nat) : fb k a b 0#8 0#8 0#8 0#8 0#8 0#8 0#8 0#8 j = 0#8 := by
  have h := fb_sb k a b 0#8 0#8 0#8 0#8 0#8 0#8 0#8 0#8 j
  have e : tot 0#8 0#8 0#8 0#8 0#8 0#8 0#8 0#8 = 0#8 := rfl
  rw [e] at h
  unfold sb at h
  simpa using h

/-- More labels of the first number: more labels of the result. -/
theorem fb_more (k a b : Int) (s0 s1 s2 s3 t0 t1 t2 t3 u0 u1 u2 u3 : BitVec 8) (j : Nat) :
    sb (fb k a b s0 s1 s2 s3 t0 t1 t2 t3 j) (fb k a b (s0 ||| u0) (s1 ||| u1) (s2 ||| u2) (s3 ||| u3) t0 t1 t2 t3 j) := by
  have b0 := sb_l s0 u0
  have b1 := sb_l s1 u1
  have b2 := sb_l s2 u2
  have b3 := sb_l s3 u3
  have z : ∀ m, sb 0#8 m := sb_0
  have q : ∀ m, sb m m := sb_self
  have oz : ∀ x y : BitVec 8, x ||| y = 0#8 → x = 0#8 := fun x y h => by
    have h2 := sb_l x y
    rw [h] at h2; unfold sb at h2; simpa using h2
  unfold fb
  by_cases h1 : k = 5 ∨ k = 8
  · rw [if_pos h1, if_pos h1]
    exact sb_mono (sb_g4 b0 b1 b2 b3 j) (q _)
  rw [if_neg h1, if_neg h1]
  by_cases h2 : k = 9
  · rw [if_pos h2, if_pos h2]
    have key : ∀ (s u t : BitVec 8) (x y : Int), sb (if (s = 0#8 ∧ x = 0) ∨ (t = 0#8 ∧ y = 0) then 0#8 else s ||| t) (if (s ||| u = 0#8 ∧ x = 0) ∨ (t = 0#8 ∧ y = 0) then 0#8 else (s ||| u) ||| t) := by
      intro s u t x y
      by_cases hc : (s = 0#8 ∧ x = 0) ∨ (t = 0#8 ∧ y = 0)
      · rw [if_pos hc]; exact z _
      · rw [if_neg hc, if_neg (fun hn => hc (hn.imp (fun hh => ⟨oz _ _ hh.1, hh.2⟩) id))]
        exact sb_mono (sb_l _ _) (q _)
    rw [g4_or]; exact key _ _ _ _ _
  rw [if_neg h2, if_neg h2]
  by_cases h3 : k = 0 ∨ k = 1 ∨ k = 10
  · rw [if_pos h3, if_pos h3]
    refine sb_mono (sb_mono (sb_mono ?_ ?_) ?_) ?_
    all_goals (split <;> first | exact z _ | exact sb_mono (by assumption) (q _))
  rw [if_neg h3, if_neg h3]
  by_cases h4 : k = 2 ∨ k = 6 ∨ k = 7
  · rw [if_pos h4, if_pos h4]
    by_cases h5 : t0 = 0#8
    · rw [if_pos h5, if_pos h5]
      refine sb_mono (sb_mono (sb_mono ?_ ?_) ?_) ?_
      all_goals (split <;> first | exact z _ | assumption)
    · rw [if_neg h5, if_neg h5]
      exact sb_mono (sb_mono (sb_mono (sb_mono b0 b1) b2) b3) (q _)
  rw [if_neg h4, if_neg h4]
  by_cases h5 : k = 3 ∨ k = 4
  · rw [if_pos h5, if_pos h5]
    split
    · exact sb_mono (sb_mono (sb_mono (sb_mono b0 b1) b2) b3) (q _)
    · exact z _
  rw [if_neg h5, if_neg h5]
  by_cases h6 : 11 ≤ k ∧ k ≤ 17
  · rw [if_pos h6, if_pos h6]
    exact sb_mono (sb_mono (sb_mono (sb_mono b0 b1) b2) b3) (q _)
  · rw [if_neg h6]; exact z _
/-- More labels of the second number: more labels of the result. -/
theorem fb_more2 (k a b : Int) (s0 s1 s2 s3 t0 t1 t2 t3 u0 u1 u2 u3 : BitVec 8) (j : Nat) :
    sb (fb k a b s0 s1 s2 s3 t0 t1 t2 t3 j) (fb k a b s0 s1 s2 s3 (t0 ||| u0) (t1 ||| u1) (t2 ||| u2) (t3 ||| u3) j) := by
  have b0 := sb_l t0 u0
  have b1 := sb_l t1 u1
  have b2 := sb_l t2 u2
  have b3 := sb_l t3 u3
  have z : ∀ m, sb 0#8 m := sb_0
  have q : ∀ m, sb m m := sb_self
  have oz : ∀ x y : BitVec 8, x ||| y = 0#8 → x = 0#8 := fun x y h => by
    have h2 := sb_l x y
    rw [h] at h2; unfold sb at h2; simpa using h2
  unfold fb
  by_cases h1 : k = 5 ∨ k = 8
  · rw [if_pos h1, if_pos h1]
    exact sb_mono (q _) (sb_g4 b0 b1 b2 b3 j)
  rw [if_neg h1, if_neg h1]
  by_cases h2 : k = 9
  · rw [if_pos h2, if_pos h2]
    have key : ∀ (s u t : BitVec 8) (x y : Int), sb (if (s = 0#8 ∧ x = 0) ∨ (t = 0#8 ∧ y = 0) then 0#8 else s ||| t) (if (s = 0#8 ∧ x = 0) ∨ (t ||| u = 0#8 ∧ y = 0) then 0#8 else s ||| (t ||| u)) := by
      intro s u t x y
      by_cases hc : (s = 0#8 ∧ x = 0) ∨ (t = 0#8 ∧ y = 0)
      · rw [if_pos hc]; exact z _
      · rw [if_neg hc, if_neg (fun hn => hc (hn.imp id (fun hh => ⟨oz _ _ hh.1, hh.2⟩)))]
        exact sb_mono (q _) (sb_l _ _)
    rw [g4_or]; exact key _ _ _ _ _
  rw [if_neg h2, if_neg h2]
  by_cases h3 : k = 0 ∨ k = 1 ∨ k = 10
  · rw [if_pos h3, if_pos h3]
    refine sb_mono (sb_mono (sb_mono ?_ ?_) ?_) ?_
    all_goals (split <;> first | exact z _ | exact sb_mono (q _) (by assumption))
  rw [if_neg h3, if_neg h3]
  by_cases h4 : k = 2 ∨ k = 6 ∨ k = 7
  · rw [if_pos h4, if_pos h4]
    by_cases h5 : t0 = 0#8
    · rw [if_pos h5]
      by_cases h6 : t0 ||| u0 = 0#8
      · rw [if_pos h6]; exact q _
      · rw [if_neg h6]
        have e0 : sb s0 (s0 ||| s1 ||| s2 ||| s3 ||| (t0 ||| u0)) := by unfold sb; simp only [BitVec.or_assoc, BitVec.or_comm, or_lc, or_or, BitVec.or_self]
        have e1 : sb s1 (s0 ||| s1 ||| s2 ||| s3 ||| (t0 ||| u0)) := by unfold sb; simp only [BitVec.or_assoc, BitVec.or_comm, or_lc, or_or, BitVec.or_self]
        have e2 : sb s2 (s0 ||| s1 ||| s2 ||| s3 ||| (t0 ||| u0)) := by unfold sb; simp only [BitVec.or_assoc, BitVec.or_comm, or_lc, or_or, BitVec.or_self]
        have e3 : sb s3 (s0 ||| s1 ||| s2 ||| s3 ||| (t0 ||| u0)) := by unfold sb; simp only [BitVec.or_assoc, BitVec.or_comm, or_lc, or_or, BitVec.or_self]
        refine sb_or (sb_or (sb_or ?_ ?_) ?_) ?_
        all_goals (split <;> first | exact z _ | assumption)
    · rw [if_neg h5, if_neg (fun h => h5 (oz _ _ h))]
      exact sb_mono (q _) b0
  rw [if_neg h4, if_neg h4]
  by_cases h5 : k = 3 ∨ k = 4
  · rw [if_pos h5, if_pos h5]
    split
    · exact sb_mono (q _) (sb_mono (sb_mono (sb_mono b0 b1) b2) b3)
    · exact z _
  rw [if_neg h5, if_neg h5]
  by_cases h6 : 11 ≤ k ∧ k ≤ 17
  · rw [if_pos h6, if_pos h6]
    exact sb_mono (q _) (sb_mono (sb_mono (sb_mono b0 b1) b2) b3)
  · rw [if_neg h6]; exact z _
end Go.Proofs.Ytcpgfogijdmaoaa.Tag
