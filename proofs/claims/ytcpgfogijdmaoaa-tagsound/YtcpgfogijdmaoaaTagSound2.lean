/- PLAIN MATHEMATICS OF LAYER 2: no label is lost, kind by kind. -/
import Derived.Test.YtcpgfogijdmaoaaTagSound
namespace Go.Proofs.Ytcpgfogijdmaoaa.Tag
set_option linter.unusedSimpArgs false

theorem and_or0 {x y l : BitVec 8} (h : (x ||| y) &&& l = 0#8) : x &&& l = 0#8 ∧ y &&& l = 0#8 := by
  have e : ∀ i, (x.getLsbD i || y.getLsbD i) = true → l.getLsbD i = false := fun i hi => by
    have := congrArg (fun z => BitVec.getLsbD z i) h
    simp at this
    cases hx : x.getLsbD i <;> cases hy : y.getLsbD i <;> simp_all
  constructor
  · apply BitVec.eq_of_getLsbD_eq
    intro i _
    simp
    intro hx
    exact e i (by simp [hx])
  · apply BitVec.eq_of_getLsbD_eq
    intro i _
    simp
    intro hy
    exact e i (by simp [hy])
theorem zero_and {x l : BitVec 8} (h : x = 0#8) : x &&& l = 0#8 := by rw [h]; simp

section
variable {a b x y : Int} {s0 s1 s2 s3 t0 t1 t2 t3 l : BitVec 8}

theorem mod32 {b y : Int} (h : by4 b 0 = by4 y 0) : b % 32 = y % 32 := by
  rw [by4_0, by4_0] at h; omega
theorem ali0 (h : ali b y t0 t1 t2 t3 l) (ht : t0 &&& l = 0#8) : b % 32 = y % 32 := mod32 (h 0 (by omega) ht)
theorem hit_same {k : Int} (hk : k = 2 ∨ k = 6 ∨ k = 7) (h : b % 32 = y % 32) (i j : Nat) : hit k b i j = hit k y i j := by
  rw [hit_mod k b hk, hit_mod k y hk, h]
/-- The labels are the same. -/
theorem fb_same (k : Int) (ha : ali a x s0 s1 s2 s3 l) (hb : ali b y t0 t1 t2 t3 l) (j : Nat) (hj : j < 4) :
    fb k a b s0 s1 s2 s3 t0 t1 t2 t3 j = fb k x y s0 s1 s2 s3 t0 t1 t2 t3 j := by
  unfold fb
  by_cases h9 : k = 9
  · subst h9
    have e1 : (g4 s0 s1 s2 s3 j = 0#8 ∧ by4 a j = 0) ↔ (g4 s0 s1 s2 s3 j = 0#8 ∧ by4 x j = 0) := by
      constructor
      · rintro ⟨h, k⟩; exact ⟨h, by rw [← ha j hj (zero_and h)]; exact k⟩
      · rintro ⟨h, k⟩; exact ⟨h, by rw [ha j hj (zero_and h)]; exact k⟩
    have e2 : (g4 t0 t1 t2 t3 j = 0#8 ∧ by4 b j = 0) ↔ (g4 t0 t1 t2 t3 j = 0#8 ∧ by4 y j = 0) := by
      constructor
      · rintro ⟨h, k⟩; exact ⟨h, by rw [← hb j hj (zero_and h)]; exact k⟩
      · rintro ⟨h, k⟩; exact ⟨h, by rw [hb j hj (zero_and h)]; exact k⟩
    have n5 : ¬ ((9 : Int) = 5 ∨ (9 : Int) = 8) := by omega
    rw [if_neg n5, if_neg n5, if_pos (rfl : (9 : Int) = 9), if_pos (rfl : (9 : Int) = 9)]
    simp only [e1, e2]
  · by_cases hs : k = 2 ∨ k = 6 ∨ k = 7
    · by_cases h0 : t0 = 0#8
      · have hm := ali0 hb (zero_and h0)
        simp only [hit_same hs hm, h9, if_false]
      · simp only [h9, h0, if_false]
    · simp only [h9, hs, if_false]

theorem allclean (h : (s0 ||| s1 ||| s2 ||| s3 ||| (t0 ||| t1 ||| t2 ||| t3)) &&& l = 0#8) :
    (∀ i, g4 s0 s1 s2 s3 i &&& l = 0#8) ∧ (∀ i, g4 t0 t1 t2 t3 i &&& l = 0#8) := by
  obtain ⟨h1, h2⟩ := and_or0 h
  obtain ⟨h1, a3⟩ := and_or0 h1
  obtain ⟨h1, a2⟩ := and_or0 h1
  obtain ⟨a0, a1⟩ := and_or0 h1
  obtain ⟨h2, b3⟩ := and_or0 h2
  obtain ⟨h2, b2⟩ := and_or0 h2
  obtain ⟨b0, b1⟩ := and_or0 h2
  constructor
  · intro i; unfold g4; split <;> assumption
  · intro i; unfold g4; split <;> assumption
theorem alllow (j : Nat) (h : ((if 0 ≤ j then s0 ||| t0 else 0#8) ||| (if 1 ≤ j then s1 ||| t1 else 0#8) ||| (if 2 ≤ j then s2 ||| t2 else 0#8) ||| (if 3 ≤ j then s3 ||| t3 else 0#8)) &&& l = 0#8) :
    (∀ i, i ≤ j → i < 4 → g4 s0 s1 s2 s3 i &&& l = 0#8) ∧ (∀ i, i ≤ j → i < 4 → g4 t0 t1 t2 t3 i &&& l = 0#8) := by
  obtain ⟨h, h3⟩ := and_or0 h
  obtain ⟨h, h2⟩ := and_or0 h
  obtain ⟨h0, h1⟩ := and_or0 h
  constructor
  all_goals
    intro i hi h4
    rcases four h4 with rfl | rfl | rfl | rfl
  · rw [if_pos (by omega)] at h0; exact (and_or0 h0).1
  · rw [if_pos hi] at h1; exact (and_or0 h1).1
  · rw [if_pos hi] at h2; exact (and_or0 h2).1
  · rw [if_pos hi] at h3; exact (and_or0 h3).1
  · rw [if_pos (by omega)] at h0; exact (and_or0 h0).2
  · rw [if_pos hi] at h1; exact (and_or0 h1).2
  · rw [if_pos hi] at h2; exact (and_or0 h2).2
  · rw [if_pos hi] at h3; exact (and_or0 h3).2

theorem clean_eq (ha : ali a x s0 s1 s2 s3 l) (ua : Alu.U32 a) (ux : Alu.U32 x) (h : ∀ i, g4 s0 s1 s2 s3 i &&& l = 0#8) : a = x :=
  whole ua ux fun i hi => ha i hi (h i)

/-- Bit p of a shifted number is a bit of the number, or none. -/
theorem val_bit2 (a b : Int) (n : Nat) (hn : b % 32 = (n : Int)) (p : Nat) (hp : p < 32) : Alu.val 2 a b / 2 ^ p % 2 = (match src 2 n p with | some q => a / 2 ^ q % 2 | none => 0) := by
  have e : Alu.pw b = 2 ^ n := by unfold Alu.pw; rw [hn]; rfl
  rw [Alu.val_2, e]
  unfold src
  rw [if_pos rfl]
  by_cases h : n ≤ p
  · rw [if_pos h]; exact Alu.bit2 a hp h
  · rw [if_neg h]; exact Alu.bit2z a hp (by omega)
theorem val_bit6 (ha : Alu.U32 a) (b : Int) (n : Nat) (hn : b % 32 = (n : Int)) (p : Nat) : Alu.val 6 a b / 2 ^ p % 2 = (match src 6 n p with | some q => a / 2 ^ q % 2 | none => 0) := by
  have e : Alu.pw b = 2 ^ n := by unfold Alu.pw; rw [hn]; rfl
  rw [Alu.val_6, e]
  unfold src
  rw [if_neg (by decide), if_pos rfl]
  by_cases h : p + n < 32
  · rw [if_pos h]; show _ = a / 2 ^ (p + n) % 2; rw [Alu.div_div, Nat.add_comm n p]
  · rw [if_neg h]; exact Alu.bit6 ha n p h
theorem val_bit7 (ha : Alu.U32 a) (b : Int) (n : Nat) (hn : b % 32 = (n : Int)) (p : Nat) (hp : p < 32) : Alu.val 7 a b / 2 ^ p % 2 = (match src 7 n p with | some q => a / 2 ^ q % 2 | none => 0) := by
  have e : Alu.pw b = 2 ^ n := by unfold Alu.pw; rw [hn]; rfl
  rw [Alu.val_7, e]
  unfold src
  rw [if_neg (by decide), if_neg (by decide)]
  by_cases h : p + n < 32
  · rw [if_pos h]; exact Alu.bit7 hp h
  · rw [if_neg h]
    show _ = a / 2 ^ 31 % 2
    rw [Alu.bit7s ha hp h]
    unfold Alu.U32 at ha
    show a / 2147483648 = a / 2147483648 % 2
    omega
theorem val_bit (k : Int) (hk : k = 2 ∨ k = 6 ∨ k = 7) (ha : Alu.U32 a) (b : Int) (n : Nat) (hn : b % 32 = (n : Int)) (p : Nat) (hp : p < 32) : Alu.val k a b / 2 ^ p % 2 = (match src k n p with | some q => a / 2 ^ q % 2 | none => 0) := by
  rcases hk with rfl | rfl | rfl
  · exact val_bit2 a b n hn p hp
  · exact val_bit6 ha b n hn p
  · exact val_bit7 ha b n hn p hp
/-- Whence a bit comes, there the byte hits. -/
theorem src_hit2 : ∀ n : Fin 32, ∀ p : Fin 32, (match src 2 n.val p.val with | some q => hit 2 (n.val : Int) (q / 8) (p.val / 8) | none => true) = true := by decide +kernel
theorem src_hit6 : ∀ n : Fin 32, ∀ p : Fin 32, (match src 6 n.val p.val with | some q => hit 6 (n.val : Int) (q / 8) (p.val / 8) | none => true) = true := by decide +kernel
theorem src_hit7 : ∀ n : Fin 32, ∀ p : Fin 32, (match src 7 n.val p.val with | some q => hit 7 (n.val : Int) (q / 8) (p.val / 8) | none => true) = true := by decide +kernel
theorem src_hit (k : Int) (hk : k = 2 ∨ k = 6 ∨ k = 7) (n p q : Nat) (hn : n < 32) (hp : p < 32) (h : src k n p = some q) : hit k (n : Int) (q / 8) (p / 8) = true := by
  rcases hk with rfl | rfl | rfl
  · have := src_hit2 ⟨n, hn⟩ ⟨p, hp⟩; simp only [h] at this; exact this
  · have := src_hit6 ⟨n, hn⟩ ⟨p, hp⟩; simp only [h] at this; exact this
  · have := src_hit7 ⟨n, hn⟩ ⟨p, hp⟩; simp only [h] at this; exact this
set_option maxHeartbeats 2000000 in
/-- Bytes with the same bits are the same. -/
theorem byte_bits {v w : Int} {j : Nat} (hj : j < 4) (h : ∀ p, p < 32 → p / 8 = j → v / 2 ^ p % 2 = w / 2 ^ p % 2) : by4 v j = by4 w j := by
  rcases four hj with rfl | rfl | rfl | rfl
  · have h0 := h 0 (by omega) rfl
    have h1 := h 1 (by omega) rfl
    have h2 := h 2 (by omega) rfl
    have h3 := h 3 (by omega) rfl
    have h4 := h 4 (by omega) rfl
    have h5 := h 5 (by omega) rfl
    have h6 := h 6 (by omega) rfl
    have h7 := h 7 (by omega) rfl
    rw [by4_0, by4_0]; simp at h0 h1 h2 h3 h4 h5 h6 h7; omega
  · have h0 := h 8 (by omega) rfl
    have h1 := h 9 (by omega) rfl
    have h2 := h 10 (by omega) rfl
    have h3 := h 11 (by omega) rfl
    have h4 := h 12 (by omega) rfl
    have h5 := h 13 (by omega) rfl
    have h6 := h 14 (by omega) rfl
    have h7 := h 15 (by omega) rfl
    rw [by4_1, by4_1]; simp at h0 h1 h2 h3 h4 h5 h6 h7; omega
  · have h0 := h 16 (by omega) rfl
    have h1 := h 17 (by omega) rfl
    have h2 := h 18 (by omega) rfl
    have h3 := h 19 (by omega) rfl
    have h4 := h 20 (by omega) rfl
    have h5 := h 21 (by omega) rfl
    have h6 := h 22 (by omega) rfl
    have h7 := h 23 (by omega) rfl
    rw [by4_2, by4_2]; simp at h0 h1 h2 h3 h4 h5 h6 h7; omega
  · have h0 := h 24 (by omega) rfl
    have h1 := h 25 (by omega) rfl
    have h2 := h 26 (by omega) rfl
    have h3 := h 27 (by omega) rfl
    have h4 := h 28 (by omega) rfl
    have h5 := h 29 (by omega) rfl
    have h6 := h 30 (by omega) rfl
    have h7 := h 31 (by omega) rfl
    rw [by4_3, by4_3]; simp at h0 h1 h2 h3 h4 h5 h6 h7; omega
/-- A bit of a byte. -/
theorem bit_byte {v w : Int} {q : Nat} (h : by4 v (q / 8) = by4 w (q / 8)) : v / 2 ^ q % 2 = w / 2 ^ q % 2 := by
  have e : ∀ u : Int, u / 2 ^ q % 2 = by4 u (q / 8) / 2 ^ (q % 8) % 2 := by
    intro u
    have h1 : u / 2 ^ q = u / 2 ^ (8 * (q / 8)) / 2 ^ (q % 8) := by rw [Alu.div_div]; congr 2; omega
    unfold by4
    rw [h1]
    generalize u / 2 ^ (8 * (q / 8)) = z
    have hc : q % 8 = 0 ∨ q % 8 = 1 ∨ q % 8 = 2 ∨ q % 8 = 3 ∨ q % 8 = 4 ∨ q % 8 = 5 ∨ q % 8 = 6 ∨ q % 8 = 7 := by omega
    rcases hc with c | c | c | c | c | c | c | c <;> rw [c] <;> simp <;> omega
  rw [e, e, h]
end
end Go.Proofs.Ytcpgfogijdmaoaa.Tag
