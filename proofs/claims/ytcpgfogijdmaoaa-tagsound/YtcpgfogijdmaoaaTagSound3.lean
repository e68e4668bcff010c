/- PLAIN MATHEMATICS OF LAYER 2: no label is lost: the theorem. -/
import Derived.Test.YtcpgfogijdmaoaaTagSound2
namespace Go.Proofs.Ytcpgfogijdmaoaa.Tag
set_option linter.unusedSimpArgs false

section
variable {a b x y : Int} {s0 s1 s2 s3 t0 t1 t2 t3 l : BitVec 8}

theorem sound (k : Int) (h0k : 0 ≤ k) (hk : k ≤ 17) (ua : Alu.U32 a) (ub : Alu.U32 b) (ux : Alu.U32 x) (uy : Alu.U32 y) (ha : ali a x s0 s1 s2 s3 l) (hb : ali b y t0 t1 t2 t3 l) (j : Nat) (hj : j < 4)
    (h : fb k a b s0 s1 s2 s3 t0 t1 t2 t3 j &&& l = 0#8) : by4 (Alu.val k a b) j = by4 (Alu.val k x y) j := by
  unfold fb at h
  by_cases c1 : k = 5 ∨ k = 8
  · rw [if_pos c1] at h
    obtain ⟨p, q⟩ := and_or0 h
    have ea := ha j hj p
    have eb := hb j hj q
    rcases c1 with rfl | rfl
    · rw [Alu.val_5, Alu.val_5]; exact by4_bx ua ub ux uy ea eb
    · rw [Alu.val_8, Alu.val_8]; exact by4_bo ua ub ux uy ea eb
  rw [if_neg c1] at h
  by_cases c2 : k = 9
  · rw [if_pos c2] at h
    subst c2
    rw [Alu.val_9, Alu.val_9, by4_ba ua ub, by4_ba ux uy]
    by_cases c : (g4 s0 s1 s2 s3 j = 0#8 ∧ by4 a j = 0) ∨ (g4 t0 t1 t2 t3 j = 0#8 ∧ by4 b j = 0)
    · rcases c with ⟨c, d⟩ | ⟨c, d⟩
      · have e := ha j hj (zero_and c)
        rw [← e, d]; simp
      · have e := hb j hj (zero_and c)
        rw [← e, d]; simp
    · rw [if_neg c] at h
      obtain ⟨p, q⟩ := and_or0 h
      rw [ha j hj p, hb j hj q]
  rw [if_neg c2] at h
  by_cases c3 : k = 0 ∨ k = 1 ∨ k = 10
  · rw [if_pos c3] at h
    obtain ⟨p, q⟩ := alllow j h
    have la : low a x j := low_of j hj fun i hi => ha i (by omega) (p i hi (by omega))
    have lb : low b y j := low_of j hj fun i hi => hb i (by omega) (q i hi (by omega))
    apply of_low j hj
    rcases c3 with rfl | rfl | rfl
    · rw [Alu.val_0, Alu.val_0]; exact lowmod hj (low_add hj la lb)
    · rw [Alu.val_1, Alu.val_1]; exact lowmod hj (low_sub hj la lb)
    · rw [Alu.val_10, Alu.val_10]; exact lowmod hj (low_mul hj la lb)
  rw [if_neg c3] at h
  by_cases c4 : k = 2 ∨ k = 6 ∨ k = 7
  · rw [if_pos c4] at h
    have hn : ∃ n : Nat, n < 32 ∧ b % 32 = (n : Int) := ⟨(b % 32).toNat, by omega, by omega⟩
    obtain ⟨n, hn, en⟩ := hn
    by_cases c : t0 = 0#8
    · rw [if_pos c] at h
      have em := ali0 hb (zero_and (l := l) c)
      have en' : y % 32 = (n : Int) := by omega
      obtain ⟨h, h3⟩ := and_or0 h
      obtain ⟨h, h2⟩ := and_or0 h
      obtain ⟨h0, h1⟩ := and_or0 h
      have hs : ∀ i, i < 4 → hit k b i j = true → g4 s0 s1 s2 s3 i &&& l = 0#8 := by
        intro i hi hh
        rcases four hi with rfl | rfl | rfl | rfl
        · rw [if_pos hh] at h0; exact h0
        · rw [if_pos hh] at h1; exact h1
        · rw [if_pos hh] at h2; exact h2
        · rw [if_pos hh] at h3; exact h3
      apply byte_bits hj
      intro p hp hpj
      rw [val_bit k c4 ua b n en p hp, val_bit k c4 ux y n en' p hp]
      cases e : src k n p with
      | none => rfl
      | some q =>
        have hq := src_lt hp e
        have hh := src_hit k c4 n p q hn hp e
        rw [hpj, ← en, ← hit_mod k b c4] at hh
        exact bit_byte (ha (q / 8) (by omega) (hs (q / 8) (by omega) hh))
    · rw [if_neg c] at h
      obtain ⟨h, ht⟩ := and_or0 h
      obtain ⟨h, h3⟩ := and_or0 h
      obtain ⟨h, h2⟩ := and_or0 h
      obtain ⟨h0, h1⟩ := and_or0 h
      have ea : a = x := clean_eq ha ua ux (by intro i; unfold g4; split <;> assumption)
      have em := ali0 hb ht
      have ep : Alu.pw b = Alu.pw y := by rw [pw_mod b, pw_mod y, em]
      subst ea
      rcases c4 with rfl | rfl | rfl
      · rw [Alu.val_2, Alu.val_2, ep]
      · rw [Alu.val_6, Alu.val_6, ep]
      · rw [Alu.val_7, Alu.val_7, ep]
  rw [if_neg c4] at h
  by_cases c5 : k = 3 ∨ k = 4
  · rw [if_pos c5] at h
    by_cases c : j = 0
    · rw [if_pos c] at h
      obtain ⟨p, q⟩ := allclean h
      rw [clean_eq ha ua ux p, clean_eq hb ub uy q]
    · have z : ∀ t : Bool, by4 (Alu.num t) j = 0 := by
        intro t
        have hj' : j = 1 ∨ j = 2 ∨ j = 3 := by omega
        rcases hj' with rfl | rfl | rfl <;> cases t <;> rfl
      rcases c5 with rfl | rfl
      · rw [Alu.val_3, Alu.val_3, z, z]
      · rw [Alu.val_4, Alu.val_4, z, z]
  rw [if_neg c5, if_pos (by omega)] at h
  obtain ⟨p, q⟩ := allclean h
  rw [clean_eq ha ua ux p, clean_eq hb ub uy q]
end

/-- A number whose labelled bytes are another's: byte i. -/
def zb (a c : Int) (s0 s1 s2 s3 l : BitVec 8) (i : Nat) : Int := if g4 s0 s1 s2 s3 i &&& l = 0#8 then by4 a i else by4 c i
def mixN (a c : Int) (s0 s1 s2 s3 l : BitVec 8) : Nat → Int
  | 0 => 0
  | m + 1 => mixN a c s0 s1 s2 s3 l m + zb a c s0 s1 s2 s3 l m * 2 ^ (8 * m)
theorem by4_bd (a : Int) (i : Nat) : 0 ≤ by4 a i ∧ by4 a i < 256 := by unfold by4; omega
theorem zb_bd (a c : Int) (s0 s1 s2 s3 l : BitVec 8) (i : Nat) : 0 ≤ zb a c s0 s1 s2 s3 l i ∧ zb a c s0 s1 s2 s3 l i < 256 := by
  unfold zb; split <;> exact by4_bd _ _
theorem mix4 (a c : Int) (s0 s1 s2 s3 l : BitVec 8) : mixN a c s0 s1 s2 s3 l 4 = zb a c s0 s1 s2 s3 l 0 + zb a c s0 s1 s2 s3 l 1 * 256 + zb a c s0 s1 s2 s3 l 2 * 65536 + zb a c s0 s1 s2 s3 l 3 * 16777216 := by
  simp [mixN]
theorem mix_U32 (a c : Int) (s0 s1 s2 s3 l : BitVec 8) : Alu.U32 (mixN a c s0 s1 s2 s3 l 4) := by
  have h0 := zb_bd a c s0 s1 s2 s3 l 0
  have h1 := zb_bd a c s0 s1 s2 s3 l 1
  have h2 := zb_bd a c s0 s1 s2 s3 l 2
  have h3 := zb_bd a c s0 s1 s2 s3 l 3
  rw [mix4]; unfold Alu.U32; omega
theorem mix_ali (a c : Int) (s0 s1 s2 s3 l : BitVec 8) : ali a (mixN a c s0 s1 s2 s3 l 4) s0 s1 s2 s3 l := by
  have h0 := zb_bd a c s0 s1 s2 s3 l 0
  have h1 := zb_bd a c s0 s1 s2 s3 l 1
  have h2 := zb_bd a c s0 s1 s2 s3 l 2
  have h3 := zb_bd a c s0 s1 s2 s3 l 3
  have e : ∀ i, i < 4 → by4 (mixN a c s0 s1 s2 s3 l 4) i = zb a c s0 s1 s2 s3 l i := by
    intro i hi
    rw [mix4]
    rcases four hi with rfl | rfl | rfl | rfl
    · rw [by4_0]; omega
    · rw [by4_1]; omega
    · rw [by4_2]; omega
    · rw [by4_3]; omega
  intro i hi hz
  rw [e i hi]
  unfold zb
  rw [if_pos hz]
theorem mix_bd (a c : Int) (s0 s1 s2 s3 l : BitVec 8) : ∀ m, m ≤ 3 → 0 ≤ mixN a c s0 s1 s2 s3 l m ∧ mixN a c s0 s1 s2 s3 l m < 2 ^ (8 * m) := by
  have h0 := zb_bd a c s0 s1 s2 s3 l 0
  have h1 := zb_bd a c s0 s1 s2 s3 l 1
  have h2 := zb_bd a c s0 s1 s2 s3 l 2
  intro m hm
  have hc : m = 0 ∨ m = 1 ∨ m = 2 ∨ m = 3 := by omega
  rcases hc with rfl | rfl | rfl | rfl <;> simp [mixN] <;> omega
theorem nat_mask (c k : Nat) : c &&& (255 * 2 ^ k) = c / 2 ^ k % 256 * 2 ^ k := by
  apply Nat.eq_of_testBit_eq
  intro i
  rw [Nat.testBit_and, Nat.testBit_mul_two_pow, Nat.testBit_mul_two_pow, show (256 : Nat) = 2 ^ 8 from rfl, Nat.testBit_mod_two_pow, Nat.testBit_div_two_pow, show (255 : Nat) = 2 ^ 8 - 1 from rfl, Nat.testBit_two_pow_sub_one]
  by_cases h : k ≤ i
  · have e : i - k + k = i := by omega
    simp [h, e, Bool.and_comm]
  · simp [h]
end Go.Proofs.Ytcpgfogijdmaoaa.Tag
