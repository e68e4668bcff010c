/- PLAIN MATHEMATICS OF LAYER 2: the bits of the reference and the bytes of the code come to the same labels. -/
import Derived.Test.YtcpgfogijdmaoaaTagShift
namespace Go.Proofs.Ytcpgfogijdmaoaa.Tag
set_option linter.unusedSimpArgs false

/-- Which bytes are met: four answers. -/
def sel (m0 m1 m2 m3 : Bool) (s : T4) : Int := st (st (st (st 0 m0 s.x0) m1 s.x1) m2 s.x2) m3 s.x3
/-- Has byte c come into byte j behind m bits? -/
def met (k : Int) (n : Nat) (j c : Nat) : Nat → Bool
  | 0 => false
  | m + 1 => met k n j c m || (decide (j = m / 8) && (match src k n m with | some f => decide (f / 8 = c) | none => false))

theorem sel_b8 (m0 m1 m2 m3 : Bool) (x0 x1 x2 x3 : BitVec 8) :
    sel m0 m1 m2 m3 ⟨b8 x0, b8 x1, b8 x2, b8 x3⟩ = b8 ((if m0 then x0 else 0#8) ||| (if m1 then x1 else 0#8) ||| (if m2 then x2 else 0#8) ||| (if m3 then x3 else 0#8)) := by
  cases m0 <;> cases m1 <;> cases m2 <;> cases m3 <;> simp [sel, st, o_b8, o_0_b8, b8_0]
theorem sel_add (m0 m1 m2 m3 : Bool) (x0 x1 x2 x3 : BitVec 8) (c : Nat) (hc : c < 4) :
    o (sel m0 m1 m2 m3 ⟨b8 x0, b8 x1, b8 x2, b8 x3⟩) (T4.get ⟨b8 x0, b8 x1, b8 x2, b8 x3⟩ c) = sel (m0 || decide (0 = c)) (m1 || decide (1 = c)) (m2 || decide (2 = c)) (m3 || decide (3 = c)) ⟨b8 x0, b8 x1, b8 x2, b8 x3⟩ := by
  have h : c = 0 ∨ c = 1 ∨ c = 2 ∨ c = 3 := by omega
  rcases h with rfl | rfl | rfl | rfl <;> cases m0 <;> cases m1 <;> cases m2 <;> cases m3 <;> simp [sel_b8, T4.get, o_b8, b8_inj, BitVec.or_assoc, BitVec.or_comm, or_lc, or_or, BitVec.or_self]
theorem src_lt {k : Int} {n m f : Nat} (hm : m < 32) (h : src k n m = some f) : f < 32 := by
  unfold src at h
  split at h
  · split at h
    · simp at h; omega
    · simp at h
  · split at h
    · split at h
      · simp at h; omega
      · simp at h
    · simp at h; subst h; split <;> omega
theorem rf_sel (k : Int) (n : Nat) (x0 x1 x2 x3 : BitVec 8) (j : Nat) : ∀ m : Nat, m ≤ 32 →
    rfN k n ⟨b8 x0, b8 x1, b8 x2, b8 x3⟩ m j = sel (met k n j 0 m) (met k n j 1 m) (met k n j 2 m) (met k n j 3 m) ⟨b8 x0, b8 x1, b8 x2, b8 x3⟩
  | 0, _ => by simp [rfN, sel, st, met]
  | m + 1, h => by
    have ih := rf_sel k n x0 x1 x2 x3 j m (by omega)
    by_cases hj : j = m / 8
    · cases hs : src k n m with
      | none => rw [rfN_none k n _ j hs, ih]; simp [met, hs]
      | some f =>
        have hf := src_lt (by omega) hs
        rw [rfN_some k n _ hs hj.symm rfl, ih, sel_add _ _ _ _ _ _ _ _ (f / 8) (by omega)]
        have hj' : m / 8 = j := hj.symm
        simp only [met, hs, hj', decide_true, Bool.true_and]
        have e : ∀ c : Nat, decide (c = f / 8) = decide (f / 8 = c) := fun c => by rw [decide_eq_decide]; omega
        rw [e 0, e 1, e 2, e 3]
    · rw [rfN_other k n _ hj, ih]
      simp [met, hj]
/-- All shifts, all counts, all bytes: the two tell the same. -/
theorem hit_met2 : ∀ n : Fin 32, ∀ j : Fin 4, ∀ c : Fin 4, hit 2 (n.val : Int) c.val j.val = met 2 n.val j.val c.val 32 := by decide +kernel
theorem hit_met6 : ∀ n : Fin 32, ∀ j : Fin 4, ∀ c : Fin 4, hit 6 (n.val : Int) c.val j.val = met 6 n.val j.val c.val 32 := by decide +kernel
theorem hit_met7 : ∀ n : Fin 32, ∀ j : Fin 4, ∀ c : Fin 4, hit 7 (n.val : Int) c.val j.val = met 7 n.val j.val c.val 32 := by decide +kernel
theorem pw_mod (b : Int) : Alu.pw b = Alu.pw (b % 32) := by unfold Alu.pw; rw [Int.emod_emod]
theorem hit_mod (k b : Int) (hk : k = 2 ∨ k = 6 ∨ k = 7) (i j : Nat) : hit k b i j = hit k (b % 32) i j := by
  unfold hit
  rcases hk with rfl | rfl | rfl
  · rw [Alu.val_2, Alu.val_2, pw_mod b]
  · rw [Alu.val_6, Alu.val_6, pw_mod b]
  · rw [Alu.val_7, Alu.val_7, pw_mod b]
theorem hit_met (k b : Int) (hk : k = 2 ∨ k = 6 ∨ k = 7) (n : Nat) (hn : n < 32) (hb : b % 32 = (n : Int)) (j c : Nat) (hj : j < 4) (hc : c < 4) : hit k b c j = met k n j c 32 := by
  rw [hit_mod k b hk, hb]
  rcases hk with rfl | rfl | rfl
  · exact hit_met2 ⟨n, hn⟩ ⟨j, hj⟩ ⟨c, hc⟩
  · exact hit_met6 ⟨n, hn⟩ ⟨j, hj⟩ ⟨c, hc⟩
  · exact hit_met7 ⟨n, hn⟩ ⟨j, hj⟩ ⟨c, hc⟩
theorem mv_sel (k b : Int) (s : T4) (j : Nat) : mvN k b s 4 j = sel (hit k b 0 j) (hit k b 1 j) (hit k b 2 j) (hit k b 3 j) s := rfl
theorem rf_mv (k b : Int) (hk : k = 2 ∨ k = 6 ∨ k = 7) (n : Nat) (hn : n < 32) (hb : b % 32 = (n : Int)) (x0 x1 x2 x3 : BitVec 8) (j : Nat) (hj : j < 4) :
    rfN k n ⟨b8 x0, b8 x1, b8 x2, b8 x3⟩ 32 j = mvN k b ⟨b8 x0, b8 x1, b8 x2, b8 x3⟩ 4 j := by
  rw [mv_sel, rf_sel k n x0 x1 x2 x3 j 32 (by omega), hit_met k b hk n hn hb j 0 hj (by omega), hit_met k b hk n hn hb j 1 hj (by omega), hit_met k b hk n hn hb j 2 hj (by omega), hit_met k b hk n hn hb j 3 hj (by omega)]
end Go.Proofs.Ytcpgfogijdmaoaa.Tag
