/- THE WALKS OF LAYER 2, more: and, shifts, Flow. -/
import Derived.Test.YtcpgfogijdmaoaaTagWalks
namespace Go.Proofs.Ytcpgfogijdmaoaa
open Go.ChangeShapes Go.WideShapes Go.ChangeAt Go.RowKit

def maskN (a b : Int) (s t : Tag.T4) (m i : Nat) : Int := if i < m then (Tag.masked a b s t).get i else (Tag.join s t).get i
theorem maskN_other (a b : Int) (s t : Tag.T4) {m i : Nat} (h : i ≠ m) : maskN a b s t (m + 1) i = maskN a b s t m i := by
  unfold maskN
  by_cases h1 : i < m
  · rw [if_pos h1, if_pos (by omega)]
  · rw [if_neg h1, if_neg (by omega)]
set_option maxHeartbeats 8000000 in
theorem masked_c (a b s0 s1 s2 s3 t0 t1 t2 t3 : Int) (w : World) :
    Calls Try.prog 27 #[.int .u32 a, .int .u32 b, .agg #[.int .u8 s0, .int .u8 s1, .int .u8 s2, .int .u8 s3], .agg #[.int .u8 t0, .int .u8 t1, .int .u8 t2, .int .u8 t3]] w fun e w' =>
     e = .returned (.agg #[.int .u8 (Tag.masked a b ⟨s0, s1, s2, s3⟩ ⟨t0, t1, t2, t3⟩).x0, .int .u8 (Tag.masked a b ⟨s0, s1, s2, s3⟩ ⟨t0, t1, t2, t3⟩).x1, .int .u8 (Tag.masked a b ⟨s0, s1, s2, s3⟩ ⟨t0, t1, t2, t3⟩).x2, .int .u8 (Tag.masked a b ⟨s0, s1, s2, s3⟩ ⟨t0, t1, t2, t3⟩).x3]) ∧ Gr w w' := by
  go_enter Try.func27, Try.ntmps27
  go_wp2_with (go_at_call 20; refine (Join_c _ _ _ _ _ _ _ _ _).mono ?_; rintro e w1 ⟨rfl, h1⟩; have hc1 := h1.cell; have hf1 := h1.f; have hz1 := h1.size; have hA1 := h1.cellA; have hF1 := h1.frozenA; try simp only [World.size_alloc] at hc1 hz1 hA1 hF1)
  go_loopw [14] (fun i wr => ∃ m : Nat, m ≤ 4 ∧ i = .int .i64 m ∧ wr = w1.alloc (.cells #[.int .u8 (maskN a b ⟨s0, s1, s2, s3⟩ ⟨t0, t1, t2, t3⟩ m 0), .int .u8 (maskN a b ⟨s0, s1, s2, s3⟩ ⟨t0, t1, t2, t3⟩ m 1), .int .u8 (maskN a b ⟨s0, s1, s2, s3⟩ ⟨t0, t1, t2, t3⟩ m 2), .int .u8 (maskN a b ⟨s0, s1, s2, s3⟩ ⟨t0, t1, t2, t3⟩ m 3)] 24)) (fun i _ => 4 - (intOf i).toNat)
  case atStart => exact ⟨0, by omega, rfl, rfl⟩
  case round =>
    obtain ⟨m, hm, rfl, rfl⟩ := hrel
    by_cases hm4 : m = 4
    · subst hm4
      go_wp2
      refine bodyPost_ret (v := .agg #[.int .u8 (Tag.masked a b ⟨s0, s1, s2, s3⟩ ⟨t0, t1, t2, t3⟩).x0, .int .u8 (Tag.masked a b ⟨s0, s1, s2, s3⟩ ⟨t0, t1, t2, t3⟩).x1, .int .u8 (Tag.masked a b ⟨s0, s1, s2, s3⟩ ⟨t0, t1, t2, t3⟩).x2, .int .u8 (Tag.masked a b ⟨s0, s1, s2, s3⟩ ⟨t0, t1, t2, t3⟩).x3]) (by simp [results, Try.results27, go_sem, hA1, maskN, Tag.T4.get]) rfl (And.intro rfl ?_)
      (repeat' (first | (with_reducible exact Gr.refl _) | (with_reducible refine Gr.alloc ?_ _ _) | (with_reducible refine Gr.drew ?_) | (with_reducible refine Gr.drewN ?_ _) | (with_reducible refine Gr.setCell ?_ ?_ _) | (with_reducible refine Gr.trans ?_ (by assumption)) | omega | (dsimp only; omega) | (simp; done) | (simp; omega)))
    have hc : m = 0 ∨ m = 1 ∨ m = 2 ∨ m = 3 := by omega
    have e1 := Bool.eq_false_or_eq_true ((⟨s0, s1, s2, s3⟩ : Tag.T4).get m == 0)
    have e2 := Bool.eq_false_or_eq_true (Tag.by4 a m == 0)
    have e3 := Bool.eq_false_or_eq_true ((⟨t0, t1, t2, t3⟩ : Tag.T4).get m == 0)
    have e4 := Bool.eq_false_or_eq_true (Tag.by4 b m == 0)
    clear hm4 hm
    rcases e1 with e1 | e1 <;> rcases e2 with e2 | e2 <;> rcases e3 with e3 | e3 <;> rcases e4 with e4 | e4
    all_goals rcases hc with rfl | rfl | rfl | rfl
    all_goals simp only [Tag.T4.get] at e1 e3
    all_goals go_wp2_with (go_at_call 37; refine (byteOf_c _ _ (by omega) (by omega) _).mono ?_; rintro e w' ⟨rfl, rfl⟩)
    all_goals go_roundw
    all_goals first
      | (first | refine ⟨1, by omega, rfl, ?_⟩ | refine ⟨2, by omega, rfl, ?_⟩ | refine ⟨3, by omega, rfl, ?_⟩ | refine ⟨4, by omega, rfl, ?_⟩); clear hc1 hf1 hA1 hF1; simp [maskN, Tag.masked, Tag.join, Tag.T4.get, Tag.mk1, e1, e2, e3, e4]; done
      | (simp [intOf]; done)
end Go.Proofs.Ytcpgfogijdmaoaa
