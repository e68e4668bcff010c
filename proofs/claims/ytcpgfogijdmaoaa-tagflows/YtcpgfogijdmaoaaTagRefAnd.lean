/- THE REFERENCE OF LAYER 2: tinctureref1.Flow, kind 9. -/
import Derived.Test.YtcpgfogijdmaoaaTagRef
namespace Go.Proofs.Ytcpgfogijdmaoaa
open Go.ChangeShapes Go.WideShapes Go.ChangeAt Go.RowKit
set_option linter.unusedSimpArgs false

def rmN (a b : Int) (s t : Tag.T4) (m i : Nat) : Int := if i < m then (Tag.masked a b s t).get i else 0
set_option maxRecDepth 100000 in
set_option maxHeartbeats 8000000 in
theorem rFlow9_c (a b s0 s1 s2 s3 t0 t1 t2 t3 : Int) (w : World) :
    Calls Try.prog 24 #[.int .i64 9, .int .u32 a, .int .u32 b, .agg #[.int .u8 s0, .int .u8 s1, .int .u8 s2, .int .u8 s3], .agg #[.int .u8 t0, .int .u8 t1, .int .u8 t2, .int .u8 t3]] w fun e w' =>
     e = .returned (.tuple #[.agg #[.int .u8 (Tag.masked a b ⟨s0, s1, s2, s3⟩ ⟨t0, t1, t2, t3⟩).x0, .int .u8 (Tag.masked a b ⟨s0, s1, s2, s3⟩ ⟨t0, t1, t2, t3⟩).x1, .int .u8 (Tag.masked a b ⟨s0, s1, s2, s3⟩ ⟨t0, t1, t2, t3⟩).x2, .int .u8 (Tag.masked a b ⟨s0, s1, s2, s3⟩ ⟨t0, t1, t2, t3⟩).x3], .bool true]) ∧ Gr w w' := by
  go_enter Try.func24, Try.ntmps24
  go_wp2
  go_loopw [13] (fun i wr => ∃ m nd : Nat, m ≤ 4 ∧ i = .int .i64 m ∧ wr = ((((w.alloc (.cells #[.int .u8 s0, .int .u8 s1, .int .u8 s2, .int .u8 s3] 24)).alloc (.cells #[.int .u8 t0, .int .u8 t1, .int .u8 t2, .int .u8 t3] 24)).alloc (.cells #[.int .u8 0, .int .u8 0, .int .u8 0, .int .u8 0] 24)).alloc (.cells #[.int .u8 (rmN a b ⟨s0, s1, s2, s3⟩ ⟨t0, t1, t2, t3⟩ m 0), .int .u8 (rmN a b ⟨s0, s1, s2, s3⟩ ⟨t0, t1, t2, t3⟩ m 1), .int .u8 (rmN a b ⟨s0, s1, s2, s3⟩ ⟨t0, t1, t2, t3⟩ m 2), .int .u8 (rmN a b ⟨s0, s1, s2, s3⟩ ⟨t0, t1, t2, t3⟩ m 3)] 24)).drewN nd) (fun i _ => 4 - (intOf i).toNat)
  case atStart => exact ⟨0, 0, by omega, rfl, rfl⟩
  case round =>
    obtain ⟨m, nd, hm, rfl, rfl⟩ := hrel
    by_cases hm4 : m = 4
    · subst hm4
      go_wp2
      refine bodyPost_ret (v := .tuple #[.agg #[.int .u8 (Tag.masked a b ⟨s0, s1, s2, s3⟩ ⟨t0, t1, t2, t3⟩).x0, .int .u8 (Tag.masked a b ⟨s0, s1, s2, s3⟩ ⟨t0, t1, t2, t3⟩).x1, .int .u8 (Tag.masked a b ⟨s0, s1, s2, s3⟩ ⟨t0, t1, t2, t3⟩).x2, .int .u8 (Tag.masked a b ⟨s0, s1, s2, s3⟩ ⟨t0, t1, t2, t3⟩).x3], .bool true]) (by simp [results, Try.results24, go_sem, rmN, Tag.T4.get]) rfl (And.intro rfl ?_)
      (repeat' (first | (with_reducible exact Gr.refl _) | (with_reducible refine Gr.alloc ?_ _ _) | (with_reducible refine Gr.drew ?_) | (with_reducible refine Gr.drewN ?_ _) | (with_reducible refine Gr.setCell ?_ ?_ _) | (with_reducible refine Gr.trans ?_ (by assumption)) | omega | (dsimp only; omega) | (simp; done) | (simp; omega)))
    have hc : m = 0 ∨ m = 1 ∨ m = 2 ∨ m = 3 := by omega
    have e1 := Bool.eq_false_or_eq_true ((⟨s0, s1, s2, s3⟩ : Tag.T4).get m == 0)
    have e2 := Bool.eq_false_or_eq_true (Tag.by4 a m == 0)
    have e3 := Bool.eq_false_or_eq_true ((⟨t0, t1, t2, t3⟩ : Tag.T4).get m == 0)
    have e4 := Bool.eq_false_or_eq_true (Tag.by4 b m == 0)
    clear hm4 hm
    rcases e1 with e1 | e1 <;> rcases e2 with e2 | e2 <;> rcases e3 with e3 | e3 <;> rcases e4 with e4 | e4
    all_goals rcases hc with rfl | rfl | rfl | rfl
    all_goals simp only [Tag.T4.get] at e1 e3
    all_goals simp [Tag.by4] at e2 e4
    all_goals (try replace e2 := beq_eq_false_iff_ne.2 e2)
    all_goals (try replace e4 := beq_eq_false_iff_ne.2 e4)
    all_goals go_wp2
    all_goals (try go_region)
    all_goals go_wp2
    all_goals go_roundw
    all_goals first
      | (first | refine ⟨1, _, by omega, rfl, congrArg (fun x => World.drewN x _) (cells4 ?_ ?_ ?_ ?_)⟩ | refine ⟨2, _, by omega, rfl, congrArg (fun x => World.drewN x _) (cells4 ?_ ?_ ?_ ?_)⟩ | refine ⟨3, _, by omega, rfl, congrArg (fun x => World.drewN x _) (cells4 ?_ ?_ ?_ ?_)⟩ | refine ⟨4, _, by omega, rfl, congrArg (fun x => World.drewN x _) (cells4 ?_ ?_ ?_ ?_)⟩) <;> (simp [rmN, Tag.masked, Tag.join, Tag.T4.get, Tag.mk1, Tag.by4, Tag.o, e1, e2, e3, e4]; done)
      | (simp [intOf]; done)
end Go.Proofs.Ytcpgfogijdmaoaa
