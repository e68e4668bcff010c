/- More labels that go in never are fewer that come out.
   (TagRises: for every input the law's Go function returns true, and each argument reads as it did. No condition beyond the given row's own.) -/
import Derived.Test.YtcpgfogijdmaoaaRows
import Derived.WalkKit
import Derived.ProofKit
import Derived.OpenShut
import Derived.Test.YtcpgfogijdmaoaaLift
import Derived.Test.YtcpgfogijdmaoaaTagLawRises
namespace Go.Proofs.Ytcpgfogijdmaoaa.tagRises
open Go.ChangeShapes Go.WideShapes Go.ChangeAt Go.RowKit
set_option linter.unusedVariables false

theorem own : ownKnob Try.prog.godebug = none := by kernel_rfl
theorem cells24 : Try.prog.cellsOf 24 = 4 := by kernel_rfl
theorem cells5 : Try.prog.cellsOf 5 = 1 := by kernel_rfl

theorem walk (a0 : Int) (a1 : Int) (a2 : Int) (a3_0 a3_1 a3_2 a3_3 : Int) (a4_0 a4_1 a4_2 a4_3 : Int) (a5_0 a5_1 a5_2 a5_3 : Int) (w0 : (Lit.int .i64 a0).wf = true) (w1 : (Lit.int .u32 a1).wf = true) (w2 : (Lit.int .u32 a2).wf = true) (w3_0 : (Lit.int .u8 a3_0).wf = true) (w3_1 : (Lit.int .u8 a3_1).wf = true) (w3_2 : (Lit.int .u8 a3_2).wf = true) (w3_3 : (Lit.int .u8 a3_3).wf = true) (w4_0 : (Lit.int .u8 a4_0).wf = true) (w4_1 : (Lit.int .u8 a4_1).wf = true) (w4_2 : (Lit.int .u8 a4_2).wf = true) (w4_3 : (Lit.int .u8 a4_3).wf = true) (w5_0 : (Lit.int .u8 a5_0).wf = true) (w5_1 : (Lit.int .u8 a5_1).wf = true) (w5_2 : (Lit.int .u8 a5_2).wf = true) (w5_3 : (Lit.int .u8 a5_3).wf = true) (W : World) :
    Calls Try.prog 8 #[.int .i64 a0, .int .u32 a1, .int .u32 a2, .agg #[.int .u8 a3_0, .int .u8 a3_1, .int .u8 a3_2, .int .u8 a3_3], .agg #[.int .u8 a4_0, .int .u8 a4_1, .int .u8 a4_2, .int .u8 a4_3], .agg #[.int .u8 a5_0, .int .u8 a5_1, .int .u8 a5_2, .int .u8 a5_3]] W fun e w' => e = .returned (.bool true) ∧ Grown W w' := by
  obtain ⟨x3_0, rfl⟩ := Tag.b8_of (Tag.u8_of w3_0)
  obtain ⟨x3_1, rfl⟩ := Tag.b8_of (Tag.u8_of w3_1)
  obtain ⟨x3_2, rfl⟩ := Tag.b8_of (Tag.u8_of w3_2)
  obtain ⟨x3_3, rfl⟩ := Tag.b8_of (Tag.u8_of w3_3)
  obtain ⟨x4_0, rfl⟩ := Tag.b8_of (Tag.u8_of w4_0)
  obtain ⟨x4_1, rfl⟩ := Tag.b8_of (Tag.u8_of w4_1)
  obtain ⟨x4_2, rfl⟩ := Tag.b8_of (Tag.u8_of w4_2)
  obtain ⟨x4_3, rfl⟩ := Tag.b8_of (Tag.u8_of w4_3)
  obtain ⟨x5_0, rfl⟩ := Tag.b8_of (Tag.u8_of w5_0)
  obtain ⟨x5_1, rfl⟩ := Tag.b8_of (Tag.u8_of w5_1)
  obtain ⟨x5_2, rfl⟩ := Tag.b8_of (Tag.u8_of w5_2)
  obtain ⟨x5_3, rfl⟩ := Tag.b8_of (Tag.u8_of w5_3)
  exact (TagRises_w a0 a1 a2 x3_0 x3_1 x3_2 x3_3 x4_0 x4_1 x4_2 x4_3 x5_0 x5_1 x5_2 x5_3 (u32_is w2) W).mono fun _ _ h => ⟨h.1, h.2.grown⟩

set_option maxHeartbeats 1000000 in
set_option maxRecDepth 100000 in
theorem lifted (os : Os) (started : os.Started) (H : Type) (enc : TypeId × Value → H) :
    ReturnsInHanded {} Try.checked os 8 .any (Rows.tagRisesSpec.pre6 enc Try.prog Try.f8 Rows.tagRisesRow.domain false) (Rows.tagRisesSpec.post enc Try.prog Try.f8 false true false false) := by
  refine returnsInHanded_of_change (C := Try.checked) own started (by kernel_rfl) Try.func8
    (ChangeSpec.witness6 (enc := enc) (C := Try.checked) false ⟨#[], #[.int .i64 0, .int .u32 0, .int .u32 0, .agg #[.int .u8 0, .int .u8 0, .int .u8 0, .int .u8 0], .agg #[.int .u8 0, .int .u8 0, .int .u8 0, .int .u8 0], .agg #[.int .u8 0, .int .u8 0, .int .u8 0, .int .u8 0]], []⟩ 8 (by kernel_rfl) (by kernel_rfl) (by kernel_rfl) (by kernel_rfl)) ?_
  intro W base args ds gs before hval0 hW hcnd _
  have hval : ∀ (j : Nat) t v, Try.f8.params[j]? = some t → args[j]? = some v → Value.okWide Try.prog W .any base t v := hval0
  have hW' := hW
  obtain ⟨p, q, hA0, hV, rfl, hfz, hnd⟩ := hW
  have hA : DataW.TrodAll enc Try.prog W 0 (fun _ => true) true Try.f8.params.toList args.toList ds p := hA0
  rw [Try.params8] at hA hval
  obtain ⟨v0, vs0, d0, ds0, p0, q0, hargs, rfl, rfl, h0, r0⟩ := trodAll_cons hA
  obtain ⟨v1, vs1, d1, ds1, p1, q1, rfl, rfl, rfl, h1, r1⟩ := trodAll_cons r0
  obtain ⟨v2, vs2, d2, ds2, p2, q2, rfl, rfl, rfl, h2, r2⟩ := trodAll_cons r1
  obtain ⟨v3, vs3, d3, ds3, p3, q3, rfl, rfl, rfl, h3, r3⟩ := trodAll_cons r2
  obtain ⟨v4, vs4, d4, ds4, p4, q4, rfl, rfl, rfl, h4, r4⟩ := trodAll_cons r3
  obtain ⟨v5, vs5, d5, ds5, p5, q5, rfl, rfl, rfl, h5, r5⟩ := trodAll_cons r4
  obtain ⟨rfl, rfl, rfl⟩ := trodAll_nil r5
  obtain rfl : args = #[v0, v1, v2, v3, v4, v5] := by cases args; simp_all
  obtain ⟨rfl, rfl⟩ := trodVars_none hV
  obtain ⟨a0, rfl, rfl, rfl, w0⟩ := open_int Try.underlying3 (hval 0 3 v0 rfl rfl) h0
  obtain ⟨a1, rfl, rfl, rfl, w1⟩ := open_int Try.underlying28 (hval 1 28 v1 rfl rfl) h1
  obtain ⟨a2, rfl, rfl, rfl, w2⟩ := open_int Try.underlying28 (hval 2 28 v2 rfl rfl) h2
  obtain ⟨a3_0, a3_1, a3_2, a3_3, rfl, rfl, rfl, w3_0, w3_1, w3_2, w3_3⟩ := open_tag4 Try.underlying24 Try.underlying5 cells24 cells5 (hval 3 24 v3 rfl rfl) h3
  obtain ⟨a4_0, a4_1, a4_2, a4_3, rfl, rfl, rfl, w4_0, w4_1, w4_2, w4_3⟩ := open_tag4 Try.underlying24 Try.underlying5 cells24 cells5 (hval 4 24 v4 rfl rfl) h4
  obtain ⟨a5_0, a5_1, a5_2, a5_3, rfl, rfl, rfl, w5_0, w5_1, w5_2, w5_3⟩ := open_tag4 Try.underlying24 Try.underlying5 cells24 cells5 (hval 5 24 v5 rfl rfl) h5
  clear hA0 hval0
  simp only [List.append_nil] at hW'
  refine (walk a0 a1 a2 a3_0 a3_1 a3_2 a3_3 a4_0 a4_1 a4_2 a4_3 a5_0 a5_1 a5_2 a5_3 w0 w1 w2 w3_0 w3_1 w3_2 w3_3 w4_0 w4_1 w4_2 w4_3 w5_0 w5_1 w5_2 w5_3 W).mono fun e W' ⟨he, hg⟩ => ?_
  subst he
  exact ⟨_, rfl, post_of_same (pa := []) (pv := []) hW' (fun _ _ _ => (trodAll_cons_mk (shut_bool Try.underlying4 _) trodAll_mk0)) (fun sp _ => (trodAll_cons_mk (shut_int Try.underlying3 w0) (trodAll_cons_mk (shut_int Try.underlying28 w1) (trodAll_cons_mk (shut_int Try.underlying28 w2) (trodAll_cons_mk (shut_tag4 Try.underlying24 Try.underlying5 cells24 cells5 w3_0 w3_1 w3_2 w3_3) (trodAll_cons_mk (shut_tag4 Try.underlying24 Try.underlying5 cells24 cells5 w4_0 w4_1 w4_2 w4_3) (trodAll_cons_mk (shut_tag4 Try.underlying24 Try.underlying5 cells24 cells5 w5_0 w5_1 w5_2 w5_3) trodAll_mk0))))))) (fun _ _ => rfl) rfl
    (hg.frame _) hg.2.1 (ok_one (by kernel_rfl) rfl (okWide_bool_mk Try.underlying4 _))⟩

theorem over : Rows.tagRisesRow.holds Try.pinned (OpenSpec.ofChange Rows.tagRisesSpec) :=
  OpenClaim.holds_of_wide 8 Try.f8 rfl rfl rfl rfl rfl rfl rfl ⟨rfl, rfl, rfl, rfl, rfl⟩ rfl rfl rfl rfl rfl (by kernel_rfl) Try.func8 (by kernel_rfl)
    (of_decide_eq_true (by kernel_rfl)) (by unfold Func.isWrapper; first | (rw [if_pos (by decide +kernel)]; kernel_rfl) | (rw [if_neg (by decide +kernel)]; exact ⟨rfl, rfl⟩))
    (fun os started H enc _ => lifted os started H enc)
end Go.Proofs.Ytcpgfogijdmaoaa.tagRises

namespace Go.Proofs.Ytcpgfogijdmaoaa
theorem TagRises_holds : Rows.TagRisesSaid := tagRises.over
end Go.Proofs.Ytcpgfogijdmaoaa
