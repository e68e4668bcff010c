/- Numbers that are unlike in labelled bytes alone come to numbers that are unlike in labelled bytes alone: no label is lost, whatever is reckoned.
   (TagSound: for every input the law's Go function returns true, and each argument reads as it did. No condition beyond the given row's own.) -/
import Derived.Test.YtcpgfogijdmaoaaRows
import Derived.WalkKit
import Derived.ProofKit
import Derived.OpenShut
import Derived.Test.YtcpgfogijdmaoaaLift
import Derived.Test.YtcpgfogijdmaoaaTagLawSound
namespace Go.Proofs.Ytcpgfogijdmaoaa.tagSound
open Go.ChangeShapes Go.WideShapes Go.ChangeAt Go.RowKit
set_option linter.unusedVariables false

theorem own : ownKnob Try.prog.godebug = none := by kernel_rfl
theorem cells24 : Try.prog.cellsOf 24 = 4 := by kernel_rfl
theorem cells5 : Try.prog.cellsOf 5 = 1 := by kernel_rfl

theorem walk (a0 : Int) (a1 : Int) (a2 : Int) (a3 : Int) (a4 : Int) (a5_0 a5_1 a5_2 a5_3 : Int) (a6_0 a6_1 a6_2 a6_3 : Int) (a7 : Int) (w0 : (Lit.int .i64 a0).wf = true) (w1 : (Lit.int .u32 a1).wf = true) (w2 : (Lit.int .u32 a2).wf = true) (w3 : (Lit.int .u32 a3).wf = true) (w4 : (Lit.int .u32 a4).wf = true) (w5_0 : (Lit.int .u8 a5_0).wf = true) (w5_1 : (Lit.int .u8 a5_1).wf = true) (w5_2 : (Lit.int .u8 a5_2).wf = true) (w5_3 : (Lit.int .u8 a5_3).wf = true) (w6_0 : (Lit.int .u8 a6_0).wf = true) (w6_1 : (Lit.int .u8 a6_1).wf = true) (w6_2 : (Lit.int .u8 a6_2).wf = true) (w6_3 : (Lit.int .u8 a6_3).wf = true) (w7 : (Lit.int .u8 a7).wf = true) (W : World) :
    Calls Try.prog 6 #[.int .i64 a0, .int .u32 a1, .int .u32 a2, .int .u32 a3, .int .u32 a4, .agg #[.int .u8 a5_0, .int .u8 a5_1, .int .u8 a5_2, .int .u8 a5_3], .agg #[.int .u8 a6_0, .int .u8 a6_1, .int .u8 a6_2, .int .u8 a6_3], .int .u8 a7] W fun e w' => e = .returned (.bool true) ∧ Grown W w' := by
  obtain ⟨x5_0, rfl⟩ := Tag.b8_of (Tag.u8_of w5_0)
  obtain ⟨x5_1, rfl⟩ := Tag.b8_of (Tag.u8_of w5_1)
  obtain ⟨x5_2, rfl⟩ := Tag.b8_of (Tag.u8_of w5_2)
  obtain ⟨x5_3, rfl⟩ := Tag.b8_of (Tag.u8_of w5_3)
  obtain ⟨x6_0, rfl⟩ := Tag.b8_of (Tag.u8_of w6_0)
  obtain ⟨x6_1, rfl⟩ := Tag.b8_of (Tag.u8_of w6_1)
  obtain ⟨x6_2, rfl⟩ := Tag.b8_of (Tag.u8_of w6_2)
  obtain ⟨x6_3, rfl⟩ := Tag.b8_of (Tag.u8_of w6_3)
  obtain ⟨x7, rfl⟩ := Tag.b8_of (Tag.u8_of w7)
  exact (TagSound_w a0 a1 a2 a3 a4 x5_0 x5_1 x5_2 x5_3 x6_0 x6_1 x6_2 x6_3 x7 (u32_is w1) (u32_is w2) (u32_is w3) (u32_is w4) W).mono fun _ _ h => ⟨h.1, h.2.grown⟩

set_option maxHeartbeats 1000000 in
set_option maxRecDepth 100000 in
theorem lifted (os : Os) (started : os.Started) (H : Type) (enc : TypeId × Value → H) :
    ReturnsInHanded {} Try.checked os 6 .any (Rows.tagSoundSpec.pre6 enc Try.prog Try.f6 Rows.tagSoundRow.domain false) (Rows.tagSoundSpec.post enc Try.prog Try.f6 false true false false) := by
  refine returnsInHanded_of_change (C := Try.checked) own started (by kernel_rfl) Try.func6
    (ChangeSpec.witness6 (enc := enc) (C := Try.checked) false ⟨#[], #[.int .i64 0, .int .u32 0, .int .u32 0, .int .u32 0, .int .u32 0, .agg #[.int .u8 0, .int .u8 0, .int .u8 0, .int .u8 0], .agg #[.int .u8 0, .int .u8 0, .int .u8 0, .int .u8 0], .int .u8 0], []⟩ 8 (by kernel_rfl) (by kernel_rfl) (by kernel_rfl) (by kernel_rfl)) ?_
  intro W base args ds gs before hval0 hW hcnd _
  have hval : ∀ (j : Nat) t v, Try.f6.params[j]? = some t → args[j]? = some v → Value.okWide Try.prog W .any base t v := hval0
  have hW' := hW
  obtain ⟨p, q, hA0, hV, rfl, hfz, hnd⟩ := hW
  have hA : DataW.TrodAll enc Try.prog W 0 (fun _ => true) true Try.f6.params.toList args.toList ds p := hA0
  rw [Try.params6] at hA hval
  obtain ⟨v0, vs0, d0, ds0, p0, q0, hargs, rfl, rfl, h0, r0⟩ := trodAll_cons hA
  obtain ⟨v1, vs1, d1, ds1, p1, q1, rfl, rfl, rfl, h1, r1⟩ := trodAll_cons r0
  obtain ⟨v2, vs2, d2, ds2, p2, q2, rfl, rfl, rfl, h2, r2⟩ := trodAll_cons r1
  obtain ⟨v3, vs3, d3, ds3, p3, q3, rfl, rfl, rfl, h3, r3⟩ := trodAll_cons r2
  obtain ⟨v4, vs4, d4, ds4, p4, q4, rfl, rfl, rfl, h4, r4⟩ := trodAll_cons r3
  obtain ⟨v5, vs5, d5, ds5, p5, q5, rfl, rfl, rfl, h5, r5⟩ := trodAll_cons r4
  obtain ⟨v6, vs6, d6, ds6, p6, q6, rfl, rfl, rfl, h6, r6⟩ := trodAll_cons r5
  obtain ⟨v7, vs7, d7, ds7, p7, q7, rfl, rfl, rfl, h7, r7⟩ := trodAll_cons r6
  obtain ⟨rfl, rfl, rfl⟩ := trodAll_nil r7
  obtain rfl : args = #[v0, v1, v2, v3, v4, v5, v6, v7] := by cases args; simp_all
  obtain ⟨rfl, rfl⟩ := trodVars_none hV
  obtain ⟨a0, rfl, rfl, rfl, w0⟩ := open_int Try.underlying3 (hval 0 3 v0 rfl rfl) h0
  obtain ⟨a1, rfl, rfl, rfl, w1⟩ := open_int Try.underlying28 (hval 1 28 v1 rfl rfl) h1
  obtain ⟨a2, rfl, rfl, rfl, w2⟩ := open_int Try.underlying28 (hval 2 28 v2 rfl rfl) h2
  obtain ⟨a3, rfl, rfl, rfl, w3⟩ := open_int Try.underlying28 (hval 3 28 v3 rfl rfl) h3
  obtain ⟨a4, rfl, rfl, rfl, w4⟩ := open_int Try.underlying28 (hval 4 28 v4 rfl rfl) h4
  obtain ⟨a5_0, a5_1, a5_2, a5_3, rfl, rfl, rfl, w5_0, w5_1, w5_2, w5_3⟩ := open_tag4 Try.underlying24 Try.underlying5 cells24 cells5 (hval 5 24 v5 rfl rfl) h5
  obtain ⟨a6_0, a6_1, a6_2, a6_3, rfl, rfl, rfl, w6_0, w6_1, w6_2, w6_3⟩ := open_tag4 Try.underlying24 Try.underlying5 cells24 cells5 (hval 6 24 v6 rfl rfl) h6
  obtain ⟨a7, rfl, rfl, rfl, w7⟩ := open_int Try.underlying5 (hval 7 5 v7 rfl rfl) h7
  clear hA0 hval0
  simp only [List.append_nil] at hW'
  refine (walk a0 a1 a2 a3 a4 a5_0 a5_1 a5_2 a5_3 a6_0 a6_1 a6_2 a6_3 a7 w0 w1 w2 w3 w4 w5_0 w5_1 w5_2 w5_3 w6_0 w6_1 w6_2 w6_3 w7 W).mono fun e W' ⟨he, hg⟩ => ?_
  subst he
  exact ⟨_, rfl, post_of_same (pa := []) (pv := []) hW' (fun _ _ _ => (trodAll_cons_mk (shut_bool Try.underlying4 _) trodAll_mk0)) (fun sp _ => (trodAll_cons_mk (shut_int Try.underlying3 w0) (trodAll_cons_mk (shut_int Try.underlying28 w1) (trodAll_cons_mk (shut_int Try.underlying28 w2) (trodAll_cons_mk (shut_int Try.underlying28 w3) (trodAll_cons_mk (shut_int Try.underlying28 w4) (trodAll_cons_mk (shut_tag4 Try.underlying24 Try.underlying5 cells24 cells5 w5_0 w5_1 w5_2 w5_3) (trodAll_cons_mk (shut_tag4 Try.underlying24 Try.underlying5 cells24 cells5 w6_0 w6_1 w6_2 w6_3) (trodAll_cons_mk (shut_int Try.underlying5 w7) trodAll_mk0))))))))) (fun _ _ => rfl) rfl
    (hg.frame _) hg.2.1 (ok_one (by kernel_rfl) rfl (okWide_bool_mk Try.underlying4 _))⟩

theorem over : Rows.tagSoundRow.holds Try.pinned (OpenSpec.ofChange Rows.tagSoundSpec) :=
  OpenClaim.holds_of_wide 6 Try.f6 rfl rfl rfl rfl rfl rfl rfl ⟨rfl, rfl, rfl, rfl, rfl⟩ rfl rfl rfl rfl rfl (by kernel_rfl) Try.func6 (by kernel_rfl)
    (of_decide_eq_true (by kernel_rfl)) (by unfold Func.isWrapper; first | (rw [if_pos (by decide +kernel)]; kernel_rfl) | (rw [if_neg (by decide +kernel)]; exact ⟨rfl, rfl⟩))
    (fun os started H enc _ => lifted os started H enc)
end Go.Proofs.Ytcpgfogijdmaoaa.tagSound

namespace Go.Proofs.Ytcpgfogijdmaoaa
theorem TagSound_holds : Rows.TagSoundSaid := tagSound.over
end Go.Proofs.Ytcpgfogijdmaoaa
