/- What stands behind a mark of a remark changes nothing, nor do empty lines, but for the number of the line that is wrong.
   (AsmNotes: for every input the law's Go function returns true, and each argument reads as it did; the package-level tables that the row lists start as the program's text lays them (the card ties them to the pruned copy of the project). No condition beyond the given card's own.) -/
import Derived.Test.YthkampohgbddnaaDoorRows
import Derived.Test.YthkampohgbddnaaDoorCards
import Derived.Test.YthkampohgbddnaaDoorTie
import Derived.WalkKit
import Derived.ProofKit
import Derived.OpenShut
import Derived.LaidMore
import Derived.Stop.Joined
import Derived.SevenTiedAt
import Derived.Lay
import Derived.ChangeMaps5
import Derived.Test.YthkampohgbddnaaDoorAsmLaid
import Derived.Test.YthkampohgbddnaaDoorAsmLawNotes
namespace Go.Proofs.YthkampohgbddnaaDoor.asmNotes
open Go.ChangeShapes Go.WideShapes Go.ChangeAt Go.WideMaps Go.WideElems Go.RowKit Go.ChangeMaps
set_option linter.unusedVariables false

theorem own : ownKnob Tryd.prog.godebug = none := by kernel_rfl
theorem plain : (Rows.asmNotesRow.laid.all fun x => x.2.handleName?.isNone) = true := by kernel_rfl
theorem listed : ∀ x ∈ laid7, x ∈ Rows.asmNotesRow.laid := fun x hx => by
  have h : ∀ y ∈ laid7.map (·.1), y ∈ (Rows.asmNotesRow.laid.map (·.1)) := by decide
  simp only [laid7, List.mem_cons, List.not_mem_nil, or_false] at hx
  rcases hx with rfl | rfl | rfl | rfl | rfl | rfl | rfl <;> simp [Rows.asmNotesRow]
theorem listedP : ("internal/strconv.uint64pow10", Rows.laid_internal_strconv_uint64pow10) ∈ Rows.asmNotesRow.laid := by simp [Rows.asmNotesRow]
theorem met (os : Os) (args : Array Value) : laidMetH Tryd.prog Rows.asmNotesRow.laid ((World.laidAll Tryd.prog os Rows.asmNotesRow.laid).forCall (fun _ _ => 0) ⟨#[], args, []⟩).memory := by
  rw [MakeChecks.laidMetH_plain _ _ _ plain]
  exact laidMet_laidAll _ (by kernel_rfl) (by kernel_rfl)
theorem laidT : laidOutB Tryd.prog = true := by kernel_rfl

theorem walk (a0 : Value) (l1 : List UInt8) (a2 : Bool) (W : World) (w0 : IArgs W a0) (w1 : l1.length ≤ maxLen) (ha : All6 W) :
    Calls Tryd.prog 8 #[a0, .string (bs l1), .bool a2] W fun e w' => e = .returned (.bool true) ∧ Bw W w' := by
  exact AsmNotes_w a0 l1 a2 W w0 w1 ha

set_option maxHeartbeats 1000000 in
set_option maxRecDepth 100000 in
theorem lifted (os : Os) (started : os.Started) (H : Type) (enc : TypeId × Value → H) :
    ReturnsInHanded {} Tryd.checked os 8 .any (fun w args => (Rows.asmNotesSpec.pre enc Tryd.prog Tryd.f8 [] false w args ∧ laidMetH Tryd.prog Rows.asmNotesRow.laid w) ∧ sizedMet enc Tryd.prog Tryd.f8 (OpenSpec.ofChange Rows.asmNotesSpec) false w args)
      (Rows.asmNotesSpec.post enc Tryd.prog Tryd.f8 false true false false) := by
  refine returnsInHanded_of_change_and (C := Tryd.checked) (X := fun w _ => laidMetH Tryd.prog Rows.asmNotesRow.laid w) (fun _ _ _ hh h => h.of_heap hh) own started (by kernel_rfl) Tryd.func8
    (ChangeSpec.witness_shaped (enc := enc) (C := Tryd.checked) (os := os) (X := fun w _ => laidMetH Tryd.prog Rows.asmNotesRow.laid w) false (World.laidAll Tryd.prog os Rows.asmNotesRow.laid) #[.slice none 0 0, .string ⟨#[]⟩, .bool false] 8 (World.laidAll_os _ _ _) (World.shaped_of_ZipB (by kernel_rfl) (by kernel_rfl)) (by kernel_rfl) (by kernel_rfl) (by kernel_rfl) (met os _)) ?_
  intro W base args ds gs before hval0 hW _ _ hL _
  have hval : ∀ (j : Nat) t v, Tryd.f8.params[j]? = some t → args[j]? = some v → Value.okWide Tryd.prog W .any base t v := hval0
  have hW' := hW
  obtain ⟨p, q, hA0, hV, rfl, hfz, hnd⟩ := hW
  have hA : DataW.TrodAll enc Tryd.prog W 0 (fun _ => true) true Tryd.f8.params.toList args.toList ds p := hA0
  rw [Tryd.params8] at hA hval
  obtain ⟨v0, vs0, d0, ds0, p0, q0, hargs, rfl, rfl, k0, r0⟩ := trodAll_cons hA
  obtain ⟨v1, vs1, d1, ds1, p1, q1, rfl, rfl, rfl, k1, r1⟩ := trodAll_cons r0
  obtain ⟨v2, vs2, d2, ds2, p2, q2, rfl, rfl, rfl, k2, r2⟩ := trodAll_cons r1
  obtain ⟨rfl, rfl, rfl⟩ := trodAll_nil r2
  obtain rfl : args = #[v0, v1, v2] := by cases args; simp_all
  obtain ⟨rfl, rfl⟩ := trodVars_none hV
  have hlt0 : ∀ x ∈ p0, x.block < W.heap.size := fun x hx => by simpa using hW'.lt x (by simp [hx])
  have w0 := open_inss (hval 0 40 v0 rfl rfl) k0 hlt0
  obtain ⟨s1, rfl, rfl, rfl, u1⟩ := open_string Tryd.underlying9 (hval 1 9 v1 rfl rfl) k1
  obtain ⟨l1, rfl⟩ : ∃ l, s1 = bs l := ⟨s1.data.toList, (bs_of s1).symm⟩
  have w1 : l1.length ≤ maxLen := by rw [← bs_size]; exact u1
  obtain ⟨a2, rfl, rfl, rfl⟩ := open_bool Tryd.underlying4 (hval 2 4 v2 rfl rfl) k2
  have ha := all6_of hL plain listed listedP
  clear hA0 hval0
  simp only [List.append_nil] at hW'
  refine (walk v0 l1 a2 W w0 w1 ha).mono fun e W' ⟨he, hg⟩ => ?_
  subst he
  exact ⟨_, rfl, post_of_bw (pa := (p0 ++ ([] ++ ([] ++ [])))) (pv := []) hW' (fun _ _ _ => (trodAll_cons_mk (shut_bool Tryd.underlying4 _) trodAll_mk0)) (trodAll_cons_mk (Below.trod laidT (by kernel_rfl) (of_decide_eq_true (by kernel_rfl)) k0 hg hlt0) (trodAll_cons_mk (shut_string Tryd.underlying9 u1) (trodAll_cons_mk (shut_bool Tryd.underlying4 _) trodAll_mk0))) (fun _ _ => rfl) (by simp) (Below.frame hg _)⟩

theorem over : Rows.asmNotesRow.holds Tryd.pinned (OpenSpec.ofChange Rows.asmNotesSpec) :=
  OpenClaim.holds_of_wide 8 Tryd.f8 rfl rfl rfl rfl rfl rfl rfl ⟨rfl, rfl, rfl, rfl, rfl⟩ rfl rfl rfl rfl rfl (by kernel_rfl) Tryd.func8 (by kernel_rfl)
    (of_decide_eq_true (by kernel_rfl)) (by unfold Func.isWrapper; first | (rw [if_pos (by decide +kernel)]; kernel_rfl) | (rw [if_neg (by decide +kernel)]; exact ⟨rfl, rfl⟩))
    (fun os started H enc _ => lifted os started H enc)

theorem card : Rows.AsmNotesCardSaid :=
  Claim7.holds_tied_plain_at .later [] [.data, .data, .data, .data, .data, .data, .data, .data, .data, .data, .data, .pinned] true (true, "b4d71e5d67aa6b170f08b9699be7929878faa17d340e160ff3757b0093be0f2d") false
    over (fun _ h => by cases h) (by kernel_rfl) (fun _ h => by cases h) asmNotes_row_tie rfl ⟨rfl, rfl⟩ (by kernel_rfl) rfl
    (fun f fn hf hfn => by
      obtain rfl : f = 8 := Option.some.inj ((show Tryd.prog.funcNamed "tincture/tincturelaw6.AsmNotes" = some 8 by kernel_rfl).symm.trans hf) |>.symm
      obtain rfl : fn = Tryd.f8 := (Option.some.inj (Tryd.func8.symm.trans hfn)).symm
      exact ⟨by kernel_rfl, fun j t ht => by
        rw [Tryd.params8] at ht
        have hm : t ∈ [40, 9, 4] := by simpa using Array.mem_of_getElem? ht
        have hall : ([40, 9, 4].all fun u => !Tryd.prog.wantsStandIn u) = true := by kernel_rfl
        exact (show Tryd.prog.wantsStandIn t = false by simpa using List.all_eq_true.1 hall t hm)⟩)
    (by kernel_rfl)
end Go.Proofs.YthkampohgbddnaaDoor.asmNotes

namespace Go.Proofs.YthkampohgbddnaaDoor
theorem AsmNotes_holds : Rows.AsmNotesCardSaid := asmNotes.card
end Go.Proofs.YthkampohgbddnaaDoor
