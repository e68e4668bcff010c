/- Instructions' texts, a line each, come to their words, the lowest byte first, in their order.
   (AsmWords: for every input the law's Go function returns true, and each argument reads as it did; the package-level tables that the row lists start as the program's text lays them (the card ties them to the pruned copy of the project). No condition beyond the given card's own.) -/
import Derived.Test.YthkampohgbddnaaDoorRows
import Derived.Test.YthkampohgbddnaaDoorCards
import Derived.Test.YthkampohgbddnaaDoorTie
import Derived.WalkKit
import Derived.ProofKit
import Derived.OpenShut
import Derived.LaidMore
import Derived.Stop.Joined
import Derived.SevenTiedAt
import Derived.Lay
import Derived.Test.YthkampohgbddnaaDoorAsmLaid
import Derived.Test.YthkampohgbddnaaDoorAsmLawWords
namespace Go.Proofs.YthkampohgbddnaaDoor.asmWords
open Go.ChangeShapes Go.WideShapes Go.ChangeAt Go.WideMaps Go.WideElems Go.RowKit
set_option linter.unusedVariables false

theorem own : ownKnob Tryd.prog.godebug = none := by kernel_rfl
theorem plain : (Rows.asmWordsRow.laid.all fun x => x.2.handleName?.isNone) = true := by kernel_rfl
theorem listed : ∀ x ∈ laid7, x ∈ Rows.asmWordsRow.laid := fun x hx => by
  have h : ∀ y ∈ laid7.map (·.1), y ∈ (Rows.asmWordsRow.laid.map (·.1)) := by decide
  simp only [laid7, List.mem_cons, List.not_mem_nil, or_false] at hx
  rcases hx with rfl | rfl | rfl | rfl | rfl | rfl | rfl <;> simp [Rows.asmWordsRow]
theorem listedP : ("internal/strconv.uint64pow10", Rows.laid_internal_strconv_uint64pow10) ∈ Rows.asmWordsRow.laid := by simp [Rows.asmWordsRow]
theorem met (os : Os) (args : Array Value) : laidMetH Tryd.prog Rows.asmWordsRow.laid ((World.laidAll Tryd.prog os Rows.asmWordsRow.laid).forCall (fun _ _ => 0) ⟨#[], args, []⟩).memory := by
  rw [MakeChecks.laidMetH_plain _ _ _ plain]
  exact laidMet_laidAll _ (by kernel_rfl) (by kernel_rfl)
theorem laidT : laidOutB Tryd.prog = true := by kernel_rfl

theorem walk (a0 : Value) (W : World) (w0 : IArgs W a0) (ha : All6 W) :
    Calls Tryd.prog 6 #[a0] W fun e w' => e = .returned (.bool true) ∧ Bw W w' := by
  exact AsmWords_w a0 W w0 ha

set_option maxHeartbeats 1000000 in
set_option maxRecDepth 100000 in
theorem lifted (os : Os) (started : os.Started) (H : Type) (enc : TypeId × Value → H) :
    ReturnsInHanded {} Tryd.checked os 6 .any (fun w args => (Rows.asmWordsSpec.pre enc Tryd.prog Tryd.f6 [] false w args ∧ laidMetH Tryd.prog Rows.asmWordsRow.laid w) ∧ sizedMet enc Tryd.prog Tryd.f6 (OpenSpec.ofChange Rows.asmWordsSpec) false w args)
      (Rows.asmWordsSpec.post enc Tryd.prog Tryd.f6 false true false false) := by
  refine returnsInHanded_of_change_and (C := Tryd.checked) (X := fun w _ => laidMetH Tryd.prog Rows.asmWordsRow.laid w) (fun _ _ _ hh h => h.of_heap hh) own started (by kernel_rfl) Tryd.func6
    (ChangeSpec.witness_shaped (enc := enc) (C := Tryd.checked) (os := os) (X := fun w _ => laidMetH Tryd.prog Rows.asmWordsRow.laid w) false (World.laidAll Tryd.prog os Rows.asmWordsRow.laid) #[.slice none 0 0] 8 (World.laidAll_os _ _ _) (World.shaped_of_ZipB (by kernel_rfl) (by kernel_rfl)) (by kernel_rfl) (by kernel_rfl) (by kernel_rfl) (met os _)) ?_
  intro W base args ds gs before hval0 hW _ _ hL _
  have hval : ∀ (j : Nat) t v, Tryd.f6.params[j]? = some t → args[j]? = some v → Value.okWide Tryd.prog W .any base t v := hval0
  have hW' := hW
  obtain ⟨p, q, hA0, hV, rfl, hfz, hnd⟩ := hW
  have hA : DataW.TrodAll enc Tryd.prog W 0 (fun _ => true) true Tryd.f6.params.toList args.toList ds p := hA0
  rw [Tryd.params6] at hA hval
  obtain ⟨v0, vs0, d0, ds0, p0, q0, hargs, rfl, rfl, k0, r0⟩ := trodAll_cons hA
  obtain ⟨rfl, rfl, rfl⟩ := trodAll_nil r0
  obtain rfl : args = #[v0] := by cases args; simp_all
  obtain ⟨rfl, rfl⟩ := trodVars_none hV
  have hlt0 : ∀ x ∈ p0, x.block < W.heap.size := fun x hx => by simpa using hW'.lt x (by simp [hx])
  have w0 := open_inss (hval 0 40 v0 rfl rfl) k0 hlt0
  have ha := all6_of hL plain listed listedP
  clear hA0 hval0
  simp only [List.append_nil] at hW'
  refine (walk v0 W w0 ha).mono fun e W' ⟨he, hg⟩ => ?_
  subst he
  exact ⟨_, rfl, post_of_bw (pa := (p0 ++ [])) (pv := []) hW' (fun _ _ _ => (trodAll_cons_mk (shut_bool Tryd.underlying4 _) trodAll_mk0)) (trodAll_cons_mk (Below.trod laidT (by kernel_rfl) (of_decide_eq_true (by kernel_rfl)) k0 hg hlt0) trodAll_mk0) (fun _ _ => rfl) (by simp) (Below.frame hg _)⟩

theorem over : Rows.asmWordsRow.holds Tryd.pinned (OpenSpec.ofChange Rows.asmWordsSpec) :=
  OpenClaim.holds_of_wide 6 Tryd.f6 rfl rfl rfl rfl rfl rfl rfl ⟨rfl, rfl, rfl, rfl, rfl⟩ rfl rfl rfl rfl rfl (by kernel_rfl) Tryd.func6 (by kernel_rfl)
    (of_decide_eq_true (by kernel_rfl)) (by unfold Func.isWrapper; first | (rw [if_pos (by decide +kernel)]; kernel_rfl) | (rw [if_neg (by decide +kernel)]; exact ⟨rfl, rfl⟩))
    (fun os started H enc _ => lifted os started H enc)

theorem card : Rows.AsmWordsCardSaid :=
  Claim7.holds_tied_plain_at .later [] [.data, .data, .data, .data, .data, .data, .data, .data, .data, .data, .data, .pinned] true (true, "b4d71e5d67aa6b170f08b9699be7929878faa17d340e160ff3757b0093be0f2d") false
    over (fun _ h => by cases h) (by kernel_rfl) (fun _ h => by cases h) asmWords_row_tie rfl ⟨rfl, rfl⟩ (by kernel_rfl) rfl
    (fun f fn hf hfn => by
      obtain rfl : f = 6 := Option.some.inj ((show Tryd.prog.funcNamed "tincture/tincturelaw6.AsmWords" = some 6 by kernel_rfl).symm.trans hf) |>.symm
      obtain rfl : fn = Tryd.f6 := (Option.some.inj (Tryd.func6.symm.trans hfn)).symm
      exact ⟨by kernel_rfl, fun j t ht => by
        rw [Tryd.params6] at ht
        have hm : t ∈ [40] := by simpa using Array.mem_of_getElem? ht
        have hall : ([40].all fun u => !Tryd.prog.wantsStandIn u) = true := by kernel_rfl
        exact (show Tryd.prog.wantsStandIn t = false by simpa using List.all_eq_true.1 hall t hm)⟩)
    (by kernel_rfl)
end Go.Proofs.YthkampohgbddnaaDoor.asmWords

namespace Go.Proofs.YthkampohgbddnaaDoor
theorem AsmWords_holds : Rows.AsmWordsCardSaid := asmWords.card
end Go.Proofs.YthkampohgbddnaaDoor
