/- Any text's words, or the line that is none and its error, are as the document says.
   (AsmAll: for every input the law's Go function returns true, and each argument reads as it did; the package-level tables that the row lists start as the program's text lays them (the card ties them to the pruned copy of the project). No condition beyond the given card's own.) -/
import Derived.Test.YtllgkofibkobnaaDoorRows
import Derived.Test.YtllgkofibkobnaaDoorCards
import Derived.Test.YtllgkofibkobnaaDoorTie
import Derived.WalkKit
import Derived.ProofKit
import Derived.OpenShut
import Derived.LaidMore
import Derived.Stop.Joined
import Derived.SevenTiedAt
import Derived.Lay
import Derived.ChangeMaps5
import Derived.Test.YtllgkofibkobnaaDoorR16
import Derived.Test.YtllgkofibkobnaaDoorR17
namespace Go.Proofs.YtllgkofibkobnaaDoor.asmAll
open Go.ChangeShapes Go.WideShapes Go.ChangeAt Go.WideMaps Go.WideElems Go.RowKit Go.ChangeMaps
set_option linter.unusedVariables false

theorem own : ownKnob Tryd.prog.godebug = none := by kernel_rfl
theorem plain : (Rows.asmAllRow.laid.all fun x => x.2.handleName?.isNone) = true := by kernel_rfl
theorem listed : ∀ x ∈ laid7, x ∈ Rows.asmAllRow.laid := fun x hx => by
  have h : ∀ y ∈ laid7.map (·.1), y ∈ (Rows.asmAllRow.laid.map (·.1)) := by decide
  simp only [laid7, List.mem_cons, List.not_mem_nil, or_false] at hx
  rcases hx with rfl | rfl | rfl | rfl | rfl | rfl | rfl <;> simp [Rows.asmAllRow]
theorem listedP : ("internal/strconv.uint64pow10", Rows.laid_internal_strconv_uint64pow10) ∈ Rows.asmAllRow.laid := by simp [Rows.asmAllRow]
theorem met (os : Os) (args : Array Value) : laidMetH Tryd.prog Rows.asmAllRow.laid ((World.laidAll Tryd.prog os Rows.asmAllRow.laid).forCall (fun _ _ => 0) ⟨#[], args, []⟩).memory := by
  rw [MakeChecks.laidMetH_plain _ _ _ plain]
  exact laidMet_laidAll _ (by kernel_rfl) (by kernel_rfl)

theorem walk (l0 : List UInt8) (W : World) (w0 : l0.length ≤ maxLen) (ha : All6 W) :
    Calls Tryd.prog 3 #[.string (bs l0)] W fun e w' => e = .returned (.bool true) ∧ Bw W w' := by
  exact AsmAll_w l0 W ha

set_option maxHeartbeats 1000000 in
set_option maxRecDepth 100000 in
theorem lifted (os : Os) (started : os.Started) (H : Type) (enc : TypeId × Value → H) :
    ReturnsInHanded {} Tryd.checked os 3 .any (fun w args => (Rows.asmAllSpec.pre enc Tryd.prog Tryd.f3 [] false w args ∧ laidMetH Tryd.prog Rows.asmAllRow.laid w) ∧ sizedMet enc Tryd.prog Tryd.f3 (OpenSpec.ofChange Rows.asmAllSpec) false w args)
      (Rows.asmAllSpec.post enc Tryd.prog Tryd.f3 false true false false) := by
  refine returnsInHanded_of_change_and (C := Tryd.checked) (X := fun w _ => laidMetH Tryd.prog Rows.asmAllRow.laid w) (fun _ _ _ hh h => h.of_heap hh) own started (by kernel_rfl) Tryd.func3
    (ChangeSpec.witness_shaped (enc := enc) (C := Tryd.checked) (os := os) (X := fun w _ => laidMetH Tryd.prog Rows.asmAllRow.laid w) false (World.laidAll Tryd.prog os Rows.asmAllRow.laid) #[.string ⟨#[]⟩] 8 (World.laidAll_os _ _ _) (World.shaped_of_ZipB (by kernel_rfl) (by kernel_rfl)) (by kernel_rfl) (by kernel_rfl) (by kernel_rfl) (met os _)) ?_
  intro W base args ds gs before hval0 hW _ _ hL _
  have hval : ∀ (j : Nat) t v, Tryd.f3.params[j]? = some t → args[j]? = some v → Value.okWide Tryd.prog W .any base t v := hval0
  have hW' := hW
  obtain ⟨p, q, hA0, hV, rfl, hfz, hnd⟩ := hW
  have hA : DataW.TrodAll enc Tryd.prog W 0 (fun _ => true) true Tryd.f3.params.toList args.toList ds p := hA0
  rw [Tryd.params3] at hA hval
  obtain ⟨v0, vs0, d0, ds0, p0, q0, hargs, rfl, rfl, k0, r0⟩ := trodAll_cons hA
  obtain ⟨rfl, rfl, rfl⟩ := trodAll_nil r0
  obtain rfl : args = #[v0] := by cases args; simp_all
  obtain ⟨rfl, rfl⟩ := trodVars_none hV
  obtain ⟨s0, rfl, rfl, rfl, u0⟩ := open_string Tryd.underlying9 (hval 0 9 v0 rfl rfl) k0
  obtain ⟨l0, rfl⟩ : ∃ l, s0 = bs l := ⟨s0.data.toList, (bs_of s0).symm⟩
  have w0 : l0.length ≤ maxLen := by rw [← bs_size]; exact u0
  have ha := all6_of hL plain listed listedP
  clear hA0 hval0
  simp only [List.append_nil] at hW'
  refine (walk l0 W w0 ha).mono fun e W' ⟨he, hg⟩ => ?_
  subst he
  exact ⟨_, rfl, post_of_bw (pa := ([] ++ [])) (pv := []) hW' (fun _ _ _ => (trodAll_cons_mk (shut_bool Tryd.underlying4 _) trodAll_mk0)) (trodAll_cons_mk (shut_string Tryd.underlying9 u0) trodAll_mk0) (fun _ _ => rfl) (by simp) (Below.frame hg _)⟩

theorem over : Rows.asmAllRow.holds Tryd.pinned (OpenSpec.ofChange Rows.asmAllSpec) :=
  OpenClaim.holds_of_wide 3 Tryd.f3 rfl rfl rfl rfl rfl rfl rfl ⟨rfl, rfl, rfl, rfl, rfl⟩ rfl rfl rfl rfl rfl (by kernel_rfl) Tryd.func3 (by kernel_rfl)
    (of_decide_eq_true (by kernel_rfl)) (by unfold Func.isWrapper; first | (rw [if_pos (by decide +kernel)]; kernel_rfl) | (rw [if_neg (by decide +kernel)]; exact ⟨rfl, rfl⟩))
    (fun os started H enc _ => lifted os started H enc)

theorem card : Rows.AsmAllCardSaid :=
  Claim7.holds_tied_plain_at .later [] [.data, .data, .data, .data, .data, .data, .data, .data, .data, .data, .data, .pinned] true (true, "a7bb50b9622eb5f9c24ca399ae11168145b28b14ff78244294a6bf7ee8a2fcb6") false
    over (fun _ h => by cases h) (by kernel_rfl) (fun _ h => by cases h) asmAll_row_tie rfl ⟨rfl, rfl⟩ (by kernel_rfl) rfl
    (fun f fn hf hfn => by
      obtain rfl : f = 3 := Option.some.inj ((show Tryd.prog.funcNamed "tincture/tincturelaw6.AsmAll" = some 3 by kernel_rfl).symm.trans hf) |>.symm
      obtain rfl : fn = Tryd.f3 := (Option.some.inj (Tryd.func3.symm.trans hfn)).symm
      exact ⟨by kernel_rfl, fun j t ht => by
        rw [Tryd.params3] at ht
        have hm : t ∈ [9] := by simpa using Array.mem_of_getElem? ht
        have hall : ([9].all fun u => !Tryd.prog.wantsStandIn u) = true := by kernel_rfl
        exact (show Tryd.prog.wantsStandIn t = false by simpa using List.all_eq_true.1 hall t hm)⟩)
    (by kernel_rfl)
end Go.Proofs.YtllgkofibkobnaaDoor.asmAll

namespace Go.Proofs.YtllgkofibkobnaaDoor
theorem AsmAll_holds : Rows.AsmAllCardSaid := asmAll.card
end Go.Proofs.YtllgkofibkobnaaDoor
