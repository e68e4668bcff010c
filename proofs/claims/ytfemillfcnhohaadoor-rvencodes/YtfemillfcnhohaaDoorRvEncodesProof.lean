/- Any instruction is the word that the document says, or none; its name, what it reckons, whether it ends a block.
   (RvEncodes: for every input the law's Go function returns true, and each argument reads as it did; the package-level tables that the row lists start as the program's text lays them (the card ties them to the pruned copy of the project). No condition beyond the given card's own.) -/
import Derived.Test.YtfemillfcnhohaaDoorRows
import Derived.Test.YtfemillfcnhohaaDoorCards
import Derived.Test.YtfemillfcnhohaaDoorTie
import Derived.WalkKit
import Derived.ProofKit
import Derived.OpenShut
import Derived.LaidMore
import Derived.Stop.Joined
import Derived.SevenTiedAt
import Derived.Test.YtfemillfcnhohaaDoorRvLaid
import Derived.Test.YtfemillfcnhohaaDoorLiftI
import Derived.Test.YtfemillfcnhohaaDoorRvLawEncodes
namespace Go.Proofs.YtfemillfcnhohaaDoor.rvEncodes
open Go.ChangeShapes Go.WideShapes Go.ChangeAt Go.WideMaps Go.WideElems Go.RowKit
set_option linter.unusedVariables false

theorem own : ownKnob Tryd.prog.godebug = none := by kernel_rfl
theorem plain : (Rows.rvEncodesRow.laid.all fun x => x.2.handleName?.isNone) = true := by kernel_rfl
theorem listed : ∀ x ∈ laid7, x ∈ Rows.rvEncodesRow.laid := fun x hx => show x ∈ laid7 ++ [("tincture/rv.kinds", Rows.laid_tincture_rv_kinds)] from List.mem_append_left _ hx
theorem listedK : ("tincture/rv.kinds", Rows.laid_tincture_rv_kinds) ∈ Rows.rvEncodesRow.laid := show _ ∈ laid7 ++ [("tincture/rv.kinds", Rows.laid_tincture_rv_kinds)] from List.mem_append_right _ List.mem_cons_self
theorem door_met (os : Os) (args : Array Value) : laidMetH Tryd.prog Rows.rvEncodesRow.laid ((World.doorLaid Tryd.prog 400 os).forCall (fun _ _ => 0) ⟨#[], args, []⟩).memory :=
  laidMetH_of_parts3 (fuel := 8) (laidMet_of_run' 8 (by kernel_rfl) (by kernel_rfl)) (by kernel_rfl) (by kernel_rfl)

theorem walk (i0 : Rv.Ins) (h0 : Rv.IWf i0) (W : World) (hT : Tabs W) (hN : NTab W) (hK : KTab W) :
    Calls Tryd.prog 5 #[Rv.iv i0] W fun e w' => e = .returned (.bool true) ∧ Grown W w' := by
  exact (RvEncodes_w i0 h0.opB h0.immB W hT hN hK).mono fun _ _ h => ⟨h.1, h.2.grown⟩

set_option maxHeartbeats 1000000 in
set_option maxRecDepth 100000 in
theorem lifted (os : Os) (started : os.Started) (H : Type) (enc : TypeId × Value → H) :
    ReturnsInHanded {} Tryd.checked os 5 .any (fun w args => (Rows.rvEncodesSpec.pre enc Tryd.prog Tryd.f5 [] false w args ∧ laidMetH Tryd.prog Rows.rvEncodesRow.laid w) ∧ sizedMet enc Tryd.prog Tryd.f5 (OpenSpec.ofChange Rows.rvEncodesSpec) false w args)
      (Rows.rvEncodesSpec.post enc Tryd.prog Tryd.f5 false true false false) := by
  refine returnsInHanded_of_change_and (C := Tryd.checked) (X := fun w _ => laidMetH Tryd.prog Rows.rvEncodesRow.laid w) (fun _ _ _ hh h => h.of_heap hh) own started (by kernel_rfl) Tryd.func5
    (ChangeSpec.witness_shaped (enc := enc) (C := Tryd.checked) (os := os) (X := fun w _ => laidMetH Tryd.prog Rows.rvEncodesRow.laid w) false (World.doorLaid Tryd.prog 400 os) #[.agg #[.int .i64 0, .int .i64 0, .int .i64 0, .int .i64 0, .int .i32 0]] 8 rfl (World.shaped_of_RefB (by kernel_rfl) (by kernel_rfl)) (by kernel_rfl) (by kernel_rfl) (by kernel_rfl) (door_met os _)) ?_
  intro W base args ds gs before hval0 hW _ _ hL _
  have hval : ∀ (j : Nat) t v, Tryd.f5.params[j]? = some t → args[j]? = some v → Value.okWide Tryd.prog W .any base t v := hval0
  have hW' := hW
  obtain ⟨p, q, hA0, hV, rfl, hfz, hnd⟩ := hW
  have hA : DataW.TrodAll enc Tryd.prog W 0 (fun _ => true) true Tryd.f5.params.toList args.toList ds p := hA0
  rw [Tryd.params5] at hA hval
  obtain ⟨v0, vs0, d0, ds0, p0, q0, hargs, rfl, rfl, k0, r0⟩ := trodAll_cons hA
  obtain ⟨rfl, rfl, rfl⟩ := trodAll_nil r0
  obtain rfl : args = #[v0] := by cases args; simp_all
  obtain ⟨rfl, rfl⟩ := trodVars_none hV
  obtain ⟨i0, rfl, rfl, rfl, h0⟩ := open_ins (hval 0 28 v0 rfl rfl) k0
  obtain ⟨hT, hN⟩ := tabs_of hL plain listed
  have hK := kinds_of hL plain listedK
  clear hA0 hval0
  simp only [List.append_nil] at hW'
  refine (walk i0 h0 W hT hN hK).mono fun e W' ⟨he, hg⟩ => ?_
  subst he
  exact ⟨_, rfl, post_of_same (pa := []) (pv := []) hW' (fun _ _ _ => (trodAll_cons_mk (shut_bool Tryd.underlying4 _) trodAll_mk0)) (fun sp _ => (trodAll_cons_mk (shut_ins h0) trodAll_mk0)) (fun _ _ => rfl) rfl
    (hg.frame _) hg.2.1 (ok_one (by kernel_rfl) rfl (okWide_bool_mk Tryd.underlying4 _))⟩

theorem over : Rows.rvEncodesRow.holds Tryd.pinned (OpenSpec.ofChange Rows.rvEncodesSpec) :=
  OpenClaim.holds_of_wide 5 Tryd.f5 rfl rfl rfl rfl rfl rfl rfl ⟨rfl, rfl, rfl, rfl, rfl⟩ rfl rfl rfl rfl rfl (by kernel_rfl) Tryd.func5 (by kernel_rfl)
    (of_decide_eq_true (by kernel_rfl)) (by unfold Func.isWrapper; first | (rw [if_pos (by decide +kernel)]; kernel_rfl) | (rw [if_neg (by decide +kernel)]; exact ⟨rfl, rfl⟩))
    (fun os started H enc _ => lifted os started H enc)

theorem card : Rows.RvEncodesCardSaid :=
  Claim7.holds_tied_plain_at .later [] [.data, .data, .data, .data, .data, .data, .data, .data] true (true, "a553f7de29be5198d61c9079e323cf818d9e22125c2ef685df2e3d8cc5843310") false
    over (fun _ h => by cases h) (by kernel_rfl) (fun _ h => by cases h) rvEncodes_row_tie rfl ⟨rfl, rfl⟩ (by kernel_rfl) rfl
    (fun f fn hf hfn => by
      obtain rfl : f = 5 := Option.some.inj ((show Tryd.prog.funcNamed "tincture/tincturelaw5.RvEncodes" = some 5 by kernel_rfl).symm.trans hf) |>.symm
      obtain rfl : fn = Tryd.f5 := (Option.some.inj (Tryd.func5.symm.trans hfn)).symm
      exact ⟨by kernel_rfl, fun j t ht => by
        rw [Tryd.params5] at ht
        have hm : t ∈ [28] := by simpa using Array.mem_of_getElem? ht
        have hall : ([28].all fun u => !Tryd.prog.wantsStandIn u) = true := by kernel_rfl
        exact (show Tryd.prog.wantsStandIn t = false by simpa using List.all_eq_true.1 hall t hm)⟩)
    (by kernel_rfl)
end Go.Proofs.YtfemillfcnhohaaDoor.rvEncodes

namespace Go.Proofs.YtfemillfcnhohaaDoor
theorem RvEncodes_holds : Rows.RvEncodesCardSaid := rvEncodes.card
end Go.Proofs.YtfemillfcnhohaaDoor
