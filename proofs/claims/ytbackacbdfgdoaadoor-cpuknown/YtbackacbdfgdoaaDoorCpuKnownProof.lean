/- What the chapter says of jumps, of faults, of what cannot be done: eleven steps of one memory, each with its registers and its event.
   (CpuKnown: for every input the law's Go function returns true, and each argument reads as it did; the package-level tables that the row lists start as the program's text lays them (the card ties them to the pruned copy of the project). No condition beyond the given card's own.) -/
import Derived.Test.YtbackacbdfgdoaaDoorRows
import Derived.Test.YtbackacbdfgdoaaDoorCards
import Derived.Test.YtbackacbdfgdoaaDoorTie
import Derived.WalkKit
import Derived.ProofKit
import Derived.OpenShut
import Derived.LaidMore
import Derived.Stop.Joined
import Derived.SevenTiedAt
import Derived.Lay
import Derived.ChangeMaps5
import Derived.Test.YtbackacbdfgdoaaDoorK14
import Derived.Test.YtbackacbdfgdoaaDoorK14
import Derived.Test.YtbackacbdfgdoaaDoorKKn
namespace Go.Proofs.YtbackacbdfgdoaaDoor.cpuKnown
open Go.ChangeShapes Go.WideShapes Go.ChangeAt Go.WideMaps Go.WideElems Go.RowKit Go.ChangeMaps
set_option linter.unusedVariables false

theorem own : ownKnob Tryd.prog.godebug = none := by kernel_rfl
theorem plain : (Rows.cpuKnownRow.laid.all fun x => x.2.handleName?.isNone) = true := by kernel_rfl
theorem listed : ∀ x ∈ laid6, x ∈ Rows.cpuKnownRow.laid := fun x hx => by
  simp only [laid6, List.mem_cons, List.not_mem_nil, or_false] at hx
  rcases hx with rfl | rfl | rfl | rfl | rfl | rfl <;> simp [Rows.cpuKnownRow]
theorem met (os : Os) (args : Array Value) : laidMetH Tryd.prog Rows.cpuKnownRow.laid ((World.laidAll Tryd.prog os Rows.cpuKnownRow.laid).forCall (fun _ _ => 0) ⟨#[], args, []⟩).memory := by
  rw [MakeChecks.laidMetH_plain _ _ _ plain]
  exact laidMet_laidAll _ (by kernel_rfl) (by kernel_rfl)

theorem walk  (W : World)  (ha : All12 W) :
    Calls Tryd.prog 3 #[] W fun e w' => e = .returned (.bool true) ∧ Bw W w' := by
  exact CpuKnown_w W ha

set_option maxHeartbeats 1000000 in
set_option maxRecDepth 100000 in
theorem lifted (os : Os) (started : os.Started) (H : Type) (enc : TypeId × Value → H) :
    ReturnsInHanded {} Tryd.checked os 3 .any (fun w args => (Rows.cpuKnownSpec.pre enc Tryd.prog Tryd.f3 [] false w args ∧ laidMetH Tryd.prog Rows.cpuKnownRow.laid w) ∧ sizedMet enc Tryd.prog Tryd.f3 (OpenSpec.ofChange Rows.cpuKnownSpec) false w args)
      (Rows.cpuKnownSpec.post enc Tryd.prog Tryd.f3 false true false false) := by
  refine returnsInHanded_of_change_and (C := Tryd.checked) (X := fun w _ => laidMetH Tryd.prog Rows.cpuKnownRow.laid w) (fun _ _ _ hh h => h.of_heap hh) own started (by kernel_rfl) Tryd.func3
    (ChangeSpec.witness_shaped (enc := enc) (C := Tryd.checked) (os := os) (X := fun w _ => laidMetH Tryd.prog Rows.cpuKnownRow.laid w) false (World.laidAll Tryd.prog os Rows.cpuKnownRow.laid) #[] 8 (World.laidAll_os _ _ _) (World.shaped_of_ZipB (by kernel_rfl) (by kernel_rfl)) (by kernel_rfl) (by kernel_rfl) (by kernel_rfl) (met os _)) ?_
  intro W base args ds gs before hval0 hW _ _ hL _
  have hval : ∀ (j : Nat) t v, Tryd.f3.params[j]? = some t → args[j]? = some v → Value.okWide Tryd.prog W .any base t v := hval0
  have hW' := hW
  obtain ⟨p, q, hA0, hV, rfl, hfz, hnd⟩ := hW
  have hA : DataW.TrodAll enc Tryd.prog W 0 (fun _ => true) true Tryd.f3.params.toList args.toList ds p := hA0
  rw [Tryd.params3] at hA hval
  obtain ⟨rfl, rfl, rfl⟩ := trodAll_none hA
  obtain ⟨rfl, rfl⟩ := trodVars_none hV
  have ha := all12_of hL plain listed (by simp [Rows.cpuKnownRow]) (by simp [Rows.cpuKnownRow]) (by simp [Rows.cpuKnownRow]) (by simp [Rows.cpuKnownRow]) (by simp [Rows.cpuKnownRow])
  clear hA0 hval0
  simp only [List.append_nil] at hW'
  refine (walk  W  ha).mono fun e W' ⟨he, hg⟩ => ?_
  subst he
  exact ⟨_, rfl, post_of_bw12 (pa := []) (pv := []) hW' (fun _ _ _ => (trodAll_cons_mk (shut_bool Tryd.underlying4 _) trodAll_mk0)) rfl (fun _ _ => rfl) (by simp) (Below.frame hg _)⟩

theorem over : Rows.cpuKnownRow.holds Tryd.pinned (OpenSpec.ofChange Rows.cpuKnownSpec) :=
  OpenClaim.holds_of_wide 3 Tryd.f3 rfl rfl rfl rfl rfl rfl rfl ⟨rfl, rfl, rfl, rfl, rfl⟩ rfl rfl rfl rfl rfl (by kernel_rfl) Tryd.func3 (by kernel_rfl)
    (of_decide_eq_true (by kernel_rfl)) (by unfold Func.isWrapper; first | (rw [if_pos (by decide +kernel)]; kernel_rfl) | (rw [if_neg (by decide +kernel)]; exact ⟨rfl, rfl⟩))
    (fun os started H enc _ => lifted os started H enc)

theorem card : Rows.CpuKnownCardSaid :=
  Claim7.holds_tied_plain_at .later [] [.data, .data, .data, .data, .data, .data, .data, .data, .data, .data, .data] true (true, "d9a04623069bb070f75a2677cc4eb0097b023e661a0be92fb832ae28f29ac59d") false
    over (fun _ h => by cases h) (by kernel_rfl) (fun _ h => by cases h) cpuKnown_row_tie rfl ⟨rfl, rfl⟩ (by kernel_rfl) rfl
    (fun f fn hf hfn => by
      obtain rfl : f = 3 := Option.some.inj ((show Tryd.prog.funcNamed "tincture/tincturelaw12.CpuKnown" = some 3 by kernel_rfl).symm.trans hf) |>.symm
      obtain rfl : fn = Tryd.f3 := (Option.some.inj (Tryd.func3.symm.trans hfn)).symm
      exact ⟨by kernel_rfl, fun j t ht => by
        rw [Tryd.params3] at ht
        simp at ht⟩)
    (by kernel_rfl)
end Go.Proofs.YtbackacbdfgdoaaDoor.cpuKnown

namespace Go.Proofs.YtbackacbdfgdoaaDoor
theorem CpuKnown_holds : Rows.CpuKnownCardSaid := cpuKnown.card
end Go.Proofs.YtbackacbdfgdoaaDoor
