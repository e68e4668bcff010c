/- A branch goes where it points just if what it asks is true, and its opposite just if it is not; nothing else changes but that one instruction is retired.
   (CpuBranches: for every input the law's Go function returns true, and each argument reads as it did; the package-level tables that the row lists start as the program's text lays them (the card ties them to the pruned copy of the project). No condition beyond the given card's own.) -/
import Derived.Test.YtbackacbdfgdoaaDoorRows
import Derived.Test.YtbackacbdfgdoaaDoorCards
import Derived.Test.YtbackacbdfgdoaaDoorTie
import Derived.WalkKit
import Derived.ProofKit
import Derived.OpenShut
import Derived.LaidMore
import Derived.Stop.Joined
import Derived.SevenTiedAt
import Derived.Lay
import Derived.ChangeMaps5
import Derived.Test.YtbackacbdfgdoaaDoorK14
import Derived.Test.YtbackacbdfgdoaaDoorK14
import Derived.Test.YtbackacbdfgdoaaDoorKBra
namespace Go.Proofs.YtbackacbdfgdoaaDoor.cpuBranches
open Go.ChangeShapes Go.WideShapes Go.ChangeAt Go.WideMaps Go.WideElems Go.RowKit Go.ChangeMaps
set_option linter.unusedVariables false

theorem own : ownKnob Tryd.prog.godebug = none := by kernel_rfl
theorem plain : (Rows.cpuBranchesRow.laid.all fun x => x.2.handleName?.isNone) = true := by kernel_rfl
theorem listed : ∀ x ∈ laid6, x ∈ Rows.cpuBranchesRow.laid := fun x hx => by
  simp only [laid6, List.mem_cons, List.not_mem_nil, or_false] at hx
  rcases hx with rfl | rfl | rfl | rfl | rfl | rfl <;> simp [Rows.cpuBranchesRow]
theorem met (os : Os) (args : Array Value) : laidMetH Tryd.prog Rows.cpuBranchesRow.laid ((World.laidAll Tryd.prog os Rows.cpuBranchesRow.laid).forCall (fun _ _ => 0) ⟨#[], args, []⟩).memory := by
  rw [MakeChecks.laidMetH_plain _ _ _ plain]
  exact laidMet_laidAll _ (by kernel_rfl) (by kernel_rfl)

theorem walk (a0 : Int) (a1 : Int) (a2 : Int) (W : World) (w0 : (Lit.int .i64 a0).wf = true) (w1 : (Lit.int .u32 a1).wf = true) (w2 : (Lit.int .u32 a2).wf = true) (ha : All12 W) :
    Calls Tryd.prog 8 #[.int .i64 a0, .int .u32 a1, .int .u32 a2] W fun e w' => e = .returned (.bool true) ∧ Bw W w' := by
  exact CpuBranches_w a0 a1 a2 (bounds_i64 w0) (u4_is w1) (u4_is w2) W ha

set_option maxHeartbeats 1000000 in
set_option maxRecDepth 100000 in
theorem lifted (os : Os) (started : os.Started) (H : Type) (enc : TypeId × Value → H) :
    ReturnsInHanded {} Tryd.checked os 8 .any (fun w args => (Rows.cpuBranchesSpec.pre enc Tryd.prog Tryd.f8 [] false w args ∧ laidMetH Tryd.prog Rows.cpuBranchesRow.laid w) ∧ sizedMet enc Tryd.prog Tryd.f8 (OpenSpec.ofChange Rows.cpuBranchesSpec) false w args)
      (Rows.cpuBranchesSpec.post enc Tryd.prog Tryd.f8 false true false false) := by
  refine returnsInHanded_of_change_and (C := Tryd.checked) (X := fun w _ => laidMetH Tryd.prog Rows.cpuBranchesRow.laid w) (fun _ _ _ hh h => h.of_heap hh) own started (by kernel_rfl) Tryd.func8
    (ChangeSpec.witness_shaped (enc := enc) (C := Tryd.checked) (os := os) (X := fun w _ => laidMetH Tryd.prog Rows.cpuBranchesRow.laid w) false (World.laidAll Tryd.prog os Rows.cpuBranchesRow.laid) #[.int .i64 0, .int .u32 0, .int .u32 0] 8 (World.laidAll_os _ _ _) (World.shaped_of_ZipB (by kernel_rfl) (by kernel_rfl)) (by kernel_rfl) (by kernel_rfl) (by kernel_rfl) (met os _)) ?_
  intro W base args ds gs before hval0 hW _ _ hL _
  have hval : ∀ (j : Nat) t v, Tryd.f8.params[j]? = some t → args[j]? = some v → Value.okWide Tryd.prog W .any base t v := hval0
  have hW' := hW
  obtain ⟨p, q, hA0, hV, rfl, hfz, hnd⟩ := hW
  have hA : DataW.TrodAll enc Tryd.prog W 0 (fun _ => true) true Tryd.f8.params.toList args.toList ds p := hA0
  rw [Tryd.params8] at hA hval
  obtain ⟨v0, vs0, d0, ds0, p0, q0, hargs, rfl, rfl, k0, r0⟩ := trodAll_cons hA
  obtain ⟨v1, vs1, d1, ds1, p1, q1, rfl, rfl, rfl, k1, r1⟩ := trodAll_cons r0
  obtain ⟨v2, vs2, d2, ds2, p2, q2, rfl, rfl, rfl, k2, r2⟩ := trodAll_cons r1
  obtain ⟨rfl, rfl, rfl⟩ := trodAll_nil r2
  obtain rfl : args = #[v0, v1, v2] := by cases args; simp_all
  obtain ⟨rfl, rfl⟩ := trodVars_none hV
  obtain ⟨a0, rfl, rfl, rfl, w0⟩ := open_int Tryd.underlying3 (hval 0 3 v0 rfl rfl) k0
  obtain ⟨a1, rfl, rfl, rfl, w1⟩ := open_int Tryd.underlying25 (hval 1 25 v1 rfl rfl) k1
  obtain ⟨a2, rfl, rfl, rfl, w2⟩ := open_int Tryd.underlying25 (hval 2 25 v2 rfl rfl) k2
  have ha := all12_of hL plain listed (by simp [Rows.cpuBranchesRow]) (by simp [Rows.cpuBranchesRow]) (by simp [Rows.cpuBranchesRow]) (by simp [Rows.cpuBranchesRow]) (by simp [Rows.cpuBranchesRow])
  clear hA0 hval0
  simp only [List.append_nil] at hW'
  refine (walk a0 a1 a2 W w0 w1 w2 ha).mono fun e W' ⟨he, hg⟩ => ?_
  subst he
  exact ⟨_, rfl, post_of_bw12 (pa := ([] ++ ([] ++ ([] ++ [])))) (pv := []) hW' (fun _ _ _ => (trodAll_cons_mk (shut_bool Tryd.underlying4 _) trodAll_mk0)) (trodAll_cons_mk (shut_int Tryd.underlying3 w0) (trodAll_cons_mk (shut_int Tryd.underlying25 w1) (trodAll_cons_mk (shut_int Tryd.underlying25 w2) trodAll_mk0))) (fun _ _ => rfl) (by simp) (Below.frame hg _)⟩

theorem over : Rows.cpuBranchesRow.holds Tryd.pinned (OpenSpec.ofChange Rows.cpuBranchesSpec) :=
  OpenClaim.holds_of_wide 8 Tryd.f8 rfl rfl rfl rfl rfl rfl rfl ⟨rfl, rfl, rfl, rfl, rfl⟩ rfl rfl rfl rfl rfl (by kernel_rfl) Tryd.func8 (by kernel_rfl)
    (of_decide_eq_true (by kernel_rfl)) (by unfold Func.isWrapper; first | (rw [if_pos (by decide +kernel)]; kernel_rfl) | (rw [if_neg (by decide +kernel)]; exact ⟨rfl, rfl⟩))
    (fun os started H enc _ => lifted os started H enc)

theorem card : Rows.CpuBranchesCardSaid :=
  Claim7.holds_tied_plain_at .later [] [.data, .data, .data, .data, .data, .data, .data, .data, .data, .data, .data] true (true, "d9a04623069bb070f75a2677cc4eb0097b023e661a0be92fb832ae28f29ac59d") false
    over (fun _ h => by cases h) (by kernel_rfl) (fun _ h => by cases h) cpuBranches_row_tie rfl ⟨rfl, rfl⟩ (by kernel_rfl) rfl
    (fun f fn hf hfn => by
      obtain rfl : f = 8 := Option.some.inj ((show Tryd.prog.funcNamed "tincture/tincturelaw12.CpuBranches" = some 8 by kernel_rfl).symm.trans hf) |>.symm
      obtain rfl : fn = Tryd.f8 := (Option.some.inj (Tryd.func8.symm.trans hfn)).symm
      exact ⟨by kernel_rfl, fun j t ht => by
        rw [Tryd.params8] at ht
        have hm : t ∈ [3, 25, 25] := by simpa using Array.mem_of_getElem? ht
        have hall : ([3, 25, 25].all fun u => !Tryd.prog.wantsStandIn u) = true := by kernel_rfl
        exact (show Tryd.prog.wantsStandIn t = false by simpa using List.all_eq_true.1 hall t hm)⟩)
    (by kernel_rfl)
end Go.Proofs.YtbackacbdfgdoaaDoor.cpuBranches

namespace Go.Proofs.YtbackacbdfgdoaaDoor
theorem CpuBranches_holds : Rows.CpuBranchesCardSaid := cpuBranches.card
end Go.Proofs.YtbackacbdfgdoaaDoor
