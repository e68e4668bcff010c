/-
  No cell of these rows narrows 'for every input' (looked for: loops, veiled, ifaces, maps, wideKeys, modest, calm, conditions, laid).
  DERIVED. THE GIVEN ROWS OF THIS SEAT. 4 by the template 'for every input the law returns true; each argument reads behind the call as it read before'; 0 by the template 'total and deterministic' (their statements: YthicidkjhpnleaaTotals.lean).
  GIVEN WITH THE SEED: the statements are not yours to turn. If you find one false, say at which input.
  Laid BY PROGRAM, IN A SANDBOX (cutbox-rows.mjs): the forced cells as the released guide's own fill.sh prints them over the translation 88cbfda2e1a67eca… (all of the seat's roots in one cut). By AI agents, Wed Nov 11 2026. No macro, syntax, notation, axiom, sorry.
-/
import Derived.Test.YthicidkjhpnleaaChecked
import GoSem.Claim
import GoSem.ClaimJoined
import GoSem.ClaimMapViews
import Derived.JoinedTies
import Derived.KernelRfl
namespace Go.Proofs.Ythicidkjhpnleaa
/- THE CELL 'sum', in the pinned program and in every row, IS THE sha256 OF THE DUMP (.gsa) THAT YthicidkjhpnleaaProg.lean LOADS. Nothing in Lean hashes anything: it is a label: what it is worth is what the hold of that sum in a sandbox is worth. -/
noncomputable def Try.pinned : Pinned := { name := "ythicidkjhpnleaa", sum := "88cbfda2e1a67eca11934ee67a091e8d18fc3703df7900d929128b31db8642e2", checked := Try.checked }
namespace Rows
def none {H : Type} : Left H := { results := [], args := [] }

/-- 'tincturelaw10.StackKnown': WHATEVER THE INPUT: true; the input reads as it did. -/
def stackKnownSpec : ChangeSpec := { name := "stackKnown", fn := fun _ => fun
  | [] => { results := [.lit (.bool true)], args := [] }
  | _ => none }
def stackKnownRow : OpenClaim := { program := "ythicidkjhpnleaa", sum := "88cbfda2e1a67eca11934ee67a091e8d18fc3703df7900d929128b31db8642e2", func := "tincture/tincturelaw10.StackKnown", spec := "stackKnown", inPlace := ["internal/bytealg.IndexByteString", "slices.overlaps[uint32]"], apart := false }
def StackKnownSaid : Prop := stackKnownRow.holds Try.pinned (OpenSpec.ofChange stackKnownSpec)

/-- ITS FALSE NEIGHBOUR: 'it returns false'. Refute it at one input. -/
def stackKnownWrong : ChangeSpec := { name := "stackKnown", fn := fun _ => fun
  | [] => { results := [.lit (.bool false)], args := [] }
  | _ => none }
def StackKnownWrongFalsely : Prop := stackKnownRow.holds Try.pinned (OpenSpec.ofChange stackKnownWrong)

/-- 'tincturelaw10.StackBuilds': WHATEVER THE INPUT: true; the input reads as it did. -/
def stackBuildsSpec : ChangeSpec := { name := "stackBuilds", fn := fun _ => fun
  | [d] => { results := [.lit (.bool true)], args := [d] }
  | _ => none }
def stackBuildsRow : OpenClaim := { program := "ythicidkjhpnleaa", sum := "88cbfda2e1a67eca11934ee67a091e8d18fc3703df7900d929128b31db8642e2", func := "tincture/tincturelaw10.StackBuilds", spec := "stackBuilds", inPlace := ["internal/bytealg.IndexByteString", "slices.overlaps[uint32]"], apart := false }
def StackBuildsSaid : Prop := stackBuildsRow.holds Try.pinned (OpenSpec.ofChange stackBuildsSpec)

/-- ITS FALSE NEIGHBOUR: 'it returns false'. Refute it at one input. -/
def stackBuildsWrong : ChangeSpec := { name := "stackBuilds", fn := fun _ => fun
  | [d] => { results := [.lit (.bool false)], args := [d] }
  | _ => none }
def StackBuildsWrongFalsely : Prop := stackBuildsRow.holds Try.pinned (OpenSpec.ofChange stackBuildsWrong)

/-- 'tincturelaw10.StackFinds': WHATEVER THE INPUT: true; the input reads as it did. -/
def stackFindsSpec : ChangeSpec := { name := "stackFinds", fn := fun _ => fun
  | [d] => { results := [.lit (.bool true)], args := [d] }
  | _ => none }
def stackFindsRow : OpenClaim := { program := "ythicidkjhpnleaa", sum := "88cbfda2e1a67eca11934ee67a091e8d18fc3703df7900d929128b31db8642e2", func := "tincture/tincturelaw10.StackFinds", spec := "stackFinds", inPlace := ["internal/bytealg.IndexByteString", "slices.overlaps[uint32]"], apart := false }
def StackFindsSaid : Prop := stackFindsRow.holds Try.pinned (OpenSpec.ofChange stackFindsSpec)

/-- ITS FALSE NEIGHBOUR: 'it returns false'. Refute it at one input. -/
def stackFindsWrong : ChangeSpec := { name := "stackFinds", fn := fun _ => fun
  | [d] => { results := [.lit (.bool false)], args := [d] }
  | _ => none }
def StackFindsWrongFalsely : Prop := stackFindsRow.holds Try.pinned (OpenSpec.ofChange stackFindsWrong)

/-- 'tincturelaw10.StackPlaces': WHATEVER THE INPUT: true; the input reads as it did. -/
def stackPlacesSpec : ChangeSpec := { name := "stackPlaces", fn := fun _ => fun
  | [d] => { results := [.lit (.bool true)], args := [d] }
  | _ => none }
def stackPlacesRow : OpenClaim := { program := "ythicidkjhpnleaa", sum := "88cbfda2e1a67eca11934ee67a091e8d18fc3703df7900d929128b31db8642e2", func := "tincture/tincturelaw10.StackPlaces", spec := "stackPlaces", inPlace := ["internal/bytealg.IndexByteString"], apart := false }
def StackPlacesSaid : Prop := stackPlacesRow.holds Try.pinned (OpenSpec.ofChange stackPlacesSpec)

/-- ITS FALSE NEIGHBOUR: 'it returns false'. Refute it at one input. -/
def stackPlacesWrong : ChangeSpec := { name := "stackPlaces", fn := fun _ => fun
  | [d] => { results := [.lit (.bool false)], args := [d] }
  | _ => none }
def StackPlacesWrongFalsely : Prop := stackPlacesRow.holds Try.pinned (OpenSpec.ofChange stackPlacesWrong)

/- THE SECOND FORM. 'bulk': how many values and letters a reading holds, each counted each time it is reached (what is shared counts as often as it is met; a slice's spare places count too). A statement '..UptoSaid' is the law's where the arguments, and the package variables that the reading takes, are together of bulk at most 1048576: NARROWER than '..Said'. Prove '..Said' where nothing that the law and all that it calls make is longer than what came in: it says more and counts as full. Else prove '..UptoSaid'. A law counts once. -/
mutual
def uptoBulk {H : Type} : DataW H → Nat
  | .lit (.string bytes) => bytes.length + 1
  | .lit _ => 1
  | .nil => 1
  | .ptr d => uptoBulk d + 1
  | .slice elems spare => uptoBulkAll elems + uptoBulkAll spare + 1
  | .agg parts => uptoBulkAll parts + 1
  | .iface _ d => uptoBulk d + 1
  | .map entries => uptoBulkEntries entries + 1
  | .held _ => 1
def uptoBulkAll {H : Type} : List (DataW H) → Nat
  | [] => 0
  | d :: r => uptoBulk d + uptoBulkAll r
def uptoBulkEntries {H : Type} : List (Lit × DataW H) → Nat
  | [] => 0
  | x :: r => uptoBulkEntry x + uptoBulkEntries r
def uptoBulkEntry {H : Type} : Lit × DataW H → Nat
  | (.string bytes, d) => bytes.length + uptoBulk d + 1
  | (_, d) => uptoBulk d + 1
 end
def uptoSmall : (H : Type) → List (DataW H) → Bool := fun _ ds => decide (uptoBulkAll ds ≤ 1048576)
def OpenSpec.upto (s : _root_.Go.ChangeSpec) : _root_.Go.OpenSpec := { _root_.Go.OpenSpec.ofChange s with cond := some uptoSmall }

/-- 'tincturelaw10.StackKnown', WHERE WHAT IT READS IS OF BULK AT MOST 1048576: true; the input reads as it did. -/
def stackKnownUptoRow : OpenClaim := { program := "ythicidkjhpnleaa", sum := "88cbfda2e1a67eca11934ee67a091e8d18fc3703df7900d929128b31db8642e2", func := "tincture/tincturelaw10.StackKnown", spec := "stackKnown", inPlace := ["internal/bytealg.IndexByteString", "slices.overlaps[uint32]"], apart := false, narrowed := true }
def StackKnownUptoSaid : Prop := stackKnownUptoRow.holds Try.pinned (OpenSpec.upto stackKnownSpec)

/-- 'tincturelaw10.StackBuilds', WHERE WHAT IT READS IS OF BULK AT MOST 1048576: true; the input reads as it did. -/
def stackBuildsUptoRow : OpenClaim := { program := "ythicidkjhpnleaa", sum := "88cbfda2e1a67eca11934ee67a091e8d18fc3703df7900d929128b31db8642e2", func := "tincture/tincturelaw10.StackBuilds", spec := "stackBuilds", inPlace := ["internal/bytealg.IndexByteString", "slices.overlaps[uint32]"], apart := false, narrowed := true }
def StackBuildsUptoSaid : Prop := stackBuildsUptoRow.holds Try.pinned (OpenSpec.upto stackBuildsSpec)

/-- 'tincturelaw10.StackFinds', WHERE WHAT IT READS IS OF BULK AT MOST 1048576: true; the input reads as it did. -/
def stackFindsUptoRow : OpenClaim := { program := "ythicidkjhpnleaa", sum := "88cbfda2e1a67eca11934ee67a091e8d18fc3703df7900d929128b31db8642e2", func := "tincture/tincturelaw10.StackFinds", spec := "stackFinds", inPlace := ["internal/bytealg.IndexByteString", "slices.overlaps[uint32]"], apart := false, narrowed := true }
def StackFindsUptoSaid : Prop := stackFindsUptoRow.holds Try.pinned (OpenSpec.upto stackFindsSpec)

/-- 'tincturelaw10.StackPlaces', WHERE WHAT IT READS IS OF BULK AT MOST 1048576: true; the input reads as it did. -/
def stackPlacesUptoRow : OpenClaim := { program := "ythicidkjhpnleaa", sum := "88cbfda2e1a67eca11934ee67a091e8d18fc3703df7900d929128b31db8642e2", func := "tincture/tincturelaw10.StackPlaces", spec := "stackPlaces", inPlace := ["internal/bytealg.IndexByteString"], apart := false, narrowed := true }
def StackPlacesUptoSaid : Prop := stackPlacesUptoRow.holds Try.pinned (OpenSpec.upto stackPlacesSpec)

end Rows
end Go.Proofs.Ythicidkjhpnleaa
