/-
  No cell of these rows narrows 'for every input' (looked for: loops, veiled, ifaces, maps, wideKeys, modest, calm, conditions, laid).
  DERIVED. THE GIVEN ROWS OF THIS SEAT. 8 by the template 'for every input the law returns true; each argument reads behind the call as it read before'; 0 by the template 'total and deterministic' (their statements: YtlnfgdbondmglaaTotals.lean).
  GIVEN WITH THE SEED: the statements are not yours to turn. If you find one false, say at which input.
  Laid BY PROGRAM, IN A SANDBOX (cutbox-rows.mjs): the forced cells as the released guide's own fill.sh prints them over the translation 3c4bffebd8174aed… (all of the seat's roots in one cut). By AI agents, Wed Nov 11 2026. No macro, syntax, notation, axiom, sorry.
-/
import Derived.Test.YtlnfgdbondmglaaChecked
import GoSem.Claim
import GoSem.ClaimJoined
import GoSem.ClaimMapViews
import Derived.JoinedTies
import Derived.KernelRfl
namespace Go.Proofs.Ytlnfgdbondmglaa
/- THE CELL 'sum', in the pinned program and in every row, IS THE sha256 OF THE DUMP (.gsa) THAT YtlnfgdbondmglaaProg.lean LOADS. Nothing in Lean hashes anything: it is a label: what it is worth is what the hold of that sum in a sandbox is worth. -/
noncomputable def Try.pinned : Pinned := { name := "ytlnfgdbondmglaa", sum := "3c4bffebd8174aed0aa5dc6b7e34f8cedb3eb7dfb7055f95f6ba5ca10d2a5d8a", checked := Try.checked }
namespace Rows
def none {H : Type} : Left H := { results := [], args := [] }

/-- 'tincturelaw3.MemKnown': WHATEVER THE INPUT: true; the input reads as it did. -/
def memKnownSpec : ChangeSpec := { name := "memKnown", fn := fun _ => fun
  | [] => { results := [.lit (.bool true)], args := [] }
  | _ => none }
def memKnownRow : OpenClaim := { program := "ytlnfgdbondmglaa", sum := "3c4bffebd8174aed0aa5dc6b7e34f8cedb3eb7dfb7055f95f6ba5ca10d2a5d8a", func := "tincture/tincturelaw3.MemKnown", spec := "memKnown", inPlace := ["slices.overlaps[uint32]"], apart := false }
def MemKnownSaid : Prop := memKnownRow.holds Try.pinned (OpenSpec.ofChange memKnownSpec)

/-- ITS FALSE NEIGHBOUR: 'it returns false'. Refute it at one input. -/
def memKnownWrong : ChangeSpec := { name := "memKnown", fn := fun _ => fun
  | [] => { results := [.lit (.bool false)], args := [] }
  | _ => none }
def MemKnownWrongFalsely : Prop := memKnownRow.holds Try.pinned (OpenSpec.ofChange memKnownWrong)

/-- 'tincturelaw3.MemPlays': WHATEVER THE INPUT: true; the input reads as it did. -/
def memPlaysSpec : ChangeSpec := { name := "memPlays", fn := fun _ => fun
  | [d1, d2] => { results := [.lit (.bool true)], args := [d1, d2] }
  | _ => none }
def memPlaysRow : OpenClaim := { program := "ytlnfgdbondmglaa", sum := "3c4bffebd8174aed0aa5dc6b7e34f8cedb3eb7dfb7055f95f6ba5ca10d2a5d8a", func := "tincture/tincturelaw3.MemPlays", spec := "memPlays", inPlace := ["slices.overlaps[uint32]", "maps.clone"], apart := false }
def MemPlaysSaid : Prop := memPlaysRow.holds Try.pinned (OpenSpec.ofChange memPlaysSpec)

/-- ITS FALSE NEIGHBOUR: 'it returns false'. Refute it at one input. -/
def memPlaysWrong : ChangeSpec := { name := "memPlays", fn := fun _ => fun
  | [d1, d2] => { results := [.lit (.bool false)], args := [d1, d2] }
  | _ => none }
def MemPlaysWrongFalsely : Prop := memPlaysRow.holds Try.pinned (OpenSpec.ofChange memPlaysWrong)

/-- 'tincturelaw3.MemBack': WHATEVER THE INPUT: true; the input reads as it did. -/
def memBackSpec : ChangeSpec := { name := "memBack", fn := fun _ => fun
  | [d1, d2, d3, d4, d5] => { results := [.lit (.bool true)], args := [d1, d2, d3, d4, d5] }
  | _ => none }
def memBackRow : OpenClaim := { program := "ytlnfgdbondmglaa", sum := "3c4bffebd8174aed0aa5dc6b7e34f8cedb3eb7dfb7055f95f6ba5ca10d2a5d8a", func := "tincture/tincturelaw3.MemBack", spec := "memBack", inPlace := ["slices.overlaps[uint32]"], apart := false }
def MemBackSaid : Prop := memBackRow.holds Try.pinned (OpenSpec.ofChange memBackSpec)

/-- ITS FALSE NEIGHBOUR: 'it returns false'. Refute it at one input. -/
def memBackWrong : ChangeSpec := { name := "memBack", fn := fun _ => fun
  | [d1, d2, d3, d4, d5] => { results := [.lit (.bool false)], args := [d1, d2, d3, d4, d5] }
  | _ => none }
def MemBackWrongFalsely : Prop := memBackRow.holds Try.pinned (OpenSpec.ofChange memBackWrong)

/-- 'tincturelaw3.MemBuffers': WHATEVER THE INPUT: true; the input reads as it did. -/
def memBuffersSpec : ChangeSpec := { name := "memBuffers", fn := fun _ => fun
  | [d1, d2, d3] => { results := [.lit (.bool true)], args := [d1, d2, d3] }
  | _ => none }
def memBuffersRow : OpenClaim := { program := "ytlnfgdbondmglaa", sum := "3c4bffebd8174aed0aa5dc6b7e34f8cedb3eb7dfb7055f95f6ba5ca10d2a5d8a", func := "tincture/tincturelaw3.MemBuffers", spec := "memBuffers", inPlace := ["slices.overlaps[uint32]"], apart := false }
def MemBuffersSaid : Prop := memBuffersRow.holds Try.pinned (OpenSpec.ofChange memBuffersSpec)

/-- ITS FALSE NEIGHBOUR: 'it returns false'. Refute it at one input. -/
def memBuffersWrong : ChangeSpec := { name := "memBuffers", fn := fun _ => fun
  | [d1, d2, d3] => { results := [.lit (.bool false)], args := [d1, d2, d3] }
  | _ => none }
def MemBuffersWrongFalsely : Prop := memBuffersRow.holds Try.pinned (OpenSpec.ofChange memBuffersWrong)

/-- 'tincturelaw3.MemGens': WHATEVER THE INPUT: true; the input reads as it did. -/
def memGensSpec : ChangeSpec := { name := "memGens", fn := fun _ => fun
  | [d] => { results := [.lit (.bool true)], args := [d] }
  | _ => none }
def memGensRow : OpenClaim := { program := "ytlnfgdbondmglaa", sum := "3c4bffebd8174aed0aa5dc6b7e34f8cedb3eb7dfb7055f95f6ba5ca10d2a5d8a", func := "tincture/tincturelaw3.MemGens", spec := "memGens", inPlace := ["slices.overlaps[uint32]"], apart := false }
def MemGensSaid : Prop := memGensRow.holds Try.pinned (OpenSpec.ofChange memGensSpec)

/-- ITS FALSE NEIGHBOUR: 'it returns false'. Refute it at one input. -/
def memGensWrong : ChangeSpec := { name := "memGens", fn := fun _ => fun
  | [d] => { results := [.lit (.bool false)], args := [d] }
  | _ => none }
def MemGensWrongFalsely : Prop := memGensRow.holds Try.pinned (OpenSpec.ofChange memGensWrong)

/-- 'tincturelaw3.MemApart': WHATEVER THE INPUT: true; the input reads as it did. -/
def memApartSpec : ChangeSpec := { name := "memApart", fn := fun _ => fun
  | [d1, d2, d3] => { results := [.lit (.bool true)], args := [d1, d2, d3] }
  | _ => none }
def memApartRow : OpenClaim := { program := "ytlnfgdbondmglaa", sum := "3c4bffebd8174aed0aa5dc6b7e34f8cedb3eb7dfb7055f95f6ba5ca10d2a5d8a", func := "tincture/tincturelaw3.MemApart", spec := "memApart", inPlace := ["slices.overlaps[uint32]", "maps.clone"], apart := false }
def MemApartSaid : Prop := memApartRow.holds Try.pinned (OpenSpec.ofChange memApartSpec)

/-- ITS FALSE NEIGHBOUR: 'it returns false'. Refute it at one input. -/
def memApartWrong : ChangeSpec := { name := "memApart", fn := fun _ => fun
  | [d1, d2, d3] => { results := [.lit (.bool false)], args := [d1, d2, d3] }
  | _ => none }
def MemApartWrongFalsely : Prop := memApartRow.holds Try.pinned (OpenSpec.ofChange memApartWrong)

/-- 'tincturelaw3.MemFull': WHATEVER THE INPUT: true; the input reads as it did. -/
def memFullSpec : ChangeSpec := { name := "memFull", fn := fun _ => fun
  | [d1, d2] => { results := [.lit (.bool true)], args := [d1, d2] }
  | _ => none }
def memFullRow : OpenClaim := { program := "ytlnfgdbondmglaa", sum := "3c4bffebd8174aed0aa5dc6b7e34f8cedb3eb7dfb7055f95f6ba5ca10d2a5d8a", func := "tincture/tincturelaw3.MemFull", spec := "memFull", inPlace := ["slices.overlaps[uint32]"], apart := false }
def MemFullSaid : Prop := memFullRow.holds Try.pinned (OpenSpec.ofChange memFullSpec)

/-- ITS FALSE NEIGHBOUR: 'it returns false'. Refute it at one input. -/
def memFullWrong : ChangeSpec := { name := "memFull", fn := fun _ => fun
  | [d1, d2] => { results := [.lit (.bool false)], args := [d1, d2] }
  | _ => none }
def MemFullWrongFalsely : Prop := memFullRow.holds Try.pinned (OpenSpec.ofChange memFullWrong)

/-- 'tincturelaw3.MemPerms': WHATEVER THE INPUT: true; the input reads as it did. -/
def memPermsSpec : ChangeSpec := { name := "memPerms", fn := fun _ => fun
  | [d1, d2, d3] => { results := [.lit (.bool true)], args := [d1, d2, d3] }
  | _ => none }
def memPermsRow : OpenClaim := { program := "ytlnfgdbondmglaa", sum := "3c4bffebd8174aed0aa5dc6b7e34f8cedb3eb7dfb7055f95f6ba5ca10d2a5d8a", func := "tincture/tincturelaw3.MemPerms", spec := "memPerms", inPlace := ["slices.overlaps[uint32]"], apart := false }
def MemPermsSaid : Prop := memPermsRow.holds Try.pinned (OpenSpec.ofChange memPermsSpec)

/-- ITS FALSE NEIGHBOUR: 'it returns false'. Refute it at one input. -/
def memPermsWrong : ChangeSpec := { name := "memPerms", fn := fun _ => fun
  | [d1, d2, d3] => { results := [.lit (.bool false)], args := [d1, d2, d3] }
  | _ => none }
def MemPermsWrongFalsely : Prop := memPermsRow.holds Try.pinned (OpenSpec.ofChange memPermsWrong)

/- THE SECOND FORM. 'bulk': how many values and letters a reading holds, each counted each time it is reached (what is shared counts as often as it is met; a slice's spare places count too). A statement '..UptoSaid' is the law's where the arguments, and the package variables that the reading takes, are together of bulk at most 1048576: NARROWER than '..Said'. Prove '..Said' where nothing that the law and all that it calls make is longer than what came in: it says more and counts as full. Else prove '..UptoSaid'. A law counts once. -/
mutual
def uptoBulk {H : Type} : DataW H → Nat
  | .lit (.string bytes) => bytes.length + 1
  | .lit _ => 1
  | .nil => 1
  | .ptr d => uptoBulk d + 1
  | .slice elems spare => uptoBulkAll elems + uptoBulkAll spare + 1
  | .agg parts => uptoBulkAll parts + 1
  | .iface _ d => uptoBulk d + 1
  | .map entries => uptoBulkEntries entries + 1
  | .held _ => 1
def uptoBulkAll {H : Type} : List (DataW H) → Nat
  | [] => 0
  | d :: r => uptoBulk d + uptoBulkAll r
def uptoBulkEntries {H : Type} : List (Lit × DataW H) → Nat
  | [] => 0
  | x :: r => uptoBulkEntry x + uptoBulkEntries r
def uptoBulkEntry {H : Type} : Lit × DataW H → Nat
  | (.string bytes, d) => bytes.length + uptoBulk d + 1
  | (_, d) => uptoBulk d + 1
 end
def uptoSmall : (H : Type) → List (DataW H) → Bool := fun _ ds => decide (uptoBulkAll ds ≤ 1048576)
def OpenSpec.upto (s : _root_.Go.ChangeSpec) : _root_.Go.OpenSpec := { _root_.Go.OpenSpec.ofChange s with cond := some uptoSmall }

/-- 'tincturelaw3.MemKnown', WHERE WHAT IT READS IS OF BULK AT MOST 1048576: true; the input reads as it did. -/
def memKnownUptoRow : OpenClaim := { program := "ytlnfgdbondmglaa", sum := "3c4bffebd8174aed0aa5dc6b7e34f8cedb3eb7dfb7055f95f6ba5ca10d2a5d8a", func := "tincture/tincturelaw3.MemKnown", spec := "memKnown", inPlace := ["slices.overlaps[uint32]"], apart := false, narrowed := true }
def MemKnownUptoSaid : Prop := memKnownUptoRow.holds Try.pinned (OpenSpec.upto memKnownSpec)

/-- 'tincturelaw3.MemPlays', WHERE WHAT IT READS IS OF BULK AT MOST 1048576: true; the input reads as it did. -/
def memPlaysUptoRow : OpenClaim := { program := "ytlnfgdbondmglaa", sum := "3c4bffebd8174aed0aa5dc6b7e34f8cedb3eb7dfb7055f95f6ba5ca10d2a5d8a", func := "tincture/tincturelaw3.MemPlays", spec := "memPlays", inPlace := ["slices.overlaps[uint32]", "maps.clone"], apart := false, narrowed := true }
def MemPlaysUptoSaid : Prop := memPlaysUptoRow.holds Try.pinned (OpenSpec.upto memPlaysSpec)

/-- 'tincturelaw3.MemBack', WHERE WHAT IT READS IS OF BULK AT MOST 1048576: true; the input reads as it did. -/
def memBackUptoRow : OpenClaim := { program := "ytlnfgdbondmglaa", sum := "3c4bffebd8174aed0aa5dc6b7e34f8cedb3eb7dfb7055f95f6ba5ca10d2a5d8a", func := "tincture/tincturelaw3.MemBack", spec := "memBack", inPlace := ["slices.overlaps[uint32]"], apart := false, narrowed := true }
def MemBackUptoSaid : Prop := memBackUptoRow.holds Try.pinned (OpenSpec.upto memBackSpec)

/-- 'tincturelaw3.MemBuffers', WHERE WHAT IT READS IS OF BULK AT MOST 1048576: true; the input reads as it did. -/
def memBuffersUptoRow : OpenClaim := { program := "ytlnfgdbondmglaa", sum := "3c4bffebd8174aed0aa5dc6b7e34f8cedb3eb7dfb7055f95f6ba5ca10d2a5d8a", func := "tincture/tincturelaw3.MemBuffers", spec := "memBuffers", inPlace := ["slices.overlaps[uint32]"], apart := false, narrowed := true }
def MemBuffersUptoSaid : Prop := memBuffersUptoRow.holds Try.pinned (OpenSpec.upto memBuffersSpec)

/-- 'tincturelaw3.MemGens', WHERE WHAT IT READS IS OF BULK AT MOST 1048576: true; the input reads as it did. -/
def memGensUptoRow : OpenClaim := { program := "ytlnfgdbondmglaa", sum := "3c4bffebd8174aed0aa5dc6b7e34f8cedb3eb7dfb7055f95f6ba5ca10d2a5d8a", func := "tincture/tincturelaw3.MemGens", spec := "memGens", inPlace := ["slices.overlaps[uint32]"], apart := false, narrowed := true }
def MemGensUptoSaid : Prop := memGensUptoRow.holds Try.pinned (OpenSpec.upto memGensSpec)

/-- 'tincturelaw3.MemApart', WHERE WHAT IT READS IS OF BULK AT MOST 1048576: true; the input reads as it did. -/
def memApartUptoRow : OpenClaim := { program := "ytlnfgdbondmglaa", sum := "3c4bffebd8174aed0aa5dc6b7e34f8cedb3eb7dfb7055f95f6ba5ca10d2a5d8a", func := "tincture/tincturelaw3.MemApart", spec := "memApart", inPlace := ["slices.overlaps[uint32]", "maps.clone"], apart := false, narrowed := true }
def MemApartUptoSaid : Prop := memApartUptoRow.holds Try.pinned (OpenSpec.upto memApartSpec)

/-- 'tincturelaw3.MemFull', WHERE WHAT IT READS IS OF BULK AT MOST 1048576: true; the input reads as it did. -/
def memFullUptoRow : OpenClaim := { program := "ytlnfgdbondmglaa", sum := "3c4bffebd8174aed0aa5dc6b7e34f8cedb3eb7dfb7055f95f6ba5ca10d2a5d8a", func := "tincture/tincturelaw3.MemFull", spec := "memFull", inPlace := ["slices.overlaps[uint32]"], apart := false, narrowed := true }
def MemFullUptoSaid : Prop := memFullUptoRow.holds Try.pinned (OpenSpec.upto memFullSpec)

/-- 'tincturelaw3.MemPerms', WHERE WHAT IT READS IS OF BULK AT MOST 1048576: true; the input reads as it did. -/
def memPermsUptoRow : OpenClaim := { program := "ytlnfgdbondmglaa", sum := "3c4bffebd8174aed0aa5dc6b7e34f8cedb3eb7dfb7055f95f6ba5ca10d2a5d8a", func := "tincture/tincturelaw3.MemPerms", spec := "memPerms", inPlace := ["slices.overlaps[uint32]"], apart := false, narrowed := true }
def MemPermsUptoSaid : Prop := memPermsUptoRow.holds Try.pinned (OpenSpec.upto memPermsSpec)

end Rows
end Go.Proofs.Ytlnfgdbondmglaa
