/-
  NARROWER THAN 'FOR EVERY INPUT', by the rows' own cells (each row's printed sentence says how): RvKnown: laid · RvDecodes: laid · RvEncodes: laid · RvBack: laid · RvApart: laid · RvWhole: laid · RvKinds: laid · RvFields: laid.
  DERIVED. THE GIVEN ROWS OF THIS SEAT. 8 by the template 'for every input the law returns true; each argument reads behind the call as it read before'; 0 by the template 'total and deterministic' (their statements: YtfemillfcnhohaaDoorTotals.lean).
  GIVEN WITH THE SEED: the statements are not yours to turn. If you find one false, say at which input.
  Laid BY PROGRAM, IN A SANDBOX (cutbox-rows.mjs): the forced cells as the released guide's own fill.sh prints them over the translation 4eb128230e429245… (all of the seat's roots in one cut). By AI agents, Wed Nov 11 2026. No macro, syntax, notation, axiom, sorry.
-/
import Derived.Test.YtfemillfcnhohaaDoorChecked
import GoSem.Claim
import GoSem.ClaimJoined
import GoSem.ClaimMapViews
import Derived.JoinedTies
import Derived.KernelRfl
namespace Go.Proofs.YtfemillfcnhohaaDoor
/- THE CELL 'sum', in the pinned program and in every row, IS THE sha256 OF THE DUMP (.gsa) THAT YtfemillfcnhohaaDoorProg.lean LOADS. Nothing in Lean hashes anything: it is a label: what it is worth is what the hold of that sum in a sandbox is worth. -/
noncomputable def Tryd.pinned : Pinned := { name := "ytfemillfcnhohaadoor", sum := "4eb128230e4292453ab3c561d3362c2bf47adbe7180b17fd77dc61f7e4b8fff1", checked := Tryd.checked }
namespace Rows
def none {H : Type} : Left H := { results := [], args := [] }

/- WHAT THE LISTED PACKAGE-LEVEL VARIABLES READ AS WHEN THE CALL BEGINS. Each datum BY PROGRAM (the guide's laid-datum.mjs) off the statement by which the dump's own 'gosem.cut.vars' lays the variable. In a bare row this is a premise. The card (YtfemillfcnhohaaDoorCards.lean) ties it to the program's text. -/
def laid_tincture_rv_names {H : Type} : DataW H := .agg [.lit (.string []), .lit (.string [108, 117, 105]), .lit (.string [97, 117, 105, 112, 99]), .lit (.string [106, 97, 108]), .lit (.string [106, 97, 108, 114]), .lit (.string [98, 101, 113]), .lit (.string [98, 110, 101]), .lit (.string [98, 108, 116]), .lit (.string [98, 103, 101]), .lit (.string [98, 108, 116, 117]), .lit (.string [98, 103, 101, 117]), .lit (.string [108, 98]), .lit (.string [108, 104]), .lit (.string [108, 119]), .lit (.string [108, 98, 117]), .lit (.string [108, 104, 117]), .lit (.string [115, 98]), .lit (.string [115, 104]), .lit (.string [115, 119]), .lit (.string [97, 100, 100, 105]), .lit (.string [115, 108, 116, 105]), .lit (.string [115, 108, 116, 105, 117]), .lit (.string [120, 111, 114, 105]), .lit (.string [111, 114, 105]), .lit (.string [97, 110, 100, 105]), .lit (.string [115, 108, 108, 105]), .lit (.string [115, 114, 108, 105]), .lit (.string [115, 114, 97, 105]), .lit (.string [97, 100, 100]), .lit (.string [115, 117, 98]), .lit (.string [115, 108, 108]), .lit (.string [115, 108, 116]), .lit (.string [115, 108, 116, 117]), .lit (.string [120, 111, 114]), .lit (.string [115, 114, 108]), .lit (.string [115, 114, 97]), .lit (.string [111, 114]), .lit (.string [97, 110, 100]), .lit (.string [109, 117, 108]), .lit (.string [109, 117, 108, 104]), .lit (.string [109, 117, 108, 104, 115, 117]), .lit (.string [109, 117, 108, 104, 117]), .lit (.string [100, 105, 118]), .lit (.string [100, 105, 118, 117]), .lit (.string [114, 101, 109]), .lit (.string [114, 101, 109, 117]), .lit (.string [102, 101, 110, 99, 101]), .lit (.string [102, 101, 110, 99, 101, 46, 105]), .lit (.string [101, 99, 97, 108, 108]), .lit (.string [101, 98, 114, 101, 97, 107])]
def laid_tincture_rv_words {H : Type} : DataW H := .agg [.lit (.int .u32 0), .lit (.int .u32 55), .lit (.int .u32 23), .lit (.int .u32 111), .lit (.int .u32 103), .lit (.int .u32 99), .lit (.int .u32 4195), .lit (.int .u32 16483), .lit (.int .u32 20579), .lit (.int .u32 24675), .lit (.int .u32 28771), .lit (.int .u32 3), .lit (.int .u32 4099), .lit (.int .u32 8195), .lit (.int .u32 16387), .lit (.int .u32 20483), .lit (.int .u32 35), .lit (.int .u32 4131), .lit (.int .u32 8227), .lit (.int .u32 19), .lit (.int .u32 8211), .lit (.int .u32 12307), .lit (.int .u32 16403), .lit (.int .u32 24595), .lit (.int .u32 28691), .lit (.int .u32 4115), .lit (.int .u32 20499), .lit (.int .u32 1073762323), .lit (.int .u32 51), .lit (.int .u32 1073741875), .lit (.int .u32 4147), .lit (.int .u32 8243), .lit (.int .u32 12339), .lit (.int .u32 16435), .lit (.int .u32 20531), .lit (.int .u32 1073762355), .lit (.int .u32 24627), .lit (.int .u32 28723), .lit (.int .u32 33554483), .lit (.int .u32 33558579), .lit (.int .u32 33562675), .lit (.int .u32 33566771), .lit (.int .u32 33570867), .lit (.int .u32 33574963), .lit (.int .u32 33579059), .lit (.int .u32 33583155), .lit (.int .u32 267386895), .lit (.int .u32 4111), .lit (.int .u32 115), .lit (.int .u32 1048691)]
def laid_tincture_rv_branches {H : Type} : DataW H := .agg [.lit (.int .i64 5), .lit (.int .i64 6), .lit (.int .i64 0), .lit (.int .i64 0), .lit (.int .i64 7), .lit (.int .i64 8), .lit (.int .i64 9), .lit (.int .i64 10)]
def laid_tincture_rv_loads {H : Type} : DataW H := .agg [.lit (.int .i64 11), .lit (.int .i64 12), .lit (.int .i64 13), .lit (.int .i64 0), .lit (.int .i64 14), .lit (.int .i64 15), .lit (.int .i64 0), .lit (.int .i64 0)]
def laid_tincture_rv_stores {H : Type} : DataW H := .agg [.lit (.int .i64 16), .lit (.int .i64 17), .lit (.int .i64 18), .lit (.int .i64 0), .lit (.int .i64 0), .lit (.int .i64 0), .lit (.int .i64 0), .lit (.int .i64 0)]
def laid_tincture_rv_immediates {H : Type} : DataW H := .agg [.lit (.int .i64 19), .lit (.int .i64 0), .lit (.int .i64 20), .lit (.int .i64 21), .lit (.int .i64 22), .lit (.int .i64 0), .lit (.int .i64 23), .lit (.int .i64 24)]
def laid_tincture_rv_registers {H : Type} : DataW H := .agg [.lit (.int .i64 28), .lit (.int .i64 30), .lit (.int .i64 31), .lit (.int .i64 32), .lit (.int .i64 33), .lit (.int .i64 34), .lit (.int .i64 36), .lit (.int .i64 37)]
def laid_tincture_rv_kinds {H : Type} : DataW H := .agg [.lit (.int .i64 0), .lit (.int .i64 3), .lit (.int .i64 4), .lit (.int .i64 5), .lit (.int .i64 8), .lit (.int .i64 9), .lit (.int .i64 2), .lit (.int .i64 6), .lit (.int .i64 7)]

/-- 'tincturelaw5.RvKnown': WHATEVER THE INPUT: true; the input reads as it did. -/
def rvKnownSpec : ChangeSpec := { name := "rvKnown", fn := fun _ => fun
  | [] => { results := [.lit (.bool true)], args := [] }
  | _ => none }
def rvKnownRow : OpenClaim := { program := "ytfemillfcnhohaadoor", sum := "4eb128230e4292453ab3c561d3362c2bf47adbe7180b17fd77dc61f7e4b8fff1", func := "tincture/tincturelaw5.RvKnown", spec := "rvKnown", named := ["tincture/rv.words", "tincture/rv.branches", "tincture/rv.loads", "tincture/rv.stores", "tincture/rv.immediates", "tincture/rv.registers", "tincture/rv.names", "tincture/rv.kinds"], apart := false, laid := [("tincture/rv.names", laid_tincture_rv_names), ("tincture/rv.words", laid_tincture_rv_words), ("tincture/rv.branches", laid_tincture_rv_branches), ("tincture/rv.loads", laid_tincture_rv_loads), ("tincture/rv.stores", laid_tincture_rv_stores), ("tincture/rv.immediates", laid_tincture_rv_immediates), ("tincture/rv.registers", laid_tincture_rv_registers), ("tincture/rv.kinds", laid_tincture_rv_kinds)] }
def RvKnownSaid : Prop := rvKnownRow.holds Tryd.pinned (OpenSpec.ofChange rvKnownSpec)

/-- ITS FALSE NEIGHBOUR: 'it returns false'. Refute it at one input. -/
def rvKnownWrong : ChangeSpec := { name := "rvKnown", fn := fun _ => fun
  | [] => { results := [.lit (.bool false)], args := [] }
  | _ => none }
def RvKnownWrongFalsely : Prop := rvKnownRow.holds Tryd.pinned (OpenSpec.ofChange rvKnownWrong)

/-- 'tincturelaw5.RvDecodes': WHATEVER THE INPUT: true; the input reads as it did. -/
def rvDecodesSpec : ChangeSpec := { name := "rvDecodes", fn := fun _ => fun
  | [d] => { results := [.lit (.bool true)], args := [d] }
  | _ => none }
def rvDecodesRow : OpenClaim := { program := "ytfemillfcnhohaadoor", sum := "4eb128230e4292453ab3c561d3362c2bf47adbe7180b17fd77dc61f7e4b8fff1", func := "tincture/tincturelaw5.RvDecodes", spec := "rvDecodes", named := ["tincture/rv.words", "tincture/rv.branches", "tincture/rv.loads", "tincture/rv.stores", "tincture/rv.immediates", "tincture/rv.registers", "tincture/rv.names"], apart := false, laid := [("tincture/rv.names", laid_tincture_rv_names), ("tincture/rv.words", laid_tincture_rv_words), ("tincture/rv.branches", laid_tincture_rv_branches), ("tincture/rv.loads", laid_tincture_rv_loads), ("tincture/rv.stores", laid_tincture_rv_stores), ("tincture/rv.immediates", laid_tincture_rv_immediates), ("tincture/rv.registers", laid_tincture_rv_registers)] }
def RvDecodesSaid : Prop := rvDecodesRow.holds Tryd.pinned (OpenSpec.ofChange rvDecodesSpec)

/-- ITS FALSE NEIGHBOUR: 'it returns false'. Refute it at one input. -/
def rvDecodesWrong : ChangeSpec := { name := "rvDecodes", fn := fun _ => fun
  | [d] => { results := [.lit (.bool false)], args := [d] }
  | _ => none }
def RvDecodesWrongFalsely : Prop := rvDecodesRow.holds Tryd.pinned (OpenSpec.ofChange rvDecodesWrong)

/-- 'tincturelaw5.RvEncodes': WHATEVER THE INPUT: true; the input reads as it did. -/
def rvEncodesSpec : ChangeSpec := { name := "rvEncodes", fn := fun _ => fun
  | [d] => { results := [.lit (.bool true)], args := [d] }
  | _ => none }
def rvEncodesRow : OpenClaim := { program := "ytfemillfcnhohaadoor", sum := "4eb128230e4292453ab3c561d3362c2bf47adbe7180b17fd77dc61f7e4b8fff1", func := "tincture/tincturelaw5.RvEncodes", spec := "rvEncodes", named := ["tincture/rv.words", "tincture/rv.branches", "tincture/rv.loads", "tincture/rv.stores", "tincture/rv.immediates", "tincture/rv.registers", "tincture/rv.names", "tincture/rv.kinds"], apart := false, laid := [("tincture/rv.names", laid_tincture_rv_names), ("tincture/rv.words", laid_tincture_rv_words), ("tincture/rv.branches", laid_tincture_rv_branches), ("tincture/rv.loads", laid_tincture_rv_loads), ("tincture/rv.stores", laid_tincture_rv_stores), ("tincture/rv.immediates", laid_tincture_rv_immediates), ("tincture/rv.registers", laid_tincture_rv_registers), ("tincture/rv.kinds", laid_tincture_rv_kinds)] }
def RvEncodesSaid : Prop := rvEncodesRow.holds Tryd.pinned (OpenSpec.ofChange rvEncodesSpec)

/-- ITS FALSE NEIGHBOUR: 'it returns false'. Refute it at one input. -/
def rvEncodesWrong : ChangeSpec := { name := "rvEncodes", fn := fun _ => fun
  | [d] => { results := [.lit (.bool false)], args := [d] }
  | _ => none }
def RvEncodesWrongFalsely : Prop := rvEncodesRow.holds Tryd.pinned (OpenSpec.ofChange rvEncodesWrong)

/-- 'tincturelaw5.RvBack': WHATEVER THE INPUT: true; the input reads as it did. -/
def rvBackSpec : ChangeSpec := { name := "rvBack", fn := fun _ => fun
  | [d1, d2] => { results := [.lit (.bool true)], args := [d1, d2] }
  | _ => none }
def rvBackRow : OpenClaim := { program := "ytfemillfcnhohaadoor", sum := "4eb128230e4292453ab3c561d3362c2bf47adbe7180b17fd77dc61f7e4b8fff1", func := "tincture/tincturelaw5.RvBack", spec := "rvBack", named := ["tincture/rv.words", "tincture/rv.branches", "tincture/rv.loads", "tincture/rv.stores", "tincture/rv.immediates", "tincture/rv.registers", "tincture/rv.names"], apart := false, laid := [("tincture/rv.names", laid_tincture_rv_names), ("tincture/rv.words", laid_tincture_rv_words), ("tincture/rv.branches", laid_tincture_rv_branches), ("tincture/rv.loads", laid_tincture_rv_loads), ("tincture/rv.stores", laid_tincture_rv_stores), ("tincture/rv.immediates", laid_tincture_rv_immediates), ("tincture/rv.registers", laid_tincture_rv_registers)] }
def RvBackSaid : Prop := rvBackRow.holds Tryd.pinned (OpenSpec.ofChange rvBackSpec)

/-- ITS FALSE NEIGHBOUR: 'it returns false'. Refute it at one input. -/
def rvBackWrong : ChangeSpec := { name := "rvBack", fn := fun _ => fun
  | [d1, d2] => { results := [.lit (.bool false)], args := [d1, d2] }
  | _ => none }
def RvBackWrongFalsely : Prop := rvBackRow.holds Tryd.pinned (OpenSpec.ofChange rvBackWrong)

/-- 'tincturelaw5.RvApart': WHATEVER THE INPUT: true; the input reads as it did. -/
def rvApartSpec : ChangeSpec := { name := "rvApart", fn := fun _ => fun
  | [d1, d2] => { results := [.lit (.bool true)], args := [d1, d2] }
  | _ => none }
def rvApartRow : OpenClaim := { program := "ytfemillfcnhohaadoor", sum := "4eb128230e4292453ab3c561d3362c2bf47adbe7180b17fd77dc61f7e4b8fff1", func := "tincture/tincturelaw5.RvApart", spec := "rvApart", named := ["tincture/rv.words", "tincture/rv.branches", "tincture/rv.loads", "tincture/rv.stores", "tincture/rv.immediates", "tincture/rv.registers", "tincture/rv.names"], apart := false, laid := [("tincture/rv.names", laid_tincture_rv_names), ("tincture/rv.words", laid_tincture_rv_words), ("tincture/rv.branches", laid_tincture_rv_branches), ("tincture/rv.loads", laid_tincture_rv_loads), ("tincture/rv.stores", laid_tincture_rv_stores), ("tincture/rv.immediates", laid_tincture_rv_immediates), ("tincture/rv.registers", laid_tincture_rv_registers)] }
def RvApartSaid : Prop := rvApartRow.holds Tryd.pinned (OpenSpec.ofChange rvApartSpec)

/-- ITS FALSE NEIGHBOUR: 'it returns false'. Refute it at one input. -/
def rvApartWrong : ChangeSpec := { name := "rvApart", fn := fun _ => fun
  | [d1, d2] => { results := [.lit (.bool false)], args := [d1, d2] }
  | _ => none }
def RvApartWrongFalsely : Prop := rvApartRow.holds Tryd.pinned (OpenSpec.ofChange rvApartWrong)

/-- 'tincturelaw5.RvWhole': WHATEVER THE INPUT: true; the input reads as it did. -/
def rvWholeSpec : ChangeSpec := { name := "rvWhole", fn := fun _ => fun
  | [d1, d2] => { results := [.lit (.bool true)], args := [d1, d2] }
  | _ => none }
def rvWholeRow : OpenClaim := { program := "ytfemillfcnhohaadoor", sum := "4eb128230e4292453ab3c561d3362c2bf47adbe7180b17fd77dc61f7e4b8fff1", func := "tincture/tincturelaw5.RvWhole", spec := "rvWhole", named := ["tincture/rv.words", "tincture/rv.branches", "tincture/rv.loads", "tincture/rv.stores", "tincture/rv.immediates", "tincture/rv.registers", "tincture/rv.names"], apart := false, laid := [("tincture/rv.names", laid_tincture_rv_names), ("tincture/rv.words", laid_tincture_rv_words), ("tincture/rv.branches", laid_tincture_rv_branches), ("tincture/rv.loads", laid_tincture_rv_loads), ("tincture/rv.stores", laid_tincture_rv_stores), ("tincture/rv.immediates", laid_tincture_rv_immediates), ("tincture/rv.registers", laid_tincture_rv_registers)] }
def RvWholeSaid : Prop := rvWholeRow.holds Tryd.pinned (OpenSpec.ofChange rvWholeSpec)

/-- ITS FALSE NEIGHBOUR: 'it returns false'. Refute it at one input. -/
def rvWholeWrong : ChangeSpec := { name := "rvWhole", fn := fun _ => fun
  | [d1, d2] => { results := [.lit (.bool false)], args := [d1, d2] }
  | _ => none }
def RvWholeWrongFalsely : Prop := rvWholeRow.holds Tryd.pinned (OpenSpec.ofChange rvWholeWrong)

/-- 'tincturelaw5.RvKinds': WHATEVER THE INPUT: true; the input reads as it did. -/
def rvKindsSpec : ChangeSpec := { name := "rvKinds", fn := fun _ => fun
  | [d] => { results := [.lit (.bool true)], args := [d] }
  | _ => none }
def rvKindsRow : OpenClaim := { program := "ytfemillfcnhohaadoor", sum := "4eb128230e4292453ab3c561d3362c2bf47adbe7180b17fd77dc61f7e4b8fff1", func := "tincture/tincturelaw5.RvKinds", spec := "rvKinds", named := ["tincture/rv.words", "tincture/rv.branches", "tincture/rv.loads", "tincture/rv.stores", "tincture/rv.immediates", "tincture/rv.registers", "tincture/rv.names", "tincture/rv.kinds"], apart := false, laid := [("tincture/rv.names", laid_tincture_rv_names), ("tincture/rv.words", laid_tincture_rv_words), ("tincture/rv.branches", laid_tincture_rv_branches), ("tincture/rv.loads", laid_tincture_rv_loads), ("tincture/rv.stores", laid_tincture_rv_stores), ("tincture/rv.immediates", laid_tincture_rv_immediates), ("tincture/rv.registers", laid_tincture_rv_registers), ("tincture/rv.kinds", laid_tincture_rv_kinds)] }
def RvKindsSaid : Prop := rvKindsRow.holds Tryd.pinned (OpenSpec.ofChange rvKindsSpec)

/-- ITS FALSE NEIGHBOUR: 'it returns false'. Refute it at one input. -/
def rvKindsWrong : ChangeSpec := { name := "rvKinds", fn := fun _ => fun
  | [d] => { results := [.lit (.bool false)], args := [d] }
  | _ => none }
def RvKindsWrongFalsely : Prop := rvKindsRow.holds Tryd.pinned (OpenSpec.ofChange rvKindsWrong)

/-- 'tincturelaw5.RvFields': WHATEVER THE INPUT: true; the input reads as it did. -/
def rvFieldsSpec : ChangeSpec := { name := "rvFields", fn := fun _ => fun
  | [d] => { results := [.lit (.bool true)], args := [d] }
  | _ => none }
def rvFieldsRow : OpenClaim := { program := "ytfemillfcnhohaadoor", sum := "4eb128230e4292453ab3c561d3362c2bf47adbe7180b17fd77dc61f7e4b8fff1", func := "tincture/tincturelaw5.RvFields", spec := "rvFields", named := ["tincture/rv.words", "tincture/rv.branches", "tincture/rv.loads", "tincture/rv.stores", "tincture/rv.immediates", "tincture/rv.registers", "tincture/rv.names"], apart := false, laid := [("tincture/rv.names", laid_tincture_rv_names), ("tincture/rv.words", laid_tincture_rv_words), ("tincture/rv.branches", laid_tincture_rv_branches), ("tincture/rv.loads", laid_tincture_rv_loads), ("tincture/rv.stores", laid_tincture_rv_stores), ("tincture/rv.immediates", laid_tincture_rv_immediates), ("tincture/rv.registers", laid_tincture_rv_registers)] }
def RvFieldsSaid : Prop := rvFieldsRow.holds Tryd.pinned (OpenSpec.ofChange rvFieldsSpec)

/-- ITS FALSE NEIGHBOUR: 'it returns false'. Refute it at one input. -/
def rvFieldsWrong : ChangeSpec := { name := "rvFields", fn := fun _ => fun
  | [d] => { results := [.lit (.bool false)], args := [d] }
  | _ => none }
def RvFieldsWrongFalsely : Prop := rvFieldsRow.holds Tryd.pinned (OpenSpec.ofChange rvFieldsWrong)

/- THE SECOND FORM. 'bulk': how many values and letters a reading holds, each counted each time it is reached (what is shared counts as often as it is met; a slice's spare places count too). A statement '..UptoSaid' is the law's where the arguments, and the package variables that the reading takes, are together of bulk at most 1048576: NARROWER than '..Said'. Prove '..Said' where nothing that the law and all that it calls make is longer than what came in: it says more and counts as full. Else prove '..UptoSaid'. A law counts once. -/
mutual
def uptoBulk {H : Type} : DataW H → Nat
  | .lit (.string bytes) => bytes.length + 1
  | .lit _ => 1
  | .nil => 1
  | .ptr d => uptoBulk d + 1
  | .slice elems spare => uptoBulkAll elems + uptoBulkAll spare + 1
  | .agg parts => uptoBulkAll parts + 1
  | .iface _ d => uptoBulk d + 1
  | .map entries => uptoBulkEntries entries + 1
  | .held _ => 1
def uptoBulkAll {H : Type} : List (DataW H) → Nat
  | [] => 0
  | d :: r => uptoBulk d + uptoBulkAll r
def uptoBulkEntries {H : Type} : List (Lit × DataW H) → Nat
  | [] => 0
  | x :: r => uptoBulkEntry x + uptoBulkEntries r
def uptoBulkEntry {H : Type} : Lit × DataW H → Nat
  | (.string bytes, d) => bytes.length + uptoBulk d + 1
  | (_, d) => uptoBulk d + 1
 end
def uptoSmall : (H : Type) → List (DataW H) → Bool := fun _ ds => decide (uptoBulkAll ds ≤ 1048576)
def OpenSpec.upto (s : _root_.Go.ChangeSpec) : _root_.Go.OpenSpec := { _root_.Go.OpenSpec.ofChange s with cond := some uptoSmall }

/-- 'tincturelaw5.RvKnown', WHERE WHAT IT READS IS OF BULK AT MOST 1048576: true; the input reads as it did. -/
def rvKnownUptoRow : OpenClaim := { program := "ytfemillfcnhohaadoor", sum := "4eb128230e4292453ab3c561d3362c2bf47adbe7180b17fd77dc61f7e4b8fff1", func := "tincture/tincturelaw5.RvKnown", spec := "rvKnown", named := ["tincture/rv.words", "tincture/rv.branches", "tincture/rv.loads", "tincture/rv.stores", "tincture/rv.immediates", "tincture/rv.registers", "tincture/rv.names", "tincture/rv.kinds"], apart := false, laid := [("tincture/rv.names", laid_tincture_rv_names), ("tincture/rv.words", laid_tincture_rv_words), ("tincture/rv.branches", laid_tincture_rv_branches), ("tincture/rv.loads", laid_tincture_rv_loads), ("tincture/rv.stores", laid_tincture_rv_stores), ("tincture/rv.immediates", laid_tincture_rv_immediates), ("tincture/rv.registers", laid_tincture_rv_registers), ("tincture/rv.kinds", laid_tincture_rv_kinds)], narrowed := true }
def RvKnownUptoSaid : Prop := rvKnownUptoRow.holds Tryd.pinned (OpenSpec.upto rvKnownSpec)

/-- 'tincturelaw5.RvDecodes', WHERE WHAT IT READS IS OF BULK AT MOST 1048576: true; the input reads as it did. -/
def rvDecodesUptoRow : OpenClaim := { program := "ytfemillfcnhohaadoor", sum := "4eb128230e4292453ab3c561d3362c2bf47adbe7180b17fd77dc61f7e4b8fff1", func := "tincture/tincturelaw5.RvDecodes", spec := "rvDecodes", named := ["tincture/rv.words", "tincture/rv.branches", "tincture/rv.loads", "tincture/rv.stores", "tincture/rv.immediates", "tincture/rv.registers", "tincture/rv.names"], apart := false, laid := [("tincture/rv.names", laid_tincture_rv_names), ("tincture/rv.words", laid_tincture_rv_words), ("tincture/rv.branches", laid_tincture_rv_branches), ("tincture/rv.loads", laid_tincture_rv_loads), ("tincture/rv.stores", laid_tincture_rv_stores), ("tincture/rv.immediates", laid_tincture_rv_immediates), ("tincture/rv.registers", laid_tincture_rv_registers)], narrowed := true }
def RvDecodesUptoSaid : Prop := rvDecodesUptoRow.holds Tryd.pinned (OpenSpec.upto rvDecodesSpec)

/-- 'tincturelaw5.RvEncodes', WHERE WHAT IT READS IS OF BULK AT MOST 1048576: true; the input reads as it did. -/
def rvEncodesUptoRow : OpenClaim := { program := "ytfemillfcnhohaadoor", sum := "4eb128230e4292453ab3c561d3362c2bf47adbe7180b17fd77dc61f7e4b8fff1", func := "tincture/tincturelaw5.RvEncodes", spec := "rvEncodes", named := ["tincture/rv.words", "tincture/rv.branches", "tincture/rv.loads", "tincture/rv.stores", "tincture/rv.immediates", "tincture/rv.registers", "tincture/rv.names", "tincture/rv.kinds"], apart := false, laid := [("tincture/rv.names", laid_tincture_rv_names), ("tincture/rv.words", laid_tincture_rv_words), ("tincture/rv.branches", laid_tincture_rv_branches), ("tincture/rv.loads", laid_tincture_rv_loads), ("tincture/rv.stores", laid_tincture_rv_stores), ("tincture/rv.immediates", laid_tincture_rv_immediates), ("tincture/rv.registers", laid_tincture_rv_registers), ("tincture/rv.kinds", laid_tincture_rv_kinds)], narrowed := true }
def RvEncodesUptoSaid : Prop := rvEncodesUptoRow.holds Tryd.pinned (OpenSpec.upto rvEncodesSpec)

/-- 'tincturelaw5.RvBack', WHERE WHAT IT READS IS OF BULK AT MOST 1048576: true; the input reads as it did. -/
def rvBackUptoRow : OpenClaim := { program := "ytfemillfcnhohaadoor", sum := "4eb128230e4292453ab3c561d3362c2bf47adbe7180b17fd77dc61f7e4b8fff1", func := "tincture/tincturelaw5.RvBack", spec := "rvBack", named := ["tincture/rv.words", "tincture/rv.branches", "tincture/rv.loads", "tincture/rv.stores", "tincture/rv.immediates", "tincture/rv.registers", "tincture/rv.names"], apart := false, laid := [("tincture/rv.names", laid_tincture_rv_names), ("tincture/rv.words", laid_tincture_rv_words), ("tincture/rv.branches", laid_tincture_rv_branches), ("tincture/rv.loads", laid_tincture_rv_loads), ("tincture/rv.stores", laid_tincture_rv_stores), ("tincture/rv.immediates", laid_tincture_rv_immediates), ("tincture/rv.registers", laid_tincture_rv_registers)], narrowed := true }
def RvBackUptoSaid : Prop := rvBackUptoRow.holds Tryd.pinned (OpenSpec.upto rvBackSpec)

/-- 'tincturelaw5.RvApart', WHERE WHAT IT READS IS OF BULK AT MOST 1048576: true; the input reads as it did. -/
def rvApartUptoRow : OpenClaim := { program := "ytfemillfcnhohaadoor", sum := "4eb128230e4292453ab3c561d3362c2bf47adbe7180b17fd77dc61f7e4b8fff1", func := "tincture/tincturelaw5.RvApart", spec := "rvApart", named := ["tincture/rv.words", "tincture/rv.branches", "tincture/rv.loads", "tincture/rv.stores", "tincture/rv.immediates", "tincture/rv.registers", "tincture/rv.names"], apart := false, laid := [("tincture/rv.names", laid_tincture_rv_names), ("tincture/rv.words", laid_tincture_rv_words), ("tincture/rv.branches", laid_tincture_rv_branches), ("tincture/rv.loads", laid_tincture_rv_loads), ("tincture/rv.stores", laid_tincture_rv_stores), ("tincture/rv.immediates", laid_tincture_rv_immediates), ("tincture/rv.registers", laid_tincture_rv_registers)], narrowed := true }
def RvApartUptoSaid : Prop := rvApartUptoRow.holds Tryd.pinned (OpenSpec.upto rvApartSpec)

/-- 'tincturelaw5.RvWhole', WHERE WHAT IT READS IS OF BULK AT MOST 1048576: true; the input reads as it did. -/
def rvWholeUptoRow : OpenClaim := { program := "ytfemillfcnhohaadoor", sum := "4eb128230e4292453ab3c561d3362c2bf47adbe7180b17fd77dc61f7e4b8fff1", func := "tincture/tincturelaw5.RvWhole", spec := "rvWhole", named := ["tincture/rv.words", "tincture/rv.branches", "tincture/rv.loads", "tincture/rv.stores", "tincture/rv.immediates", "tincture/rv.registers", "tincture/rv.names"], apart := false, laid := [("tincture/rv.names", laid_tincture_rv_names), ("tincture/rv.words", laid_tincture_rv_words), ("tincture/rv.branches", laid_tincture_rv_branches), ("tincture/rv.loads", laid_tincture_rv_loads), ("tincture/rv.stores", laid_tincture_rv_stores), ("tincture/rv.immediates", laid_tincture_rv_immediates), ("tincture/rv.registers", laid_tincture_rv_registers)], narrowed := true }
def RvWholeUptoSaid : Prop := rvWholeUptoRow.holds Tryd.pinned (OpenSpec.upto rvWholeSpec)

/-- 'tincturelaw5.RvKinds', WHERE WHAT IT READS IS OF BULK AT MOST 1048576: true; the input reads as it did. -/
def rvKindsUptoRow : OpenClaim := { program := "ytfemillfcnhohaadoor", sum := "4eb128230e4292453ab3c561d3362c2bf47adbe7180b17fd77dc61f7e4b8fff1", func := "tincture/tincturelaw5.RvKinds", spec := "rvKinds", named := ["tincture/rv.words", "tincture/rv.branches", "tincture/rv.loads", "tincture/rv.stores", "tincture/rv.immediates", "tincture/rv.registers", "tincture/rv.names", "tincture/rv.kinds"], apart := false, laid := [("tincture/rv.names", laid_tincture_rv_names), ("tincture/rv.words", laid_tincture_rv_words), ("tincture/rv.branches", laid_tincture_rv_branches), ("tincture/rv.loads", laid_tincture_rv_loads), ("tincture/rv.stores", laid_tincture_rv_stores), ("tincture/rv.immediates", laid_tincture_rv_immediates), ("tincture/rv.registers", laid_tincture_rv_registers), ("tincture/rv.kinds", laid_tincture_rv_kinds)], narrowed := true }
def RvKindsUptoSaid : Prop := rvKindsUptoRow.holds Tryd.pinned (OpenSpec.upto rvKindsSpec)

/-- 'tincturelaw5.RvFields', WHERE WHAT IT READS IS OF BULK AT MOST 1048576: true; the input reads as it did. -/
def rvFieldsUptoRow : OpenClaim := { program := "ytfemillfcnhohaadoor", sum := "4eb128230e4292453ab3c561d3362c2bf47adbe7180b17fd77dc61f7e4b8fff1", func := "tincture/tincturelaw5.RvFields", spec := "rvFields", named := ["tincture/rv.words", "tincture/rv.branches", "tincture/rv.loads", "tincture/rv.stores", "tincture/rv.immediates", "tincture/rv.registers", "tincture/rv.names"], apart := false, laid := [("tincture/rv.names", laid_tincture_rv_names), ("tincture/rv.words", laid_tincture_rv_words), ("tincture/rv.branches", laid_tincture_rv_branches), ("tincture/rv.loads", laid_tincture_rv_loads), ("tincture/rv.stores", laid_tincture_rv_stores), ("tincture/rv.immediates", laid_tincture_rv_immediates), ("tincture/rv.registers", laid_tincture_rv_registers)], narrowed := true }
def RvFieldsUptoSaid : Prop := rvFieldsUptoRow.holds Tryd.pinned (OpenSpec.upto rvFieldsSpec)

end Rows
end Go.Proofs.YtfemillfcnhohaaDoor
