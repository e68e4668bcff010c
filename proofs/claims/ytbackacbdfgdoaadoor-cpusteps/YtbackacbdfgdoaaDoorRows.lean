/-
  NARROWER THAN 'FOR EVERY INPUT', by the rows' own cells (each row's printed sentence says how): CpuKnown: laid · CpuSteps: laid · CpuStays: laid · CpuZero: laid · CpuSums: laid · CpuBranches: laid · CpuMoves: laid.
  DERIVED. THE GIVEN ROWS OF THIS SEAT. 7 by the template 'for every input the law returns true; each argument reads behind the call as it read before'; 0 by the template 'total and deterministic' (their statements: YtbackacbdfgdoaaDoorTotals.lean).
  GIVEN WITH THE SEED: the statements are not yours to turn. If you find one false, say at which input.
  Laid BY PROGRAM, IN A SANDBOX (cutbox-rows.mjs): the forced cells as the released guide's own fill.sh prints them over the translation d4d155aa6381f3b4… (all of the seat's roots in one cut). By AI agents, Wed Nov 11 2026. No macro, syntax, notation, axiom, sorry.
-/
import Derived.Test.YtbackacbdfgdoaaDoorChecked
import GoSem.Claim
import GoSem.ClaimJoined
import GoSem.ClaimMapViews
import Derived.JoinedTies
import Derived.KernelRfl
namespace Go.Proofs.YtbackacbdfgdoaaDoor
/- THE CELL 'sum', in the pinned program and in every row, IS THE sha256 OF THE DUMP (.gsa) THAT YtbackacbdfgdoaaDoorProg.lean LOADS. Nothing in Lean hashes anything: it is a label: what it is worth is what the hold of that sum in a sandbox is worth. -/
noncomputable def Tryd.pinned : Pinned := { name := "ytbackacbdfgdoaadoor", sum := "d4d155aa6381f3b4b5d2f65562e2c2c34047b11077ec39268f976c426396a2b2", checked := Tryd.checked }
namespace Rows
def none {H : Type} : Left H := { results := [], args := [] }

/- WHAT THE LISTED PACKAGE-LEVEL VARIABLES READ AS WHEN THE CALL BEGINS. Each datum BY PROGRAM (the guide's laid-datum.mjs) off the statement by which the dump's own 'gosem.cut.vars' lays the variable. In a bare row this is a premise. The card (YtbackacbdfgdoaaDoorCards.lean) ties it to the program's text. -/
def laid_tincture_rv_words {H : Type} : DataW H := .agg [.lit (.int .u32 0), .lit (.int .u32 55), .lit (.int .u32 23), .lit (.int .u32 111), .lit (.int .u32 103), .lit (.int .u32 99), .lit (.int .u32 4195), .lit (.int .u32 16483), .lit (.int .u32 20579), .lit (.int .u32 24675), .lit (.int .u32 28771), .lit (.int .u32 3), .lit (.int .u32 4099), .lit (.int .u32 8195), .lit (.int .u32 16387), .lit (.int .u32 20483), .lit (.int .u32 35), .lit (.int .u32 4131), .lit (.int .u32 8227), .lit (.int .u32 19), .lit (.int .u32 8211), .lit (.int .u32 12307), .lit (.int .u32 16403), .lit (.int .u32 24595), .lit (.int .u32 28691), .lit (.int .u32 4115), .lit (.int .u32 20499), .lit (.int .u32 1073762323), .lit (.int .u32 51), .lit (.int .u32 1073741875), .lit (.int .u32 4147), .lit (.int .u32 8243), .lit (.int .u32 12339), .lit (.int .u32 16435), .lit (.int .u32 20531), .lit (.int .u32 1073762355), .lit (.int .u32 24627), .lit (.int .u32 28723), .lit (.int .u32 33554483), .lit (.int .u32 33558579), .lit (.int .u32 33562675), .lit (.int .u32 33566771), .lit (.int .u32 33570867), .lit (.int .u32 33574963), .lit (.int .u32 33579059), .lit (.int .u32 33583155), .lit (.int .u32 267386895), .lit (.int .u32 4111), .lit (.int .u32 115), .lit (.int .u32 1048691)]
def laid_tincture_rv_branches {H : Type} : DataW H := .agg [.lit (.int .i64 5), .lit (.int .i64 6), .lit (.int .i64 0), .lit (.int .i64 0), .lit (.int .i64 7), .lit (.int .i64 8), .lit (.int .i64 9), .lit (.int .i64 10)]
def laid_tincture_rv_loads {H : Type} : DataW H := .agg [.lit (.int .i64 11), .lit (.int .i64 12), .lit (.int .i64 13), .lit (.int .i64 0), .lit (.int .i64 14), .lit (.int .i64 15), .lit (.int .i64 0), .lit (.int .i64 0)]
def laid_tincture_rv_stores {H : Type} : DataW H := .agg [.lit (.int .i64 16), .lit (.int .i64 17), .lit (.int .i64 18), .lit (.int .i64 0), .lit (.int .i64 0), .lit (.int .i64 0), .lit (.int .i64 0), .lit (.int .i64 0)]
def laid_tincture_rv_immediates {H : Type} : DataW H := .agg [.lit (.int .i64 19), .lit (.int .i64 0), .lit (.int .i64 20), .lit (.int .i64 21), .lit (.int .i64 22), .lit (.int .i64 0), .lit (.int .i64 23), .lit (.int .i64 24)]
def laid_tincture_rv_registers {H : Type} : DataW H := .agg [.lit (.int .i64 28), .lit (.int .i64 30), .lit (.int .i64 31), .lit (.int .i64 32), .lit (.int .i64 33), .lit (.int .i64 34), .lit (.int .i64 36), .lit (.int .i64 37)]
def laid_tincture_rv_kinds {H : Type} : DataW H := .agg [.lit (.int .i64 0), .lit (.int .i64 3), .lit (.int .i64 4), .lit (.int .i64 5), .lit (.int .i64 8), .lit (.int .i64 9), .lit (.int .i64 2), .lit (.int .i64 6), .lit (.int .i64 7)]
def laid_tincture_cpu_tests {H : Type} : DataW H := .agg [.lit (.int .i64 0), .lit (.int .i64 1), .lit (.int .i64 4), .lit (.int .i64 5), .lit (.int .i64 6), .lit (.int .i64 7)]
def laid_tincture_cpu_loadSizes {H : Type} : DataW H := .agg [.lit (.int .i64 1), .lit (.int .i64 2), .lit (.int .i64 4), .lit (.int .i64 1), .lit (.int .i64 2)]
def laid_tincture_cpu_loadBits {H : Type} : DataW H := .agg [.lit (.int .i64 8), .lit (.int .i64 16), .lit (.int .i64 32), .lit (.int .i64 32), .lit (.int .i64 32)]
def laid_tincture_cpu_storeSizes {H : Type} : DataW H := .agg [.lit (.int .i64 1), .lit (.int .i64 2), .lit (.int .i64 4)]

/-- 'tincturelaw12.CpuKnown': WHATEVER THE INPUT: true; the input reads as it did. -/
def cpuKnownSpec : ChangeSpec := { name := "cpuKnown", fn := fun _ => fun
  | [] => { results := [.lit (.bool true)], args := [] }
  | _ => none }
def cpuKnownRow : OpenClaim := { program := "ytbackacbdfgdoaadoor", sum := "d4d155aa6381f3b4b5d2f65562e2c2c34047b11077ec39268f976c426396a2b2", func := "tincture/tincturelaw12.CpuKnown", spec := "cpuKnown", inPlace := ["slices.overlaps[uint32]"], named := ["tincture/rv.words", "tincture/rv.branches", "tincture/rv.loads", "tincture/rv.stores", "tincture/rv.immediates", "tincture/rv.registers", "tincture/cpu.tests", "tincture/cpu.loadSizes", "tincture/cpu.loadBits", "tincture/cpu.storeSizes", "tincture/rv.kinds"], apart := false, laid := [("tincture/rv.words", laid_tincture_rv_words), ("tincture/rv.branches", laid_tincture_rv_branches), ("tincture/rv.loads", laid_tincture_rv_loads), ("tincture/rv.stores", laid_tincture_rv_stores), ("tincture/rv.immediates", laid_tincture_rv_immediates), ("tincture/rv.registers", laid_tincture_rv_registers), ("tincture/rv.kinds", laid_tincture_rv_kinds), ("tincture/cpu.tests", laid_tincture_cpu_tests), ("tincture/cpu.loadSizes", laid_tincture_cpu_loadSizes), ("tincture/cpu.loadBits", laid_tincture_cpu_loadBits), ("tincture/cpu.storeSizes", laid_tincture_cpu_storeSizes)] }
def CpuKnownSaid : Prop := cpuKnownRow.holds Tryd.pinned (OpenSpec.ofChange cpuKnownSpec)

/-- ITS FALSE NEIGHBOUR: 'it returns false'. Refute it at one input. -/
def cpuKnownWrong : ChangeSpec := { name := "cpuKnown", fn := fun _ => fun
  | [] => { results := [.lit (.bool false)], args := [] }
  | _ => none }
def CpuKnownWrongFalsely : Prop := cpuKnownRow.holds Tryd.pinned (OpenSpec.ofChange cpuKnownWrong)

/-- 'tincturelaw12.CpuSteps': WHATEVER THE INPUT: true; the input reads as it did. -/
def cpuStepsSpec : ChangeSpec := { name := "cpuSteps", fn := fun _ => fun
  | [d1, d2, d3, d4] => { results := [.lit (.bool true)], args := [d1, d2, d3, d4] }
  | _ => none }
def cpuStepsRow : OpenClaim := { program := "ytbackacbdfgdoaadoor", sum := "d4d155aa6381f3b4b5d2f65562e2c2c34047b11077ec39268f976c426396a2b2", func := "tincture/tincturelaw12.CpuSteps", spec := "cpuSteps", inPlace := ["slices.overlaps[uint32]"], named := ["tincture/rv.words", "tincture/rv.branches", "tincture/rv.loads", "tincture/rv.stores", "tincture/rv.immediates", "tincture/rv.registers", "tincture/cpu.tests", "tincture/cpu.loadSizes", "tincture/cpu.loadBits", "tincture/cpu.storeSizes", "tincture/rv.kinds"], apart := false, laid := [("tincture/rv.words", laid_tincture_rv_words), ("tincture/rv.branches", laid_tincture_rv_branches), ("tincture/rv.loads", laid_tincture_rv_loads), ("tincture/rv.stores", laid_tincture_rv_stores), ("tincture/rv.immediates", laid_tincture_rv_immediates), ("tincture/rv.registers", laid_tincture_rv_registers), ("tincture/rv.kinds", laid_tincture_rv_kinds), ("tincture/cpu.tests", laid_tincture_cpu_tests), ("tincture/cpu.loadSizes", laid_tincture_cpu_loadSizes), ("tincture/cpu.loadBits", laid_tincture_cpu_loadBits), ("tincture/cpu.storeSizes", laid_tincture_cpu_storeSizes)] }
def CpuStepsSaid : Prop := cpuStepsRow.holds Tryd.pinned (OpenSpec.ofChange cpuStepsSpec)

/-- ITS FALSE NEIGHBOUR: 'it returns false'. Refute it at one input. -/
def cpuStepsWrong : ChangeSpec := { name := "cpuSteps", fn := fun _ => fun
  | [d1, d2, d3, d4] => { results := [.lit (.bool false)], args := [d1, d2, d3, d4] }
  | _ => none }
def CpuStepsWrongFalsely : Prop := cpuStepsRow.holds Tryd.pinned (OpenSpec.ofChange cpuStepsWrong)

/-- 'tincturelaw12.CpuStays': WHATEVER THE INPUT: true; the input reads as it did. -/
def cpuStaysSpec : ChangeSpec := { name := "cpuStays", fn := fun _ => fun
  | [d1, d2, d3] => { results := [.lit (.bool true)], args := [d1, d2, d3] }
  | _ => none }
def cpuStaysRow : OpenClaim := { program := "ytbackacbdfgdoaadoor", sum := "d4d155aa6381f3b4b5d2f65562e2c2c34047b11077ec39268f976c426396a2b2", func := "tincture/tincturelaw12.CpuStays", spec := "cpuStays", inPlace := ["slices.overlaps[uint32]"], named := ["tincture/rv.words", "tincture/rv.branches", "tincture/rv.loads", "tincture/rv.stores", "tincture/rv.immediates", "tincture/rv.registers", "tincture/cpu.tests", "tincture/cpu.loadSizes", "tincture/cpu.loadBits", "tincture/cpu.storeSizes", "tincture/rv.kinds"], apart := false, laid := [("tincture/rv.words", laid_tincture_rv_words), ("tincture/rv.branches", laid_tincture_rv_branches), ("tincture/rv.loads", laid_tincture_rv_loads), ("tincture/rv.stores", laid_tincture_rv_stores), ("tincture/rv.immediates", laid_tincture_rv_immediates), ("tincture/rv.registers", laid_tincture_rv_registers), ("tincture/rv.kinds", laid_tincture_rv_kinds), ("tincture/cpu.tests", laid_tincture_cpu_tests), ("tincture/cpu.loadSizes", laid_tincture_cpu_loadSizes), ("tincture/cpu.loadBits", laid_tincture_cpu_loadBits), ("tincture/cpu.storeSizes", laid_tincture_cpu_storeSizes)] }
def CpuStaysSaid : Prop := cpuStaysRow.holds Tryd.pinned (OpenSpec.ofChange cpuStaysSpec)

/-- ITS FALSE NEIGHBOUR: 'it returns false'. Refute it at one input. -/
def cpuStaysWrong : ChangeSpec := { name := "cpuStays", fn := fun _ => fun
  | [d1, d2, d3] => { results := [.lit (.bool false)], args := [d1, d2, d3] }
  | _ => none }
def CpuStaysWrongFalsely : Prop := cpuStaysRow.holds Tryd.pinned (OpenSpec.ofChange cpuStaysWrong)

/-- 'tincturelaw12.CpuZero': WHATEVER THE INPUT: true; the input reads as it did. -/
def cpuZeroSpec : ChangeSpec := { name := "cpuZero", fn := fun _ => fun
  | [d1, d2, d3, d4] => { results := [.lit (.bool true)], args := [d1, d2, d3, d4] }
  | _ => none }
def cpuZeroRow : OpenClaim := { program := "ytbackacbdfgdoaadoor", sum := "d4d155aa6381f3b4b5d2f65562e2c2c34047b11077ec39268f976c426396a2b2", func := "tincture/tincturelaw12.CpuZero", spec := "cpuZero", inPlace := ["slices.overlaps[uint32]"], named := ["tincture/rv.words", "tincture/rv.branches", "tincture/rv.loads", "tincture/rv.stores", "tincture/rv.immediates", "tincture/rv.registers", "tincture/cpu.tests", "tincture/cpu.loadSizes", "tincture/cpu.loadBits", "tincture/cpu.storeSizes", "tincture/rv.kinds"], apart := false, laid := [("tincture/rv.words", laid_tincture_rv_words), ("tincture/rv.branches", laid_tincture_rv_branches), ("tincture/rv.loads", laid_tincture_rv_loads), ("tincture/rv.stores", laid_tincture_rv_stores), ("tincture/rv.immediates", laid_tincture_rv_immediates), ("tincture/rv.registers", laid_tincture_rv_registers), ("tincture/rv.kinds", laid_tincture_rv_kinds), ("tincture/cpu.tests", laid_tincture_cpu_tests), ("tincture/cpu.loadSizes", laid_tincture_cpu_loadSizes), ("tincture/cpu.loadBits", laid_tincture_cpu_loadBits), ("tincture/cpu.storeSizes", laid_tincture_cpu_storeSizes)] }
def CpuZeroSaid : Prop := cpuZeroRow.holds Tryd.pinned (OpenSpec.ofChange cpuZeroSpec)

/-- ITS FALSE NEIGHBOUR: 'it returns false'. Refute it at one input. -/
def cpuZeroWrong : ChangeSpec := { name := "cpuZero", fn := fun _ => fun
  | [d1, d2, d3, d4] => { results := [.lit (.bool false)], args := [d1, d2, d3, d4] }
  | _ => none }
def CpuZeroWrongFalsely : Prop := cpuZeroRow.holds Tryd.pinned (OpenSpec.ofChange cpuZeroWrong)

/-- 'tincturelaw12.CpuSums': WHATEVER THE INPUT: true; the input reads as it did. -/
def cpuSumsSpec : ChangeSpec := { name := "cpuSums", fn := fun _ => fun
  | [d1, d2, d3, d4, d5] => { results := [.lit (.bool true)], args := [d1, d2, d3, d4, d5] }
  | _ => none }
def cpuSumsRow : OpenClaim := { program := "ytbackacbdfgdoaadoor", sum := "d4d155aa6381f3b4b5d2f65562e2c2c34047b11077ec39268f976c426396a2b2", func := "tincture/tincturelaw12.CpuSums", spec := "cpuSums", inPlace := ["slices.overlaps[uint32]"], named := ["tincture/rv.words", "tincture/rv.branches", "tincture/rv.loads", "tincture/rv.stores", "tincture/rv.immediates", "tincture/rv.registers", "tincture/cpu.tests", "tincture/cpu.loadSizes", "tincture/cpu.loadBits", "tincture/cpu.storeSizes", "tincture/rv.kinds"], apart := false, laid := [("tincture/rv.words", laid_tincture_rv_words), ("tincture/rv.branches", laid_tincture_rv_branches), ("tincture/rv.loads", laid_tincture_rv_loads), ("tincture/rv.stores", laid_tincture_rv_stores), ("tincture/rv.immediates", laid_tincture_rv_immediates), ("tincture/rv.registers", laid_tincture_rv_registers), ("tincture/rv.kinds", laid_tincture_rv_kinds), ("tincture/cpu.tests", laid_tincture_cpu_tests), ("tincture/cpu.loadSizes", laid_tincture_cpu_loadSizes), ("tincture/cpu.loadBits", laid_tincture_cpu_loadBits), ("tincture/cpu.storeSizes", laid_tincture_cpu_storeSizes)] }
def CpuSumsSaid : Prop := cpuSumsRow.holds Tryd.pinned (OpenSpec.ofChange cpuSumsSpec)

/-- ITS FALSE NEIGHBOUR: 'it returns false'. Refute it at one input. -/
def cpuSumsWrong : ChangeSpec := { name := "cpuSums", fn := fun _ => fun
  | [d1, d2, d3, d4, d5] => { results := [.lit (.bool false)], args := [d1, d2, d3, d4, d5] }
  | _ => none }
def CpuSumsWrongFalsely : Prop := cpuSumsRow.holds Tryd.pinned (OpenSpec.ofChange cpuSumsWrong)

/-- 'tincturelaw12.CpuBranches': WHATEVER THE INPUT: true; the input reads as it did. -/
def cpuBranchesSpec : ChangeSpec := { name := "cpuBranches", fn := fun _ => fun
  | [d1, d2, d3] => { results := [.lit (.bool true)], args := [d1, d2, d3] }
  | _ => none }
def cpuBranchesRow : OpenClaim := { program := "ytbackacbdfgdoaadoor", sum := "d4d155aa6381f3b4b5d2f65562e2c2c34047b11077ec39268f976c426396a2b2", func := "tincture/tincturelaw12.CpuBranches", spec := "cpuBranches", inPlace := ["slices.overlaps[uint32]"], named := ["tincture/rv.words", "tincture/rv.branches", "tincture/rv.loads", "tincture/rv.stores", "tincture/rv.immediates", "tincture/rv.registers", "tincture/cpu.tests", "tincture/cpu.loadSizes", "tincture/cpu.loadBits", "tincture/cpu.storeSizes", "tincture/rv.kinds"], apart := false, laid := [("tincture/rv.words", laid_tincture_rv_words), ("tincture/rv.branches", laid_tincture_rv_branches), ("tincture/rv.loads", laid_tincture_rv_loads), ("tincture/rv.stores", laid_tincture_rv_stores), ("tincture/rv.immediates", laid_tincture_rv_immediates), ("tincture/rv.registers", laid_tincture_rv_registers), ("tincture/rv.kinds", laid_tincture_rv_kinds), ("tincture/cpu.tests", laid_tincture_cpu_tests), ("tincture/cpu.loadSizes", laid_tincture_cpu_loadSizes), ("tincture/cpu.loadBits", laid_tincture_cpu_loadBits), ("tincture/cpu.storeSizes", laid_tincture_cpu_storeSizes)] }
def CpuBranchesSaid : Prop := cpuBranchesRow.holds Tryd.pinned (OpenSpec.ofChange cpuBranchesSpec)

/-- ITS FALSE NEIGHBOUR: 'it returns false'. Refute it at one input. -/
def cpuBranchesWrong : ChangeSpec := { name := "cpuBranches", fn := fun _ => fun
  | [d1, d2, d3] => { results := [.lit (.bool false)], args := [d1, d2, d3] }
  | _ => none }
def CpuBranchesWrongFalsely : Prop := cpuBranchesRow.holds Tryd.pinned (OpenSpec.ofChange cpuBranchesWrong)

/-- 'tincturelaw12.CpuMoves': WHATEVER THE INPUT: true; the input reads as it did. -/
def cpuMovesSpec : ChangeSpec := { name := "cpuMoves", fn := fun _ => fun
  | [d1, d2] => { results := [.lit (.bool true)], args := [d1, d2] }
  | _ => none }
def cpuMovesRow : OpenClaim := { program := "ytbackacbdfgdoaadoor", sum := "d4d155aa6381f3b4b5d2f65562e2c2c34047b11077ec39268f976c426396a2b2", func := "tincture/tincturelaw12.CpuMoves", spec := "cpuMoves", inPlace := ["slices.overlaps[uint32]"], named := ["tincture/rv.words", "tincture/rv.branches", "tincture/rv.loads", "tincture/rv.stores", "tincture/rv.immediates", "tincture/rv.registers", "tincture/cpu.tests", "tincture/cpu.loadSizes", "tincture/cpu.loadBits", "tincture/cpu.storeSizes", "tincture/rv.kinds"], apart := false, laid := [("tincture/rv.words", laid_tincture_rv_words), ("tincture/rv.branches", laid_tincture_rv_branches), ("tincture/rv.loads", laid_tincture_rv_loads), ("tincture/rv.stores", laid_tincture_rv_stores), ("tincture/rv.immediates", laid_tincture_rv_immediates), ("tincture/rv.registers", laid_tincture_rv_registers), ("tincture/rv.kinds", laid_tincture_rv_kinds), ("tincture/cpu.tests", laid_tincture_cpu_tests), ("tincture/cpu.loadSizes", laid_tincture_cpu_loadSizes), ("tincture/cpu.loadBits", laid_tincture_cpu_loadBits), ("tincture/cpu.storeSizes", laid_tincture_cpu_storeSizes)] }
def CpuMovesSaid : Prop := cpuMovesRow.holds Tryd.pinned (OpenSpec.ofChange cpuMovesSpec)

/-- ITS FALSE NEIGHBOUR: 'it returns false'. Refute it at one input. -/
def cpuMovesWrong : ChangeSpec := { name := "cpuMoves", fn := fun _ => fun
  | [d1, d2] => { results := [.lit (.bool false)], args := [d1, d2] }
  | _ => none }
def CpuMovesWrongFalsely : Prop := cpuMovesRow.holds Tryd.pinned (OpenSpec.ofChange cpuMovesWrong)

/- THE SECOND FORM. 'bulk': how many values and letters a reading holds, each counted each time it is reached (what is shared counts as often as it is met; a slice's spare places count too). A statement '..UptoSaid' is the law's where the arguments, and the package variables that the reading takes, are together of bulk at most 1048576: NARROWER than '..Said'. Prove '..Said' where nothing that the law and all that it calls make is longer than what came in: it says more and counts as full. Else prove '..UptoSaid'. A law counts once. -/
mutual
def uptoBulk {H : Type} : DataW H → Nat
  | .lit (.string bytes) => bytes.length + 1
  | .lit _ => 1
  | .nil => 1
  | .ptr d => uptoBulk d + 1
  | .slice elems spare => uptoBulkAll elems + uptoBulkAll spare + 1
  | .agg parts => uptoBulkAll parts + 1
  | .iface _ d => uptoBulk d + 1
  | .map entries => uptoBulkEntries entries + 1
  | .held _ => 1
def uptoBulkAll {H : Type} : List (DataW H) → Nat
  | [] => 0
  | d :: r => uptoBulk d + uptoBulkAll r
def uptoBulkEntries {H : Type} : List (Lit × DataW H) → Nat
  | [] => 0
  | x :: r => uptoBulkEntry x + uptoBulkEntries r
def uptoBulkEntry {H : Type} : Lit × DataW H → Nat
  | (.string bytes, d) => bytes.length + uptoBulk d + 1
  | (_, d) => uptoBulk d + 1
 end
def uptoSmall : (H : Type) → List (DataW H) → Bool := fun _ ds => decide (uptoBulkAll ds ≤ 1048576)
def OpenSpec.upto (s : _root_.Go.ChangeSpec) : _root_.Go.OpenSpec := { _root_.Go.OpenSpec.ofChange s with cond := some uptoSmall }

/-- 'tincturelaw12.CpuKnown', WHERE WHAT IT READS IS OF BULK AT MOST 1048576: true; the input reads as it did. -/
def cpuKnownUptoRow : OpenClaim := { program := "ytbackacbdfgdoaadoor", sum := "d4d155aa6381f3b4b5d2f65562e2c2c34047b11077ec39268f976c426396a2b2", func := "tincture/tincturelaw12.CpuKnown", spec := "cpuKnown", inPlace := ["slices.overlaps[uint32]"], named := ["tincture/rv.words", "tincture/rv.branches", "tincture/rv.loads", "tincture/rv.stores", "tincture/rv.immediates", "tincture/rv.registers", "tincture/cpu.tests", "tincture/cpu.loadSizes", "tincture/cpu.loadBits", "tincture/cpu.storeSizes", "tincture/rv.kinds"], apart := false, laid := [("tincture/rv.words", laid_tincture_rv_words), ("tincture/rv.branches", laid_tincture_rv_branches), ("tincture/rv.loads", laid_tincture_rv_loads), ("tincture/rv.stores", laid_tincture_rv_stores), ("tincture/rv.immediates", laid_tincture_rv_immediates), ("tincture/rv.registers", laid_tincture_rv_registers), ("tincture/rv.kinds", laid_tincture_rv_kinds), ("tincture/cpu.tests", laid_tincture_cpu_tests), ("tincture/cpu.loadSizes", laid_tincture_cpu_loadSizes), ("tincture/cpu.loadBits", laid_tincture_cpu_loadBits), ("tincture/cpu.storeSizes", laid_tincture_cpu_storeSizes)], narrowed := true }
def CpuKnownUptoSaid : Prop := cpuKnownUptoRow.holds Tryd.pinned (OpenSpec.upto cpuKnownSpec)

/-- 'tincturelaw12.CpuSteps', WHERE WHAT IT READS IS OF BULK AT MOST 1048576: true; the input reads as it did. -/
def cpuStepsUptoRow : OpenClaim := { program := "ytbackacbdfgdoaadoor", sum := "d4d155aa6381f3b4b5d2f65562e2c2c34047b11077ec39268f976c426396a2b2", func := "tincture/tincturelaw12.CpuSteps", spec := "cpuSteps", inPlace := ["slices.overlaps[uint32]"], named := ["tincture/rv.words", "tincture/rv.branches", "tincture/rv.loads", "tincture/rv.stores", "tincture/rv.immediates", "tincture/rv.registers", "tincture/cpu.tests", "tincture/cpu.loadSizes", "tincture/cpu.loadBits", "tincture/cpu.storeSizes", "tincture/rv.kinds"], apart := false, laid := [("tincture/rv.words", laid_tincture_rv_words), ("tincture/rv.branches", laid_tincture_rv_branches), ("tincture/rv.loads", laid_tincture_rv_loads), ("tincture/rv.stores", laid_tincture_rv_stores), ("tincture/rv.immediates", laid_tincture_rv_immediates), ("tincture/rv.registers", laid_tincture_rv_registers), ("tincture/rv.kinds", laid_tincture_rv_kinds), ("tincture/cpu.tests", laid_tincture_cpu_tests), ("tincture/cpu.loadSizes", laid_tincture_cpu_loadSizes), ("tincture/cpu.loadBits", laid_tincture_cpu_loadBits), ("tincture/cpu.storeSizes", laid_tincture_cpu_storeSizes)], narrowed := true }
def CpuStepsUptoSaid : Prop := cpuStepsUptoRow.holds Tryd.pinned (OpenSpec.upto cpuStepsSpec)

/-- 'tincturelaw12.CpuStays', WHERE WHAT IT READS IS OF BULK AT MOST 1048576: true; the input reads as it did. -/
def cpuStaysUptoRow : OpenClaim := { program := "ytbackacbdfgdoaadoor", sum := "d4d155aa6381f3b4b5d2f65562e2c2c34047b11077ec39268f976c426396a2b2", func := "tincture/tincturelaw12.CpuStays", spec := "cpuStays", inPlace := ["slices.overlaps[uint32]"], named := ["tincture/rv.words", "tincture/rv.branches", "tincture/rv.loads", "tincture/rv.stores", "tincture/rv.immediates", "tincture/rv.registers", "tincture/cpu.tests", "tincture/cpu.loadSizes", "tincture/cpu.loadBits", "tincture/cpu.storeSizes", "tincture/rv.kinds"], apart := false, laid := [("tincture/rv.words", laid_tincture_rv_words), ("tincture/rv.branches", laid_tincture_rv_branches), ("tincture/rv.loads", laid_tincture_rv_loads), ("tincture/rv.stores", laid_tincture_rv_stores), ("tincture/rv.immediates", laid_tincture_rv_immediates), ("tincture/rv.registers", laid_tincture_rv_registers), ("tincture/rv.kinds", laid_tincture_rv_kinds), ("tincture/cpu.tests", laid_tincture_cpu_tests), ("tincture/cpu.loadSizes", laid_tincture_cpu_loadSizes), ("tincture/cpu.loadBits", laid_tincture_cpu_loadBits), ("tincture/cpu.storeSizes", laid_tincture_cpu_storeSizes)], narrowed := true }
def CpuStaysUptoSaid : Prop := cpuStaysUptoRow.holds Tryd.pinned (OpenSpec.upto cpuStaysSpec)

/-- 'tincturelaw12.CpuZero', WHERE WHAT IT READS IS OF BULK AT MOST 1048576: true; the input reads as it did. -/
def cpuZeroUptoRow : OpenClaim := { program := "ytbackacbdfgdoaadoor", sum := "d4d155aa6381f3b4b5d2f65562e2c2c34047b11077ec39268f976c426396a2b2", func := "tincture/tincturelaw12.CpuZero", spec := "cpuZero", inPlace := ["slices.overlaps[uint32]"], named := ["tincture/rv.words", "tincture/rv.branches", "tincture/rv.loads", "tincture/rv.stores", "tincture/rv.immediates", "tincture/rv.registers", "tincture/cpu.tests", "tincture/cpu.loadSizes", "tincture/cpu.loadBits", "tincture/cpu.storeSizes", "tincture/rv.kinds"], apart := false, laid := [("tincture/rv.words", laid_tincture_rv_words), ("tincture/rv.branches", laid_tincture_rv_branches), ("tincture/rv.loads", laid_tincture_rv_loads), ("tincture/rv.stores", laid_tincture_rv_stores), ("tincture/rv.immediates", laid_tincture_rv_immediates), ("tincture/rv.registers", laid_tincture_rv_registers), ("tincture/rv.kinds", laid_tincture_rv_kinds), ("tincture/cpu.tests", laid_tincture_cpu_tests), ("tincture/cpu.loadSizes", laid_tincture_cpu_loadSizes), ("tincture/cpu.loadBits", laid_tincture_cpu_loadBits), ("tincture/cpu.storeSizes", laid_tincture_cpu_storeSizes)], narrowed := true }
def CpuZeroUptoSaid : Prop := cpuZeroUptoRow.holds Tryd.pinned (OpenSpec.upto cpuZeroSpec)

/-- 'tincturelaw12.CpuSums', WHERE WHAT IT READS IS OF BULK AT MOST 1048576: true; the input reads as it did. -/
def cpuSumsUptoRow : OpenClaim := { program := "ytbackacbdfgdoaadoor", sum := "d4d155aa6381f3b4b5d2f65562e2c2c34047b11077ec39268f976c426396a2b2", func := "tincture/tincturelaw12.CpuSums", spec := "cpuSums", inPlace := ["slices.overlaps[uint32]"], named := ["tincture/rv.words", "tincture/rv.branches", "tincture/rv.loads", "tincture/rv.stores", "tincture/rv.immediates", "tincture/rv.registers", "tincture/cpu.tests", "tincture/cpu.loadSizes", "tincture/cpu.loadBits", "tincture/cpu.storeSizes", "tincture/rv.kinds"], apart := false, laid := [("tincture/rv.words", laid_tincture_rv_words), ("tincture/rv.branches", laid_tincture_rv_branches), ("tincture/rv.loads", laid_tincture_rv_loads), ("tincture/rv.stores", laid_tincture_rv_stores), ("tincture/rv.immediates", laid_tincture_rv_immediates), ("tincture/rv.registers", laid_tincture_rv_registers), ("tincture/rv.kinds", laid_tincture_rv_kinds), ("tincture/cpu.tests", laid_tincture_cpu_tests), ("tincture/cpu.loadSizes", laid_tincture_cpu_loadSizes), ("tincture/cpu.loadBits", laid_tincture_cpu_loadBits), ("tincture/cpu.storeSizes", laid_tincture_cpu_storeSizes)], narrowed := true }
def CpuSumsUptoSaid : Prop := cpuSumsUptoRow.holds Tryd.pinned (OpenSpec.upto cpuSumsSpec)

/-- 'tincturelaw12.CpuBranches', WHERE WHAT IT READS IS OF BULK AT MOST 1048576: true; the input reads as it did. -/
def cpuBranchesUptoRow : OpenClaim := { program := "ytbackacbdfgdoaadoor", sum := "d4d155aa6381f3b4b5d2f65562e2c2c34047b11077ec39268f976c426396a2b2", func := "tincture/tincturelaw12.CpuBranches", spec := "cpuBranches", inPlace := ["slices.overlaps[uint32]"], named := ["tincture/rv.words", "tincture/rv.branches", "tincture/rv.loads", "tincture/rv.stores", "tincture/rv.immediates", "tincture/rv.registers", "tincture/cpu.tests", "tincture/cpu.loadSizes", "tincture/cpu.loadBits", "tincture/cpu.storeSizes", "tincture/rv.kinds"], apart := false, laid := [("tincture/rv.words", laid_tincture_rv_words), ("tincture/rv.branches", laid_tincture_rv_branches), ("tincture/rv.loads", laid_tincture_rv_loads), ("tincture/rv.stores", laid_tincture_rv_stores), ("tincture/rv.immediates", laid_tincture_rv_immediates), ("tincture/rv.registers", laid_tincture_rv_registers), ("tincture/rv.kinds", laid_tincture_rv_kinds), ("tincture/cpu.tests", laid_tincture_cpu_tests), ("tincture/cpu.loadSizes", laid_tincture_cpu_loadSizes), ("tincture/cpu.loadBits", laid_tincture_cpu_loadBits), ("tincture/cpu.storeSizes", laid_tincture_cpu_storeSizes)], narrowed := true }
def CpuBranchesUptoSaid : Prop := cpuBranchesUptoRow.holds Tryd.pinned (OpenSpec.upto cpuBranchesSpec)

/-- 'tincturelaw12.CpuMoves', WHERE WHAT IT READS IS OF BULK AT MOST 1048576: true; the input reads as it did. -/
def cpuMovesUptoRow : OpenClaim := { program := "ytbackacbdfgdoaadoor", sum := "d4d155aa6381f3b4b5d2f65562e2c2c34047b11077ec39268f976c426396a2b2", func := "tincture/tincturelaw12.CpuMoves", spec := "cpuMoves", inPlace := ["slices.overlaps[uint32]"], named := ["tincture/rv.words", "tincture/rv.branches", "tincture/rv.loads", "tincture/rv.stores", "tincture/rv.immediates", "tincture/rv.registers", "tincture/cpu.tests", "tincture/cpu.loadSizes", "tincture/cpu.loadBits", "tincture/cpu.storeSizes", "tincture/rv.kinds"], apart := false, laid := [("tincture/rv.words", laid_tincture_rv_words), ("tincture/rv.branches", laid_tincture_rv_branches), ("tincture/rv.loads", laid_tincture_rv_loads), ("tincture/rv.stores", laid_tincture_rv_stores), ("tincture/rv.immediates", laid_tincture_rv_immediates), ("tincture/rv.registers", laid_tincture_rv_registers), ("tincture/rv.kinds", laid_tincture_rv_kinds), ("tincture/cpu.tests", laid_tincture_cpu_tests), ("tincture/cpu.loadSizes", laid_tincture_cpu_loadSizes), ("tincture/cpu.loadBits", laid_tincture_cpu_loadBits), ("tincture/cpu.storeSizes", laid_tincture_cpu_storeSizes)], narrowed := true }
def CpuMovesUptoSaid : Prop := cpuMovesUptoRow.holds Tryd.pinned (OpenSpec.upto cpuMovesSpec)

end Rows
end Go.Proofs.YtbackacbdfgdoaaDoor
