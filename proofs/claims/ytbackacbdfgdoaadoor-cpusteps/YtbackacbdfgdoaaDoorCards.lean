/-
  DERIVED. GIVEN WITH THE SEED: THE CARDS: each row of YtbackacbdfgdoaaDoorRows.lean that lists a variable, with what it lists TIED to the program's text (the seventh form; the later family's looks); each row that meets fmt, with fmt's text TOLD by the authors' own Lean function (tested against real Go, not proved from fmt's source: count such statements apart). THE CARD IS WHAT COUNTS. Prove the row's statement (the work); the ties are given (YtbackacbdfgdoaaDoorTie.lean); close each card by the builder's one call (the guide's Derived/Test/ToyasCard.lean, 'card_holds'). Laid BY PROGRAM, IN A SANDBOX (cutbox-door.mjs). By AI agents, Wed Nov 11 2026. No macro, syntax, notation, axiom, sorry.
-/
import Derived.Test.YtbackacbdfgdoaaDoorRows
import GoSem.ClaimSeven
namespace Go.Proofs.YtbackacbdfgdoaaDoor
namespace Rows

/-- THE TIED CARD OF 'tincturelaw12.CpuKnown'. -/
def cpuKnownCard : Claim7 := { stood := { row := cpuKnownRow, standIns := [], harness := (true, "d9a04623069bb070f75a2677cc4eb0097b023e661a0be92fb832ae28f29ac59d"), looks := false }, kinds := [], alts := [], laidByText := true, laidKinds := [.data, .data, .data, .data, .data, .data, .data, .data, .data, .data, .data], laidTests := true, laidLooks := .later }
def CpuKnownCardSaid : Prop := Claim7.holds Tryd.pinned (.plain (OpenSpec.ofChange cpuKnownSpec)) cpuKnownCard

/-- THE TIED CARD OF 'tincturelaw12.CpuSteps'. -/
def cpuStepsCard : Claim7 := { stood := { row := cpuStepsRow, standIns := [], harness := (true, "d9a04623069bb070f75a2677cc4eb0097b023e661a0be92fb832ae28f29ac59d"), looks := false }, kinds := [], alts := [], laidByText := true, laidKinds := [.data, .data, .data, .data, .data, .data, .data, .data, .data, .data, .data], laidTests := true, laidLooks := .later }
def CpuStepsCardSaid : Prop := Claim7.holds Tryd.pinned (.plain (OpenSpec.ofChange cpuStepsSpec)) cpuStepsCard

/-- THE TIED CARD OF 'tincturelaw12.CpuStays'. -/
def cpuStaysCard : Claim7 := { stood := { row := cpuStaysRow, standIns := [], harness := (true, "d9a04623069bb070f75a2677cc4eb0097b023e661a0be92fb832ae28f29ac59d"), looks := false }, kinds := [], alts := [], laidByText := true, laidKinds := [.data, .data, .data, .data, .data, .data, .data, .data, .data, .data, .data], laidTests := true, laidLooks := .later }
def CpuStaysCardSaid : Prop := Claim7.holds Tryd.pinned (.plain (OpenSpec.ofChange cpuStaysSpec)) cpuStaysCard

/-- THE TIED CARD OF 'tincturelaw12.CpuZero'. -/
def cpuZeroCard : Claim7 := { stood := { row := cpuZeroRow, standIns := [], harness := (true, "d9a04623069bb070f75a2677cc4eb0097b023e661a0be92fb832ae28f29ac59d"), looks := false }, kinds := [], alts := [], laidByText := true, laidKinds := [.data, .data, .data, .data, .data, .data, .data, .data, .data, .data, .data], laidTests := true, laidLooks := .later }
def CpuZeroCardSaid : Prop := Claim7.holds Tryd.pinned (.plain (OpenSpec.ofChange cpuZeroSpec)) cpuZeroCard

/-- THE TIED CARD OF 'tincturelaw12.CpuSums'. -/
def cpuSumsCard : Claim7 := { stood := { row := cpuSumsRow, standIns := [], harness := (true, "d9a04623069bb070f75a2677cc4eb0097b023e661a0be92fb832ae28f29ac59d"), looks := false }, kinds := [], alts := [], laidByText := true, laidKinds := [.data, .data, .data, .data, .data, .data, .data, .data, .data, .data, .data], laidTests := true, laidLooks := .later }
def CpuSumsCardSaid : Prop := Claim7.holds Tryd.pinned (.plain (OpenSpec.ofChange cpuSumsSpec)) cpuSumsCard

/-- THE TIED CARD OF 'tincturelaw12.CpuBranches'. -/
def cpuBranchesCard : Claim7 := { stood := { row := cpuBranchesRow, standIns := [], harness := (true, "d9a04623069bb070f75a2677cc4eb0097b023e661a0be92fb832ae28f29ac59d"), looks := false }, kinds := [], alts := [], laidByText := true, laidKinds := [.data, .data, .data, .data, .data, .data, .data, .data, .data, .data, .data], laidTests := true, laidLooks := .later }
def CpuBranchesCardSaid : Prop := Claim7.holds Tryd.pinned (.plain (OpenSpec.ofChange cpuBranchesSpec)) cpuBranchesCard

/-- THE TIED CARD OF 'tincturelaw12.CpuMoves'. -/
def cpuMovesCard : Claim7 := { stood := { row := cpuMovesRow, standIns := [], harness := (true, "d9a04623069bb070f75a2677cc4eb0097b023e661a0be92fb832ae28f29ac59d"), looks := false }, kinds := [], alts := [], laidByText := true, laidKinds := [.data, .data, .data, .data, .data, .data, .data, .data, .data, .data, .data], laidTests := true, laidLooks := .later }
def CpuMovesCardSaid : Prop := Claim7.holds Tryd.pinned (.plain (OpenSpec.ofChange cpuMovesSpec)) cpuMovesCard

/-- THE SECOND FORM's CARD OF 'tincturelaw12.CpuKnown'. -/
def cpuKnownUptoCard : Claim7 := { stood := { row := cpuKnownUptoRow, standIns := [], harness := (true, "d9a04623069bb070f75a2677cc4eb0097b023e661a0be92fb832ae28f29ac59d"), looks := false }, kinds := [], alts := [], laidByText := true, laidKinds := [.data, .data, .data, .data, .data, .data, .data, .data, .data, .data, .data], laidTests := true, laidLooks := .later }
def CpuKnownUptoCardSaid : Prop := Claim7.holds Tryd.pinned (.plain (OpenSpec.upto cpuKnownSpec)) cpuKnownUptoCard

/-- THE SECOND FORM's CARD OF 'tincturelaw12.CpuSteps'. -/
def cpuStepsUptoCard : Claim7 := { stood := { row := cpuStepsUptoRow, standIns := [], harness := (true, "d9a04623069bb070f75a2677cc4eb0097b023e661a0be92fb832ae28f29ac59d"), looks := false }, kinds := [], alts := [], laidByText := true, laidKinds := [.data, .data, .data, .data, .data, .data, .data, .data, .data, .data, .data], laidTests := true, laidLooks := .later }
def CpuStepsUptoCardSaid : Prop := Claim7.holds Tryd.pinned (.plain (OpenSpec.upto cpuStepsSpec)) cpuStepsUptoCard

/-- THE SECOND FORM's CARD OF 'tincturelaw12.CpuStays'. -/
def cpuStaysUptoCard : Claim7 := { stood := { row := cpuStaysUptoRow, standIns := [], harness := (true, "d9a04623069bb070f75a2677cc4eb0097b023e661a0be92fb832ae28f29ac59d"), looks := false }, kinds := [], alts := [], laidByText := true, laidKinds := [.data, .data, .data, .data, .data, .data, .data, .data, .data, .data, .data], laidTests := true, laidLooks := .later }
def CpuStaysUptoCardSaid : Prop := Claim7.holds Tryd.pinned (.plain (OpenSpec.upto cpuStaysSpec)) cpuStaysUptoCard

/-- THE SECOND FORM's CARD OF 'tincturelaw12.CpuZero'. -/
def cpuZeroUptoCard : Claim7 := { stood := { row := cpuZeroUptoRow, standIns := [], harness := (true, "d9a04623069bb070f75a2677cc4eb0097b023e661a0be92fb832ae28f29ac59d"), looks := false }, kinds := [], alts := [], laidByText := true, laidKinds := [.data, .data, .data, .data, .data, .data, .data, .data, .data, .data, .data], laidTests := true, laidLooks := .later }
def CpuZeroUptoCardSaid : Prop := Claim7.holds Tryd.pinned (.plain (OpenSpec.upto cpuZeroSpec)) cpuZeroUptoCard

/-- THE SECOND FORM's CARD OF 'tincturelaw12.CpuSums'. -/
def cpuSumsUptoCard : Claim7 := { stood := { row := cpuSumsUptoRow, standIns := [], harness := (true, "d9a04623069bb070f75a2677cc4eb0097b023e661a0be92fb832ae28f29ac59d"), looks := false }, kinds := [], alts := [], laidByText := true, laidKinds := [.data, .data, .data, .data, .data, .data, .data, .data, .data, .data, .data], laidTests := true, laidLooks := .later }
def CpuSumsUptoCardSaid : Prop := Claim7.holds Tryd.pinned (.plain (OpenSpec.upto cpuSumsSpec)) cpuSumsUptoCard

/-- THE SECOND FORM's CARD OF 'tincturelaw12.CpuBranches'. -/
def cpuBranchesUptoCard : Claim7 := { stood := { row := cpuBranchesUptoRow, standIns := [], harness := (true, "d9a04623069bb070f75a2677cc4eb0097b023e661a0be92fb832ae28f29ac59d"), looks := false }, kinds := [], alts := [], laidByText := true, laidKinds := [.data, .data, .data, .data, .data, .data, .data, .data, .data, .data, .data], laidTests := true, laidLooks := .later }
def CpuBranchesUptoCardSaid : Prop := Claim7.holds Tryd.pinned (.plain (OpenSpec.upto cpuBranchesSpec)) cpuBranchesUptoCard

/-- THE SECOND FORM's CARD OF 'tincturelaw12.CpuMoves'. -/
def cpuMovesUptoCard : Claim7 := { stood := { row := cpuMovesUptoRow, standIns := [], harness := (true, "d9a04623069bb070f75a2677cc4eb0097b023e661a0be92fb832ae28f29ac59d"), looks := false }, kinds := [], alts := [], laidByText := true, laidKinds := [.data, .data, .data, .data, .data, .data, .data, .data, .data, .data, .data], laidTests := true, laidLooks := .later }
def CpuMovesUptoCardSaid : Prop := Claim7.holds Tryd.pinned (.plain (OpenSpec.upto cpuMovesSpec)) cpuMovesUptoCard
end Rows
end Go.Proofs.YtbackacbdfgdoaaDoor
