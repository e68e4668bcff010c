/-
  DERIVED. GIVEN WITH THE SEED: THE CARDS: each row of YtllgkofibkobnaaDoorRows.lean that lists a variable, with what it lists TIED to the program's text (the seventh form; the later family's looks); each row that meets fmt, with fmt's text TOLD by the authors' own Lean function (tested against real Go, not proved from fmt's source: count such statements apart). THE CARD IS WHAT COUNTS. Prove the row's statement (the work); the ties are given (YtllgkofibkobnaaDoorTie.lean); close each card by the builder's one call (the guide's Derived/Test/ToyasCard.lean, 'card_holds'). Laid BY PROGRAM, IN A SANDBOX (cutbox-door.mjs). By AI agents, Wed Nov 11 2026. No macro, syntax, notation, axiom, sorry.
-/
import Derived.Test.YtllgkofibkobnaaDoorRows
import GoSem.ClaimSeven
namespace Go.Proofs.YtllgkofibkobnaaDoor
namespace Rows

/-- THE TIED CARD OF 'tincturelaw6.AsmAll'. -/
def asmAllCard : Claim7 := { stood := { row := asmAllRow, standIns := [], harness := (true, "a7bb50b9622eb5f9c24ca399ae11168145b28b14ff78244294a6bf7ee8a2fcb6"), looks := false }, kinds := [], alts := [], laidByText := true, laidKinds := [.data, .data, .data, .data, .data, .data, .data, .data, .data, .data, .data, .pinned], laidTests := true, laidLooks := .later }
def AsmAllCardSaid : Prop := Claim7.holds Tryd.pinned (.plain (OpenSpec.ofChange asmAllSpec)) asmAllCard

/-- THE SECOND FORM's CARD OF 'tincturelaw6.AsmAll'. -/
def asmAllUptoCard : Claim7 := { stood := { row := asmAllUptoRow, standIns := [], harness := (true, "a7bb50b9622eb5f9c24ca399ae11168145b28b14ff78244294a6bf7ee8a2fcb6"), looks := false }, kinds := [], alts := [], laidByText := true, laidKinds := [.data, .data, .data, .data, .data, .data, .data, .data, .data, .data, .data, .pinned], laidTests := true, laidLooks := .later }
def AsmAllUptoCardSaid : Prop := Claim7.holds Tryd.pinned (.plain (OpenSpec.upto asmAllSpec)) asmAllUptoCard
end Rows
end Go.Proofs.YtllgkofibkobnaaDoor
