/-
  DERIVED. GIVEN WITH THE SEED: THE PROGRAM's TIES (one call each: nine closed facts by the kernel) AND EACH ROW's TIE, after the 31st guide's Derived/Test/Toyas{Tie, Card}.lean. No idea stands in it: it is a product of the set-up. Laid BY PROGRAM, IN A SANDBOX (cutbox-door.mjs). By AI agents, Wed Nov 11 2026. No macro, syntax, notation, axiom, sorry.
-/
import Derived.Test.YtbackacbdfgdoaaDoorRows
import Derived.LaidByTextLater
import Derived.SevenTiedAt
import Derived.LaidSub
import Derived.LaidOnce
namespace Go.Proofs.YtbackacbdfgdoaaDoor
open Go
set_option maxRecDepth 100000
theorem seatTie1 : Tryd.prog.laidByTextLater [("tincture/rv.words", Rows.laid_tincture_rv_words), ("tincture/rv.branches", Rows.laid_tincture_rv_branches), ("tincture/rv.loads", Rows.laid_tincture_rv_loads), ("tincture/rv.stores", Rows.laid_tincture_rv_stores), ("tincture/rv.immediates", Rows.laid_tincture_rv_immediates), ("tincture/rv.registers", Rows.laid_tincture_rv_registers), ("tincture/rv.kinds", Rows.laid_tincture_rv_kinds), ("tincture/cpu.tests", Rows.laid_tincture_cpu_tests), ("tincture/cpu.loadSizes", Rows.laid_tincture_cpu_loadSizes), ("tincture/cpu.loadBits", Rows.laid_tincture_cpu_loadBits), ("tincture/cpu.storeSizes", Rows.laid_tincture_cpu_storeSizes)] [.data, .data, .data, .data, .data, .data, .data, .data, .data, .data, .data] true :=
  Program.laidByTextLater_by_one 64 8 51 (by kernel_rfl) (by kernel_rfl) (by kernel_rfl) (by kernel_rfl) (by kernel_rfl) (by kernel_rfl) (fun _ _ => by kernel_rfl)
theorem noOwnUnsafe : Tryd.pinned.checked.prog.headLifts.contains "ownunsafe" = false := by kernel_rfl
theorem tie : Tryd.prog.laidByTextLater [("tincture/rv.words", Rows.laid_tincture_rv_words), ("tincture/rv.branches", Rows.laid_tincture_rv_branches), ("tincture/rv.loads", Rows.laid_tincture_rv_loads), ("tincture/rv.stores", Rows.laid_tincture_rv_stores), ("tincture/rv.immediates", Rows.laid_tincture_rv_immediates), ("tincture/rv.registers", Rows.laid_tincture_rv_registers), ("tincture/rv.kinds", Rows.laid_tincture_rv_kinds), ("tincture/cpu.tests", Rows.laid_tincture_cpu_tests), ("tincture/cpu.loadSizes", Rows.laid_tincture_cpu_loadSizes), ("tincture/cpu.loadBits", Rows.laid_tincture_cpu_loadBits), ("tincture/cpu.storeSizes", Rows.laid_tincture_cpu_storeSizes)] [.data, .data, .data, .data, .data, .data, .data, .data, .data, .data, .data] true :=
  Program.laidByTextLater.sub seatTie1 ["tincture/rv.words", "tincture/rv.branches", "tincture/rv.loads", "tincture/rv.stores", "tincture/rv.immediates", "tincture/rv.registers", "tincture/rv.kinds", "tincture/cpu.tests", "tincture/cpu.loadSizes", "tincture/cpu.loadBits", "tincture/cpu.storeSizes"] (by kernel_rfl) (by kernel_rfl)
theorem cpuKnown_row_tie : Rows.cpuKnownRow.laidByTextAt .later Tryd.pinned [.data, .data, .data, .data, .data, .data, .data, .data, .data, .data, .data] true :=
  OpenClaim.laidByTextAt_later rfl rfl tie noOwnUnsafe
theorem cpuSteps_row_tie : Rows.cpuStepsRow.laidByTextAt .later Tryd.pinned [.data, .data, .data, .data, .data, .data, .data, .data, .data, .data, .data] true :=
  OpenClaim.laidByTextAt_later rfl rfl tie noOwnUnsafe
theorem cpuStays_row_tie : Rows.cpuStaysRow.laidByTextAt .later Tryd.pinned [.data, .data, .data, .data, .data, .data, .data, .data, .data, .data, .data] true :=
  OpenClaim.laidByTextAt_later rfl rfl tie noOwnUnsafe
theorem cpuZero_row_tie : Rows.cpuZeroRow.laidByTextAt .later Tryd.pinned [.data, .data, .data, .data, .data, .data, .data, .data, .data, .data, .data] true :=
  OpenClaim.laidByTextAt_later rfl rfl tie noOwnUnsafe
theorem cpuSums_row_tie : Rows.cpuSumsRow.laidByTextAt .later Tryd.pinned [.data, .data, .data, .data, .data, .data, .data, .data, .data, .data, .data] true :=
  OpenClaim.laidByTextAt_later rfl rfl tie noOwnUnsafe
theorem cpuBranches_row_tie : Rows.cpuBranchesRow.laidByTextAt .later Tryd.pinned [.data, .data, .data, .data, .data, .data, .data, .data, .data, .data, .data] true :=
  OpenClaim.laidByTextAt_later rfl rfl tie noOwnUnsafe
theorem cpuMoves_row_tie : Rows.cpuMovesRow.laidByTextAt .later Tryd.pinned [.data, .data, .data, .data, .data, .data, .data, .data, .data, .data, .data] true :=
  OpenClaim.laidByTextAt_later rfl rfl tie noOwnUnsafe
theorem cpuKnownUpto_row_tie : Rows.cpuKnownUptoRow.laidByTextAt .later Tryd.pinned [.data, .data, .data, .data, .data, .data, .data, .data, .data, .data, .data] true :=
  OpenClaim.laidByTextAt_later rfl rfl tie noOwnUnsafe
theorem cpuStepsUpto_row_tie : Rows.cpuStepsUptoRow.laidByTextAt .later Tryd.pinned [.data, .data, .data, .data, .data, .data, .data, .data, .data, .data, .data] true :=
  OpenClaim.laidByTextAt_later rfl rfl tie noOwnUnsafe
theorem cpuStaysUpto_row_tie : Rows.cpuStaysUptoRow.laidByTextAt .later Tryd.pinned [.data, .data, .data, .data, .data, .data, .data, .data, .data, .data, .data] true :=
  OpenClaim.laidByTextAt_later rfl rfl tie noOwnUnsafe
theorem cpuZeroUpto_row_tie : Rows.cpuZeroUptoRow.laidByTextAt .later Tryd.pinned [.data, .data, .data, .data, .data, .data, .data, .data, .data, .data, .data] true :=
  OpenClaim.laidByTextAt_later rfl rfl tie noOwnUnsafe
theorem cpuSumsUpto_row_tie : Rows.cpuSumsUptoRow.laidByTextAt .later Tryd.pinned [.data, .data, .data, .data, .data, .data, .data, .data, .data, .data, .data] true :=
  OpenClaim.laidByTextAt_later rfl rfl tie noOwnUnsafe
theorem cpuBranchesUpto_row_tie : Rows.cpuBranchesUptoRow.laidByTextAt .later Tryd.pinned [.data, .data, .data, .data, .data, .data, .data, .data, .data, .data, .data] true :=
  OpenClaim.laidByTextAt_later rfl rfl tie noOwnUnsafe
theorem cpuMovesUpto_row_tie : Rows.cpuMovesUptoRow.laidByTextAt .later Tryd.pinned [.data, .data, .data, .data, .data, .data, .data, .data, .data, .data, .data] true :=
  OpenClaim.laidByTextAt_later rfl rfl tie noOwnUnsafe
end Go.Proofs.YtbackacbdfgdoaaDoor
