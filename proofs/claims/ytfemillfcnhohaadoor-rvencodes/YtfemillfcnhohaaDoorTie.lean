/-
  DERIVED. GIVEN WITH THE SEED: THE PROGRAM's TIES (one call each: nine closed facts by the kernel) AND EACH ROW's TIE, after the 31st guide's Derived/Test/Toyas{Tie, Card}.lean. No idea stands in it: it is a product of the set-up. Laid BY PROGRAM, IN A SANDBOX (cutbox-door.mjs). By AI agents, Wed Nov 11 2026. No macro, syntax, notation, axiom, sorry.
-/
import Derived.Test.YtfemillfcnhohaaDoorRows
import Derived.LaidByTextLater
import Derived.SevenTiedAt
import Derived.LaidSub
import Derived.LaidOnce
namespace Go.Proofs.YtfemillfcnhohaaDoor
open Go
set_option maxRecDepth 100000
theorem seatTie1 : Tryd.prog.laidByTextLater [("tincture/rv.names", Rows.laid_tincture_rv_names), ("tincture/rv.words", Rows.laid_tincture_rv_words), ("tincture/rv.branches", Rows.laid_tincture_rv_branches), ("tincture/rv.loads", Rows.laid_tincture_rv_loads), ("tincture/rv.stores", Rows.laid_tincture_rv_stores), ("tincture/rv.immediates", Rows.laid_tincture_rv_immediates), ("tincture/rv.registers", Rows.laid_tincture_rv_registers), ("tincture/rv.kinds", Rows.laid_tincture_rv_kinds)] [.data, .data, .data, .data, .data, .data, .data, .data] true :=
  Program.laidByTextLater_by_one 49 8 51 (by kernel_rfl) (by kernel_rfl) (by kernel_rfl) (by kernel_rfl) (by kernel_rfl) (by kernel_rfl) (fun _ _ => by kernel_rfl)
theorem noOwnUnsafe : Tryd.pinned.checked.prog.headLifts.contains "ownunsafe" = false := by kernel_rfl
theorem tie : Tryd.prog.laidByTextLater [("tincture/rv.names", Rows.laid_tincture_rv_names), ("tincture/rv.words", Rows.laid_tincture_rv_words), ("tincture/rv.branches", Rows.laid_tincture_rv_branches), ("tincture/rv.loads", Rows.laid_tincture_rv_loads), ("tincture/rv.stores", Rows.laid_tincture_rv_stores), ("tincture/rv.immediates", Rows.laid_tincture_rv_immediates), ("tincture/rv.registers", Rows.laid_tincture_rv_registers), ("tincture/rv.kinds", Rows.laid_tincture_rv_kinds)] [.data, .data, .data, .data, .data, .data, .data, .data] true :=
  Program.laidByTextLater.sub seatTie1 ["tincture/rv.names", "tincture/rv.words", "tincture/rv.branches", "tincture/rv.loads", "tincture/rv.stores", "tincture/rv.immediates", "tincture/rv.registers", "tincture/rv.kinds"] (by kernel_rfl) (by kernel_rfl)
theorem rvKnown_row_tie : Rows.rvKnownRow.laidByTextAt .later Tryd.pinned [.data, .data, .data, .data, .data, .data, .data, .data] true :=
  OpenClaim.laidByTextAt_later rfl rfl tie noOwnUnsafe
theorem rvEncodes_row_tie : Rows.rvEncodesRow.laidByTextAt .later Tryd.pinned [.data, .data, .data, .data, .data, .data, .data, .data] true :=
  OpenClaim.laidByTextAt_later rfl rfl tie noOwnUnsafe
theorem rvKinds_row_tie : Rows.rvKindsRow.laidByTextAt .later Tryd.pinned [.data, .data, .data, .data, .data, .data, .data, .data] true :=
  OpenClaim.laidByTextAt_later rfl rfl tie noOwnUnsafe
theorem tie2 : Tryd.prog.laidByTextLater [("tincture/rv.names", Rows.laid_tincture_rv_names), ("tincture/rv.words", Rows.laid_tincture_rv_words), ("tincture/rv.branches", Rows.laid_tincture_rv_branches), ("tincture/rv.loads", Rows.laid_tincture_rv_loads), ("tincture/rv.stores", Rows.laid_tincture_rv_stores), ("tincture/rv.immediates", Rows.laid_tincture_rv_immediates), ("tincture/rv.registers", Rows.laid_tincture_rv_registers)] [.data, .data, .data, .data, .data, .data, .data] true :=
  Program.laidByTextLater.sub seatTie1 ["tincture/rv.names", "tincture/rv.words", "tincture/rv.branches", "tincture/rv.loads", "tincture/rv.stores", "tincture/rv.immediates", "tincture/rv.registers"] (by kernel_rfl) (by kernel_rfl)
theorem rvDecodes_row_tie : Rows.rvDecodesRow.laidByTextAt .later Tryd.pinned [.data, .data, .data, .data, .data, .data, .data] true :=
  OpenClaim.laidByTextAt_later rfl rfl tie2 noOwnUnsafe
theorem rvBack_row_tie : Rows.rvBackRow.laidByTextAt .later Tryd.pinned [.data, .data, .data, .data, .data, .data, .data] true :=
  OpenClaim.laidByTextAt_later rfl rfl tie2 noOwnUnsafe
theorem rvApart_row_tie : Rows.rvApartRow.laidByTextAt .later Tryd.pinned [.data, .data, .data, .data, .data, .data, .data] true :=
  OpenClaim.laidByTextAt_later rfl rfl tie2 noOwnUnsafe
theorem rvWhole_row_tie : Rows.rvWholeRow.laidByTextAt .later Tryd.pinned [.data, .data, .data, .data, .data, .data, .data] true :=
  OpenClaim.laidByTextAt_later rfl rfl tie2 noOwnUnsafe
theorem rvFields_row_tie : Rows.rvFieldsRow.laidByTextAt .later Tryd.pinned [.data, .data, .data, .data, .data, .data, .data] true :=
  OpenClaim.laidByTextAt_later rfl rfl tie2 noOwnUnsafe
theorem rvKnownUpto_row_tie : Rows.rvKnownUptoRow.laidByTextAt .later Tryd.pinned [.data, .data, .data, .data, .data, .data, .data, .data] true :=
  OpenClaim.laidByTextAt_later rfl rfl tie noOwnUnsafe
theorem rvDecodesUpto_row_tie : Rows.rvDecodesUptoRow.laidByTextAt .later Tryd.pinned [.data, .data, .data, .data, .data, .data, .data] true :=
  OpenClaim.laidByTextAt_later rfl rfl tie2 noOwnUnsafe
theorem rvEncodesUpto_row_tie : Rows.rvEncodesUptoRow.laidByTextAt .later Tryd.pinned [.data, .data, .data, .data, .data, .data, .data, .data] true :=
  OpenClaim.laidByTextAt_later rfl rfl tie noOwnUnsafe
theorem rvBackUpto_row_tie : Rows.rvBackUptoRow.laidByTextAt .later Tryd.pinned [.data, .data, .data, .data, .data, .data, .data] true :=
  OpenClaim.laidByTextAt_later rfl rfl tie2 noOwnUnsafe
theorem rvApartUpto_row_tie : Rows.rvApartUptoRow.laidByTextAt .later Tryd.pinned [.data, .data, .data, .data, .data, .data, .data] true :=
  OpenClaim.laidByTextAt_later rfl rfl tie2 noOwnUnsafe
theorem rvWholeUpto_row_tie : Rows.rvWholeUptoRow.laidByTextAt .later Tryd.pinned [.data, .data, .data, .data, .data, .data, .data] true :=
  OpenClaim.laidByTextAt_later rfl rfl tie2 noOwnUnsafe
theorem rvKindsUpto_row_tie : Rows.rvKindsUptoRow.laidByTextAt .later Tryd.pinned [.data, .data, .data, .data, .data, .data, .data, .data] true :=
  OpenClaim.laidByTextAt_later rfl rfl tie noOwnUnsafe
theorem rvFieldsUpto_row_tie : Rows.rvFieldsUptoRow.laidByTextAt .later Tryd.pinned [.data, .data, .data, .data, .data, .data, .data] true :=
  OpenClaim.laidByTextAt_later rfl rfl tie2 noOwnUnsafe
end Go.Proofs.YtfemillfcnhohaaDoor
