/- LAYER 6's walks: strings.IndexAny at the bytes that end words, of whatever bytes. -/
import Derived.Test.YthkampohgbddnaaDoorAsmB
namespace Go.Proofs.YthkampohgbddnaaDoor
open Go.ChangeShapes Go.WideShapes Go.ChangeAt Go.RowKit

theorem IndexAny_c (l : List UInt8) (w : World) (hl : l.length < 4294967281) :
    Calls Tryd.prog 76 #[.string (bs l), .string ⟨#[32, 9, 44, 40, 41]⟩] w fun e w' => e = .returned (.int .i64 (Lib.indexAny l [32, 9, 44, 40, 41])) ∧ Bw w w' := by
  sorry
end Go.Proofs.YthkampohgbddnaaDoor
