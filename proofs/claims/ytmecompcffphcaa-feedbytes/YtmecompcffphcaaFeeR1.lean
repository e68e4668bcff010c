/- LAYER 9, the reference's: noughts, MayFeed. -/
import Derived.Test.YtmecompcffphcaaFeeW4
import Derived.Test.YtmecompcffphcaaNul
import Derived.Lib.IndexLaws
namespace Go.Proofs.Ytmecompcffphcaa
open Go.ChangeShapes Go.WideShapes Go.ChangeAt Go.RowKit

end Go.Proofs.Ytmecompcffphcaa
