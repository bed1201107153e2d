/-
  The program's small functions of a chain (layer 13: isIn, part, refers, fits). No conditions beyond those that each theorem names.
-/
import Derived.Test.YtpckcjhffpokeaaChM
import Derived.Test.YtpckcjhffpokeaaInsE
import Derived.Test.YtpckcjhffpokeaaGrow
namespace Go.Proofs.Ytpckcjhffpokeaa
open Go.ChangeShapes Go.WideShapes Go.ChangeAt Go.RowKit

end Go.Proofs.Ytpckcjhffpokeaa
