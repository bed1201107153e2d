/-
  Contracts of package field's helpers and of Get, Sign (layer 1). No conditions beyond those that each theorem names.
-/
import Derived.Test.YtpckcjhffpokeaaBase
import Derived.Test.YtpckcjhffpokeaaMathA
namespace Go.Proofs.Ytpckcjhffpokeaa
open Go.ChangeShapes Go.WideShapes Go.ChangeAt Go.RowKit

end Go.Proofs.Ytpckcjhffpokeaa
