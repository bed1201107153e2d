/-
  Contracts of ins.Get (layer 2). No conditions beyond those that each theorem names.
-/
import Derived.Test.YtpckcjhffpokeaaInsB
import Derived.Test.YtpckcjhffpokeaaMathB
namespace Go.Proofs.Ytpckcjhffpokeaa
open Go.ChangeShapes Go.WideShapes Go.ChangeAt Go.RowKit

end Go.Proofs.Ytpckcjhffpokeaa
