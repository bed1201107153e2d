/-
  Contracts of ins.May (layer 2). No conditions beyond those that each theorem names.
-/
import Derived.Test.YtpckcjhffpokeaaInsA
namespace Go.Proofs.Ytpckcjhffpokeaa
open Go.ChangeShapes Go.WideShapes Go.ChangeAt Go.RowKit

end Go.Proofs.Ytpckcjhffpokeaa
