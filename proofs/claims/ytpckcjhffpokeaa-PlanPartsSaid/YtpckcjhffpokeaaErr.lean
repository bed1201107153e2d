/-
  Two errors that are ErrArg, held against each other. Nothing of the program but the numbers of the types error and api.Code.
-/
import Derived.Test.YtpckcjhffpokeaaBase
namespace Go.Proofs.Ytpckcjhffpokeaa
open Go.ChangeShapes Go.WideShapes Go.ChangeAt Go.RowKit

end Go.Proofs.Ytpckcjhffpokeaa
