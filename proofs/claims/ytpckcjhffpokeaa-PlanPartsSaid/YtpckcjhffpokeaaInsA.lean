/-
  Contracts of package ins's helpers and of May (layer 2), and of the document's May. No conditions beyond those that each theorem names.
-/
import Derived.Test.YtpckcjhffpokeaaFieldA
namespace Go.Proofs.Ytpckcjhffpokeaa
open Go.ChangeShapes Go.WideShapes Go.ChangeAt Go.RowKit

/- an instruction may be -/
def isOpP (o : Int) : Prop := 1 ≤ o ∧ o ≤ 21
def isRegP (r : Int) : Prop := 0 ≤ r ∧ r ≤ 15
def isNumP (o n : Int) : Prop := (2 ≤ o ∧ o ≤ 10 ∧ 0 ≤ n ∧ n ≤ 15) ∨ ((o < 2 ∨ 10 < o) ∧ -131072 ≤ n ∧ n ≤ 131071)
def MayP (o a b n : Int) : Prop := isOpP o ∧ isRegP a ∧ isRegP b ∧ isNumP o n

end Go.Proofs.Ytpckcjhffpokeaa
