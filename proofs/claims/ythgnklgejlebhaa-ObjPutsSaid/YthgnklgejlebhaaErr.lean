/-
  Two errors that are ErrArg, held against each other. Nothing of the program but the numbers of the types error and api.Code.
-/
import Derived.Test.YthgnklgejlebhaaBase
namespace Go.Proofs.Ythgnklgejlebhaa
open Go.ChangeShapes Go.WideShapes Go.ChangeAt Go.RowKit

set_option maxRecDepth 100000 in
theorem arg_eql (w : World) : (binOp .eql 36 (.iface 43 (.int .i64 1)) (.iface 43 (.int .i64 1))).run Try.prog w = .ok (.bool true) w := by kernel_rfl
set_option maxRecDepth 100000 in
theorem arg_neq (w : World) : (binOp .neq 36 (.iface 43 (.int .i64 1)) (.iface 43 (.int .i64 1))).run Try.prog w = .ok (.bool false) w := by kernel_rfl
end Go.Proofs.Ythgnklgejlebhaa
