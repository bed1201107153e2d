/-
  Two errors that are ErrArg, held against each other. Nothing of the program but the numbers of the types error and api.Code.
-/
import Derived.Test.YtkkjfbpflfknpaaBase
namespace Go.Proofs.Ytkkjfbpflfknpaa
open Go.ChangeShapes Go.WideShapes Go.ChangeAt Go.RowKit

set_option maxRecDepth 100000 in
theorem arg_eql (w : World) : (binOp .eql 31 (.iface 57 (.int .i64 1)) (.iface 57 (.int .i64 1))).run Try.prog w = .ok (.bool true) w := by kernel_rfl
set_option maxRecDepth 100000 in
theorem arg_neq (w : World) : (binOp .neq 31 (.iface 57 (.int .i64 1)) (.iface 57 (.int .i64 1))).run Try.prog w = .ok (.bool false) w := by kernel_rfl
/- ErrForm -/
abbrev formV : Value := .iface 57 (.int .i64 4)
set_option maxRecDepth 100000 in
theorem form_eql (w : World) : (binOp .eql 31 (.iface 57 (.int .i64 4)) (.iface 57 (.int .i64 4))).run Try.prog w = .ok (.bool true) w := by kernel_rfl
set_option maxRecDepth 100000 in
theorem form_neq (w : World) : (binOp .neq 31 (.iface 57 (.int .i64 4)) (.iface 57 (.int .i64 4))).run Try.prog w = .ok (.bool false) w := by kernel_rfl
end Go.Proofs.Ytkkjfbpflfknpaa
