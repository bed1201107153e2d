/-
  dowellaw00.Code of any error's number (errV). No conditions beyond those that each theorem names.
-/
import Derived.Test.YtiofplejpgahdaaCode
import Derived.Test.YtiofplejpgahdaaErrV
namespace Go.Proofs.Ytiofplejpgahdaa
open Go.ChangeShapes Go.WideShapes Go.ChangeAt Go.RowKit

theorem code_any (c : Nat) (w : World) (h : c ≤ 13) : Calls Try.prog 11 #[errV c] w fun e w' => e = .returned (.int .i64 (c : Nat)) ∧ w = w' := by
  cases c with
  | zero => exact code_nil w
  | succ n => exact code_at (n + 1) w (by omega) h
end Go.Proofs.Ytiofplejpgahdaa
