/-
  An error's number as a value. Nothing of the program but the number of a type.
-/
import Derived.Test.YtkkjfbpflfknpaaBase
namespace Go.Proofs.Ytkkjfbpflfknpaa

def errV (c : Nat) : Value := match c with
  | 0 => .nilIface
  | n + 1 => .iface 57 (.int .i64 ((n + 1 : Nat) : Int))

theorem errV_zero : errV 0 = .nilIface := rfl
theorem errV_succ (n : Nat) : errV (n + 1) = .iface 57 (.int .i64 ((n + 1 : Nat) : Int)) := rfl
end Go.Proofs.Ytkkjfbpflfknpaa
