/-
  Contracts of alu.Do (Add, Sub, Xor, Div, an operation that is none) and of alu.Meets (layer 3). No conditions beyond those that each theorem names.
-/
import Derived.Test.YtahmaecagheccaaRows
import Derived.WalkKit
import Derived.ProofKit
import Derived.OpenShut
import Derived.Deep.QuietTactic
import Derived.BigQuiet
import Derived.Lib.Hide
namespace Go.Proofs.Ytahmaecagheccaa
open Go.ChangeShapes Go.WideShapes Go.ChangeAt Go.RowKit

theorem end_bool {a b : Bool} : a = b → Ending.returned (.bool a) = Ending.returned (.bool b) := congrArg fun z => Ending.returned (.bool z)

/- one of the bits of two numbers of 32 bits -/
def xorI (x y : Int) : Int := IntKind.i32.wrap ((BitVec.ofInt 32 x ^^^ BitVec.ofInt 32 y).toNat)

/- what Do answers: a number, a trap -/
abbrev done (n t : Int) : Ending := .returned (.tuple #[.int .i32 n, .int .i64 t])

theorem do_add (x y : Int) (w : World) : Calls Try.prog 5 #[.int .i64 2, .int .i32 x, .int .i32 y] w fun e w' => e = done (wrap32 (x + y)) 0 ∧ w = w' := by
  go_enter Try.func5, Try.ntmps5
  go_wp2
  go_ret2
  exact ⟨rfl, rfl⟩

theorem do_sub (x y : Int) (w : World) : Calls Try.prog 5 #[.int .i64 3, .int .i32 x, .int .i32 y] w fun e w' => e = done (wrap32 (x - y)) 0 ∧ w = w' := by
  go_enter Try.func5, Try.ntmps5
  go_wp2
  go_ret2
  exact ⟨rfl, rfl⟩

theorem do_xor (x y : Int) (w : World) : Calls Try.prog 5 #[.int .i64 8, .int .i32 x, .int .i32 y] w fun e w' => e = done (xorI x y) 0 ∧ w = w' := by
  go_enter Try.func5, Try.ntmps5
  go_wp2
  go_ret2
  exact ⟨by unfold xorI; rfl, rfl⟩

theorem divide_any (x y : Int) (w : World) (hy : y ≠ 0) : Calls Try.prog 7 #[.int .i32 x, .int .i32 y] w fun e w' => e = done (wrap32 (x.tdiv y)) 0 ∧ w = w' := by
  go_enter Try.func7, Try.ntmps7
  go_wp2
  go_ret2
  exact ⟨rfl, rfl⟩

theorem divide_zero (x : Int) (w : World) : Calls Try.prog 7 #[.int .i32 x, .int .i32 0] w fun e w' => e = done 0 4 ∧ w = w' := by
  go_enter Try.func7, Try.ntmps7
  go_wp2
  go_ret2
  exact ⟨rfl, rfl⟩

theorem do_div (x y : Int) (w : World) (hy : y ≠ 0) : Calls Try.prog 5 #[.int .i64 5, .int .i32 x, .int .i32 y] w fun e w' => e = done (wrap32 (x.tdiv y)) 0 ∧ w = w' := by
  go_enter Try.func5, Try.ntmps5
  go_wp2_with (go_at_call 7; refine (divide_any _ _ _ hy).mono ?_; rintro e w' ⟨rfl, rfl⟩)
  go_ret2
  exact ⟨rfl, rfl⟩

theorem do_div_zero (x : Int) (w : World) : Calls Try.prog 5 #[.int .i64 5, .int .i32 x, .int .i32 0] w fun e w' => e = done 0 4 ∧ w = w' := by
  go_enter Try.func5, Try.ntmps5
  go_wp2_with (go_at_call 7; refine (divide_zero _ _).mono ?_; rintro e w' ⟨rfl, rfl⟩)
  go_ret2
  exact ⟨rfl, rfl⟩

theorem do_none (x y : Int) (w : World) : Calls Try.prog 5 #[.int .i64 0, .int .i32 x, .int .i32 y] w fun e w' => e = done 0 1 ∧ w = w' := by
  go_enter Try.func5, Try.ntmps5
  go_wp2
  go_ret2
  exact ⟨rfl, rfl⟩

theorem meets_same (x y : Int) (w : World) : Calls Try.prog 6 #[.int .i64 16, .int .i32 x, .int .i32 y] w fun e w' => e = .returned (.bool (x == y)) ∧ w = w' := by
  go_enter Try.func6, Try.ntmps6
  go_wp2
  go_ret
  exact ⟨rfl, rfl⟩

theorem meets_other (x y : Int) (w : World) : Calls Try.prog 6 #[.int .i64 17, .int .i32 x, .int .i32 y] w fun e w' => e = .returned (.bool (x != y)) ∧ w = w' := by
  go_enter Try.func6, Try.ntmps6
  go_wp2
  go_ret
  exact ⟨rfl, rfl⟩

theorem meets_less (x y : Int) (w : World) : Calls Try.prog 6 #[.int .i64 18, .int .i32 x, .int .i32 y] w fun e w' => e = .returned (.bool (decide (x < y))) ∧ w = w' := by
  go_enter Try.func6, Try.ntmps6
  go_wp2
  go_ret
  exact ⟨rfl, rfl⟩

theorem meets_jump (x y : Int) (w : World) : Calls Try.prog 6 #[.int .i64 19, .int .i32 x, .int .i32 y] w fun e w' => e = .returned (.bool true) ∧ w = w' := by
  go_enter Try.func6, Try.ntmps6
  go_wp2
  go_ret
  exact ⟨rfl, rfl⟩

/- the numbers -/
theorem add_back (x y : Int) (h1 : -2147483648 ≤ x) (h2 : x ≤ 2147483647) : wrap32 (wrap32 (x + y) - y) = x := by unfold wrap32; omega

theorem ofInt_wrap (b : BitVec 32) : BitVec.ofInt 32 (IntKind.i32.wrap b.toNat) = b := by
  apply BitVec.eq_of_toNat_eq
  rw [BitVec.toNat_ofInt, IntKind.wrap_i32]
  have := b.isLt
  omega

theorem wrap_ofInt (x : Int) (h1 : -2147483648 ≤ x) (h2 : x ≤ 2147483647) : IntKind.i32.wrap (BitVec.ofInt 32 x).toNat = x := by
  rw [BitVec.toNat_ofInt, IntKind.wrap_i32]
  omega

theorem xor_back (x y : Int) (h1 : -2147483648 ≤ x) (h2 : x ≤ 2147483647) : xorI (xorI x y) y = x := by
  unfold xorI
  rw [ofInt_wrap, BitVec.xor_assoc, BitVec.xor_self, BitVec.xor_zero]
  exact wrap_ofInt x h1 h2
end Go.Proofs.Ytahmaecagheccaa
