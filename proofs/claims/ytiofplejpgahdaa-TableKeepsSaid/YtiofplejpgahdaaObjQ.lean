/-
  Parts of objects compared (layer 12): imports, types, commands, exports, the three of Fix. No conditions.
-/
import Derived.Test.YtiofplejpgahdaaObjA
import Derived.Laws.StructEq
namespace Go.Proofs.Ytiofplejpgahdaa
open Go.ChangeShapes Go.WideShapes Go.ChangeAt Go.RowKit

theorem same_str (s z : ByteArray) (w : World) : (Op.equalIn 9999 9 (.string s) (.string z)).run Try.prog w = .ok (s.toList == z.toList) w := run_equalIn_string w 9998 _ s z Try.underlying9
theorem same_int (s z : Int) (w : World) : (Op.equalIn 9999 3 (.int .i64 s) (.int .i64 z)).run Try.prog w = .ok (s == z) w := run_equalIn_int w 9998 _ _ _ s z Try.underlying3
theorem same_u32 (s z : Int) (w : World) : (Op.equalIn 9999 34 (.int .u32 s) (.int .u32 z)).run Try.prog w = .ok (s == z) w := run_equalIn_int w 9998 _ _ _ s z Try.underlying34
set_option maxRecDepth 100000 in
theorem neq_cmd (a b : ByteArray) (x y : Int) (w : World) : (binOp .neq 67 (.agg #[.string a, .int .i64 x]) (.agg #[.string b, .int .i64 y])).run Try.prog w = .ok (.bool (!(a.toList == b.toList && x == y))) w := by
  have h1 : ∀ s z, (part 9 #[.string s, .int .i64 z] 0).run Try.prog w = .ok (.string s) w := fun s z => by kernel_rfl
  have h2 : ∀ s z, (part 3 #[.string s, .int .i64 z] 1).run Try.prog w = .ok (.int .i64 z) w := fun s z => by kernel_rfl
  rw [run_neq_struct, run_equalIn_struct w 9999 _ _ _ (by kernel_rfl) (by kernel_rfl)]
  simp only [Program.fieldsOf, Try.underlying67]
  cases ha : (a.toList == b.toList) <;> cases hx : (x == y) <;> simp [Op.eqFields, h1, h2, same_str, same_int, ha, hx, Result.andThen]
end Go.Proofs.Ytiofplejpgahdaa
