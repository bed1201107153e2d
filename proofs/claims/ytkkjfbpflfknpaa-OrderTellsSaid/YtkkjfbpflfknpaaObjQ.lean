/-
  Parts of objects compared (layer 12): imports, types, commands, exports, the three of Fix. No conditions.
-/
import Derived.Test.YtkkjfbpflfknpaaObjA
import Derived.Laws.StructEq
namespace Go.Proofs.Ytkkjfbpflfknpaa
open Go.ChangeShapes Go.WideShapes Go.ChangeAt Go.RowKit

theorem same_str (s z : ByteArray) (w : World) : (Op.equalIn 9999 9 (.string s) (.string z)).run Try.prog w = .ok (s.toList == z.toList) w := run_equalIn_string w 9998 _ s z Try.underlying9
theorem same_int (s z : Int) (w : World) : (Op.equalIn 9999 3 (.int .i64 s) (.int .i64 z)).run Try.prog w = .ok (s == z) w := run_equalIn_int w 9998 _ _ _ s z Try.underlying3
theorem same_u32 (s z : Int) (w : World) : (Op.equalIn 9999 26 (.int .u32 s) (.int .u32 z)).run Try.prog w = .ok (s == z) w := run_equalIn_int w 9998 _ _ _ s z Try.underlying26
set_option maxRecDepth 100000 in
theorem neq_imp (a b : ByteArray) (x y : Int) (w : World) : (binOp .neq 54 (.agg #[.string a, .int .u32 x]) (.agg #[.string b, .int .u32 y])).run Try.prog w = .ok (.bool (!(a.toList == b.toList && x == y))) w := by
  have h1 : ∀ s z, (part 9 #[.string s, .int .u32 z] 0).run Try.prog w = .ok (.string s) w := fun s z => by kernel_rfl
  have h2 : ∀ s z, (part 26 #[.string s, .int .u32 z] 1).run Try.prog w = .ok (.int .u32 z) w := fun s z => by kernel_rfl
  rw [run_neq_struct, run_equalIn_struct w 9999 _ _ _ (by kernel_rfl) (by kernel_rfl)]
  simp only [Program.fieldsOf, Try.underlying54]
  cases ha : (a.toList == b.toList) <;> cases hx : (x == y) <;> simp [Op.eqFields, h1, h2, same_str, same_u32, ha, hx, Result.andThen]
set_option maxRecDepth 100000 in
theorem neq_cmd (a b : ByteArray) (x y : Int) (w : World) : (binOp .neq 71 (.agg #[.string a, .int .i64 x]) (.agg #[.string b, .int .i64 y])).run Try.prog w = .ok (.bool (!(a.toList == b.toList && x == y))) w := by
  have h1 : ∀ s z, (part 9 #[.string s, .int .i64 z] 0).run Try.prog w = .ok (.string s) w := fun s z => by kernel_rfl
  have h2 : ∀ s z, (part 3 #[.string s, .int .i64 z] 1).run Try.prog w = .ok (.int .i64 z) w := fun s z => by kernel_rfl
  rw [run_neq_struct, run_equalIn_struct w 9999 _ _ _ (by kernel_rfl) (by kernel_rfl)]
  simp only [Program.fieldsOf, Try.underlying71]
  cases ha : (a.toList == b.toList) <;> cases hx : (x == y) <;> simp [Op.eqFields, h1, h2, same_str, same_int, ha, hx, Result.andThen]
set_option maxRecDepth 100000 in
theorem neq_exp (a b x y : Int) (w : World) : (binOp .neq 73 (.agg #[.int .i64 a, .int .i64 x]) (.agg #[.int .i64 b, .int .i64 y])).run Try.prog w = .ok (.bool (!(a == b && x == y))) w := by
  have h1 : ∀ s z, (part 3 #[.int .i64 s, .int .i64 z] 0).run Try.prog w = .ok (.int .i64 s) w := fun s z => by kernel_rfl
  have h2 : ∀ s z, (part 3 #[.int .i64 s, .int .i64 z] 1).run Try.prog w = .ok (.int .i64 z) w := fun s z => by kernel_rfl
  rw [run_neq_struct, run_equalIn_struct w 9999 _ _ _ (by kernel_rfl) (by kernel_rfl)]
  simp only [Program.fieldsOf, Try.underlying73]
  cases ha : (a == b) <;> cases hx : (x == y) <;> simp [Op.eqFields, h1, h2, same_int, ha, hx, Result.andThen]
set_option maxRecDepth 100000 in
theorem neq_type (a b x y u v : Int) (w : World) : (binOp .neq 69 (.agg #[.int .i64 a, .int .i64 x, .int .i64 u]) (.agg #[.int .i64 b, .int .i64 y, .int .i64 v])).run Try.prog w = .ok (.bool (!(a == b && x == y && u == v))) w := by
  have h1 : ∀ s z r, (part 3 #[.int .i64 s, .int .i64 z, .int .i64 r] 0).run Try.prog w = .ok (.int .i64 s) w := fun s z r => by kernel_rfl
  have h2 : ∀ s z r, (part 3 #[.int .i64 s, .int .i64 z, .int .i64 r] 1).run Try.prog w = .ok (.int .i64 z) w := fun s z r => by kernel_rfl
  have h3 : ∀ s z r, (part 3 #[.int .i64 s, .int .i64 z, .int .i64 r] 2).run Try.prog w = .ok (.int .i64 r) w := fun s z r => by kernel_rfl
  rw [run_neq_struct, run_equalIn_struct w 9999 _ _ _ (by kernel_rfl) (by kernel_rfl)]
  simp only [Program.fieldsOf, Try.underlying69]
  cases ha : (a == b) <;> cases hx : (x == y) <;> cases hu : (u == v) <;> simp [Op.eqFields, h1, h2, h3, same_int, ha, hx, hu, Result.andThen]
set_option maxRecDepth 100000 in
theorem neq_fix (a b x y u v : Int) (w : World) : (binOp .neq 46 (.agg #[.int .i64 a, .int .i64 x, .int .i64 u]) (.agg #[.int .i64 b, .int .i64 y, .int .i64 v])).run Try.prog w = .ok (.bool (!(a == b && x == y && u == v))) w := by
  have h1 : ∀ s z r, (part 3 #[.int .i64 s, .int .i64 z, .int .i64 r] 0).run Try.prog w = .ok (.int .i64 s) w := fun s z r => by kernel_rfl
  have h2 : ∀ s z r, (part 3 #[.int .i64 s, .int .i64 z, .int .i64 r] 1).run Try.prog w = .ok (.int .i64 z) w := fun s z r => by kernel_rfl
  have h3 : ∀ s z r, (part 3 #[.int .i64 s, .int .i64 z, .int .i64 r] 2).run Try.prog w = .ok (.int .i64 r) w := fun s z r => by kernel_rfl
  have hz : (sizeOf 3).run Try.prog w = .ok 1 w := by kernel_rfl
  have hr : List.range' 0 3 = [0, 1, 2] := rfl
  rw [run_neq_struct]
  unfold Op.equalIn
  rw [Sem.run_bind, run_underlying Try.underlying46]
  cases ha : (a == b) <;> cases hx : (x == y) <;> cases hu : (u == v) <;> simp [Result.andThen, hz, hr, h1, h2, h3, same_int, ha, hx, hu]
end Go.Proofs.Ytkkjfbpflfknpaa
