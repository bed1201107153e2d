/-
  Parts of objects compared (layer 12): imports, types, commands, exports, the three of Fix. No conditions.
-/
import Derived.Test.YtnnbcbabhcomjaaObjA
import Derived.Laws.StructEq
namespace Go.Proofs.Ytnnbcbabhcomjaa
open Go.ChangeShapes Go.WideShapes Go.ChangeAt Go.RowKit

theorem same_str (s z : ByteArray) (w : World) : (Op.equalIn 9999 9 (.string s) (.string z)).run Try.prog w = .ok (s.toList == z.toList) w := run_equalIn_string w 9998 _ s z Try.underlying9
theorem same_int (s z : Int) (w : World) : (Op.equalIn 9999 3 (.int .i64 s) (.int .i64 z)).run Try.prog w = .ok (s == z) w := run_equalIn_int w 9998 _ _ _ s z Try.underlying3
theorem same_u32 (s z : Int) (w : World) : (Op.equalIn 9999 33 (.int .u32 s) (.int .u32 z)).run Try.prog w = .ok (s == z) w := run_equalIn_int w 9998 _ _ _ s z Try.underlying33
end Go.Proofs.Ytnnbcbabhcomjaa
