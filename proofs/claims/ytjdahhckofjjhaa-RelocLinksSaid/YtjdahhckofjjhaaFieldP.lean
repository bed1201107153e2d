/-
  Contracts of field.Put (layer 1). No conditions beyond those that each theorem names.
-/
import Derived.Test.YtjdahhckofjjhaaFieldA
namespace Go.Proofs.Ytjdahhckofjjhaa
open Go.ChangeShapes Go.WideShapes Go.ChangeAt Go.RowKit

set_option maxHeartbeats 400000 in
theorem put_yes (x a n v : Nat) (w : World) (hx : x < 4294967296) (hv : v < 4294967296) (h1 : 1 ≤ n) (h4 : a + n ≤ 32) :
    Calls Try.prog 22 #[.int .u32 x, .int .i64 a, .int .i64 n, .int .u32 v] w fun e w' => e = .returned (.int .u32 (putN x a n v : Nat)) ∧ Drawn w w' := by
  have h2 : n ≤ 32 := by omega
  go_enter Try.func22, Try.ntmps22
  go_wp2_with (first | (go_at_call 23; refine (inWord_yes _ _ _ (by omega) (by omega) (by omega) (by omega)).mono ?_; rintro e w' ⟨rfl, rfl⟩) | (go_at_call 24; refine (lowest_any n _ h1 h2).mono ?_; rintro e w' ⟨rfl, rfl⟩))
  go_quiet (fail)
  go_wp2
  go_ret
  exact ⟨end_int (put_form x a n v hx hv h4), Drawn.of_n _ _⟩

theorem put_no (x v : Nat) (a n : Int) (w : World) (hlo : -9223372036854775808 ≤ n) (hhi : n ≤ 9223372036854775807) (h : n < 1 ∨ 32 < n ∨ a < 0 ∨ 32 - n < a) :
    Calls Try.prog 22 #[.int .u32 x, .int .i64 a, .int .i64 n, .int .u32 v] w fun e w' => e = .returned (.int .u32 x) ∧ w = w' := by
  have H := Lib.hid h
  clear h
  go_enter Try.func22, Try.ntmps22
  go_wp2_with (go_at_call 23; refine (inWord_no _ _ _ hlo hhi H.out).mono ?_; rintro e w' ⟨rfl, rfl⟩)
  go_ret
  exact ⟨rfl, rfl⟩
end Go.Proofs.Ytjdahhckofjjhaa
