/-
  Contracts of the document's answers for layer 1 (dowelref01: Get, Put). No conditions beyond those that each theorem names.
-/
import Derived.Test.YtldfpnflkkbfeaaRefS
namespace Go.Proofs.Ytldfpnflkkbfeaa
open Go.ChangeShapes Go.WideShapes Go.ChangeAt Go.RowKit

set_option maxHeartbeats 400000 in
theorem refGet_yes (x a n : Nat) (w : World) (hx : x < 4294967296) (h1 : 1 ≤ n) (h4 : a + n ≤ 32) :
    Calls Try.prog 8 #[.int .u32 x, .int .i64 a, .int .i64 n] w fun e w' => e = .returned (.int .u32 (getN x a n : Nat)) ∧ Drawn w w' := by
  have p1 := twoN_pos a
  have p2 := twoN_pos n
  have b1 : twoN a ≤ 4294967296 := twoN_le (m := 32) (by omega)
  have b2 : twoN n ≤ 4294967296 := twoN_le (m := 32) (by omega)
  go_enter Try.func8, Try.ntmps8
  go_wp2
  go_quiet ((go_at_call 19; exact quiet_drawn (still_drawn (two_any _ _ (by omega)))))
  go_wp2
  go_ret
  exact ⟨end_int (refGet_form x a n hx), Drawn.of_n _ _⟩

theorem refGet_no (x : Nat) (a n : Int) (w : World) (hlo : -9223372036854775808 ≤ n) (hhi : n ≤ 9223372036854775807) (h : n < 1 ∨ 32 < n ∨ a < 0 ∨ 32 - n < a) :
    Calls Try.prog 8 #[.int .u32 x, .int .i64 a, .int .i64 n] w fun e w' => e = .returned (.int .u32 0) ∧ w = w' := by
  by_cases h1 : n < 1
  · go_enter Try.func8, Try.ntmps8
    go_wp2
    go_ret
    exact ⟨rfl, rfl⟩
  · by_cases h2 : 32 < n
    · go_enter Try.func8, Try.ntmps8
      go_wp2
      go_ret
      exact ⟨rfl, rfl⟩
    · by_cases h3 : a < 0
      · go_enter Try.func8, Try.ntmps8
        go_wp2
        go_ret
        exact ⟨rfl, rfl⟩
      · have h4 : 32 - n < a := by omega
        clear h
        go_enter Try.func8, Try.ntmps8
        go_wp2
        go_ret
        exact ⟨rfl, rfl⟩

set_option maxHeartbeats 400000 in
theorem refPut_yes (x a n v : Nat) (w : World) (hx : x < 4294967296) (_hv : v < 4294967296) (h1 : 1 ≤ n) (h4 : a + n ≤ 32) :
    Calls Try.prog 10 #[.int .u32 x, .int .i64 a, .int .i64 n, .int .u32 v] w fun e w' => e = .returned (.int .u32 (putN x a n v : Nat)) ∧ Drawn w w' := by
  have p1 := twoN_pos a
  have p2 := twoN_pos n
  have b1 : twoN a ≤ 4294967296 := twoN_le (m := 32) (by omega)
  have b2 : twoN n ≤ 4294967296 := twoN_le (m := 32) (by omega)
  go_enter Try.func10, Try.ntmps10
  go_wp2_with (go_at_call 8; refine (refGet_yes _ _ _ _ hx h1 h4).mono ?_; rintro e w1 ⟨rfl, hw1⟩)
  go_quiet ((go_at_call 19; exact quiet_drawn (still_drawn (two_any _ _ (by omega)))))
  go_wp2
  go_ret
  exact ⟨end_int (refPut_form x a n v hx h4), hw1.more _⟩

theorem refPut_no (x v : Nat) (a n : Int) (w : World) (hlo : -9223372036854775808 ≤ n) (hhi : n ≤ 9223372036854775807) (h : n < 1 ∨ 32 < n ∨ a < 0 ∨ 32 - n < a) :
    Calls Try.prog 10 #[.int .u32 x, .int .i64 a, .int .i64 n, .int .u32 v] w fun e w' => e = .returned (.int .u32 x) ∧ w = w' := by
  by_cases h1 : n < 1
  · go_enter Try.func10, Try.ntmps10
    go_wp2
    go_ret
    exact ⟨rfl, rfl⟩
  · by_cases h2 : 32 < n
    · go_enter Try.func10, Try.ntmps10
      go_wp2
      go_ret
      exact ⟨rfl, rfl⟩
    · by_cases h3 : a < 0
      · go_enter Try.func10, Try.ntmps10
        go_wp2
        go_ret
        exact ⟨rfl, rfl⟩
      · have h4 : 32 - n < a := by omega
        clear h
        go_enter Try.func10, Try.ntmps10
        go_wp2
        go_ret
        exact ⟨rfl, rfl⟩

end Go.Proofs.Ytldfpnflkkbfeaa
