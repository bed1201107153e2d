/-
  Contracts of package field's helpers and of Get, Sign (layer 1). No conditions beyond those that each theorem names.
-/
import Derived.Test.YtkkjfbpflfknpaaBase
import Derived.Test.YtkkjfbpflfknpaaMathA
namespace Go.Proofs.Ytkkjfbpflfknpaa
open Go.ChangeShapes Go.WideShapes Go.ChangeAt Go.RowKit

set_option maxRecDepth 100000 in
theorem isWidth_yes (n : Int) (w : World) (h1 : 1 ≤ n) (h2 : n ≤ 32) :
    Calls Try.prog 78 #[.int .i64 n] w fun e w' => e = .returned (.bool true) ∧ w = w' := by
  go_enter Try.func78, Try.ntmps78
  go_wp2
  go_ret
  exact ⟨rfl, rfl⟩

set_option maxRecDepth 100000 in
theorem isWidth_no (n : Int) (w : World) (h : n < 1 ∨ 32 < n) :
    Calls Try.prog 78 #[.int .i64 n] w fun e w' => e = .returned (.bool false) ∧ w = w' := by
  rcases h with h | h
  all_goals
    go_enter Try.func78, Try.ntmps78
    go_wp2
    go_ret
    exact ⟨end_bool (by simp <;> omega), rfl⟩

set_option maxRecDepth 100000 in
theorem inWord_yes (ap n : Int) (w : World) (h1 : 1 ≤ n) (h2 : n ≤ 32) (h3 : 0 ≤ ap) (h4 : ap ≤ 32 - n) :
    Calls Try.prog 74 #[.int .i64 ap, .int .i64 n] w fun e w' => e = .returned (.bool true) ∧ w = w' := by
  go_enter Try.func74, Try.ntmps74
  go_wp2_with (go_at_call 78; refine (isWidth_yes _ _ (by omega) (by omega)).mono ?_; rintro e w' ⟨rfl, rfl⟩)
  go_ret
  exact ⟨rfl, rfl⟩

set_option maxRecDepth 100000 in
theorem inWord_no (ap n : Int) (w : World) (hlo : -9223372036854775808 ≤ n) (hhi : n ≤ 9223372036854775807) (h : n < 1 ∨ 32 < n ∨ ap < 0 ∨ 32 - n < ap) :
    Calls Try.prog 74 #[.int .i64 ap, .int .i64 n] w fun e w' => e = .returned (.bool false) ∧ w = w' := by
  by_cases hw : n < 1 ∨ 32 < n
  · go_enter Try.func74, Try.ntmps74
    go_wp2_with (go_at_call 78; refine (isWidth_no _ _ hw).mono ?_; rintro e w' ⟨rfl, rfl⟩)
    go_ret
    exact ⟨rfl, rfl⟩
  · have h1 : 1 ≤ n := by omega
    have h2 : n ≤ 32 := by omega
    by_cases ha : ap < 0
    · clear h hw
      go_enter Try.func74, Try.ntmps74
      go_wp2_with (go_at_call 78; refine (isWidth_yes _ _ (by omega) (by omega)).mono ?_; rintro e w' ⟨rfl, rfl⟩)
      go_ret
      exact ⟨rfl, rfl⟩
    · have h3 : 0 ≤ ap := by omega
      have h4 : 32 - n < ap := by omega
      clear h hw ha
      go_enter Try.func74, Try.ntmps74
      go_wp2_with (go_at_call 78; refine (isWidth_yes _ _ (by omega) (by omega)).mono ?_; rintro e w' ⟨rfl, rfl⟩)
      go_ret
      exact ⟨end_bool (by simp <;> omega), rfl⟩

set_option maxRecDepth 100000 in
set_option maxHeartbeats 400000 in
theorem lowest_any (n : Nat) (w : World) (h1 : 1 ≤ n) (h2 : n ≤ 32) :
    Calls Try.prog 75 #[.int .i64 n] w fun e w' => e = .returned (.int .u32 ((2 ^ n - 1 : Nat) : Int)) ∧ w = w' := by
  go_enter Try.func75, Try.ntmps75
  go_wp2
  go_ret
  exact ⟨end_int (ones_at ⟨n, by omega⟩), rfl⟩

set_option maxRecDepth 100000 in
set_option maxHeartbeats 400000 in
theorem get_yes (x a n : Nat) (w : World) (hx : x < 4294967296) (h1 : 1 ≤ n) (h4 : a + n ≤ 32) :
    Calls Try.prog 69 #[.int .u32 x, .int .i64 a, .int .i64 n] w fun e w' => e = .returned (.int .u32 (getN x a n : Nat)) ∧ Drawn w w' := by
  have h2 : n ≤ 32 := by omega
  go_enter Try.func69, Try.ntmps69
  go_wp2_with (go_at_call 74; refine (inWord_yes _ _ _ (by omega) (by omega) (by omega) (by omega)).mono ?_; rintro e w' ⟨rfl, rfl⟩)
  go_quiet ((go_at_call 75; exact quiet_drawn (still_drawn (lowest_any n _ h1 h2))))
  go_wp2
  go_ret
  exact ⟨end_int (get_form x a n hx h2), Drawn.of_n _ _⟩

set_option maxRecDepth 100000 in
theorem get_no (x : Nat) (a n : Int) (w : World) (hlo : -9223372036854775808 ≤ n) (hhi : n ≤ 9223372036854775807) (h : n < 1 ∨ 32 < n ∨ a < 0 ∨ 32 - n < a) :
    Calls Try.prog 69 #[.int .u32 x, .int .i64 a, .int .i64 n] w fun e w' => e = .returned (.int .u32 0) ∧ w = w' := by
  have H := Lib.hid h
  clear h
  go_enter Try.func69, Try.ntmps69
  go_wp2_with (go_at_call 74; refine (inWord_no _ _ _ hlo hhi H.out).mono ?_; rintro e w' ⟨rfl, rfl⟩)
  go_ret
  exact ⟨rfl, rfl⟩

set_option maxRecDepth 100000 in
set_option maxHeartbeats 400000 in
theorem sign_yes (v n : Nat) (w : World) (h1 : 1 ≤ n) (h2 : n ≤ 32) :
    Calls Try.prog 72 #[.int .u32 v, .int .i64 n] w fun e w' => e = .returned (.int .i32 (signI v n)) ∧ w = w' := by
  go_enter Try.func72, Try.ntmps72
  go_wp2_with (go_at_call 78; refine (isWidth_yes _ _ (by omega) (by omega)).mono ?_; rintro e w' ⟨rfl, rfl⟩)
  go_ret
  exact ⟨end_int (sign_form v n h1 h2), rfl⟩

set_option maxRecDepth 100000 in
theorem sign_no (v : Nat) (n : Int) (w : World) (h : n < 1 ∨ 32 < n) :
    Calls Try.prog 72 #[.int .u32 v, .int .i64 n] w fun e w' => e = .returned (.int .i32 0) ∧ w = w' := by
  have H := Lib.hid h
  clear h
  go_enter Try.func72, Try.ntmps72
  go_wp2_with (go_at_call 78; refine (isWidth_no _ _ H.out).mono ?_; rintro e w' ⟨rfl, rfl⟩)
  go_ret
  exact ⟨rfl, rfl⟩
end Go.Proofs.Ytkkjfbpflfknpaa
