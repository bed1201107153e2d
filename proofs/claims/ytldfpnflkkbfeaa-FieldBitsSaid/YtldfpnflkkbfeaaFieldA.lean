/-
  Contracts of package field's helpers and of Get, Put, Sign (layer 1). No conditions beyond those that each theorem names.
-/
import Derived.Test.YtldfpnflkkbfeaaRows
import Derived.Test.YtldfpnflkkbfeaaMathA
import Derived.WalkKit
import Derived.ProofKit
import Derived.OpenShut
import Derived.Deep.QuietTactic
import Derived.BigQuiet
import Derived.Lib.Hide
namespace Go.Proofs.Ytldfpnflkkbfeaa
open Go.ChangeShapes Go.WideShapes Go.ChangeAt Go.RowKit

theorem end_int {k : IntKind} {a b : Int} : a = b → Ending.returned (.int k a) = Ending.returned (.int k b) := congrArg fun z => Ending.returned (.int k z)
theorem end_bool {a b : Bool} : a = b → Ending.returned (.bool a) = Ending.returned (.bool b) := congrArg fun z => Ending.returned (.bool z)

/- the world but for draws -/
def Drawn (w w' : World) : Prop := ∃ k, w' = w.drewN k
theorem Drawn.refl (w : World) : Drawn w w := ⟨0, rfl⟩
theorem Drawn.trans {a b c : World} (h : Drawn a b) (g : Drawn b c) : Drawn a c := by
  obtain ⟨k, rfl⟩ := h
  obtain ⟨m, rfl⟩ := g
  exact ⟨k + m, World.drewN_drewN _ _ _⟩
theorem Drawn.more {a b : World} (h : Drawn a b) (n : Nat) : Drawn a (b.drewN n) := h.trans ⟨n, rfl⟩
theorem Drawn.of_n (a : World) (n : Nat) : Drawn a (a.drewN n) := ⟨n, rfl⟩
theorem Drawn.cell {a b : World} (h : Drawn a b) (p : Addr) : b.cell? p = a.cell? p := by obtain ⟨k, rfl⟩ := h; rfl
theorem Drawn.size {a b : World} (h : Drawn a b) : b.heap.size = a.heap.size := by obtain ⟨k, rfl⟩ := h; rfl
theorem Drawn.below {a b : World} (h : Drawn a b) (B : Nat) : Below B a b := by
  obtain ⟨k, rfl⟩ := h
  exact ⟨rfl, rfl, rfl, Nat.le_refl _, fun _ _ => rfl⟩
theorem quiet_drawn {P : Program} {f : FuncId} {args : Array Value} {w : World} {v : Value} {n : Nat} (h : Calls P f args (w.drewN n) fun e w' => e = .returned v ∧ Drawn (w.drewN n) w') :
    Calls P f args (w.drewN n) fun e w'' => e = .returned v ∧ ∃ m, w'' = w.drewN m := h.mono fun _ _ ⟨he, k, hm⟩ => ⟨he, n + k, by rw [hm, World.drewN_drewN]⟩
/- a contract that leaves the world alone leaves it alone but for draws -/
theorem still_drawn {P : Program} {f : FuncId} {args : Array Value} {w : World} {v : Value} : (Calls P f args w fun e w' => e = .returned v ∧ w = w') → Calls P f args w fun e w' => e = .returned v ∧ Drawn w w' :=
  fun h => h.mono fun _ _ g => ⟨g.1, g.2 ▸ Drawn.refl _⟩

theorem isWidth_yes (n : Int) (w : World) (h1 : 1 ≤ n) (h2 : n ≤ 32) :
    Calls Try.prog 20 #[.int .i64 n] w fun e w' => e = .returned (.bool true) ∧ w = w' := by
  go_enter Try.func20, Try.ntmps20
  go_wp2
  go_ret
  exact ⟨rfl, rfl⟩

theorem isWidth_no (n : Int) (w : World) (h : n < 1 ∨ 32 < n) :
    Calls Try.prog 20 #[.int .i64 n] w fun e w' => e = .returned (.bool false) ∧ w = w' := by
  rcases h with h | h
  all_goals
    go_enter Try.func20, Try.ntmps20
    go_wp2
    go_ret
    exact ⟨end_bool (by simp <;> omega), rfl⟩

theorem inWord_yes (ap n : Int) (w : World) (h1 : 1 ≤ n) (h2 : n ≤ 32) (h3 : 0 ≤ ap) (h4 : ap ≤ 32 - n) :
    Calls Try.prog 17 #[.int .i64 ap, .int .i64 n] w fun e w' => e = .returned (.bool true) ∧ w = w' := by
  go_enter Try.func17, Try.ntmps17
  go_wp2_with (go_at_call 20; refine (isWidth_yes _ _ (by omega) (by omega)).mono ?_; rintro e w' ⟨rfl, rfl⟩)
  go_ret
  exact ⟨rfl, rfl⟩

theorem inWord_no (ap n : Int) (w : World) (hlo : -9223372036854775808 ≤ n) (hhi : n ≤ 9223372036854775807) (h : n < 1 ∨ 32 < n ∨ ap < 0 ∨ 32 - n < ap) :
    Calls Try.prog 17 #[.int .i64 ap, .int .i64 n] w fun e w' => e = .returned (.bool false) ∧ w = w' := by
  by_cases hw : n < 1 ∨ 32 < n
  · go_enter Try.func17, Try.ntmps17
    go_wp2_with (go_at_call 20; refine (isWidth_no _ _ hw).mono ?_; rintro e w' ⟨rfl, rfl⟩)
    go_ret
    exact ⟨rfl, rfl⟩
  · have h1 : 1 ≤ n := by omega
    have h2 : n ≤ 32 := by omega
    by_cases ha : ap < 0
    · clear h hw
      go_enter Try.func17, Try.ntmps17
      go_wp2_with (go_at_call 20; refine (isWidth_yes _ _ (by omega) (by omega)).mono ?_; rintro e w' ⟨rfl, rfl⟩)
      go_ret
      exact ⟨rfl, rfl⟩
    · have h3 : 0 ≤ ap := by omega
      have h4 : 32 - n < ap := by omega
      clear h hw ha
      go_enter Try.func17, Try.ntmps17
      go_wp2_with (go_at_call 20; refine (isWidth_yes _ _ (by omega) (by omega)).mono ?_; rintro e w' ⟨rfl, rfl⟩)
      go_ret
      exact ⟨end_bool (by simp <;> omega), rfl⟩

set_option maxHeartbeats 400000 in
theorem lowest_any (n : Nat) (w : World) (h1 : 1 ≤ n) (h2 : n ≤ 32) :
    Calls Try.prog 18 #[.int .i64 n] w fun e w' => e = .returned (.int .u32 ((2 ^ n - 1 : Nat) : Int)) ∧ w = w' := by
  go_enter Try.func18, Try.ntmps18
  go_wp2
  go_ret
  exact ⟨end_int (ones_at ⟨n, by omega⟩), rfl⟩

set_option maxHeartbeats 400000 in
theorem get_yes (x a n : Nat) (w : World) (hx : x < 4294967296) (h1 : 1 ≤ n) (h4 : a + n ≤ 32) :
    Calls Try.prog 7 #[.int .u32 x, .int .i64 a, .int .i64 n] w fun e w' => e = .returned (.int .u32 (getN x a n : Nat)) ∧ Drawn w w' := by
  have h2 : n ≤ 32 := by omega
  go_enter Try.func7, Try.ntmps7
  go_wp2_with (go_at_call 17; refine (inWord_yes _ _ _ (by omega) (by omega) (by omega) (by omega)).mono ?_; rintro e w' ⟨rfl, rfl⟩)
  go_quiet ((go_at_call 18; exact quiet_drawn (still_drawn (lowest_any n _ h1 h2))))
  go_wp2
  go_ret
  exact ⟨end_int (get_form x a n hx h2), Drawn.of_n _ _⟩

theorem get_no (x : Nat) (a n : Int) (w : World) (hlo : -9223372036854775808 ≤ n) (hhi : n ≤ 9223372036854775807) (h : n < 1 ∨ 32 < n ∨ a < 0 ∨ 32 - n < a) :
    Calls Try.prog 7 #[.int .u32 x, .int .i64 a, .int .i64 n] w fun e w' => e = .returned (.int .u32 0) ∧ w = w' := by
  have H := Lib.hid h
  clear h
  go_enter Try.func7, Try.ntmps7
  go_wp2_with (go_at_call 17; refine (inWord_no _ _ _ hlo hhi H.out).mono ?_; rintro e w' ⟨rfl, rfl⟩)
  go_ret
  exact ⟨rfl, rfl⟩

set_option maxHeartbeats 400000 in
theorem put_yes (x a n v : Nat) (w : World) (hx : x < 4294967296) (hv : v < 4294967296) (h1 : 1 ≤ n) (h4 : a + n ≤ 32) :
    Calls Try.prog 9 #[.int .u32 x, .int .i64 a, .int .i64 n, .int .u32 v] w fun e w' => e = .returned (.int .u32 (putN x a n v : Nat)) ∧ Drawn w w' := by
  have h2 : n ≤ 32 := by omega
  go_enter Try.func9, Try.ntmps9
  go_wp2_with (first | (go_at_call 17; refine (inWord_yes _ _ _ (by omega) (by omega) (by omega) (by omega)).mono ?_; rintro e w' ⟨rfl, rfl⟩) | (go_at_call 18; refine (lowest_any n _ h1 h2).mono ?_; rintro e w' ⟨rfl, rfl⟩))
  go_quiet (fail)
  go_wp2
  go_ret
  exact ⟨end_int (put_form x a n v hx hv h4), Drawn.of_n _ _⟩

theorem put_no (x v : Nat) (a n : Int) (w : World) (hlo : -9223372036854775808 ≤ n) (hhi : n ≤ 9223372036854775807) (h : n < 1 ∨ 32 < n ∨ a < 0 ∨ 32 - n < a) :
    Calls Try.prog 9 #[.int .u32 x, .int .i64 a, .int .i64 n, .int .u32 v] w fun e w' => e = .returned (.int .u32 x) ∧ w = w' := by
  have H := Lib.hid h
  clear h
  go_enter Try.func9, Try.ntmps9
  go_wp2_with (go_at_call 17; refine (inWord_no _ _ _ hlo hhi H.out).mono ?_; rintro e w' ⟨rfl, rfl⟩)
  go_ret
  exact ⟨rfl, rfl⟩

set_option maxHeartbeats 400000 in
theorem sign_yes (v n : Nat) (w : World) (h1 : 1 ≤ n) (h2 : n ≤ 32) :
    Calls Try.prog 11 #[.int .u32 v, .int .i64 n] w fun e w' => e = .returned (.int .i32 (signI v n)) ∧ w = w' := by
  go_enter Try.func11, Try.ntmps11
  go_wp2_with (go_at_call 20; refine (isWidth_yes _ _ (by omega) (by omega)).mono ?_; rintro e w' ⟨rfl, rfl⟩)
  go_ret
  exact ⟨end_int (sign_form v n h1 h2), rfl⟩

theorem sign_no (v : Nat) (n : Int) (w : World) (h : n < 1 ∨ 32 < n) :
    Calls Try.prog 11 #[.int .u32 v, .int .i64 n] w fun e w' => e = .returned (.int .i32 0) ∧ w = w' := by
  have H := Lib.hid h
  clear h
  go_enter Try.func11, Try.ntmps11
  go_wp2_with (go_at_call 20; refine (isWidth_no _ _ H.out).mono ?_; rintro e w' ⟨rfl, rfl⟩)
  go_ret
  exact ⟨rfl, rfl⟩
end Go.Proofs.Ytldfpnflkkbfeaa
