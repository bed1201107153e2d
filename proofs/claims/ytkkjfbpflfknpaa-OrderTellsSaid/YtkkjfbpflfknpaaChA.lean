/-
  The program's small functions of a chain (layer 13: isIn, part, refers, fits). No conditions beyond those that each theorem names.
-/
import Derived.Test.YtkkjfbpflfknpaaChM
import Derived.Test.YtkkjfbpflfknpaaInsE
import Derived.Test.YtkkjfbpflfknpaaGrow
namespace Go.Proofs.Ytkkjfbpflfknpaa
open Go.ChangeShapes Go.WideShapes Go.ChangeAt Go.RowKit

set_option maxRecDepth 100000 in
theorem isIn_yes (a : Option Addr) (n cap k : Nat) (w : World) (h : k < n) :
    Calls Try.prog 58 #[.slice a n cap, .int .i64 k] w fun e w' => e = .returned (.bool true) ∧ w = w' := by
  have i1 : (k : Int) < (n : Int) := by omega
  have i2 : (0 : Int) ≤ (k : Int) := by omega
  go_enter Try.func58, Try.ntmps58
  go_wp2_with fail
  go_ret
  exact ⟨end_bool (by simp <;> omega), rfl⟩

set_option maxRecDepth 100000 in
theorem isIn_no (a : Option Addr) (n cap : Nat) (k : Int) (w : World) (h : k < 0 ∨ (n : Int) ≤ k) :
    Calls Try.prog 58 #[.slice a n cap, .int .i64 k] w fun e w' => e = .returned (.bool false) ∧ w = w' := by
  by_cases h1 : 0 ≤ k
  · have h2 : ¬ k < (n : Int) := by omega
    have h3 : decide (k < (n : Int)) = false := by simp; omega
    clear h
    go_enter Try.func58, Try.ntmps58
    go_wp2_with fail
    go_ret
    exact ⟨end_bool (by simp <;> omega), rfl⟩
  · have h2 : k < 0 := by omega
    clear h h1
    go_enter Try.func58, Try.ntmps58
    go_wp2_with fail
    go_ret
    exact ⟨end_bool (by simp <;> omega), rfl⟩

set_option maxRecDepth 100000 in
theorem part_any (x a n : Nat) (w : World) (hx : x < 4294967296) (h1 : 1 ≤ n) (h4 : a + n ≤ 32) :
    Calls Try.prog 60 #[.int .u32 x, .int .i64 a, .int .i64 n] w fun e w' => e = .returned (.int .i64 (getN x a n : Nat)) ∧ Drawn w w' := by
  have b : getN x a n < 4294967296 := Nat.lt_of_lt_of_le (getN_lt x a n) (Nat.pow_le_pow_right (by decide : 0 < 2) (show n ≤ 32 by omega))
  have H := Lib.hid (get_yes x a n w hx h1 h4)
  clear hx h1 h4
  generalize getN x a n = y at *
  go_enter Try.func60, Try.ntmps60
  go_wp2_with fail
  refine H.out.mono ?_
  rintro e w1 ⟨rfl, hw1⟩
  have R := Lib.hid hw1
  clear hw1
  go_wp2_with fail
  go_ret
  exact ⟨rfl, R.out⟩

set_option maxRecDepth 100000 in
set_option maxHeartbeats 400000 in
theorem refers_yes (x : Nat) (op : Int) (w : World) (hx : x < 4294967296) (h : Refers x op) :
    Calls Try.prog 59 #[.int .u32 x, .int .i64 op] w fun e w' => e = .returned (.bool true) ∧ Below w.heap.size w w' := by
  have H := Lib.hid (insGet_yes x w hx h.1)
  have h2 := h.2.1
  have h3 := h.2.2
  clear h hx
  generalize ((getN x 26 6 : Nat) : Int) = o at *
  generalize ((getN x 22 4 : Nat) : Int) = a at *
  generalize ((getN x 18 4 : Nat) : Int) = b at *
  generalize signI (getN x 0 18) 18 = n at *
  subst h2 h3
  go_enter Try.func59, Try.ntmps59
  go_wp2_with fail
  refine H.out.mono ?_
  rintro e w1 ⟨rfl, hb⟩
  have R : Hid (Below w.heap.size w (w1.alloc (.cells #[.int .i64 o, .int .i64 a, .int .i64 0, .int .i64 n] 77))) := below_on hb ((Below.refl _ _).alloc (Nat.le_refl _) _) hb.size
  clear hb
  go_wp2_with fail
  go_ret
  exact ⟨rfl, R.out⟩

set_option maxRecDepth 100000 in
set_option maxHeartbeats 1000000 in
theorem refers_no (x : Nat) (op : Int) (w : World) (hx : x < 4294967296) (h : ¬ Refers x op) :
    Calls Try.prog 59 #[.int .u32 x, .int .i64 op] w fun e w' => e = .returned (.bool false) ∧ Below w.heap.size w w' := by
  by_cases hm : MayP (getN x 26 6 : Nat) (getN x 22 4 : Nat) (getN x 18 4 : Nat) (signI (getN x 0 18) 18)
  · have H := Lib.hid (insGet_yes x w hx hm)
    have h2 : ¬ (((getN x 26 6 : Nat) : Int) = op ∧ ((getN x 18 4 : Nat) : Int) = 0) := fun g => h ⟨hm, g.1, g.2⟩
    clear h hx hm
    generalize ((getN x 26 6 : Nat) : Int) = o at *
    generalize ((getN x 22 4 : Nat) : Int) = a at *
    generalize ((getN x 18 4 : Nat) : Int) = b at *
    generalize signI (getN x 0 18) 18 = n at *
    by_cases ho : o = op
    · have hb : ¬ b = 0 := fun g => h2 ⟨ho, g⟩
      have hb2 : (b == 0) = false := by simp [hb]
      subst ho
      clear h2
      go_enter Try.func59, Try.ntmps59
      go_wp2_with fail
      refine H.out.mono ?_
      rintro e w1 ⟨rfl, hb⟩
      have R : Hid (Below w.heap.size w (w1.alloc (.cells #[.int .i64 o, .int .i64 a, .int .i64 b, .int .i64 n] 77))) := below_on hb ((Below.refl _ _).alloc (Nat.le_refl _) _) hb.size
      clear hb
      go_wp2_with fail
      go_ret
      exact ⟨rfl, R.out⟩
    · have ho2 : (o == op) = false := by simp [ho]
      clear h2
      go_enter Try.func59, Try.ntmps59
      go_wp2_with fail
      refine H.out.mono ?_
      rintro e w1 ⟨rfl, hb⟩
      have R : Hid (Below w.heap.size w (w1.alloc (.cells #[.int .i64 o, .int .i64 a, .int .i64 b, .int .i64 n] 77))) := below_on hb ((Below.refl _ _).alloc (Nat.le_refl _) _) hb.size
      clear hb
      go_wp2_with fail
      go_ret
      exact ⟨rfl, R.out⟩
  · have H := Lib.hid (insGet_no x w hx hm)
    clear h hx hm
    go_enter Try.func59, Try.ntmps59
    go_wp2_with fail
    refine H.out.mono ?_
    rintro e w1 ⟨rfl, hb⟩
    have R : Hid (Below w.heap.size w (w1.alloc (.cells #[.int .i64 0, .int .i64 0, .int .i64 0, .int .i64 0] 77))) := below_on hb ((Below.refl _ _).alloc (Nat.le_refl _) _) hb.size
    clear hb
    go_wp2_with fail
    go_ret
    exact ⟨rfl, R.out⟩

end Go.Proofs.Ytkkjfbpflfknpaa
