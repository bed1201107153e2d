/-
  The document's Fits (layer 14). No conditions.
-/
import Derived.Test.YtkkjfbpflfknpaaChkM
namespace Go.Proofs.Ytkkjfbpflfknpaa
open Go.ChangeShapes Go.WideShapes Go.ChangeAt Go.RowKit

set_option maxRecDepth 100000 in
set_option maxHeartbeats 1000000 in
theorem rfits_any (a k : Int) (w : World) (r : Bool) (hr : r = true ↔ FitsP a k) :
    Calls Try.prog 29 #[.int .i64 a, .int .i64 k] w fun e w' => e = .returned (.bool r) ∧ w = w' := by
  unfold FitsP at hr
  by_cases h0 : a = 0
  · subst h0
    by_cases k0 : k = 0
    · subst k0
      obtain rfl : r = true := hr.2 (.inl ⟨rfl, rfl⟩)
      clear hr
      go_enter Try.func29, Try.ntmps29
      go_wp2_with fail
      go_ret
      exact ⟨rfl, rfl⟩
    · obtain rfl : r = false := bool_not hr (by omega)
      have e0 : (k == 0) = false := by simp [k0]
      clear hr
      go_enter Try.func29, Try.ntmps29
      go_wp2_with fail
      go_ret
      exact ⟨rfl, rfl⟩
  · have g0 : (a == 0) = false := by simp [h0]
    by_cases h1 : a = 1
    · subst h1
      by_cases k0 : k = 0
      · subst k0
        obtain rfl : r = true := hr.2 (.inr (.inl ⟨rfl, .inl rfl⟩))
        clear hr
        go_enter Try.func29, Try.ntmps29
        go_wp2_with fail
        go_ret
        exact ⟨rfl, rfl⟩
      · have e0 : (k == 0) = false := by simp [k0]
        by_cases k1 : k = 1
        · subst k1
          obtain rfl : r = true := hr.2 (.inr (.inl ⟨rfl, .inr rfl⟩))
          clear hr
          go_enter Try.func29, Try.ntmps29
          go_wp2_with fail
          go_ret
          exact ⟨rfl, rfl⟩
        · have e1 : (k == 1) = false := by simp [k1]
          obtain rfl : r = false := bool_not hr (by omega)
          clear hr
          go_enter Try.func29, Try.ntmps29
          go_wp2_with fail
          go_ret
          exact ⟨rfl, rfl⟩
    · have g1 : (a == 1) = false := by simp [h1]
      by_cases h2 : a = 2
      · subst h2
        by_cases k2 : k = 2
        · subst k2
          obtain rfl : r = true := hr.2 (.inr (.inr ⟨rfl, rfl⟩))
          clear hr
          go_enter Try.func29, Try.ntmps29
          go_wp2_with fail
          go_ret
          exact ⟨rfl, rfl⟩
        · have e2 : (k == 2) = false := by simp [k2]
          obtain rfl : r = false := bool_not hr (by omega)
          clear hr
          go_enter Try.func29, Try.ntmps29
          go_wp2_with fail
          go_ret
          exact ⟨rfl, rfl⟩
      · have g2 : (a == 2) = false := by simp [h2]
        obtain rfl : r = false := bool_not hr (by omega)
        clear hr
        go_enter Try.func29, Try.ntmps29
        go_wp2_with fail
        go_ret
        exact ⟨rfl, rfl⟩
end Go.Proofs.Ytkkjfbpflfknpaa
