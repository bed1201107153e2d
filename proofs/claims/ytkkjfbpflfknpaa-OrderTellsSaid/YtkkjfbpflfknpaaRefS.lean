/-
  Contracts of the document's answers for layer 1 (dowelref01: Two, Sign). No conditions beyond those that each theorem names.
-/
import Derived.Test.YtkkjfbpflfknpaaFieldA
namespace Go.Proofs.Ytkkjfbpflfknpaa
open Go.ChangeShapes Go.WideShapes Go.ChangeAt Go.RowKit

set_option maxRecDepth 100000 in
set_option maxHeartbeats 400000 in
theorem two_any (n : Nat) (w : World) (hn : n ≤ 62) :
    Calls Try.prog 50 #[.int .i64 n] w fun e w' => e = .returned (.int .i64 (twoN n : Nat)) ∧ w = w' := by
  go_enter Try.func50, Try.ntmps50
  go_wp2
  go_loop [3, 4] (fun p i => ∃ k : Nat, k ≤ n ∧ i = .int .i64 k ∧ p = .int .i64 (twoN k : Nat)) (fun _ i => n - (intOf i).toNat)
  case atStart => exact ⟨0, Nat.zero_le _, rfl, rfl⟩
  case round =>
    obtain ⟨k, hk, rfl, rfl⟩ := hrel
    by_cases hlt : k < n
    · have hb : twoN k ≤ 2305843009213693952 := Nat.le_trans (twoN_le (show k ≤ 61 by omega)) (by decide)
      have hs := Lib.hid (twoN_succ k)
      go_wp2
      go_round
      case rel => exact ⟨k + 1, by omega, by go_num, by rw [hs.out]; go_num⟩
      case measure => simp [intOf]; omega
    · obtain rfl : n = k := by omega
      go_wp2
      go_ret
      exact ⟨rfl, rfl⟩

theorem two_int (z : Int) (w : World) (h0 : 0 ≤ z) (hn : z ≤ 62) :
    Calls Try.prog 50 #[.int .i64 z] w fun e w' => e = .returned (.int .i64 (twoN z.toNat : Nat)) ∧ w = w' := by
  obtain ⟨n, rfl⟩ := Int.eq_ofNat_of_zero_le h0
  exact two_any n w (by omega)

set_option maxRecDepth 100000 in
set_option maxHeartbeats 400000 in
theorem refSign_yes (v n : Nat) (w : World) (_hv : v < 4294967296) (h1 : 1 ≤ n) (h2 : n ≤ 32) :
    Calls Try.prog 43 #[.int .u32 v, .int .i64 n] w fun e w' => e = .returned (.int .i32 (signI v n)) ∧ w = w' := by
  have p2 := twoN_pos n
  have b2 : twoN n ≤ 4294967296 := twoN_le (m := 32) (by omega)
  have p3 := twoN_pos (n - 1)
  have b3 : twoN (n - 1) ≤ 4294967296 := twoN_le (m := 32) (by omega)
  go_enter Try.func43, Try.ntmps43
  go_wp2_with (go_at_call 50; refine (two_int _ _ (by omega) (by omega)).mono ?_; rintro e w' ⟨rfl, rfl⟩)
  all_goals go_ret
  · exact ⟨end_int (refSign_hi v n h1 h2 (by assumption)), rfl⟩
  · exact ⟨end_int (refSign_low v n h1 h2 (by assumption)), rfl⟩

set_option maxRecDepth 100000 in
theorem refSign_no (v : Nat) (n : Int) (w : World) (h : n < 1 ∨ 32 < n) :
    Calls Try.prog 43 #[.int .u32 v, .int .i64 n] w fun e w' => e = .returned (.int .i32 0) ∧ w = w' := by
  rcases h with h | h
  · go_enter Try.func43, Try.ntmps43
    go_wp2
    go_ret
    exact ⟨rfl, rfl⟩
  · have h1 : ¬ n < 1 := by omega
    go_enter Try.func43, Try.ntmps43
    go_wp2
    go_ret
    exact ⟨rfl, rfl⟩
end Go.Proofs.Ytkkjfbpflfknpaa
