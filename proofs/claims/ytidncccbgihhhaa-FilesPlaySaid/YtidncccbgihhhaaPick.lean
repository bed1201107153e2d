/-
  Pick (dowellaw04), which layers 4 and 5 call. No conditions.
-/
import Derived.Test.YtidncccbgihhhaaBase
namespace Go.Proofs.Ytidncccbgihhhaa
open Go.ChangeShapes Go.WideShapes Go.ChangeAt Go.RowKit

def pickI (c n : Int) : Int := (if c < 0 then -(c + 1) else c) % n
theorem pickI_range (c n : Int) (h : 0 < n) : 0 ≤ pickI c n ∧ pickI c n < n := ⟨Int.emod_nonneg _ (by omega), Int.emod_lt_of_pos _ h⟩
theorem pick_any (c n : Int) (w : World) (hlo : -9223372036854775808 ≤ c) (hhi : c ≤ 9223372036854775807) (hn : 1 ≤ n) (hm : n ≤ 65536) :
    Calls Try.prog 7 #[.int .i64 c, .int .i64 n] w fun e w' => e = .returned (.int .i64 (pickI c n)) ∧ w = w' := by
  have hnz : (n == 0) = false := by simp; omega
  unfold pickI
  by_cases hc : c < 0
  · go_enter Try.func7, Try.ntmps7
    go_wp2_with fail
    go_ret
    exact ⟨end_int (by rw [← Int.neg_tmod]; exact Int.tmod_eq_emod_of_nonneg (by omega)), rfl⟩
  · have hc' : 0 ≤ c := by omega
    go_enter Try.func7, Try.ntmps7
    go_wp2_with fail
    go_ret
    exact ⟨rfl, rfl⟩

theorem pick_nat (c n : Int) (hlo : -9223372036854775808 ≤ c) (hhi : c ≤ 9223372036854775807) (hn : 1 ≤ n) (hm : n ≤ 65536) :
    ∃ q : Nat, (q : Int) < n ∧ Hid (∀ w : World, Calls Try.prog 7 #[.int .i64 c, .int .i64 n] w fun e w' => e = .returned (.int .i64 (q : Nat)) ∧ w = w') := by
  have hr := pickI_range c n (by omega)
  refine ⟨(pickI c n).toNat, by omega, fun w => ?_⟩
  rw [Int.toNat_of_nonneg hr.1]
  exact pick_any c n w hlo hhi hn hm

end Go.Proofs.Ytidncccbgihhhaa
