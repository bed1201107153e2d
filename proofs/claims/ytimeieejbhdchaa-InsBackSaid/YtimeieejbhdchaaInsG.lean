/-
  The examples at the head of the laws of layer 2 (up): it returns true and changes nothing that was there; how later walks read memory behind calls. No conditions.
-/
import Derived.Test.YtimeieejbhdchaaInsE
import Derived.Test.YtimeieejbhdchaaInsF
namespace Go.Proofs.Ytimeieejbhdchaa
open Go.ChangeShapes Go.WideShapes Go.ChangeAt Go.RowKit

theorem below_on {B : Nat} {a b c : World} (h : Below B a b) (g : Below b.heap.size b c) (hB : B ≤ b.heap.size) : Below B a c := h.trans (g.mono hB)

/- two errors that are ErrArg, held against each other -/
theorem arg_eql (w : World) : (binOp .eql 28 (.iface 31 (.int .i64 1)) (.iface 31 (.int .i64 1))).run Try.prog w = .ok (.bool true) w := by kernel_rfl
theorem arg_neq (w : World) : (binOp .neq 28 (.iface 31 (.int .i64 1)) (.iface 31 (.int .i64 1))).run Try.prog w = .ok (.bool false) w := by kernel_rfl

set_option maxHeartbeats 1000000 in
theorem up02 (w : World) :
    Calls Try.prog 5 #[] w fun e w' => e = .returned (.bool true) ∧ Below w.heap.size w w' := by
  have e0 : getN 0 26 6 = 0 := by decide
  have m0 : Hid (¬ MayP (getN 0 26 6 : Nat) (getN 0 22 4 : Nat) (getN 0 18 4 : Nat) (signI (getN 0 0 18) 18)) := by
    rw [e0]
    exact fun g => absurd g.1.1 (by decide)
  clear e0
  have q := arg_eql
  go_enter Try.func5, Try.ntmps5
  go_wp2_with fail
  refine (insPut_yes 1 1 0 (-1) _ ⟨⟨by decide, by decide⟩, ⟨by decide, by decide⟩, ⟨by decide, by decide⟩, .inr ⟨.inl (by decide), by decide, by decide⟩⟩).mono ?_
  rintro e w1 ⟨rfl, hw1⟩
  rw [show insN 1 1 0 (lowN (-1)) = 71565311 by decide]
  go_wp2_with fail
  refine (insGet_no 0 _ (by omega) m0.out).mono ?_
  rintro e w2 ⟨rfl, hw2⟩
  go_wp2_with fail
  refine (insPut_no 0 0 0 0 _ (fun g => absurd g.1.1 (by decide))).mono ?_
  rintro e w3 ⟨rfl, hw3⟩
  go_wp2_with fail
  refine (may_yes 21 0 0 0 _ ⟨⟨by decide, by decide⟩, ⟨by decide, by decide⟩, ⟨by decide, by decide⟩, .inr ⟨.inr (by decide), by decide, by decide⟩⟩).mono ?_
  rintro e w4 ⟨rfl, hw4⟩
  go_wp2_with fail
  go_ret
  refine ⟨rfl, ?_⟩
  have h2 := below_on hw1 hw2 hw1.size
  have h3 := h2.alloc h2.size (.cells #[.int .i64 0, .int .i64 0, .int .i64 0, .int .i64 0] 23)
  have h4 := below_on h3 hw3 h3.size
  exact below_on h4 hw4 h4.size

theorem u32_nat {z : Int} (h : (Lit.int .u32 z).wf = true) : ∃ n : Nat, z = n ∧ n < 4294967296 := by
  have b := bounds_u32 h
  exact ⟨z.toNat, by omega, by omega⟩
end Go.Proofs.Ytimeieejbhdchaa
