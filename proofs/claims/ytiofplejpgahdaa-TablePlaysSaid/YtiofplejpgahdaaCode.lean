/-
  Code (dowellaw00): the number of an error. No conditions.
-/
import Derived.Test.YtiofplejpgahdaaBase
import Derived.Lib.IfaceEq
namespace Go.Proofs.Ytiofplejpgahdaa
open Go.ChangeShapes Go.WideShapes Go.ChangeAt Go.RowKit

theorem code_nil (w : World) : Calls Try.prog 11 #[.nilIface] w fun e w' => e = .returned (.int .i64 0) ∧ w = w' := by
  go_enter Try.func11, Try.ntmps11
  go_wp2_with fail
  go_ret
  exact ⟨rfl, rfl⟩

theorem comparableC : (Try.prog.info? 54).map (·.comparable) = some true := by kernel_rfl
theorem code_at (k : Nat) (w : World) (h1 : 1 ≤ k) (h2 : k ≤ 13) : Calls Try.prog 11 #[.iface 54 (.int .i64 k)] w fun e w' => e = .returned (.int .i64 k) ∧ w = w' := by
  have hq := fun (w : World) (n : Int) => Lib.run_eql_iface_int (P := Try.prog) w (k := .i64) (k : Int) n Try.underlying32 comparableC Try.underlying54
  go_enter Try.func11, Try.ntmps11
  go_wp2_with fail
  go_loop [3] (fun i => ∃ n : Nat, 1 ≤ n ∧ n ≤ k ∧ i = .int .i64 n) (fun i => 14 - (intOf i).toNat)
  case atStart => exact ⟨1, by omega, by omega, rfl⟩
  case round =>
    obtain ⟨n, hn1, hn2, rfl⟩ := hrel
    by_cases he : n = k
    · subst he
      have e1 : ((n : Int) == (n : Int)) = true := by simp
      go_wp2_with fail
      go_ret
      exact ⟨rfl, rfl⟩
    · have e1 : ((k : Int) == (n : Int)) = false := by simp; omega
      go_wp2_with fail
      go_round
      case rel => exact ⟨n + 1, by omega, by omega, by go_num⟩
      case measure => simp [intOf]; omega
end Go.Proofs.Ytiofplejpgahdaa
