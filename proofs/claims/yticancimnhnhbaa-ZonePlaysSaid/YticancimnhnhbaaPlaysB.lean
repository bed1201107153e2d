/-
  The walk of ZonePlays (layer 6): it returns true and changes nothing that was there. No conditions.
-/
import Derived.Test.YticancimnhnhbaaPlaysA
namespace Go.Proofs.Yticancimnhnhbaa
open Go.ChangeShapes Go.WideShapes Go.ChangeAt Go.RowKit

set_option maxRecDepth 100000 in
set_option maxHeartbeats 4000000 in
theorem zonePlays_big (a : Option Addr) (n cap : Nat) (at_ by_ kd va : Int) (w : World) (hn : 40 < n) :
    Calls Try.prog 3 #[.slice a n cap, .int .i64 at_, .int .i64 by_, .int .i64 kd, .int .i64 va] w fun e w' => e = .returned (.bool true) ∧ Below w.heap.size w w' := by
  have hn' : (40 : Int) < (n : Int) := by omega
  have HN := Lib.hid Zoo.new
  go_enter Try.func3, Try.ntmps3
  go_wp2_with fail
  refine (up06 _).mono ?_
  rintro e w1 ⟨rfl, hb1⟩
  go_wp2_with fail
  refine (HN.out _).mono ?_
  rintro e w2 ⟨zp, mb, rfl, hz⟩
  have HZ := Lib.hid (hz.base hb1)
  clear hz hb1
  go_wp2_with fail
  go_ret
  exact ⟨rfl, HZ.out.below⟩

theorem zonePlays_walk (a : Option Addr) (n cap : Nat) (at_ by_ kd va : Int) (w : World) (hD : ∃ D, Deeds6 w a n D) (hat : (Lit.int .i64 at_).wf = true) (hby : (Lit.int .i64 by_).wf = true) (_hkd : (Lit.int .i64 kd).wf = true) (_hva : (Lit.int .i64 va).wf = true) :
    Calls Try.prog 3 #[.slice a n cap, .int .i64 at_, .int .i64 by_, .int .i64 kd, .int .i64 va] w fun e w' => e = .returned (.bool true) ∧ Below w.heap.size w w' := by
  obtain ⟨D, hD⟩ := hD
  by_cases hn : n ≤ 40
  · exact zonePlays_small a n cap at_ by_ kd va D w hD hn hat (by have := bounds_i64 hby; omega)
  · exact zonePlays_big a n cap at_ by_ kd va w (by omega)
end Go.Proofs.Yticancimnhnhbaa
