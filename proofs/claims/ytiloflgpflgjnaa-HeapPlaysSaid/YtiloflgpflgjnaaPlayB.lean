/-
  The walk of HeapPlays (layer 5): it returns true and changes nothing that was there. No conditions.
-/
import Derived.Test.YtiloflgpflgjnaaPlayA
import Derived.Deep.DeepCutAuto
namespace Go.Proofs.Ytiloflgpflgjnaa
open Go.ChangeShapes Go.WideShapes Go.ChangeAt Go.RowKit

set_option maxRecDepth 100000 in
set_option maxHeartbeats 2000000 in
theorem heapPlays_bad (f t : Int) (a : Option Addr) (n cap : Nat) (w : World) (h : ¬ (0 ≤ f ∧ f ≤ t ∧ t ≤ 65536 ∧ f % 4 = 0 ∧ t % 4 = 0)) :
    Calls Try.prog 3 #[.int .i64 f, .int .i64 t, .slice a n cap] w fun e w' => e = .returned (.bool true) ∧ Below w.heap.size w w' := by
  have q := arg_eql
  have HN := Lib.hid (fun w => heapNew_no f t w h)
  have HM := Lib.hid h
  clear h
  by_cases h1 : f < 0
  · go_enter Try.func3, Try.ntmps3
    go_wp2_with fail
    refine (up05 _).mono ?_
    rintro e w0 ⟨rfl, b0⟩
    go_wp2_with fail
    refine (HN.out _).mono ?_
    rintro e w1 ⟨rfl, rfl⟩
    go_wp2_with fail
    go_ret
    exact ⟨rfl, b0⟩
  · by_cases h2 : 65536 < t
    · go_enter Try.func3, Try.ntmps3
      go_wp2_with fail
      refine (up05 _).mono ?_
      rintro e w0 ⟨rfl, b0⟩
      go_wp2_with fail
      refine (HN.out _).mono ?_
      rintro e w1 ⟨rfl, rfl⟩
      go_wp2_with fail
      go_ret
      exact ⟨rfl, b0⟩
    · by_cases h3 : t < f
      · go_enter Try.func3, Try.ntmps3
        go_wp2_with fail
        refine (up05 _).mono ?_
        rintro e w0 ⟨rfl, b0⟩
        go_wp2_with fail
        refine (HN.out _).mono ?_
        rintro e w1 ⟨rfl, rfl⟩
        go_wp2_with fail
        go_ret
        exact ⟨rfl, b0⟩
      · by_cases h4 : f % 4 = 0
        · have h5 : t % 4 ≠ 0 := fun h5 => HM.out ⟨by omega, by omega, by omega, h4, h5⟩
          have j1 : (f % 4 != 0) = false := by simpa using h4
          have j2 : (t % 4 != 0) = true := by simpa using h5
          have j3 : (f.tmod 4 != 0) = false := by have := tmod4' f; simp; omega
          have j4 : (t.tmod 4 != 0) = true := by have := tmod4' t; simp; omega
          clear h4 h5
          go_enter Try.func3, Try.ntmps3
          go_wp2_with fail
          refine (up05 _).mono ?_
          rintro e w0 ⟨rfl, b0⟩
          go_wp2_with fail
          refine (HN.out _).mono ?_
          rintro e w1 ⟨rfl, rfl⟩
          go_wp2_with fail
          go_ret
          exact ⟨rfl, b0⟩
        · have j1 : (f % 4 != 0) = true := by simpa using h4
          have j3 : (f.tmod 4 != 0) = true := by have := tmod4' f; simp; omega
          clear h4
          go_enter Try.func3, Try.ntmps3
          go_wp2_with fail
          refine (up05 _).mono ?_
          rintro e w0 ⟨rfl, b0⟩
          go_wp2_with fail
          refine (HN.out _).mono ?_
          rintro e w1 ⟨rfl, rfl⟩
          go_wp2_with fail
          go_ret
          exact ⟨rfl, b0⟩

set_option maxRecDepth 100000 in
set_option maxHeartbeats 2000000 in
theorem heapPlays_big (f t : Int) (a : Option Addr) (n cap : Nat) (w : World) (h : 0 ≤ f ∧ f ≤ t ∧ t ≤ 65536 ∧ f % 4 = 0 ∧ t % 4 = 0) (hb : 4096 < t - f ∨ 100 < n) :
    Calls Try.prog 3 #[.int .i64 f, .int .i64 t, .slice a n cap] w fun e w' => e = .returned (.bool true) ∧ Below w.heap.size w w' := by
  have HN := Lib.hid (fun w => heapNew_yes f t w h)
  have h1 : ¬ f < 0 := by omega
  have h2 : ¬ 65536 < t := by omega
  have h3 : ¬ t < f := by omega
  have j1 : (f % 4 != 0) = false := by simp; omega
  have j2 : (t % 4 != 0) = false := by simp; omega
  have j3 : (f.tmod 4 != 0) = false := by have := tmod4' f; simp; omega
  have j4 : (t.tmod 4 != 0) = false := by have := tmod4' t; simp; omega
  have s1 : IntKind.i64.wrap (t - f) = t - f := IntWalk.i64_in _ (by omega)
  have r : 0 ≤ f ∧ f ≤ 65536 ∧ 0 ≤ t ∧ t ≤ 65536 := by omega
  clear h
  by_cases h4 : 4096 < t - f
  · clear hb
    go_enter Try.func3, Try.ntmps3
    go_wp2_with fail
    refine (up05 _).mono ?_
    rintro e w0 ⟨rfl, b0⟩
    go_wp2_with fail
    refine (HN.out _).mono ?_
    rintro e w1 hF
    obtain ⟨p, v, rfl, hB⟩ := hF.back b0
    have HB := Lib.hid hB.below
    clear hF hB b0
    go_wp2_with fail
    go_ret
    exact ⟨rfl, HB.out⟩
  · have h5 : 100 < n := by omega
    have h6 : (100 : Int) < (n : Int) := by omega
    clear hb
    go_enter Try.func3, Try.ntmps3
    go_wp2_with fail
    refine (up05 _).mono ?_
    rintro e w0 ⟨rfl, b0⟩
    go_wp2_with fail
    refine (HN.out _).mono ?_
    rintro e w1 hF
    obtain ⟨p, v, rfl, hB⟩ := hF.back b0
    have HB := Lib.hid hB.below
    clear hF hB b0
    go_wp2_with fail
    go_ret
    exact ⟨rfl, HB.out⟩
end Go.Proofs.Ytiloflgpflgjnaa
