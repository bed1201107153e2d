/-
  The walk of NameGrows (layer 9): it returns true and changes nothing. No conditions.
-/
import Derived.Test.YthnlininnbndbaaNameA
namespace Go.Proofs.Ythnlininnbndbaa
open Go.ChangeShapes Go.WideShapes Go.ChangeAt Go.RowKit

theorem may_is (s : ByteArray) (b : Bool) (w : World) (h : b = true ↔ NameP s) : Calls Try.prog 6 #[.string s] w fun e w' => e = .returned (.bool b) ∧ w = w' := by
  cases b with
  | true => exact may_yes s w (h.1 rfl)
  | false => exact may_no s w fun g => absurd (h.2 g) (by decide)

set_option maxRecDepth 100000 in
set_option maxHeartbeats 1000000 in
theorem nameGrows_walk (s : ByteArray) (at_ : Int) (_ : s.size ≤ maxLen) (_ : (Lit.int .i64 at_).wf = true) (w : World) :
    Calls Try.prog 4 #[.string s, .int .i64 at_] w fun e w' => e = .returned (.bool true) ∧ Below w.heap.size w w' := by
  by_cases h : NameP s
  · have H := Lib.hid h
    have h16 := h.2.1
    obtain ⟨b, hb⟩ : ∃ b : Bool, b = true ↔ s.size < 16 := ⟨decide (s.size < 16), by simp⟩
    have HA := Lib.hid (hb.trans (name_good s 97 h (by decide)).symm)
    have HZ := Lib.hid (hb.trans (name_good s 90 h (by decide)).symm)
    have H7 := Lib.hid (hb.trans (name_good s 55 h (by decide)).symm)
    have HU := Lib.hid (name_bad s 95 (by decide) (by decide))
    have f1 : decide ((s.size : Int) < 16) = b := by
      cases b with
      | true => have := hb.1 rfl; simp; omega
      | false => have : ¬ s.size < 16 := fun g => absurd (hb.2 g) (by decide); simp; omega
    clear h hb
    go_enter Try.func4, Try.ntmps4
    go_wp2_with fail
    refine (up09 _).mono ?_
    rintro e w1 ⟨rfl, rfl⟩
    go_wp2_with fail
    refine (may_yes s _ H.out).mono ?_
    rintro e w1 ⟨rfl, rfl⟩
    go_wp2_with fail
    refine (may_is _ b _ HA.out).mono ?_
    rintro e w1 ⟨rfl, rfl⟩
    go_wp2_with fail
    refine (may_is _ b _ HZ.out).mono ?_
    rintro e w1 ⟨rfl, rfl⟩
    go_wp2_with fail
    refine (may_is _ b _ H7.out).mono ?_
    rintro e w1 ⟨rfl, rfl⟩
    go_wp2_with fail
    refine (may_no _ _ HU.out).mono ?_
    rintro e w1 ⟨rfl, rfl⟩
    go_wp2_with fail
    go_loopw [7] (fun i wr => wr = w ∧ ∃ k : Nat, k ≤ s.size + 1 ∧ i = .int .i64 k) (fun i _ => s.size + 1 - (intOf i).toNat)
    case atStart => exact ⟨rfl, 0, Nat.zero_le _, rfl⟩
    case round =>
      obtain ⟨rfl, k, hk, rfl⟩ := hrel
      by_cases hlt : k ≤ s.size
      · have f2 : (k : Int) ≤ (s.size : Int) := by omega
        have f3 : (0 : Int) ≤ (k : Int) := by omega
        have HC := Lib.hid (name_cut s k H.out hlt)
        rcases Nat.eq_zero_or_pos k with h0 | h0
        · have HN : Hid (¬ NameP (s.extract 0 k)) := fun g => by have := HC.out.1 g; omega
          have f4 : ¬ (0 : Int) < (k : Int) := by omega
          have f5 : decide (0 < k) = false := by simp; omega
          clear h0
          go_wp2_with fail
          refine (may_no _ _ HN.out).mono ?_
          rintro e w1 ⟨rfl, rfl⟩
          go_wp2_with fail
          go_roundw
          case rel => exact ⟨trivial, k + 1, by omega, by go_num⟩
          case measure => simp [intOf]; omega
        · have HN : Hid (NameP (s.extract 0 k)) := HC.out.2 h0
          have f4 : (0 : Int) < (k : Int) := by omega
          go_wp2_with fail
          refine (may_yes _ _ HN.out).mono ?_
          rintro e w1 ⟨rfl, rfl⟩
          go_wp2_with fail
          go_roundw
          case rel => exact ⟨trivial, k + 1, by omega, by go_num⟩
          case measure => simp [intOf]; omega
      · have f2 : ¬ (k : Int) ≤ (s.size : Int) := by omega
        go_wp2_with fail
        go_ret
        exact ⟨rfl, Below.refl _ _⟩
  · have H := Lib.hid h
    clear h
    go_enter Try.func4, Try.ntmps4
    go_wp2_with fail
    refine (up09 _).mono ?_
    rintro e w1 ⟨rfl, rfl⟩
    go_wp2_with fail
    refine (may_no s _ H.out).mono ?_
    rintro e w1 ⟨rfl, rfl⟩
    go_wp2_with fail
    go_ret
    exact ⟨rfl, Below.refl _ _⟩
end Go.Proofs.Ythnlininnbndbaa
