/-
  Contracts of package name (layer 9): isLetter, isDigit, May; the document's examples. No conditions beyond those that each theorem names.
-/
import Derived.Test.YtkkjfbpflfknpaaNameM
namespace Go.Proofs.Ytkkjfbpflfknpaa
open Go.ChangeShapes Go.WideShapes Go.ChangeAt Go.RowKit
open Go.PlainAid (bt get_bt bt_nonneg bt_le)

set_option maxRecDepth 100000 in
theorem letter_yes (c : Int) (w : World) (h : isLet c) :
    Calls Try.prog 76 #[.int .u8 c] w fun e w' => e = .returned (.bool true) ∧ w = w' := by
  rcases h with ⟨h1, h2⟩ | ⟨h1, h2⟩
  all_goals
    go_enter Try.func76, Try.ntmps76
    go_wp2
    go_ret
    exact ⟨end_bool (by simp <;> omega), rfl⟩

set_option maxRecDepth 100000 in
theorem letter_no (c : Int) (w : World) (h : ¬ isLet c) :
    Calls Try.prog 76 #[.int .u8 c] w fun e w' => e = .returned (.bool false) ∧ w = w' := by
  have hc : c < 65 ∨ (90 < c ∧ c < 97) ∨ 122 < c := by unfold isLet at h; omega
  clear h
  rcases hc with h1 | ⟨h1, h2⟩ | h1
  all_goals
    go_enter Try.func76, Try.ntmps76
    go_wp2
    go_ret
    exact ⟨end_bool (by simp <;> omega), rfl⟩

set_option maxRecDepth 100000 in
theorem digit_yes (c : Int) (w : World) (h : isDig c) :
    Calls Try.prog 77 #[.int .u8 c] w fun e w' => e = .returned (.bool true) ∧ w = w' := by
  obtain ⟨h1, h2⟩ := h
  go_enter Try.func77, Try.ntmps77
  go_wp2
  go_ret
  exact ⟨end_bool (by simp <;> omega), rfl⟩

set_option maxRecDepth 100000 in
theorem digit_no (c : Int) (w : World) (h : ¬ isDig c) :
    Calls Try.prog 77 #[.int .u8 c] w fun e w' => e = .returned (.bool false) ∧ w = w' := by
  have hc : c < 48 ∨ 57 < c := by unfold isDig at h; omega
  clear h
  rcases hc with h1 | h1
  all_goals
    go_enter Try.func77, Try.ntmps77
    go_wp2
    go_ret
    exact ⟨end_bool (by simp <;> omega), rfl⟩

theorem signs_none {s : ByteArray} (h : s.size = 0) : s = ByteArray.mk #[] := by
  apply ByteArray.ext
  exact Array.eq_empty_of_size_eq_zero h
theorem signs_some {s : ByteArray} (h : 0 < s.size) : ¬ s.toList = [] := by
  intro e
  rw [ByteArray.toList_eq] at e
  have : s.data.size = 0 := by simpa using congrArg List.length e
  have e2 : s.data.size = s.size := rfl
  omega

theorem signs_there {s : ByteArray} (h : 0 < s.size) : s.toList.isEmpty = false := by
  simpa using signs_some h

set_option maxRecDepth 100000 in
theorem may_none (w : World) :
    Calls Try.prog 71 #[.string (ByteArray.mk #[])] w fun e w' => e = .returned (.bool false) ∧ w = w' := by
  go_enter Try.func71, Try.ntmps71
  go_wp2
  go_ret
  exact ⟨rfl, rfl⟩

set_option maxRecDepth 100000 in
theorem may_long (s : ByteArray) (w : World) (h : 16 < s.size) :
    Calls Try.prog 71 #[.string s] w fun e w' => e = .returned (.bool false) ∧ w = w' := by
  have e1 := signs_some (s := s) (by omega)
  have e2 : (16 : Int) < (s.size : Int) := by omega
  go_enter Try.func71, Try.ntmps71
  go_wp2
  go_ret
  exact ⟨rfl, rfl⟩

set_option maxRecDepth 100000 in
theorem may_first (s : ByteArray) (w : World) (h0 : 0 < s.size) (h16 : s.size ≤ 16) (h : ¬ isLet (bt s 0)) :
    Calls Try.prog 71 #[.string s] w fun e w' => e = .returned (.bool false) ∧ w = w' := by
  have e1 := signs_some h0
  have e2 : ¬ (16 : Int) < (s.size : Int) := by omega
  have H := Lib.hid h
  have hb := get_bt s 0 h0
  clear h
  go_enter Try.func71, Try.ntmps71
  go_wp2_with fail
  refine (letter_no _ _ H.out).mono ?_
  rintro e w1 ⟨rfl, rfl⟩
  go_wp2_with fail
  go_ret
  exact ⟨rfl, rfl⟩

set_option maxRecDepth 100000 in
set_option maxHeartbeats 1000000 in
theorem may_walk (s : ByteArray) (b : Nat) (w : World) (h1 : 1 ≤ b) (h16 : s.size ≤ 16) (hb : Upto s b) :
    Calls Try.prog 71 #[.string s] w fun e w' => e = .returned (.bool (decide (b = s.size))) ∧ w = w' := by
  have h0 : 0 < s.size := by have := hb.1; omega
  have e1 := signs_some h0
  have e5 := signs_there h0
  have e2 : ¬ (16 : Int) < (s.size : Int) := by omega
  have HB := Lib.hid hb
  have H0 : Hid (isLet (bt s 0)) := by
    rcases hb.2.1 0 (by omega) with h | h
    · exact h
    · omega
  have e3 := get_bt s 0 h0
  clear hb
  go_enter Try.func71, Try.ntmps71
  go_wp2_with fail
  refine (letter_yes _ _ H0.out).mono ?_
  rintro e w1 ⟨rfl, rfl⟩
  clear e3
  go_wp2_with fail
  go_loopw [3] (fun i wr => wr = w ∧ ∃ k : Nat, 1 ≤ k ∧ k ≤ b ∧ i = .int .i64 k) (fun i _ => b - (intOf i).toNat)
  case atStart => exact ⟨rfl, 1, Nat.le_refl _, h1, rfl⟩
  case round =>
    obtain ⟨rfl, k, hk1, hk, rfl⟩ := hrel
    have hbs := HB.out.1
    by_cases hlt : k < s.size
    · have f1 : (k : Int) < (s.size : Int) := by omega
      have f2 : (0 : Int) ≤ (k : Int) := by omega
      have e4 := get_bt s k hlt
      by_cases hl : isLet (bt s k)
      · have hkb : k < b := by
          rcases Nat.lt_or_ge k b with h | h
          · exact h
          · exact absurd (Or.inl hl) ((show b = k by omega) ▸ HB.out.2.2 (by omega) : ¬ goodI s k)
        have HL := Lib.hid hl
        clear hl
        go_wp2_with fail
        refine (letter_yes _ _ HL.out).mono ?_
        rintro e w1 ⟨rfl, rfl⟩
        go_wp2_with fail
        go_roundw
        case rel => exact ⟨trivial, k + 1, by omega, by omega, by go_num⟩
        case measure => simp [intOf]; omega
      · have HL := Lib.hid hl
        by_cases hd : isDig (bt s k)
        · have HD := Lib.hid hd
          have hkb : k < b := by
            rcases Nat.lt_or_ge k b with h | h
            · exact h
            · exact absurd (Or.inr ⟨hk1, hd⟩) ((show b = k by omega) ▸ HB.out.2.2 (by omega) : ¬ goodI s k)
          clear hl hd
          go_wp2_with fail
          refine (letter_no _ _ HL.out).mono ?_
          rintro e w1 ⟨rfl, rfl⟩
          go_wp2_with fail
          refine (digit_yes _ _ HD.out).mono ?_
          rintro e w1 ⟨rfl, rfl⟩
          go_wp2_with fail
          go_roundw
          case rel => exact ⟨trivial, k + 1, by omega, by omega, by go_num⟩
          case measure => simp [intOf]; omega
        · have HD := Lib.hid hd
          have HE : Hid (decide (b = s.size) = false) := by
            show _ = _
            rcases Nat.lt_or_ge k b with h | h
            · rcases HB.out.2.1 k h with g | g
              · exact absurd g hl
              · exact absurd g.2 hd
            · simp
              omega
          clear hl hd
          go_wp2_with fail
          refine (letter_no _ _ HL.out).mono ?_
          rintro e w1 ⟨rfl, rfl⟩
          go_wp2_with fail
          refine (digit_no _ _ HD.out).mono ?_
          rintro e w1 ⟨rfl, rfl⟩
          go_wp2_with fail
          go_ret
          exact ⟨end_bool HE.out.symm, rfl⟩
    · have f1 : ¬ (k : Int) < (s.size : Int) := by omega
      have HE : Hid (decide (b = s.size) = true) := by
        show _ = _
        simp
        omega
      go_wp2_with fail
      go_ret
      exact ⟨end_bool HE.out.symm, rfl⟩

open Classical in
theorem may_any (s : ByteArray) (w : World) : Calls Try.prog 71 #[.string s] w fun e w' => e = .returned (.bool (decide (NameP s))) ∧ w = w' := by
  by_cases h0 : s.size = 0
  · have hn : ¬ NameP s := fun h => by have := h.1; omega
    rw [decide_eq_false hn, signs_none h0]
    exact may_none w
  by_cases h16 : 16 < s.size
  · have hn : ¬ NameP s := fun h => by have := h.2.1; omega
    rw [decide_eq_false hn]
    exact may_long s w h16
  obtain ⟨b, hb⟩ := upto_any s
  have hi := hb.name (by omega) (by omega)
  by_cases hl : isLet (bt s 0)
  · have h1 : 1 ≤ b := by
      rcases Nat.eq_zero_or_pos b with e | e
      · subst e
        exact absurd (Or.inl hl) (hb.2.2 (by omega))
      · exact e
    refine (may_walk s b w h1 (by omega) hb).mono ?_
    rintro e w' ⟨rfl, rfl⟩
    refine ⟨end_bool ?_, rfl⟩
    simp only [hi]
  · have hn : ¬ NameP s := fun h => by
      rcases h.2.2 0 (by omega) with g | g
      · exact hl g
      · exact absurd g.1 (Nat.lt_irrefl 0)
    rw [decide_eq_false hn]
    exact may_first s w (by omega) (by omega) hl
theorem nm_yes (s : ByteArray) (w : World) (h : NameP s) : Calls Try.prog 71 #[.string s] w fun e w' => e = .returned (.bool true) ∧ w = w' :=
  (may_any s w).mono fun _ _ g => ⟨g.1.trans (end_bool (by simpa using h)), g.2⟩
theorem nm_no (s : ByteArray) (w : World) (h : ¬ NameP s) : Calls Try.prog 71 #[.string s] w fun e w' => e = .returned (.bool false) ∧ w = w' :=
  (may_any s w).mono fun _ _ g => ⟨g.1.trans (end_bool (by simpa using h)), g.2⟩

/- the document's examples -/
theorem name_B2 : NameP (ByteArray.mk #[66, 50]) := by
  refine ⟨by decide, by decide, fun i hi => ?_⟩
  have : i < 2 := hi
  rcases (show i = 0 ∨ i = 1 by omega) with rfl | rfl
  · exact .inl (.inr (by decide))
  · exact .inr ⟨by decide, by decide⟩
theorem name_2B : ¬ NameP (ByteArray.mk #[50, 66]) := by
  intro h
  rcases h.2.2 0 (by decide) with (g | g) | g
  · exact absurd g (by decide)
  · exact absurd g (by decide)
  · exact absurd g.1 (by decide)
end Go.Proofs.Ytkkjfbpflfknpaa
