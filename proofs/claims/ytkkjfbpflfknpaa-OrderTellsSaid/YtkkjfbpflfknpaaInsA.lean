/-
  Contracts of package ins's helpers and of May (layer 2), and of the document's May. No conditions beyond those that each theorem names.
-/
import Derived.Test.YtkkjfbpflfknpaaFieldA
namespace Go.Proofs.Ytkkjfbpflfknpaa
open Go.ChangeShapes Go.WideShapes Go.ChangeAt Go.RowKit

/- an instruction may be -/
def isOpP (o : Int) : Prop := 1 ≤ o ∧ o ≤ 21
def isRegP (r : Int) : Prop := 0 ≤ r ∧ r ≤ 15
def isNumP (o n : Int) : Prop := (2 ≤ o ∧ o ≤ 10 ∧ 0 ≤ n ∧ n ≤ 15) ∨ ((o < 2 ∨ 10 < o) ∧ -131072 ≤ n ∧ n ≤ 131071)
def MayP (o a b n : Int) : Prop := isOpP o ∧ isRegP a ∧ isRegP b ∧ isNumP o n

set_option maxRecDepth 100000 in
theorem isOp_yes (o : Int) (w : World) (h : isOpP o) :
    Calls Try.prog 79 #[.int .i64 o] w fun e w' => e = .returned (.bool true) ∧ w = w' := by
  obtain ⟨h1, h2⟩ := h
  go_enter Try.func79, Try.ntmps79
  go_wp2
  go_ret
  exact ⟨rfl, rfl⟩

set_option maxRecDepth 100000 in
theorem isOp_no (o : Int) (w : World) (h : ¬ isOpP o) :
    Calls Try.prog 79 #[.int .i64 o] w fun e w' => e = .returned (.bool false) ∧ w = w' := by
  unfold isOpP at h
  by_cases h1 : 1 ≤ o
  · have h2 : 21 < o := by omega
    clear h
    go_enter Try.func79, Try.ntmps79
    go_wp2
    go_ret
    exact ⟨end_bool (by simp <;> omega), rfl⟩
  · have h2 : o < 1 := by omega
    clear h h1
    go_enter Try.func79, Try.ntmps79
    go_wp2
    go_ret
    exact ⟨end_bool (by simp <;> omega), rfl⟩

set_option maxRecDepth 100000 in
theorem isReg_yes (o : Int) (w : World) (h : isRegP o) :
    Calls Try.prog 80 #[.int .i64 o] w fun e w' => e = .returned (.bool true) ∧ w = w' := by
  obtain ⟨h1, h2⟩ := h
  go_enter Try.func80, Try.ntmps80
  go_wp2
  go_ret
  exact ⟨end_bool (by simp <;> omega), rfl⟩

set_option maxRecDepth 100000 in
theorem isReg_no (o : Int) (w : World) (h : ¬ isRegP o) :
    Calls Try.prog 80 #[.int .i64 o] w fun e w' => e = .returned (.bool false) ∧ w = w' := by
  unfold isRegP at h
  by_cases h1 : 0 ≤ o
  · have h2 : 15 < o := by omega
    clear h
    go_enter Try.func80, Try.ntmps80
    go_wp2
    go_ret
    exact ⟨end_bool (by simp <;> omega), rfl⟩
  · have h2 : o < 0 := by omega
    clear h h1
    go_enter Try.func80, Try.ntmps80
    go_wp2
    go_ret
    exact ⟨end_bool (by simp <;> omega), rfl⟩

set_option maxRecDepth 100000 in
theorem namesReg_yes (o : Int) (w : World) (h1 : 2 ≤ o) (h2 : o ≤ 10) :
    Calls Try.prog 82 #[.int .i64 o] w fun e w' => e = .returned (.bool true) ∧ w = w' := by
  go_enter Try.func82, Try.ntmps82
  go_wp2
  go_ret
  exact ⟨end_bool (by simp <;> omega), rfl⟩

set_option maxRecDepth 100000 in
theorem namesReg_no (o : Int) (w : World) (h : o < 2 ∨ 10 < o) :
    Calls Try.prog 82 #[.int .i64 o] w fun e w' => e = .returned (.bool false) ∧ w = w' := by
  rcases h with h1 | h1
  all_goals
    go_enter Try.func82, Try.ntmps82
    go_wp2
    go_ret
    exact ⟨end_bool (by simp <;> omega), rfl⟩

set_option maxRecDepth 100000 in
theorem isNum_yes (o n : Int) (w : World) (h : isNumP o n) :
    Calls Try.prog 81 #[.int .i64 o, .int .i64 n] w fun e w' => e = .returned (.bool true) ∧ w = w' := by
  rcases h with ⟨h1, h2, h3, h4⟩ | ⟨h0, h3, h4⟩
  · go_enter Try.func81, Try.ntmps81
    go_wp2_with fail
    refine (namesReg_yes o _ h1 h2).mono ?_
    rintro e w' ⟨rfl, rfl⟩
    go_wp2_with fail
    refine (isReg_yes n _ ⟨h3, h4⟩).mono ?_
    rintro e w' ⟨rfl, rfl⟩
    go_wp2_with fail
    go_ret
    exact ⟨rfl, rfl⟩
  · have H := Lib.hid h0
    clear h0
    go_enter Try.func81, Try.ntmps81
    go_wp2_with fail
    refine (namesReg_no o _ H.out).mono ?_
    rintro e w' ⟨rfl, rfl⟩
    go_wp2_with fail
    go_ret
    exact ⟨end_bool (by simp <;> omega), rfl⟩

set_option maxRecDepth 100000 in
theorem isNum_no (o n : Int) (w : World) (h : ¬ isNumP o n) :
    Calls Try.prog 81 #[.int .i64 o, .int .i64 n] w fun e w' => e = .returned (.bool false) ∧ w = w' := by
  unfold isNumP at h
  by_cases h0 : o < 2 ∨ 10 < o
  · have H := Lib.hid h0
    by_cases h3 : -131072 ≤ n
    · have h4 : 131071 < n := by omega
      clear h h0
      go_enter Try.func81, Try.ntmps81
      go_wp2_with fail
      refine (namesReg_no o _ H.out).mono ?_
      rintro e w' ⟨rfl, rfl⟩
      go_wp2_with fail
      go_ret
      exact ⟨end_bool (by simp <;> omega), rfl⟩
    · have h4 : n < -131072 := by omega
      clear h h0 h3
      go_enter Try.func81, Try.ntmps81
      go_wp2_with fail
      refine (namesReg_no o _ H.out).mono ?_
      rintro e w' ⟨rfl, rfl⟩
      go_wp2_with fail
      go_ret
      exact ⟨end_bool (by simp <;> omega), rfl⟩
  · have h1 : 2 ≤ o := by omega
    have h2 : o ≤ 10 := by omega
    have H : Hid (¬ isRegP n) := by unfold isRegP; exact fun g => h (.inl ⟨h1, h2, g.1, g.2⟩)
    clear h h0
    go_enter Try.func81, Try.ntmps81
    go_wp2_with fail
    refine (namesReg_yes o _ h1 h2).mono ?_
    rintro e w' ⟨rfl, rfl⟩
    go_wp2_with fail
    refine (isReg_no n _ H.out).mono ?_
    rintro e w' ⟨rfl, rfl⟩
    go_wp2_with fail
    go_ret
    exact ⟨rfl, rfl⟩
end Go.Proofs.Ytkkjfbpflfknpaa
