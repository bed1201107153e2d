/-
  Contracts of ins.May (layer 2). No conditions beyond those that each theorem names.
-/
import Derived.Test.YtkkjfbpflfknpaaInsA
namespace Go.Proofs.Ytkkjfbpflfknpaa
open Go.ChangeShapes Go.WideShapes Go.ChangeAt Go.RowKit

set_option maxRecDepth 100000 in
theorem may_yes (o a b n : Int) (w : World) (h : MayP o a b n) :
    Calls Try.prog 73 #[.agg #[.int .i64 o, .int .i64 a, .int .i64 b, .int .i64 n]] w fun e w' => e = .returned (.bool true) ∧ Below w.heap.size w w' := by
  obtain ⟨h1, h2, h3, h4⟩ := h
  have H1 := Lib.hid h1
  have H2 := Lib.hid h2
  have H3 := Lib.hid h3
  have H4 := Lib.hid h4
  clear h1 h2 h3 h4
  go_enter Try.func73, Try.ntmps73
  go_wp2_with fail
  refine (isOp_yes o _ H1.out).mono ?_
  rintro e w' ⟨rfl, rfl⟩
  go_wp2_with fail
  refine (isReg_yes a _ H2.out).mono ?_
  rintro e w' ⟨rfl, rfl⟩
  go_wp2_with fail
  refine (isReg_yes b _ H3.out).mono ?_
  rintro e w' ⟨rfl, rfl⟩
  go_wp2_with fail
  refine (isNum_yes o n _ H4.out).mono ?_
  rintro e w' ⟨rfl, rfl⟩
  go_wp2_with fail
  go_ret
  exact ⟨rfl, (Below.refl _ _).alloc (Nat.le_refl _) _⟩

set_option maxRecDepth 100000 in
theorem may_no (o a b n : Int) (w : World) (h : ¬ MayP o a b n) :
    Calls Try.prog 73 #[.agg #[.int .i64 o, .int .i64 a, .int .i64 b, .int .i64 n]] w fun e w' => e = .returned (.bool false) ∧ Below w.heap.size w w' := by
  have H := Lib.hid h
  clear h
  by_cases h1 : isOpP o
  · have H1 := Lib.hid h1
    clear h1
    by_cases h2 : isRegP a
    · have H2 := Lib.hid h2
      clear h2
      by_cases h3 : isRegP b
      · have H3 := Lib.hid h3
        clear h3
        have H4 : Hid (¬ isNumP o n) := fun g => H.out ⟨H1.out, H2.out, H3.out, g⟩
        go_enter Try.func73, Try.ntmps73
        go_wp2_with fail
        refine (isOp_yes o _ H1.out).mono ?_
        rintro e w' ⟨rfl, rfl⟩
        go_wp2_with fail
        refine (isReg_yes a _ H2.out).mono ?_
        rintro e w' ⟨rfl, rfl⟩
        go_wp2_with fail
        refine (isReg_yes b _ H3.out).mono ?_
        rintro e w' ⟨rfl, rfl⟩
        go_wp2_with fail
        refine (isNum_no o n _ H4.out).mono ?_
        rintro e w' ⟨rfl, rfl⟩
        go_wp2_with fail
        go_ret
        exact ⟨rfl, (Below.refl _ _).alloc (Nat.le_refl _) _⟩
      · have H3 := Lib.hid h3
        clear h3
        go_enter Try.func73, Try.ntmps73
        go_wp2_with fail
        refine (isOp_yes o _ H1.out).mono ?_
        rintro e w' ⟨rfl, rfl⟩
        go_wp2_with fail
        refine (isReg_yes a _ H2.out).mono ?_
        rintro e w' ⟨rfl, rfl⟩
        go_wp2_with fail
        refine (isReg_no b _ H3.out).mono ?_
        rintro e w' ⟨rfl, rfl⟩
        go_wp2_with fail
        go_ret
        exact ⟨rfl, (Below.refl _ _).alloc (Nat.le_refl _) _⟩
    · have H2 := Lib.hid h2
      clear h2
      go_enter Try.func73, Try.ntmps73
      go_wp2_with fail
      refine (isOp_yes o _ H1.out).mono ?_
      rintro e w' ⟨rfl, rfl⟩
      go_wp2_with fail
      refine (isReg_no a _ H2.out).mono ?_
      rintro e w' ⟨rfl, rfl⟩
      go_wp2_with fail
      go_ret
      exact ⟨rfl, (Below.refl _ _).alloc (Nat.le_refl _) _⟩
  · have H1 := Lib.hid h1
    clear h1
    go_enter Try.func73, Try.ntmps73
    go_wp2_with fail
    refine (isOp_no o _ H1.out).mono ?_
    rintro e w' ⟨rfl, rfl⟩
    go_wp2_with fail
    go_ret
    exact ⟨rfl, (Below.refl _ _).alloc (Nat.le_refl _) _⟩

end Go.Proofs.Ytkkjfbpflfknpaa
