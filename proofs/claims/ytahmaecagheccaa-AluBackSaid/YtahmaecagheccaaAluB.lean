/-
  The walks of layer 3: the examples at the head (up), and AluBack: each returns true and leaves the world as it was. No conditions but that x and y are numbers of 32 bits.
-/
import Derived.Test.YtahmaecagheccaaAluA
namespace Go.Proofs.Ytahmaecagheccaa
open Go.ChangeShapes Go.WideShapes Go.ChangeAt Go.RowKit

set_option maxHeartbeats 1000000 in
theorem up03 (w : World) : Calls Try.prog 4 #[] w fun e w' => e = .returned (.bool true) ∧ w = w' := by
  go_enter Try.func4, Try.ntmps4
  go_wp2_with fail
  refine (do_div (-7) 2 _ (by decide)).mono ?_
  rintro e w1 ⟨rfl, rfl⟩
  rw [show wrap32 (Int.tdiv (-7) 2) = -3 from IntWalk.wrap32_in (-3) (by omega)]
  go_wp2_with fail
  refine (do_div_zero 1 _).mono ?_
  rintro e w1 ⟨rfl, rfl⟩
  go_wp2_with fail
  refine (do_none 1 1 _).mono ?_
  rintro e w1 ⟨rfl, rfl⟩
  go_wp2_with fail
  refine (meets_less 1 2 _).mono ?_
  rintro e w1 ⟨rfl, rfl⟩
  go_wp2_with fail
  refine (meets_jump 0 0 _).mono ?_
  rintro e w1 ⟨rfl, rfl⟩
  go_wp2_with fail
  go_ret
  exact ⟨rfl, rfl⟩

/- quotient and rest -/
theorem quo_range (x y : Int) (h1 : -2147483648 ≤ x) (h2 : x ≤ 2147483647) (hy : y ≠ 0) (hm : y ≠ -1) : wrap32 (x.tdiv y) = x.tdiv y := by
  have h : (x.tdiv y).natAbs = x.natAbs / y.natAbs := Int.natAbs_tdiv x y
  by_cases hp : y = 1
  · subst hp
    rw [Int.tdiv_one]
    unfold wrap32
    omega
  · have h3 : x.natAbs / y.natAbs ≤ x.natAbs / 2 := Nat.div_le_div_left (by omega) (by omega)
    unfold wrap32
    omega

theorem rest_is (x y : Int) : x - x.tdiv y * y = x.tmod y := by
  have := Int.tmod_add_tdiv_mul x y
  omega

theorem rest_small (x y : Int) (hy : y ≠ 0) : (x.tmod y).natAbs < y.natAbs := by
  rw [Int.natAbs_tmod]
  exact Nat.mod_lt _ (by omega)

theorem rest_walked (x y : Int) (h3 : -2147483648 ≤ y) (h4 : y ≤ 2147483647) (hy : y ≠ 0) (hq : wrap32 (x.tdiv y) = x.tdiv y) :
    wrap64 (x - wrap64 (wrap64 (x.tdiv y) * y)) = x.tmod y := by
  have hr := rest_is x y
  have hm := rest_small x y hy
  have h5 : wrap64 (x.tdiv y) = x.tdiv y := by
    unfold wrap32 at hq
    unfold wrap64
    omega
  rw [h5, show x.tdiv y * y = x - x.tmod y by omega]
  unfold wrap64
  omega

/- what is told of an x below y, the same, above: Less, Same, Less of both exchanged, Other -/
def Stands (x y : Int) (l s g o : Bool) : Prop := decide (x < y) = l ∧ (x == y) = s ∧ decide (y < x) = g ∧ (x != y) = o

set_option maxHeartbeats 8000000 in
theorem aluBack_at (x y : Int) (w : World) (h1 : -2147483648 ≤ x) (h2 : x ≤ 2147483647) (h3 : -2147483648 ≤ y) (h4 : y ≤ 2147483647) (l s g o : Bool) (hs : Stands x y l s g o)
    (hk : (l = true ∧ s = false ∧ g = false ∧ o = true) ∨ (l = false ∧ s = true ∧ g = false ∧ o = false) ∨ (l = false ∧ s = false ∧ g = true ∧ o = true)) :
    Calls Try.prog 3 #[.int .i32 x, .int .i32 y] w fun e w' => e = .returned (.bool true) ∧ w = w' := by
  have e1 := Lib.hid (add_back x y h1 h2)
  have e2 := Lib.hid (xor_back x y h1 h2)
  have HS := Lib.hid hs
  have B := Lib.hid (And.intro h1 (And.intro h2 (And.intro h3 h4)))
  clear hs h1 h2 h3 h4
  have hxx : (x != x) = false := by simp
  rcases hk with ⟨rfl, rfl, rfl, rfl⟩ | ⟨rfl, rfl, rfl, rfl⟩ | ⟨rfl, rfl, rfl, rfl⟩
  all_goals
    go_enter Try.func3, Try.ntmps3
    go_wp2_with fail
    refine (up03 _).mono ?_
    rintro e w1 ⟨rfl, rfl⟩
    go_wp2_with fail
    refine (do_add x y _).mono ?_
    rintro e w1 ⟨rfl, rfl⟩
    go_wp2_with fail
    refine (do_sub _ y _).mono ?_
    rintro e w1 ⟨rfl, rfl⟩
    rw [e1.out]
    go_wp2_with fail
    refine (do_xor x y _).mono ?_
    rintro e w1 ⟨rfl, rfl⟩
    go_wp2_with fail
    refine (do_xor _ y _).mono ?_
    rintro e w1 ⟨rfl, rfl⟩
    rw [e2.out]
    go_wp2_with fail
    refine (meets_less x y _).mono ?_
    rintro e w1 ⟨rfl, rfl⟩
    rw [HS.out.1]
    go_wp2_with fail
    refine (meets_same x y _).mono ?_
    rintro e w1 ⟨rfl, rfl⟩
    rw [HS.out.2.1]
    go_wp2_with fail
    refine (meets_less y x _).mono ?_
    rintro e w1 ⟨rfl, rfl⟩
    rw [HS.out.2.2.1]
    go_wp2_with fail
    refine (meets_same x y _).mono ?_
    rintro e w1 ⟨rfl, rfl⟩
    rw [HS.out.2.1]
    go_wp2_with fail
    refine (meets_other x y _).mono ?_
    rintro e w1 ⟨rfl, rfl⟩
    rw [HS.out.2.2.2]
    by_cases hy : y = 0 ∨ y = -1
    · rcases hy with rfl | rfl
      all_goals
        go_wp2_with fail
        go_ret
        exact ⟨rfl, rfl⟩
    · have hn0 : y ≠ 0 := fun h => hy (.inl h)
      have hn1 : y ≠ -1 := fun h => hy (.inr h)
      have hq := Lib.hid (quo_range x y B.out.1 B.out.2.1 hn0 hn1)
      have hb0 : (y == 0) = false := by simpa using hn0
      have hb1 : (y == -1) = false := by simpa using hn1
      have HN := Lib.hid hn0
      clear hy hn0 hn1
      go_wp2_with fail
      refine (do_div x y _ HN.out).mono ?_
      rintro e w1 ⟨rfl, rfl⟩
      rw [hq.out]
      have HZ := Lib.hid (rest_walked x y B.out.2.2.1 B.out.2.2.2 HN.out hq.out)
      have HM := Lib.hid (rest_small x y HN.out)
      obtain ⟨g1, g2, g3, g4⟩ := B.out
      clear hq
      generalize x.tdiv y = q at HZ ⊢
      generalize x.tmod y = r at HZ HM
      go_wp2_with fail
      all_goals
        have hm := HM.out
        have hz := HZ.out
        simp only [hz] at *
        go_ret
        refine ⟨end_bool (decide_eq_true ?_), rfl⟩
        first | omega | (unfold wrap64; omega)

theorem aluBack_walk (a0 : Int) (a1 : Int) (w0 : (Lit.int .i32 a0).wf = true) (w1 : (Lit.int .i32 a1).wf = true) (w : World) :
    Calls Try.prog 3 #[.int .i32 a0, .int .i32 a1] w fun e w' => e = .returned (.bool true) ∧ Below w.heap.size w w' := by
  have b0 := bounds_i32 w0
  have b1 := bounds_i32 w1
  refine (aluBack_at a0 a1 w b0.1 b0.2 b1.1 b1.2 _ _ _ _ ⟨rfl, rfl, rfl, rfl⟩ ?_).mono ?_
  · rcases Int.lt_trichotomy a0 a1 with h | h | h
    · exact .inl ⟨by simp [h], by simp; omega, by simp; omega, by simp; omega⟩
    · exact .inr (.inl ⟨by simp; omega, by simp [h], by simp; omega, by simp [h]⟩)
    · exact .inr (.inr ⟨by simp; omega, by simp; omega, by simp [h], by simp; omega⟩)
  · rintro e w' ⟨rfl, rfl⟩
    exact ⟨rfl, Below.refl _ _⟩
end Go.Proofs.Ytahmaecagheccaa
