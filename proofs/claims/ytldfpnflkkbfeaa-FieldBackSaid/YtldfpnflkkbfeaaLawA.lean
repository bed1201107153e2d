/-
  The walks of the laws of layer 1: the examples at the head (up), FieldBits, FieldBack, FieldWords: each returns true and changes nothing that was there. No conditions.
-/
import Derived.Test.YtldfpnflkkbfeaaFieldB
import Derived.Deep.RegionHeld3
namespace Go.Proofs.Ytldfpnflkkbfeaa
open Go.ChangeShapes Go.WideShapes Go.ChangeAt Go.RowKit

set_option maxHeartbeats 1000000 in
theorem up01 (w : World) :
    Calls Try.prog 6 #[] w fun e w' => e = .returned (.bool true) ∧ Below w.heap.size w w' := by
  go_enter Try.func6, Try.ntmps6
  go_wp2_with fail
  refine (get_yes 240 4 4 _ (by omega) (by omega) (by omega)).mono ?_
  rintro e w1 ⟨rfl, hw1⟩
  rw [show getN 240 4 4 = 15 by decide]
  go_wp2_with fail
  refine (put_yes 0 4 4 15 _ (by omega) (by omega) (by omega) (by omega)).mono ?_
  rintro e w2 ⟨rfl, hw2⟩
  rw [show putN 0 4 4 15 = 240 by decide]
  go_wp2_with fail
  refine (sign_yes 15 4 _ (by omega) (by omega)).mono ?_
  rintro e w3 ⟨rfl, hw3⟩
  rw [show signI 15 4 = -1 by decide]
  go_wp2_with fail
  refine (word_any (some ⟨w3.heap.size, 0, none⟩) 2 [1, 2] _ (rowB_new w3 [1, 2] 5 (by decide)) (by decide) (by decide)).mono ?_
  rintro e w4 ⟨rfl, rfl⟩
  rw [show wordOf [1, 2] = 513 by decide]
  go_wp2_with fail
  refine (bytes_any 5 _ (by omega)).mono ?_
  rintro e w5 ⟨rfl, rfl⟩
  go_wp2_with fail
  go_ret
  refine ⟨rfl, ?_⟩
  have hb : Below w.heap.size w w3 := ((hw1.trans hw2).below _).trans (by rw [hw3]; exact Below.refl _ _)
  exact (hb.alloc hb.size _).alloc (by have := hb.size; simp; omega) _

theorem u32_nat {z : Int} (h : (Lit.int .u32 z).wf = true) : ∃ n : Nat, z = n ∧ n < 4294967296 := by
  have b := bounds_u32 h
  exact ⟨z.toNat, by omega, by omega⟩

set_option maxHeartbeats 1000000 in
theorem fieldBits_yes (x v a n : Nat) (w : World) (hx : x < 4294967296) (hv : v < 4294967296) (h1 : 1 ≤ n) (h4 : a + n ≤ 32) :
    Calls Try.prog 3 #[.int .u32 x, .int .i64 a, .int .i64 n, .int .u32 v] w fun e w' => e = .returned (.bool true) ∧ Below w.heap.size w w' := by
  go_enter Try.func3, Try.ntmps3
  go_wp2_with fail
  refine (up01 _).mono ?_
  rintro e w0 ⟨rfl, hw0⟩
  go_wp2_with fail
  refine (get_yes x a n _ hx h1 h4).mono ?_
  rintro e w1 ⟨rfl, hw1⟩
  go_wp2_with fail
  refine (refGet_yes x a n _ hx h1 h4).mono ?_
  rintro e w2 ⟨rfl, hw2⟩
  go_wp2_with fail
  refine (put_yes x a n v _ hx hv h1 h4).mono ?_
  rintro e w3 ⟨rfl, hw3⟩
  go_wp2_with fail
  refine (refPut_yes x a n v _ hx hv h1 h4).mono ?_
  rintro e w4 ⟨rfl, hw4⟩
  go_wp2_with fail
  refine (sign_yes v n _ h1 (by omega)).mono ?_
  rintro e w5 ⟨rfl, rfl⟩
  go_wp2_with fail
  refine (refSign_yes v n _ hv h1 (by omega)).mono ?_
  rintro e w6 ⟨rfl, rfl⟩
  go_wp2_with fail
  go_ret
  exact ⟨rfl, hw0.trans ((((hw1.trans hw2).trans hw3).trans hw4).below _)⟩

set_option maxHeartbeats 1000000 in
theorem fieldBits_part (x v n : Nat) (a : Int) (w : World) (hv : v < 4294967296) (h1 : 1 ≤ n) (h2 : n ≤ 32) (h : a < 0 ∨ 32 - (n : Int) < a) :
    Calls Try.prog 3 #[.int .u32 x, .int .i64 a, .int .i64 n, .int .u32 v] w fun e w' => e = .returned (.bool true) ∧ Below w.heap.size w w' := by
  have H : Hid ((n : Int) < 1 ∨ 32 < (n : Int) ∨ a < 0 ∨ 32 - (n : Int) < a) := .inr (.inr h)
  clear h
  go_enter Try.func3, Try.ntmps3
  go_wp2_with fail
  refine (up01 _).mono ?_
  rintro e w0 ⟨rfl, hw0⟩
  go_wp2_with fail
  refine (get_no x a n _ (by omega) (by omega) H.out).mono ?_
  rintro e w1 ⟨rfl, rfl⟩
  go_wp2_with fail
  refine (refGet_no x a n _ (by omega) (by omega) H.out).mono ?_
  rintro e w1 ⟨rfl, rfl⟩
  go_wp2_with fail
  refine (put_no x v a n _ (by omega) (by omega) H.out).mono ?_
  rintro e w1 ⟨rfl, rfl⟩
  go_wp2_with fail
  refine (refPut_no x v a n _ (by omega) (by omega) H.out).mono ?_
  rintro e w1 ⟨rfl, rfl⟩
  go_wp2_with fail
  refine (sign_yes v n _ h1 h2).mono ?_
  rintro e w1 ⟨rfl, rfl⟩
  go_wp2_with fail
  refine (refSign_yes v n _ hv h1 h2).mono ?_
  rintro e w1 ⟨rfl, rfl⟩
  go_wp2_with fail
  go_ret
  exact ⟨rfl, hw0⟩

set_option maxHeartbeats 1000000 in
theorem fieldBits_no (x v : Nat) (a n : Int) (w : World) (hlo : -9223372036854775808 ≤ n) (hhi : n ≤ 9223372036854775807) (h : n < 1 ∨ 32 < n) :
    Calls Try.prog 3 #[.int .u32 x, .int .i64 a, .int .i64 n, .int .u32 v] w fun e w' => e = .returned (.bool true) ∧ Below w.heap.size w w' := by
  have H : Hid (n < 1 ∨ 32 < n ∨ a < 0 ∨ 32 - n < a) := h.elim .inl fun g => .inr (.inl g)
  have G := Lib.hid h
  clear h
  go_enter Try.func3, Try.ntmps3
  go_wp2_with fail
  refine (up01 _).mono ?_
  rintro e w0 ⟨rfl, hw0⟩
  go_wp2_with fail
  refine (get_no x a n _ hlo hhi H.out).mono ?_
  rintro e w1 ⟨rfl, rfl⟩
  go_wp2_with fail
  refine (refGet_no x a n _ hlo hhi H.out).mono ?_
  rintro e w1 ⟨rfl, rfl⟩
  go_wp2_with fail
  refine (put_no x v a n _ hlo hhi H.out).mono ?_
  rintro e w1 ⟨rfl, rfl⟩
  go_wp2_with fail
  refine (refPut_no x v a n _ hlo hhi H.out).mono ?_
  rintro e w1 ⟨rfl, rfl⟩
  go_wp2_with fail
  refine (sign_no v n _ G.out).mono ?_
  rintro e w1 ⟨rfl, rfl⟩
  go_wp2_with fail
  refine (refSign_no v n _ G.out).mono ?_
  rintro e w1 ⟨rfl, rfl⟩
  go_wp2_with fail
  go_ret
  exact ⟨rfl, hw0⟩

theorem fieldBits_walk (a0 : Int) (a1 : Int) (a2 : Int) (a3 : Int) (w0 : (Lit.int .u32 a0).wf = true) (_w1 : (Lit.int .i64 a1).wf = true) (w2 : (Lit.int .i64 a2).wf = true) (w3 : (Lit.int .u32 a3).wf = true) (w : World) :
    Calls Try.prog 3 #[.int .u32 a0, .int .i64 a1, .int .i64 a2, .int .u32 a3] w fun e w' => e = .returned (.bool true) ∧ Below w.heap.size w w' := by
  obtain ⟨x, rfl, hx⟩ := u32_nat w0
  obtain ⟨v, rfl, hv⟩ := u32_nat w3
  have b2 := bounds_i64 w2
  by_cases hn : a2 < 1 ∨ 32 < a2
  · exact fieldBits_no x v a1 a2 w b2.1 b2.2 hn
  · obtain ⟨n, rfl⟩ := Int.eq_ofNat_of_zero_le (show 0 ≤ a2 by omega)
    by_cases ha : a1 < 0 ∨ 32 - (n : Int) < a1
    · exact fieldBits_part x v n a1 w hv (by omega) (by omega) ha
    · obtain ⟨a, rfl⟩ := Int.eq_ofNat_of_zero_le (show 0 ≤ a1 by omega)
      exact fieldBits_yes x v a n w hx hv (by omega) (by omega)

/- a word's bytes, in new memory, read as they are -/
theorem bytes_row (x : Nat) (w : World) : RowB (w.alloc (.cells #[.int .u8 (byteN x 0 : Nat), .int .u8 (byteN x 1 : Nat), .int .u8 (byteN x 2 : Nat), .int .u8 (byteN x 3 : Nat)] 5)) (some ⟨w.heap.size, 0, none⟩) [byteN x 0, byteN x 1, byteN x 2, byteN x 3] := by
  refine rowB_new w [byteN x 0, byteN x 1, byteN x 2, byteN x 3] 5 ?_
  intro b hb
  simp at hb
  rcases hb with rfl | rfl | rfl | rfl <;> exact byteN_lt _ _

/- where nothing is asked of the bits -/
set_option maxHeartbeats 1000000 in
theorem fieldBack_bad (x v : Nat) (a n o : Int) (w : World) (hx : x < 4294967296) (hlo : -9223372036854775808 ≤ n) (hhi : n ≤ 9223372036854775807)
    (h : n < 1 ∨ (1 ≤ n ∧ 32 < n) ∨ (1 ≤ n ∧ n ≤ 32 ∧ a < 0) ∨ (1 ≤ n ∧ n ≤ 32 ∧ 0 ≤ a ∧ 32 - n < a) ∨ (1 ≤ n ∧ n ≤ 32 ∧ 0 ≤ a ∧ a ≤ 32 - n ∧ o < 0) ∨ (1 ≤ n ∧ n ≤ 32 ∧ 0 ≤ a ∧ a ≤ 32 - n ∧ 0 ≤ o ∧ 31 < o)) :
    Calls Try.prog 5 #[.int .u32 x, .int .i64 a, .int .i64 n, .int .u32 v, .int .i64 o] w fun e w' => e = .returned (.bool true) ∧ Below w.heap.size w w' := by
  have hxx : ((x : Int) != x) = false := by simp
  rcases h with h1 | ⟨h1, h2⟩ | ⟨h1, h2, h3⟩ | ⟨h1, h2, h3, h4⟩ | ⟨h1, h2, h3, h4, h5⟩ | ⟨h1, h2, h3, h4, h5, h6⟩
  all_goals
    go_enter Try.func5, Try.ntmps5
    go_wp2_with fail
    refine (up01 _).mono ?_
    rintro e w0 ⟨rfl, hw0⟩
    go_wp2_with fail
    refine (bytes_any x _ hx).mono ?_
    rintro e w1 ⟨rfl, rfl⟩
    go_wp2_with fail
    refine (word_any _ 4 [byteN x 0, byteN x 1, byteN x 2, byteN x 3] _ (bytes_row x w0) (Nat.le_refl 4) (by decide)).mono ?_
    rintro e w1 ⟨rfl, rfl⟩
    rw [word_bytes x hx]
    go_wp2_with fail
    go_ret
    exact ⟨rfl, hw0.alloc hw0.size _⟩

set_option maxHeartbeats 1000000 in
theorem fieldBack_far (x v a n o : Nat) (w : World) (hx : x < 4294967296) (hv : v < 4294967296) (h1 : 1 ≤ n) (h4 : a + n ≤ 32) (ho : o ≤ 31) (hf : o < a ∨ (a ≤ o ∧ a + n ≤ o)) :
    Calls Try.prog 5 #[.int .u32 x, .int .i64 a, .int .i64 n, .int .u32 v, .int .i64 o] w fun e w' => e = .returned (.bool true) ∧ Below w.heap.size w w' := by
  have hxx : ((x : Int) != x) = false := by simp
  have hp := putN_lt x a n v hx h4
  have e1 := Lib.hid (put_back x a n v)
  have e2 := Lib.hid (get_put x a n v)
  have e3 := Lib.hid (get_far x a n v o (by omega))
  rcases hf with hf | ⟨hf, hg⟩
  all_goals
    go_enter Try.func5, Try.ntmps5
    go_wp2_with fail
    refine (up01 _).mono ?_
    rintro e w0 ⟨rfl, hw0⟩
    go_wp2_with fail
    refine (bytes_any x _ hx).mono ?_
    rintro e w1 ⟨rfl, rfl⟩
    go_wp2_with fail
    refine (word_any _ 4 [byteN x 0, byteN x 1, byteN x 2, byteN x 3] _ (bytes_row x w0) (Nat.le_refl 4) (by decide)).mono ?_
    rintro e w1 ⟨rfl, rfl⟩
    rw [word_bytes x hx]
    have hb0 := hw0.alloc hw0.size (.cells #[.int .u8 (byteN x 0 : Nat), .int .u8 (byteN x 1 : Nat), .int .u8 (byteN x 2 : Nat), .int .u8 (byteN x 3 : Nat)] 5)
    generalize w0.alloc (.cells #[.int .u8 (byteN x 0 : Nat), .int .u8 (byteN x 1 : Nat), .int .u8 (byteN x 2 : Nat), .int .u8 (byteN x 3 : Nat)] 5) = W at hb0 ⊢
    go_wp2_with fail
    refine (put_yes x a n v _ hx hv h1 h4).mono ?_
    rintro e w2 ⟨rfl, hw2⟩
    generalize hP : putN x a n v = P at hp e1 e2 e3 ⊢
    have HP := Lib.hid hP
    clear hP
    go_wp2_with fail
    refine (get_yes x a n _ hx h1 h4).mono ?_
    rintro e w3 ⟨rfl, hw3⟩
    go_wp2_with fail
    refine (put_yes P a n (getN x a n) _ hp (getN_le x a n hx) h1 h4).mono ?_
    rintro e w4 ⟨rfl, hw4⟩
    rw [e1.out]
    go_wp2_with fail
    refine (get_yes P a n _ hp h1 h4).mono ?_
    rintro e w5 ⟨rfl, hw5⟩
    rw [e2.out]
    go_wp2_with fail
    refine (get_yes v 0 n _ hv h1 (by omega)).mono ?_
    rintro e w6 ⟨rfl, hw6⟩
    have hvv : (((getN v 0 n : Nat) : Int) != (getN v 0 n : Nat)) = false := by simp
    go_wp2_with fail
    refine (get_yes P o 1 _ hp (by omega) (by omega)).mono ?_
    rintro e w7 ⟨rfl, hw7⟩
    rw [e3.out]
    go_wp2_with fail
    refine (get_yes x o 1 _ hx (by omega) (by omega)).mono ?_
    rintro e w8 ⟨rfl, hw8⟩
    go_wp2_with fail
    go_ret
    exact ⟨rfl, hb0.trans ((((((hw2.trans hw3).trans hw4).trans hw5).trans hw6).trans (hw7.trans hw8)).below _)⟩

set_option maxHeartbeats 1000000 in
theorem fieldBack_near (x v a n o : Nat) (w : World) (hx : x < 4294967296) (hv : v < 4294967296) (h1 : 1 ≤ n) (h4 : a + n ≤ 32) (hf : a ≤ o) (hg : o < a + n) :
    Calls Try.prog 5 #[.int .u32 x, .int .i64 a, .int .i64 n, .int .u32 v, .int .i64 o] w fun e w' => e = .returned (.bool true) ∧ Below w.heap.size w w' := by
  have hxx : ((x : Int) != x) = false := by simp
  have hp := putN_lt x a n v hx h4
  have e1 := Lib.hid (put_back x a n v)
  have e2 := Lib.hid (get_put x a n v)
  have e3 := Lib.hid (get_near x a n v o hf hg)
  go_enter Try.func5, Try.ntmps5
  go_wp2_with fail
  refine (up01 _).mono ?_
  rintro e w0 ⟨rfl, hw0⟩
  go_wp2_with fail
  refine (bytes_any x _ hx).mono ?_
  rintro e w1 ⟨rfl, rfl⟩
  go_wp2_with fail
  refine (word_any _ 4 [byteN x 0, byteN x 1, byteN x 2, byteN x 3] _ (bytes_row x w0) (Nat.le_refl 4) (by decide)).mono ?_
  rintro e w1 ⟨rfl, rfl⟩
  rw [word_bytes x hx]
  have hb0 := hw0.alloc hw0.size (.cells #[.int .u8 (byteN x 0 : Nat), .int .u8 (byteN x 1 : Nat), .int .u8 (byteN x 2 : Nat), .int .u8 (byteN x 3 : Nat)] 5)
  generalize w0.alloc (.cells #[.int .u8 (byteN x 0 : Nat), .int .u8 (byteN x 1 : Nat), .int .u8 (byteN x 2 : Nat), .int .u8 (byteN x 3 : Nat)] 5) = W at hb0 ⊢
  go_wp2_with fail
  refine (put_yes x a n v _ hx hv h1 h4).mono ?_
  rintro e w2 ⟨rfl, hw2⟩
  generalize hP : putN x a n v = P at hp e1 e2 e3 ⊢
  have HP := Lib.hid hP
  clear hP
  go_wp2_with fail
  refine (get_yes x a n _ hx h1 h4).mono ?_
  rintro e w3 ⟨rfl, hw3⟩
  go_wp2_with fail
  refine (put_yes P a n (getN x a n) _ hp (getN_le x a n hx) h1 h4).mono ?_
  rintro e w4 ⟨rfl, hw4⟩
  rw [e1.out]
  go_wp2_with fail
  refine (get_yes P a n _ hp h1 h4).mono ?_
  rintro e w5 ⟨rfl, hw5⟩
  rw [e2.out]
  go_wp2_with fail
  refine (get_yes v 0 n _ hv h1 (by omega)).mono ?_
  rintro e w6 ⟨rfl, hw6⟩
  have hvv : (((getN v 0 n : Nat) : Int) != (getN v 0 n : Nat)) = false := by simp
  go_wp2_with fail
  refine (get_yes P o 1 _ hp (by omega) (by omega)).mono ?_
  rintro e w7 ⟨rfl, hw7⟩
  rw [e3.out]
  go_wp2_with fail
  rw [show (o : Int) - (a : Int) = ((o - a : Nat) : Int) by omega]
  refine (get_yes v (o - a) 1 _ hv (by omega) (by omega)).mono ?_
  rintro e w8 ⟨rfl, hw8⟩
  go_wp2_with fail
  go_ret
  exact ⟨rfl, hb0.trans ((((((hw2.trans hw3).trans hw4).trans hw5).trans hw6).trans (hw7.trans hw8)).below _)⟩

theorem fieldBack_walk (a0 : Int) (a1 : Int) (a2 : Int) (a3 : Int) (a4 : Int) (w0 : (Lit.int .u32 a0).wf = true) (_w1 : (Lit.int .i64 a1).wf = true) (w2 : (Lit.int .i64 a2).wf = true) (w3 : (Lit.int .u32 a3).wf = true) (_w4 : (Lit.int .i64 a4).wf = true) (w : World) :
    Calls Try.prog 5 #[.int .u32 a0, .int .i64 a1, .int .i64 a2, .int .u32 a3, .int .i64 a4] w fun e w' => e = .returned (.bool true) ∧ Below w.heap.size w w' := by
  obtain ⟨x, rfl, hx⟩ := u32_nat w0
  obtain ⟨v, rfl, hv⟩ := u32_nat w3
  have b2 := bounds_i64 w2
  by_cases h : 1 ≤ a2 ∧ a2 ≤ 32 ∧ 0 ≤ a1 ∧ a1 ≤ 32 - a2 ∧ 0 ≤ a4 ∧ a4 ≤ 31
  · obtain ⟨g1, g2, g3, g4, g5, g6⟩ := h
    obtain ⟨n, rfl⟩ := Int.eq_ofNat_of_zero_le (show 0 ≤ a2 by omega)
    obtain ⟨a, rfl⟩ := Int.eq_ofNat_of_zero_le g3
    obtain ⟨o, rfl⟩ := Int.eq_ofNat_of_zero_le g5
    by_cases hf : o < a ∨ (a ≤ o ∧ a + n ≤ o)
    · exact fieldBack_far x v a n o w hx hv (by omega) (by omega) (by omega) hf
    · exact fieldBack_near x v a n o w hx hv (by omega) (by omega) (by omega) (by omega)
  · exact fieldBack_bad x v a1 a2 a4 w hx b2.1 b2.2 (by omega)
end Go.Proofs.Ytldfpnflkkbfeaa
