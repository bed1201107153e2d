/-
  The walk of InsTells (layer 2): it returns true and changes nothing that was there. No conditions.
-/
import Derived.Test.YtimeieejbhdchaaInsG
namespace Go.Proofs.Ytimeieejbhdchaa
open Go.ChangeShapes Go.WideShapes Go.ChangeAt Go.RowKit

set_option maxHeartbeats 2000000 in
theorem insTells_yy (o a b : Nat) (n : Int) (x : Nat) (w : World) (hx : x < 4294967296) (hm : MayP o a b n) (hg : MayP (getN x 26 6 : Nat) (getN x 22 4 : Nat) (getN x 18 4 : Nat) (signI (getN x 0 18) 18)) :
    Calls Try.prog 3 #[.agg #[.int .i64 o, .int .i64 a, .int .i64 b, .int .i64 n], .int .u32 x] w fun e w' => e = .returned (.bool true) ∧ Below w.heap.size w w' := by
  have ho : o < 64 := by have := hm.1; unfold isOpP at this; omega
  have ha : a < 16 := by have := hm.2.1; unfold isRegP at this; omega
  have hb : b < 16 := by have := hm.2.2.1; unfold isRegP at this; omega
  have hn : -131072 ≤ n ∧ n ≤ 131071 := by have := hm.2.2.2; unfold isNumP at this; omega
  have Hm := Lib.hid hm
  have Hg := Lib.hid hg
  clear hm hg
  go_enter Try.func3, Try.ntmps3
  go_wp2_with fail
  refine (up02 _).mono ?_
  rintro e w1 ⟨rfl, hb1⟩
  have hc := old_cell hb1
  have hf := old_mark hb1
  go_wp2_with fail
  refine (refMay_yes o a b n _ Hm.out).mono ?_
  rintro e w2 ⟨rfl, hw2⟩
  have hb2 := below_on hb1 hw2 hb1.size
  clear hc hf hb1 hw2
  have hc := old_cell hb2
  have hf := old_mark hb2
  go_wp2_with fail
  refine (insPut_yes o a b n _ Hm.out).mono ?_
  rintro e w3 ⟨rfl, hw3⟩
  have hb3 := below_on hb2 hw3 hb2.size
  clear hc hf hb2 hw3
  have hc := old_cell hb3
  have hf := old_mark hb3
  go_wp2_with fail
  refine (may_yes o a b n _ Hm.out).mono ?_
  rintro e w4 ⟨rfl, hw4⟩
  have hb4 := below_on hb3 hw4 hb3.size
  clear hc hf hb3 hw4
  have hc := old_cell hb4
  have hf := old_mark hb4
  go_wp2_with fail
  refine (refPutIns_any o a b n _ ho ha hb hn.1 hn.2).mono ?_
  rintro e w5 ⟨rfl, hw5⟩
  have hb5 := below_on hb4 hw5 hb4.size
  clear hc hf hb4 hw5
  have hc := old_cell hb5
  have hf := old_mark hb5
  clear hc hf
  have hvv : (((insN o a b (lowN n) : Nat) : Int) != (insN o a b (lowN n) : Nat)) = false := by simp
  go_wp2_with fail
  refine (insGet_yes x _ hx Hg.out).mono ?_
  rintro e w6 ⟨rfl, hw6⟩
  have hb6 := below_on hb5 hw6 hb5.size
  clear hb5 hw6
  go_wp2_with fail
  refine (refGetIns_yes x _ hx Hg.out).mono ?_
  rintro e w7 ⟨rfl, hw7⟩
  have hc := old_cell hw7
  have hf := old_mark hw7
  have hz : w6.heap.size < w7.heap.size := by have := hw7.size; simp at this; omega
  go_wp2_with fail
  go_ret
  refine ⟨rfl, ?_⟩
  have c1 := ((Below.refl w.heap.size w).alloc (Nat.le_refl _) _).trans (hb6.mono (by simp))
  have c2 := c1.alloc c1.size (.cells #[.int .i64 (getN x 26 6 : Nat), .int .i64 (getN x 22 4 : Nat), .int .i64 (getN x 18 4 : Nat), .int .i64 (signI (getN x 0 18) 18)] 23)
  have c3 := below_on c2 hw7 c2.size
  exact c3.alloc c3.size _

set_option maxHeartbeats 2000000 in
theorem insTells_yn (o a b : Nat) (n : Int) (x : Nat) (w : World) (hx : x < 4294967296) (hm : MayP o a b n) (hg : ¬ MayP (getN x 26 6 : Nat) (getN x 22 4 : Nat) (getN x 18 4 : Nat) (signI (getN x 0 18) 18)) :
    Calls Try.prog 3 #[.agg #[.int .i64 o, .int .i64 a, .int .i64 b, .int .i64 n], .int .u32 x] w fun e w' => e = .returned (.bool true) ∧ Below w.heap.size w w' := by
  have ho : o < 64 := by have := hm.1; unfold isOpP at this; omega
  have ha : a < 16 := by have := hm.2.1; unfold isRegP at this; omega
  have hb : b < 16 := by have := hm.2.2.1; unfold isRegP at this; omega
  have hn : -131072 ≤ n ∧ n ≤ 131071 := by have := hm.2.2.2; unfold isNumP at this; omega
  have Hm := Lib.hid hm
  have Hg := Lib.hid hg
  clear hm hg
  go_enter Try.func3, Try.ntmps3
  go_wp2_with fail
  refine (up02 _).mono ?_
  rintro e w1 ⟨rfl, hb1⟩
  have hc := old_cell hb1
  have hf := old_mark hb1
  go_wp2_with fail
  refine (refMay_yes o a b n _ Hm.out).mono ?_
  rintro e w2 ⟨rfl, hw2⟩
  have hb2 := below_on hb1 hw2 hb1.size
  clear hc hf hb1 hw2
  have hc := old_cell hb2
  have hf := old_mark hb2
  go_wp2_with fail
  refine (insPut_yes o a b n _ Hm.out).mono ?_
  rintro e w3 ⟨rfl, hw3⟩
  have hb3 := below_on hb2 hw3 hb2.size
  clear hc hf hb2 hw3
  have hc := old_cell hb3
  have hf := old_mark hb3
  go_wp2_with fail
  refine (may_yes o a b n _ Hm.out).mono ?_
  rintro e w4 ⟨rfl, hw4⟩
  have hb4 := below_on hb3 hw4 hb3.size
  clear hc hf hb3 hw4
  have hc := old_cell hb4
  have hf := old_mark hb4
  go_wp2_with fail
  refine (refPutIns_any o a b n _ ho ha hb hn.1 hn.2).mono ?_
  rintro e w5 ⟨rfl, hw5⟩
  have hb5 := below_on hb4 hw5 hb4.size
  clear hc hf hb4 hw5
  have hc := old_cell hb5
  have hf := old_mark hb5
  clear hc hf
  have hvv : (((insN o a b (lowN n) : Nat) : Int) != (insN o a b (lowN n) : Nat)) = false := by simp
  go_wp2_with fail
  refine (insGet_no x _ hx Hg.out).mono ?_
  rintro e w6 ⟨rfl, hw6⟩
  have hb6 := below_on hb5 hw6 hb5.size
  clear hb5 hw6
  go_wp2_with fail
  refine (refGetIns_no x _ hx Hg.out).mono ?_
  rintro e w7 ⟨rfl, hw7⟩
  have hc := old_cell hw7
  have hf := old_mark hw7
  have hz : w6.heap.size < w7.heap.size := by have := hw7.size; simp at this; omega
  go_wp2_with fail
  go_ret
  refine ⟨rfl, ?_⟩
  have c1 := ((Below.refl w.heap.size w).alloc (Nat.le_refl _) _).trans (hb6.mono (by simp))
  have c2 := c1.alloc c1.size (.cells #[.int .i64 0, .int .i64 0, .int .i64 0, .int .i64 0] 23)
  have c3 := below_on c2 hw7 c2.size
  exact c3.alloc c3.size _

set_option maxHeartbeats 2000000 in
theorem insTells_ny (o a b n : Int) (x : Nat) (w : World) (hx : x < 4294967296) (hm : ¬ MayP o a b n) (hg : MayP (getN x 26 6 : Nat) (getN x 22 4 : Nat) (getN x 18 4 : Nat) (signI (getN x 0 18) 18)) :
    Calls Try.prog 3 #[.agg #[.int .i64 o, .int .i64 a, .int .i64 b, .int .i64 n], .int .u32 x] w fun e w' => e = .returned (.bool true) ∧ Below w.heap.size w w' := by
  have q := arg_neq
  have Hm := Lib.hid hm
  have Hg := Lib.hid hg
  clear hm hg
  go_enter Try.func3, Try.ntmps3
  go_wp2_with fail
  refine (up02 _).mono ?_
  rintro e w1 ⟨rfl, hb1⟩
  have hc := old_cell hb1
  have hf := old_mark hb1
  go_wp2_with fail
  refine (refMay_no o a b n _ Hm.out).mono ?_
  rintro e w2 ⟨rfl, hw2⟩
  have hb2 := below_on hb1 hw2 hb1.size
  clear hc hf hb1 hw2
  have hc := old_cell hb2
  have hf := old_mark hb2
  go_wp2_with fail
  refine (insPut_no o a b n _ Hm.out).mono ?_
  rintro e w3 ⟨rfl, hw3⟩
  have hb3 := below_on hb2 hw3 hb2.size
  clear hc hf hb2 hw3
  have hc := old_cell hb3
  have hf := old_mark hb3
  go_wp2_with fail
  refine (may_no o a b n _ Hm.out).mono ?_
  rintro e w4 ⟨rfl, hw4⟩
  have hb4 := below_on hb3 hw4 hb3.size
  clear hc hf hb3 hw4
  have hc := old_cell hb4
  have hf := old_mark hb4
  clear hc hf
  go_wp2_with fail
  refine (insGet_yes x _ hx Hg.out).mono ?_
  rintro e w5 ⟨rfl, hw5⟩
  have hb5 := below_on hb4 hw5 hb4.size
  clear hb4 hw5
  go_wp2_with fail
  refine (refGetIns_yes x _ hx Hg.out).mono ?_
  rintro e w6 ⟨rfl, hw6⟩
  have hc := old_cell hw6
  have hf := old_mark hw6
  have hz : w5.heap.size < w6.heap.size := by have := hw6.size; simp at this; omega
  go_wp2_with fail
  go_ret
  refine ⟨rfl, ?_⟩
  have c1 := ((Below.refl w.heap.size w).alloc (Nat.le_refl _) _).trans (hb5.mono (by simp))
  have c2 := c1.alloc c1.size (.cells #[.int .i64 (getN x 26 6 : Nat), .int .i64 (getN x 22 4 : Nat), .int .i64 (getN x 18 4 : Nat), .int .i64 (signI (getN x 0 18) 18)] 23)
  have c3 := below_on c2 hw6 c2.size
  exact c3.alloc c3.size _

set_option maxHeartbeats 2000000 in
theorem insTells_nn (o a b n : Int) (x : Nat) (w : World) (hx : x < 4294967296) (hm : ¬ MayP o a b n) (hg : ¬ MayP (getN x 26 6 : Nat) (getN x 22 4 : Nat) (getN x 18 4 : Nat) (signI (getN x 0 18) 18)) :
    Calls Try.prog 3 #[.agg #[.int .i64 o, .int .i64 a, .int .i64 b, .int .i64 n], .int .u32 x] w fun e w' => e = .returned (.bool true) ∧ Below w.heap.size w w' := by
  have q := arg_neq
  have Hm := Lib.hid hm
  have Hg := Lib.hid hg
  clear hm hg
  go_enter Try.func3, Try.ntmps3
  go_wp2_with fail
  refine (up02 _).mono ?_
  rintro e w1 ⟨rfl, hb1⟩
  have hc := old_cell hb1
  have hf := old_mark hb1
  go_wp2_with fail
  refine (refMay_no o a b n _ Hm.out).mono ?_
  rintro e w2 ⟨rfl, hw2⟩
  have hb2 := below_on hb1 hw2 hb1.size
  clear hc hf hb1 hw2
  have hc := old_cell hb2
  have hf := old_mark hb2
  go_wp2_with fail
  refine (insPut_no o a b n _ Hm.out).mono ?_
  rintro e w3 ⟨rfl, hw3⟩
  have hb3 := below_on hb2 hw3 hb2.size
  clear hc hf hb2 hw3
  have hc := old_cell hb3
  have hf := old_mark hb3
  go_wp2_with fail
  refine (may_no o a b n _ Hm.out).mono ?_
  rintro e w4 ⟨rfl, hw4⟩
  have hb4 := below_on hb3 hw4 hb3.size
  clear hc hf hb3 hw4
  have hc := old_cell hb4
  have hf := old_mark hb4
  clear hc hf
  go_wp2_with fail
  refine (insGet_no x _ hx Hg.out).mono ?_
  rintro e w5 ⟨rfl, hw5⟩
  have hb5 := below_on hb4 hw5 hb4.size
  clear hb4 hw5
  go_wp2_with fail
  refine (refGetIns_no x _ hx Hg.out).mono ?_
  rintro e w6 ⟨rfl, hw6⟩
  have hc := old_cell hw6
  have hf := old_mark hw6
  have hz : w5.heap.size < w6.heap.size := by have := hw6.size; simp at this; omega
  go_wp2_with fail
  go_ret
  refine ⟨rfl, ?_⟩
  have c1 := ((Below.refl w.heap.size w).alloc (Nat.le_refl _) _).trans (hb5.mono (by simp))
  have c2 := c1.alloc c1.size (.cells #[.int .i64 0, .int .i64 0, .int .i64 0, .int .i64 0] 23)
  have c3 := below_on c2 hw6 c2.size
  exact c3.alloc c3.size _

theorem insTells_walk (a0 a1 a2 a3 a4 : Int) (_w0 : (Lit.int .i64 a0).wf = true) (_w1 : (Lit.int .i64 a1).wf = true) (_w2 : (Lit.int .i64 a2).wf = true) (_w3 : (Lit.int .i64 a3).wf = true) (w4 : (Lit.int .u32 a4).wf = true) (w : World) :
    Calls Try.prog 3 #[.agg #[.int .i64 a0, .int .i64 a1, .int .i64 a2, .int .i64 a3], .int .u32 a4] w fun e w' => e = .returned (.bool true) ∧ Below w.heap.size w w' := by
  obtain ⟨x, rfl, hx⟩ := u32_nat w4
  by_cases hg : MayP (getN x 26 6 : Nat) (getN x 22 4 : Nat) (getN x 18 4 : Nat) (signI (getN x 0 18) 18)
  all_goals
    by_cases hm : MayP a0 a1 a2 a3
  · obtain ⟨o, rfl⟩ := Int.eq_ofNat_of_zero_le (show 0 ≤ a0 by have := hm.1.1; omega)
    obtain ⟨a, rfl⟩ := Int.eq_ofNat_of_zero_le hm.2.1.1
    obtain ⟨b, rfl⟩ := Int.eq_ofNat_of_zero_le hm.2.2.1.1
    exact insTells_yy o a b a3 x w hx hm hg
  · exact insTells_ny a0 a1 a2 a3 x w hx hm hg
  · obtain ⟨o, rfl⟩ := Int.eq_ofNat_of_zero_le (show 0 ≤ a0 by have := hm.1.1; omega)
    obtain ⟨a, rfl⟩ := Int.eq_ofNat_of_zero_le hm.2.1.1
    obtain ⟨b, rfl⟩ := Int.eq_ofNat_of_zero_le hm.2.2.1.1
    exact insTells_yn o a b a3 x w hx hm hg
  · exact insTells_nn a0 a1 a2 a3 x w hx hm hg
end Go.Proofs.Ytimeieejbhdchaa
