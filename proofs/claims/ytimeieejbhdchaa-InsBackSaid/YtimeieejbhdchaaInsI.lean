/-
  The walk of InsBack (layer 2): it returns true and changes nothing that was there. No conditions.
-/
import Derived.Test.YtimeieejbhdchaaInsG
namespace Go.Proofs.Ytimeieejbhdchaa
open Go.ChangeShapes Go.WideShapes Go.ChangeAt Go.RowKit

/- what was put is got -/
theorem insGet_put (o a b : Nat) (n : Int) (w : World) (h : MayP o a b n) :
    Calls Try.prog 10 #[.int .u32 (insN o a b (lowN n) : Nat)] w fun e w' => e = .returned (.tuple #[.agg #[.int .i64 o, .int .i64 a, .int .i64 b, .int .i64 n], .bool true]) ∧ Below w.heap.size w w' := by
  have ho : o < 64 := by have := h.1; unfold isOpP at this; omega
  have ha : a < 16 := by have := h.2.1; unfold isRegP at this; omega
  have hb : b < 16 := by have := h.2.2.1; unfold isRegP at this; omega
  have hn : -131072 ≤ n ∧ n ≤ 131071 := by have := h.2.2.2; unfold isNumP at this; omega
  have hl := lowN_lt n
  have g := insGet_yes (insN o a b (lowN n)) w (insN_lt o a b _ ho ha hb hl)
  rw [getN_26 o a b _ ho ha hb hl, getN_22 o a b _ ha hb hl, getN_18 o a b _ hb hl, getN_0 o a b _ hl, signI_low n hn.1 hn.2] at g
  exact g h

/- what was got is put -/
theorem insPut_got (x : Nat) (w : World) (hx : x < 4294967296) (h : MayP (getN x 26 6 : Nat) (getN x 22 4 : Nat) (getN x 18 4 : Nat) (signI (getN x 0 18) 18)) :
    Calls Try.prog 7 #[.agg #[.int .i64 (getN x 26 6 : Nat), .int .i64 (getN x 22 4 : Nat), .int .i64 (getN x 18 4 : Nat), .int .i64 (signI (getN x 0 18) 18)]] w fun e w' => e = .returned (.tuple #[.int .u32 x, .nilIface]) ∧ Below w.heap.size w w' := by
  have b4 : getN x 0 18 < 262144 := getN_lt x 0 18
  have g := insPut_yes (getN x 26 6) (getN x 22 4) (getN x 18 4) (signI (getN x 0 18) 18) w h
  rw [low_signI _ b4, ins_parts x hx] at g
  exact g

set_option maxHeartbeats 2000000 in
theorem insBack_yy (o a b : Nat) (n : Int) (x : Nat) (w : World) (hx : x < 4294967296) (hm : MayP o a b n) (hg : MayP (getN x 26 6 : Nat) (getN x 22 4 : Nat) (getN x 18 4 : Nat) (signI (getN x 0 18) 18)) :
    Calls Try.prog 4 #[.agg #[.int .i64 o, .int .i64 a, .int .i64 b, .int .i64 n], .int .u32 x] w fun e w' => e = .returned (.bool true) ∧ Below w.heap.size w w' := by
  have Hm := Lib.hid hm
  have Hg := Lib.hid hg
  clear hm hg
  go_enter Try.func4, Try.ntmps4
  go_wp2_with fail
  refine (up02 _).mono ?_
  rintro e w1 ⟨rfl, hb1⟩
  have hc := old_cell hb1
  have hf := old_mark hb1
  go_wp2_with fail
  refine (insPut_yes o a b n _ Hm.out).mono ?_
  rintro e w2 ⟨rfl, hw2⟩
  have hb2 := below_on hb1 hw2 hb1.size
  clear hc hf hb1 hw2
  have hc := old_cell hb2
  have hf := old_mark hb2
  go_wp2_with fail
  refine (insGet_put o a b n _ Hm.out).mono ?_
  rintro e w3 ⟨rfl, hw3⟩
  have hb3 := below_on hb2 hw3 hb2.size
  clear hc hf hb2 hw3
  have hb4 := hb3.alloc hb3.size (.cells #[.int .i64 o, .int .i64 a, .int .i64 b, .int .i64 n] 23)
  have hc := old_cell hb3
  have hf := old_mark hb3
  have hz : w.heap.size < w3.heap.size := by have := hb3.size; simp at this; omega
  go_wp2_with fail
  refine (insGet_yes x _ hx Hg.out).mono ?_
  rintro e w5 ⟨rfl, hw5⟩
  have hb5 := below_on hb4 hw5 hb4.size
  clear hc hf hb4 hw5
  have c5 := ((Below.refl w.heap.size w).alloc (Nat.le_refl _) _).trans (hb5.mono (by simp))
  have c6 := c5.alloc c5.size (.cells #[.int .i64 (getN x 26 6 : Nat), .int .i64 (getN x 22 4 : Nat), .int .i64 (getN x 18 4 : Nat), .int .i64 (signI (getN x 0 18) 18)] 23)
  go_wp2_with fail
  refine (insPut_got x _ hx Hg.out).mono ?_
  rintro e w6 ⟨rfl, hw6⟩
  have c7 := below_on c6 hw6 c6.size
  have hc := old_cell hw6
  have hf := old_mark hw6
  go_wp2_with fail
  refine (may_yes _ _ _ _ _ Hg.out).mono ?_
  rintro e w7 ⟨rfl, hw7⟩
  go_wp2_with fail
  go_ret
  exact ⟨rfl, below_on c7 hw7 c7.size⟩

set_option maxHeartbeats 2000000 in
theorem insBack_yn (o a b : Nat) (n : Int) (x : Nat) (w : World) (hx : x < 4294967296) (hm : MayP o a b n) (hg : ¬ MayP (getN x 26 6 : Nat) (getN x 22 4 : Nat) (getN x 18 4 : Nat) (signI (getN x 0 18) 18)) :
    Calls Try.prog 4 #[.agg #[.int .i64 o, .int .i64 a, .int .i64 b, .int .i64 n], .int .u32 x] w fun e w' => e = .returned (.bool true) ∧ Below w.heap.size w w' := by
  have Hm := Lib.hid hm
  have Hg := Lib.hid hg
  clear hm hg
  go_enter Try.func4, Try.ntmps4
  go_wp2_with fail
  refine (up02 _).mono ?_
  rintro e w1 ⟨rfl, hb1⟩
  have hc := old_cell hb1
  have hf := old_mark hb1
  go_wp2_with fail
  refine (insPut_yes o a b n _ Hm.out).mono ?_
  rintro e w2 ⟨rfl, hw2⟩
  have hb2 := below_on hb1 hw2 hb1.size
  clear hc hf hb1 hw2
  have hc := old_cell hb2
  have hf := old_mark hb2
  go_wp2_with fail
  refine (insGet_put o a b n _ Hm.out).mono ?_
  rintro e w3 ⟨rfl, hw3⟩
  have hb3 := below_on hb2 hw3 hb2.size
  clear hc hf hb2 hw3
  have hb4 := hb3.alloc hb3.size (.cells #[.int .i64 o, .int .i64 a, .int .i64 b, .int .i64 n] 23)
  have hc := old_cell hb3
  have hf := old_mark hb3
  have hz : w.heap.size < w3.heap.size := by have := hb3.size; simp at this; omega
  go_wp2_with fail
  refine (insGet_no x _ hx Hg.out).mono ?_
  rintro e w5 ⟨rfl, hw5⟩
  have hb5 := below_on hb4 hw5 hb4.size
  clear hc hf hb4 hw5
  have c5 := ((Below.refl w.heap.size w).alloc (Nat.le_refl _) _).trans (hb5.mono (by simp))
  have c6 := c5.alloc c5.size (.cells #[.int .i64 0, .int .i64 0, .int .i64 0, .int .i64 0] 23)
  go_wp2_with fail
  go_ret
  exact ⟨rfl, c6⟩

set_option maxHeartbeats 2000000 in
theorem insBack_ny (o a b n : Int) (x : Nat) (w : World) (hx : x < 4294967296) (hm : ¬ MayP o a b n) (hg : MayP (getN x 26 6 : Nat) (getN x 22 4 : Nat) (getN x 18 4 : Nat) (signI (getN x 0 18) 18)) :
    Calls Try.prog 4 #[.agg #[.int .i64 o, .int .i64 a, .int .i64 b, .int .i64 n], .int .u32 x] w fun e w' => e = .returned (.bool true) ∧ Below w.heap.size w w' := by
  have Hm := Lib.hid hm
  have Hg := Lib.hid hg
  clear hm hg
  go_enter Try.func4, Try.ntmps4
  go_wp2_with fail
  refine (up02 _).mono ?_
  rintro e w1 ⟨rfl, hb1⟩
  have hc := old_cell hb1
  have hf := old_mark hb1
  go_wp2_with fail
  refine (insPut_no o a b n _ Hm.out).mono ?_
  rintro e w2 ⟨rfl, hw2⟩
  have hb2 := below_on hb1 hw2 hb1.size
  clear hc hf hb1 hw2
  have hc := old_cell hb2
  have hf := old_mark hb2
  go_wp2_with fail
  refine (insGet_yes x _ hx Hg.out).mono ?_
  rintro e w5 ⟨rfl, hw5⟩
  have hb5 := below_on hb2 hw5 hb2.size
  clear hc hf hb2 hw5
  have c5 := ((Below.refl w.heap.size w).alloc (Nat.le_refl _) _).trans (hb5.mono (by simp))
  have c6 := c5.alloc c5.size (.cells #[.int .i64 (getN x 26 6 : Nat), .int .i64 (getN x 22 4 : Nat), .int .i64 (getN x 18 4 : Nat), .int .i64 (signI (getN x 0 18) 18)] 23)
  go_wp2_with fail
  refine (insPut_got x _ hx Hg.out).mono ?_
  rintro e w6 ⟨rfl, hw6⟩
  have c7 := below_on c6 hw6 c6.size
  have hc := old_cell hw6
  have hf := old_mark hw6
  go_wp2_with fail
  refine (may_yes _ _ _ _ _ Hg.out).mono ?_
  rintro e w7 ⟨rfl, hw7⟩
  go_wp2_with fail
  go_ret
  exact ⟨rfl, below_on c7 hw7 c7.size⟩

set_option maxHeartbeats 2000000 in
theorem insBack_nn (o a b n : Int) (x : Nat) (w : World) (hx : x < 4294967296) (hm : ¬ MayP o a b n) (hg : ¬ MayP (getN x 26 6 : Nat) (getN x 22 4 : Nat) (getN x 18 4 : Nat) (signI (getN x 0 18) 18)) :
    Calls Try.prog 4 #[.agg #[.int .i64 o, .int .i64 a, .int .i64 b, .int .i64 n], .int .u32 x] w fun e w' => e = .returned (.bool true) ∧ Below w.heap.size w w' := by
  have Hm := Lib.hid hm
  have Hg := Lib.hid hg
  clear hm hg
  go_enter Try.func4, Try.ntmps4
  go_wp2_with fail
  refine (up02 _).mono ?_
  rintro e w1 ⟨rfl, hb1⟩
  have hc := old_cell hb1
  have hf := old_mark hb1
  go_wp2_with fail
  refine (insPut_no o a b n _ Hm.out).mono ?_
  rintro e w2 ⟨rfl, hw2⟩
  have hb2 := below_on hb1 hw2 hb1.size
  clear hc hf hb1 hw2
  have hc := old_cell hb2
  have hf := old_mark hb2
  go_wp2_with fail
  refine (insGet_no x _ hx Hg.out).mono ?_
  rintro e w5 ⟨rfl, hw5⟩
  have hb5 := below_on hb2 hw5 hb2.size
  clear hc hf hb2 hw5
  have c5 := ((Below.refl w.heap.size w).alloc (Nat.le_refl _) _).trans (hb5.mono (by simp))
  have c6 := c5.alloc c5.size (.cells #[.int .i64 0, .int .i64 0, .int .i64 0, .int .i64 0] 23)
  go_wp2_with fail
  go_ret
  exact ⟨rfl, c6⟩

theorem insBack_walk (a0 a1 a2 a3 a4 : Int) (_w0 : (Lit.int .i64 a0).wf = true) (_w1 : (Lit.int .i64 a1).wf = true) (_w2 : (Lit.int .i64 a2).wf = true) (_w3 : (Lit.int .i64 a3).wf = true) (w4 : (Lit.int .u32 a4).wf = true) (w : World) :
    Calls Try.prog 4 #[.agg #[.int .i64 a0, .int .i64 a1, .int .i64 a2, .int .i64 a3], .int .u32 a4] w fun e w' => e = .returned (.bool true) ∧ Below w.heap.size w w' := by
  obtain ⟨x, rfl, hx⟩ := u32_nat w4
  by_cases hg : MayP (getN x 26 6 : Nat) (getN x 22 4 : Nat) (getN x 18 4 : Nat) (signI (getN x 0 18) 18)
  all_goals
    by_cases hm : MayP a0 a1 a2 a3
  · obtain ⟨o, rfl⟩ := Int.eq_ofNat_of_zero_le (show 0 ≤ a0 by have := hm.1.1; omega)
    obtain ⟨a, rfl⟩ := Int.eq_ofNat_of_zero_le hm.2.1.1
    obtain ⟨b, rfl⟩ := Int.eq_ofNat_of_zero_le hm.2.2.1.1
    exact insBack_yy o a b a3 x w hx hm hg
  · exact insBack_ny a0 a1 a2 a3 x w hx hm hg
  · obtain ⟨o, rfl⟩ := Int.eq_ofNat_of_zero_le (show 0 ≤ a0 by have := hm.1.1; omega)
    obtain ⟨a, rfl⟩ := Int.eq_ofNat_of_zero_le hm.2.1.1
    obtain ⟨b, rfl⟩ := Int.eq_ofNat_of_zero_le hm.2.2.1.1
    exact insBack_yn o a b a3 x w hx hm hg
  · exact insBack_nn a0 a1 a2 a3 x w hx hm hg
end Go.Proofs.Ytimeieejbhdchaa
