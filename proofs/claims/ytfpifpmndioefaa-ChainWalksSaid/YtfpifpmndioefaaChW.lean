/-
  The walk of ChainWalks (layer 13): true at any words, any instruction. No conditions.
-/
import Derived.Test.YtfpifpmndioefaaChU
import Derived.Test.YtfpifpmndioefaaChR
import Derived.Test.YtfpifpmndioefaaChS
import Derived.Test.YtfpifpmndioefaaChO
import Derived.Test.YtfpifpmndioefaaErr
namespace Go.Proofs.Ytfpifpmndioefaa
open Go.ChangeShapes Go.WideShapes Go.ChangeAt Go.RowKit

/- while the law goes on: the instruction's block -/
structure Law13 (w wr : World) (B : Nat) (x : List Value) : Prop where
  row : RowAt wr B IT x
  below : Below w.heap.size w wr
  hB : w.heap.size ≤ B
theorem Law13.on {w wr w' : World} {B : Nat} {x : List Value} (h : Law13 w wr B x) (hb : Below wr.heap.size wr w') : Law13 w w' B x :=
  ⟨h.row.keep (Kept.of_below (S := fun _ => False) hb) (fun e => e), below_on h.below hb h.below.size, h.hB⟩
theorem Law13.start (w : World) (x : List Value) : Law13 w (w.alloc (.cells x.toArray IT)) w.heap.size x :=
  ⟨RowAt.new w IT x, (Below.refl _ _).alloc (Nat.le_refl _) _, Nat.le_refl _⟩
theorem Law13.set {w wr : World} {B : Nat} {x : List Value} (h : Law13 w wr B x) (i : Nat) (u : Value) : Law13 w (wr.setCell ⟨B, i, none⟩ u) B (x.set i u) :=
  ⟨h.row.setCell i u, (kept_set wr B i u).below h.below h.below.size (fun _ _ e => by have := h.hB; omega), h.hB⟩
set_option maxRecDepth 100000 in
set_option maxHeartbeats 2000000 in
theorem chain_long (a : Option Addr) (n cap : Nat) (code : List Nat) (head op o ia ib i d m e : Int) (w : World) (hc : WordsAt w (.slice a n cap) code) (hn : 600 < n) :
    Calls Try.prog 3 #[.slice a n cap, .int .i64 head, .int .i64 op, .agg #[.int .i64 o, .int .i64 ia, .int .i64 ib, .int .i64 i], .int .i64 d, .int .i64 m, .int .i64 e] w fun e w' => e = .returned (.bool true) ∧ Below w.heap.size w w' := by
  have i1 : (600 : Int) < (n : Int) := by omega
  have HT' : Hid (Law13 w (w.alloc (.cells #[.int .i64 o, .int .i64 ia, .int .i64 ib, .int .i64 i] IT)) w.heap.size (insRow o ia ib i)) := Law13.start w _
  have HC := Lib.hid hc
  clear hc
  go_enter Try.func3, Try.ntmps3
  go_upto_region 1 with fail
  generalize w.alloc (.cells #[.int .i64 o, .int .i64 ia, .int .i64 ib, .int .i64 i] IT) = w0 at *
  obtain ⟨B, hB⟩ : ∃ B, B = w.heap.size := ⟨_, rfl⟩
  have HT0 : Hid (Law13 w w0 B (insRow o ia ib i)) := by rw [hB]; exact HT'.out
  rw [← hB]
  clear HT' hB
  go_wp2_with fail
  refine (up13 w0).mono ?_
  rintro e w1 ⟨rfl, hb1⟩
  have HT := Lib.hid (HT0.out.on hb1)
  clear hb1 HT0
  go_wp2_with fail
  go_ret
  exact ⟨rfl, HT.out.below⟩
theorem Law13.two {w wr : World} {B : Nat} {x : List Value} (h : Law13 w wr B x) (y : List Value) : TwoI w (wr.alloc (.cells y.toArray IT)) B wr.heap.size x y := by
  have hb : Below wr.heap.size wr (wr.alloc (.cells y.toArray IT)) := (Below.refl _ _).alloc (Nat.le_refl _) _
  exact ⟨h.row.keep (Kept.of_below (S := fun _ => False) hb) (fun e => e), RowAt.new wr IT y, below_on h.below hb h.below.size, Nat.ne_of_lt h.row.lt, h.hB, h.below.size⟩
theorem mark_int (o a b n d m e z : Int) (w : World) (h : MarkP o a b n d m e) (hz : z = if 131071 < 1024 * d + 64 * m + e then 1024 * d + 64 * m + e - 262144 else 1024 * d + 64 * m + e) :
    Calls Try.prog 8 #[.agg #[.int .i64 o, .int .i64 a, .int .i64 b, .int .i64 n], .int .i64 d, .int .i64 m, .int .i64 e] w fun x w' => x = .returned (.tuple #[.agg #[.int .i64 o, .int .i64 a, .int .i64 b, .int .i64 z], .nilIface]) ∧ Below w.heap.size w w' := by
  obtain ⟨D, rfl⟩ := Int.eq_ofNat_of_zero_le h.2.1.1
  obtain ⟨M, rfl⟩ := Int.eq_ofNat_of_zero_le h.2.2.1.1
  obtain ⟨E, rfl⟩ := Int.eq_ofNat_of_zero_le h.2.2.2.1
  have e1 : z = markI D M E := by
    rw [hz]
    unfold markI markN
    split <;> split <;> omega
  rw [e1]
  exact mark_yes o a b n D M E w h
/- what is asked of the marked one, by the first test that fails -/
theorem noMark {o a b n d m e : Int} (h : ¬ MarkP o a b n d m e) : ¬ MayP o a b n ∨ (MayP o a b n ∧ (d < 0 ∨ (0 ≤ d ∧ 255 < d) ∨ (0 ≤ d ∧ d ≤ 255 ∧ m < 0) ∨ (0 ≤ d ∧ d ≤ 255 ∧ 0 ≤ m ∧ 15 < m) ∨ (0 ≤ d ∧ d ≤ 255 ∧ 0 ≤ m ∧ m ≤ 15 ∧ e < 0) ∨ (0 ≤ d ∧ d ≤ 255 ∧ 0 ≤ m ∧ m ≤ 15 ∧ 0 ≤ e ∧ 63 < e))) := by
  rcases markNo h with h1 | ⟨h1, h2⟩ | ⟨h1, h2, h3⟩ | ⟨h1, h2, h3, h4⟩
  · exact .inl h1
  · exact .inr ⟨h1, by omega⟩
  · exact .inr ⟨h1, by omega⟩
  · exact .inr ⟨h1, by omega⟩
set_option maxRecDepth 100000 in
set_option maxHeartbeats 4000000 in
theorem chain_some (a : Option Addr) (n cap : Nat) (code : List Nat) (head op o ia ib i d m e : Int) (w : World) (hc : WordsAt w (.slice a n cap) code) (hn : n ≤ 600) (hh : (Lit.int .i64 head).wf = true) (r : List RefD) (hans : walkV code head op = some r) :
    Calls Try.prog 3 #[.slice a n cap, .int .i64 head, .int .i64 op, .agg #[.int .i64 o, .int .i64 ia, .int .i64 ib, .int .i64 i], .int .i64 d, .int .i64 m, .int .i64 e] w fun e w' => e = .returned (.bool true) ∧ Below w.heap.size w w' := by
  have i1 : ¬ (600 : Int) < (n : Int) := by omega
  have HT' : Hid (Law13 w (w.alloc (.cells #[.int .i64 o, .int .i64 ia, .int .i64 ib, .int .i64 i] IT)) w.heap.size (insRow o ia ib i)) := Law13.start w _
  have HC := Lib.hid hc
  clear hc
  go_enter Try.func3, Try.ntmps3
  go_upto_region 1 with fail
  generalize w.alloc (.cells #[.int .i64 o, .int .i64 ia, .int .i64 ib, .int .i64 i] IT) = w0 at *
  obtain ⟨B, hB⟩ : ∃ B, B = w.heap.size := ⟨_, rfl⟩
  have HT0 : Hid (Law13 w w0 B (insRow o ia ib i)) := by rw [hB]; exact HT'.out
  rw [← hB]
  clear HT' hB
  go_wp2_with fail
  refine (up13 w0).mono ?_
  rintro e w1 ⟨rfl, hb1⟩
  have HT := Lib.hid (HT0.out.on hb1)
  clear hb1 HT0
  have HW : Hid (∀ w' : World, Below w.heap.size w w' → Calls Try.prog 5 #[.slice a n cap, .int .i64 head, .int .i64 op] w' fun e w'' => ∃ v, e = .returned (.tuple #[v, .nilIface]) ∧ WalkWay CT w' w'' v r) := fun w' hb => by
    have := walk_any a n cap code head op w' (HC.out.on hb) (by omega) hh
    rw [hans] at this
    exact this
  have HV : Hid (∀ w' : World, Below w.heap.size w w' → Calls Try.prog 6 #[.slice a n cap, .int .i64 head, .int .i64 op] w' fun e w'' => ∃ v, e = .returned (.tuple #[v, .bool true]) ∧ WalkWay RT w' w'' v r) := fun w' hb => by
    have := rwalk_any a n cap code head op w' (HC.out.on hb) (by omega) hh
    rw [hans] at this
    exact this
  clear hans HC
  go_wp2_with fail
  refine (HW.out _ HT.out.below).mono ?_
  rintro e w2 ⟨v2, rfl, hw2⟩
  have HT2 := Lib.hid (HT.out.on hw2.2.2)
  have HE2 := Lib.hid (hw2.1.els refRow_len)
  obtain ⟨a2, c2, rfl, _⟩ := hw2.1.shape
  clear hw2 HT HW
  go_wp2_with fail
  refine (HV.out _ HT2.out.below).mono ?_
  rintro e w3 ⟨v3, rfl, hw3⟩
  have HT3 := Lib.hid (HT2.out.on hw3.2.2)
  have HE3 := Lib.hid (hw3.1.els refRow_len)
  have HE23 := Lib.hid (HE2.out.on hw3.2.2)
  obtain ⟨a3, c3, rfl, _⟩ := hw3.1.shape
  clear hw3 HT2 HV HE2
  go_wp2_with fail
  refine (same_yes _ _ r _ HE23.out HE3.out).mono ?_
  rintro e w4 ⟨rfl, hd4⟩
  have HT4 := Lib.hid (HT3.out.on (hd4.below _))
  clear hd4 HT3 HE3 HE23
  by_cases hk : MarkP o ia ib i d m e
  · have hd : 0 ≤ d ∧ d ≤ 255 := ⟨hk.2.1.1, by have := hk.2.1.2; omega⟩
    have hm : 0 ≤ m ∧ m ≤ 15 := ⟨hk.2.2.1.1, by have := hk.2.2.1.2; omega⟩
    have he : 0 ≤ e ∧ e ≤ 63 := ⟨hk.2.2.2.1, by have := hk.2.2.2.2; omega⟩
    obtain ⟨k1, k2⟩ := hd
    obtain ⟨k3, k4⟩ := hm
    obtain ⟨k5, k6⟩ := he
    have HY : Hid (∀ w : World, Calls Try.prog 9 #[.agg #[.int .i64 o, .int .i64 ia, .int .i64 ib, .int .i64 i]] w fun e w' => e = .returned (.bool true) ∧ Below w.heap.size w w') := fun w => refMay_yes o ia ib i w hk.1
    by_cases h131 : 131071 < 1024 * d + 64 * m + e
    · have HM : Hid (∀ w : World, Calls Try.prog 8 #[.agg #[.int .i64 o, .int .i64 ia, .int .i64 ib, .int .i64 i], .int .i64 d, .int .i64 m, .int .i64 e] w fun x w' => x = .returned (.tuple #[.agg #[.int .i64 o, .int .i64 ia, .int .i64 ib, .int .i64 (1024 * d + 64 * m + e - 262144)], .nilIface]) ∧ Below w.heap.size w w') := fun w => mark_int o ia ib i d m e _ w hk (by rw [if_pos h131])
      clear hk
      go_wp2_with (refine wpList_load_row rfl _ _ rfl B rfl IT (insRow o ia ib i).toArray (0, 0) _ HT4.out.row Try.underlying24 rfl (by rw [size_ins]; rfl) ?_)
      refine (HM.out _).mono ?_
      rintro x w5 ⟨rfl, hb5⟩
      have RUN := Lib.hid (box_ins w5 o ia ib (1024 * d + 64 * m + e - 262144))
      have HT5 := Lib.hid ((HT4.out.on hb5).two (insRow o ia ib (1024 * d + 64 * m + e - 262144)))
      clear hb5 HT4 HM
      go_wp2_with (first
        | (refine wpList_store_run _ rfl _ _ _ rfl _ _ rfl rfl (by exact RUN.out) ?_)
        | (refine wpList_load_row rfl _ _ rfl B rfl IT (insRow o ia ib i).toArray (0, 0) _ HT5.out.rowb Try.underlying24 rfl (by rw [size_ins]; rfl) ?_))
      refine (HY.out _).mono ?_
      rintro x w6 ⟨rfl, hb6⟩
      have HT6 := Lib.hid (HT5.out.on hb6)
      generalize w5.heap.size = X at *
      clear hb6 HT5 HY RUN
      have c3 : w6.cell? ⟨B, 3, none⟩ = some (.int .i64 i) := HT6.out.rowb.cell 3
      have f3 : w6.frozen? ⟨B, 3, none⟩ = false := HT6.out.rowb.free 3
      have HT7 : Hid (TwoI w (w6.setCell ⟨B, 3, none⟩ (.int .i64 (1024 * d + 64 * m + e - 262144))) B X (insRow o ia ib (1024 * d + 64 * m + e - 262144)) (insRow o ia ib (1024 * d + 64 * m + e - 262144))) := HT6.out.setB 3 (.int .i64 (1024 * d + 64 * m + e - 262144))
      clear HT6
      go_wp2_with (first
        | (refine load_row_on rfl _ _ rfl X rfl IT #[.int .i64 o, .int .i64 ia, .int .i64 ib, .int .i64 (1024 * d + 64 * m + e - 262144)] (0, 0) _ HT7.out.rowr Try.underlying24 rfl (by rw [size_ins]; rfl) ?_)
        | (refine load_row_on rfl _ _ rfl B rfl IT #[.int .i64 o, .int .i64 ia, .int .i64 ib, .int .i64 (1024 * d + 64 * m + e - 262144)] (0, 0) _ HT7.out.rowb Try.underlying24 rfl (by rw [size_ins]; rfl) ?_))
      go_ret
      exact ⟨end_bool (by simp), HT7.out.below⟩
    · have HM : Hid (∀ w : World, Calls Try.prog 8 #[.agg #[.int .i64 o, .int .i64 ia, .int .i64 ib, .int .i64 i], .int .i64 d, .int .i64 m, .int .i64 e] w fun x w' => x = .returned (.tuple #[.agg #[.int .i64 o, .int .i64 ia, .int .i64 ib, .int .i64 (1024 * d + 64 * m + e)], .nilIface]) ∧ Below w.heap.size w w') := fun w => mark_int o ia ib i d m e _ w hk (by rw [if_neg h131])
      clear hk
      go_wp2_with (refine wpList_load_row rfl _ _ rfl B rfl IT (insRow o ia ib i).toArray (0, 0) _ HT4.out.row Try.underlying24 rfl (by rw [size_ins]; rfl) ?_)
      refine (HM.out _).mono ?_
      rintro x w5 ⟨rfl, hb5⟩
      have RUN := Lib.hid (box_ins w5 o ia ib (1024 * d + 64 * m + e))
      have HT5 := Lib.hid ((HT4.out.on hb5).two (insRow o ia ib (1024 * d + 64 * m + e)))
      clear hb5 HT4 HM
      go_wp2_with (first
        | (refine wpList_store_run _ rfl _ _ _ rfl _ _ rfl rfl (by exact RUN.out) ?_)
        | (refine wpList_load_row rfl _ _ rfl B rfl IT (insRow o ia ib i).toArray (0, 0) _ HT5.out.rowb Try.underlying24 rfl (by rw [size_ins]; rfl) ?_))
      refine (HY.out _).mono ?_
      rintro x w6 ⟨rfl, hb6⟩
      have HT6 := Lib.hid (HT5.out.on hb6)
      generalize w5.heap.size = X at *
      clear hb6 HT5 HY RUN
      have c3 : w6.cell? ⟨B, 3, none⟩ = some (.int .i64 i) := HT6.out.rowb.cell 3
      have f3 : w6.frozen? ⟨B, 3, none⟩ = false := HT6.out.rowb.free 3
      have HT7 : Hid (TwoI w (w6.setCell ⟨B, 3, none⟩ (.int .i64 (1024 * d + 64 * m + e))) B X (insRow o ia ib (1024 * d + 64 * m + e)) (insRow o ia ib (1024 * d + 64 * m + e))) := HT6.out.setB 3 (.int .i64 (1024 * d + 64 * m + e))
      clear HT6
      go_wp2_with (first
        | (refine load_row_on rfl _ _ rfl X rfl IT #[.int .i64 o, .int .i64 ia, .int .i64 ib, .int .i64 (1024 * d + 64 * m + e)] (0, 0) _ HT7.out.rowr Try.underlying24 rfl (by rw [size_ins]; rfl) ?_)
        | (refine load_row_on rfl _ _ rfl B rfl IT #[.int .i64 o, .int .i64 ia, .int .i64 ib, .int .i64 (1024 * d + 64 * m + e)] (0, 0) _ HT7.out.rowb Try.underlying24 rfl (by rw [size_ins]; rfl) ?_))
      go_ret
      exact ⟨end_bool (by simp), HT7.out.below⟩
  · rcases noMark hk with hy | ⟨hy, hz⟩
    · have HM : Hid (∀ w : World, Calls Try.prog 8 #[.agg #[.int .i64 o, .int .i64 ia, .int .i64 ib, .int .i64 i], .int .i64 d, .int .i64 m, .int .i64 e] w fun x w' => x = .returned (.tuple #[.agg #[.int .i64 0, .int .i64 0, .int .i64 0, .int .i64 0], argV]) ∧ Below w.heap.size w w') := fun w => mark_no o ia ib i d m e w hk
      have HY : Hid (∀ w : World, Calls Try.prog 9 #[.agg #[.int .i64 o, .int .i64 ia, .int .i64 ib, .int .i64 i]] w fun e w' => e = .returned (.bool false) ∧ Below w.heap.size w w') := fun w => refMay_no o ia ib i w hy
      clear hk hy
      go_wp2_with (refine wpList_load_row rfl _ _ rfl B rfl IT (insRow o ia ib i).toArray (0, 0) _ HT4.out.row Try.underlying24 rfl (by rw [size_ins]; rfl) ?_)
      refine (HM.out _).mono ?_
      rintro x w5 ⟨rfl, hb5⟩
      have RUN := Lib.hid (box_ins w5 0 0 0 0)
      have HT5 := Lib.hid ((HT4.out.on hb5).two (insRow 0 0 0 0))
      clear hb5 HT4 HM
      go_wp2_with (first
        | (refine wpList_store_run _ rfl _ _ _ rfl _ _ rfl rfl (by exact RUN.out) ?_)
        | (refine wpList_load_row rfl _ _ rfl B rfl IT (insRow o ia ib i).toArray (0, 0) _ HT5.out.rowb Try.underlying24 rfl (by rw [size_ins]; rfl) ?_))
      refine (HY.out _).mono ?_
      rintro x w6 ⟨rfl, hb6⟩
      have HT6 := Lib.hid (HT5.out.on hb6)
      generalize w5.heap.size = X at *
      clear hb6 HT5 HY RUN
      have q2 := arg_eql
      go_wp2_with (refine load_row_on rfl _ _ rfl X rfl IT #[.int .i64 0, .int .i64 0, .int .i64 0, .int .i64 0] (0, 0) _ HT6.out.rowr Try.underlying24 rfl (by rw [size_ins]; rfl) ?_)
      go_ret
      exact ⟨rfl, HT6.out.below⟩
    · have HM : Hid (∀ w : World, Calls Try.prog 8 #[.agg #[.int .i64 o, .int .i64 ia, .int .i64 ib, .int .i64 i], .int .i64 d, .int .i64 m, .int .i64 e] w fun x w' => x = .returned (.tuple #[.agg #[.int .i64 0, .int .i64 0, .int .i64 0, .int .i64 0], argV]) ∧ Below w.heap.size w w') := fun w => mark_no o ia ib i d m e w hk
      have HY : Hid (∀ w : World, Calls Try.prog 9 #[.agg #[.int .i64 o, .int .i64 ia, .int .i64 ib, .int .i64 i]] w fun e w' => e = .returned (.bool true) ∧ Below w.heap.size w w') := fun w => refMay_yes o ia ib i w hy
      clear hk hy
      rcases hz with z1 | ⟨z1, z2⟩ | ⟨z1, z2, z3⟩ | ⟨z1, z2, z3, z4⟩ | ⟨z1, z2, z3, z4, z5⟩ | ⟨z1, z2, z3, z4, z5, z6⟩
      all_goals
        go_wp2_with (refine wpList_load_row rfl _ _ rfl B rfl IT (insRow o ia ib i).toArray (0, 0) _ HT4.out.row Try.underlying24 rfl (by rw [size_ins]; rfl) ?_)
        refine (HM.out _).mono ?_
        rintro x w5 ⟨rfl, hb5⟩
        have RUN := Lib.hid (box_ins w5 0 0 0 0)
        have HT5 := Lib.hid ((HT4.out.on hb5).two (insRow 0 0 0 0))
        clear hb5 HT4 HM
        go_wp2_with (first
          | (refine wpList_store_run _ rfl _ _ _ rfl _ _ rfl rfl (by exact RUN.out) ?_)
          | (refine wpList_load_row rfl _ _ rfl B rfl IT (insRow o ia ib i).toArray (0, 0) _ HT5.out.rowb Try.underlying24 rfl (by rw [size_ins]; rfl) ?_))
        refine (HY.out _).mono ?_
        rintro x w6 ⟨rfl, hb6⟩
        have HT6 := Lib.hid (HT5.out.on hb6)
        generalize w5.heap.size = X at *
        clear hb6 HT5 HY RUN
        have q2 := arg_eql
        go_wp2_with (refine load_row_on rfl _ _ rfl X rfl IT #[.int .i64 0, .int .i64 0, .int .i64 0, .int .i64 0] (0, 0) _ HT6.out.rowr Try.underlying24 rfl (by rw [size_ins]; rfl) ?_)
        go_ret
        exact ⟨rfl, HT6.out.below⟩
set_option maxRecDepth 100000 in
set_option maxHeartbeats 4000000 in
theorem chain_none (a : Option Addr) (n cap : Nat) (code : List Nat) (head op o ia ib i d m e : Int) (w : World) (hc : WordsAt w (.slice a n cap) code) (hn : n ≤ 600) (hh : (Lit.int .i64 head).wf = true) (hans : walkV code head op = none) :
    Calls Try.prog 3 #[.slice a n cap, .int .i64 head, .int .i64 op, .agg #[.int .i64 o, .int .i64 ia, .int .i64 ib, .int .i64 i], .int .i64 d, .int .i64 m, .int .i64 e] w fun e w' => e = .returned (.bool true) ∧ Below w.heap.size w w' := by
  have i1 : ¬ (600 : Int) < (n : Int) := by omega
  have HT' : Hid (Law13 w (w.alloc (.cells #[.int .i64 o, .int .i64 ia, .int .i64 ib, .int .i64 i] IT)) w.heap.size (insRow o ia ib i)) := Law13.start w _
  have HC := Lib.hid hc
  clear hc
  go_enter Try.func3, Try.ntmps3
  go_upto_region 1 with fail
  generalize w.alloc (.cells #[.int .i64 o, .int .i64 ia, .int .i64 ib, .int .i64 i] IT) = w0 at *
  obtain ⟨B, hB⟩ : ∃ B, B = w.heap.size := ⟨_, rfl⟩
  have HT0 : Hid (Law13 w w0 B (insRow o ia ib i)) := by rw [hB]; exact HT'.out
  rw [← hB]
  clear HT' hB
  go_wp2_with fail
  refine (up13 w0).mono ?_
  rintro e w1 ⟨rfl, hb1⟩
  have HT := Lib.hid (HT0.out.on hb1)
  clear hb1 HT0
  have HW : Hid (∀ w' : World, Below w.heap.size w w' → Calls Try.prog 5 #[.slice a n cap, .int .i64 head, .int .i64 op] w' fun e w'' => e = .returned (.tuple #[.slice none 0 0, formV]) ∧ Below w'.heap.size w' w'') := fun w' hb => by
    have := walk_any a n cap code head op w' (HC.out.on hb) (by omega) hh
    rw [hans] at this
    exact this
  have HV : Hid (∀ w' : World, Below w.heap.size w w' → Calls Try.prog 6 #[.slice a n cap, .int .i64 head, .int .i64 op] w' fun e w'' => e = .returned (.tuple #[.slice none 0 0, .bool false]) ∧ Below w'.heap.size w' w'') := fun w' hb => by
    have := rwalk_any a n cap code head op w' (HC.out.on hb) (by omega) hh
    rw [hans] at this
    exact this
  have HE : Hid (∀ w' : World, Calls Try.prog 7 #[.slice none 0 0, .slice none 0 0] w' fun e w'' => e = .returned (.int .i64 1) ∧ Drawn w' w'') := fun w' => same_yes _ _ [] w' (SRow.els (t := CT) (L := []) (row := refRow) (SRow.nil CT 3 w') refRow_len) (SRow.els (t := RT) (L := []) (row := refRow) (SRow.nil RT 3 w') refRow_len)
  have q1 := form_neq
  clear hans HC
  go_wp2_with fail
  refine (HW.out _ HT.out.below).mono ?_
  rintro e w2 ⟨rfl, hw2⟩
  have HT2 := Lib.hid (HT.out.on hw2)
  clear hw2 HT HW
  go_wp2_with fail
  refine (HV.out _ HT2.out.below).mono ?_
  rintro e w3 ⟨rfl, hw3⟩
  have HT3 := Lib.hid (HT2.out.on hw3)
  clear hw3 HT2 HV
  go_wp2_with fail
  refine (HE.out _).mono ?_
  rintro e w4 ⟨rfl, hd4⟩
  have HT4 := Lib.hid (HT3.out.on (hd4.below _))
  clear hd4 HT3 HE q1
  by_cases hk : MarkP o ia ib i d m e
  · have hd : 0 ≤ d ∧ d ≤ 255 := ⟨hk.2.1.1, by have := hk.2.1.2; omega⟩
    have hm : 0 ≤ m ∧ m ≤ 15 := ⟨hk.2.2.1.1, by have := hk.2.2.1.2; omega⟩
    have he : 0 ≤ e ∧ e ≤ 63 := ⟨hk.2.2.2.1, by have := hk.2.2.2.2; omega⟩
    obtain ⟨k1, k2⟩ := hd
    obtain ⟨k3, k4⟩ := hm
    obtain ⟨k5, k6⟩ := he
    have HY : Hid (∀ w : World, Calls Try.prog 9 #[.agg #[.int .i64 o, .int .i64 ia, .int .i64 ib, .int .i64 i]] w fun e w' => e = .returned (.bool true) ∧ Below w.heap.size w w') := fun w => refMay_yes o ia ib i w hk.1
    by_cases h131 : 131071 < 1024 * d + 64 * m + e
    · have HM : Hid (∀ w : World, Calls Try.prog 8 #[.agg #[.int .i64 o, .int .i64 ia, .int .i64 ib, .int .i64 i], .int .i64 d, .int .i64 m, .int .i64 e] w fun x w' => x = .returned (.tuple #[.agg #[.int .i64 o, .int .i64 ia, .int .i64 ib, .int .i64 (1024 * d + 64 * m + e - 262144)], .nilIface]) ∧ Below w.heap.size w w') := fun w => mark_int o ia ib i d m e _ w hk (by rw [if_pos h131])
      clear hk
      go_wp2_with (refine wpList_load_row rfl _ _ rfl B rfl IT (insRow o ia ib i).toArray (0, 0) _ HT4.out.row Try.underlying24 rfl (by rw [size_ins]; rfl) ?_)
      refine (HM.out _).mono ?_
      rintro x w5 ⟨rfl, hb5⟩
      have RUN := Lib.hid (box_ins w5 o ia ib (1024 * d + 64 * m + e - 262144))
      have HT5 := Lib.hid ((HT4.out.on hb5).two (insRow o ia ib (1024 * d + 64 * m + e - 262144)))
      clear hb5 HT4 HM
      go_wp2_with (first
        | (refine wpList_store_run _ rfl _ _ _ rfl _ _ rfl rfl (by exact RUN.out) ?_)
        | (refine wpList_load_row rfl _ _ rfl B rfl IT (insRow o ia ib i).toArray (0, 0) _ HT5.out.rowb Try.underlying24 rfl (by rw [size_ins]; rfl) ?_))
      refine (HY.out _).mono ?_
      rintro x w6 ⟨rfl, hb6⟩
      have HT6 := Lib.hid (HT5.out.on hb6)
      generalize w5.heap.size = X at *
      clear hb6 HT5 HY RUN
      have c3 : w6.cell? ⟨B, 3, none⟩ = some (.int .i64 i) := HT6.out.rowb.cell 3
      have f3 : w6.frozen? ⟨B, 3, none⟩ = false := HT6.out.rowb.free 3
      have HT7 : Hid (TwoI w (w6.setCell ⟨B, 3, none⟩ (.int .i64 (1024 * d + 64 * m + e - 262144))) B X (insRow o ia ib (1024 * d + 64 * m + e - 262144)) (insRow o ia ib (1024 * d + 64 * m + e - 262144))) := HT6.out.setB 3 (.int .i64 (1024 * d + 64 * m + e - 262144))
      clear HT6
      go_wp2_with (first
        | (refine load_row_on rfl _ _ rfl X rfl IT #[.int .i64 o, .int .i64 ia, .int .i64 ib, .int .i64 (1024 * d + 64 * m + e - 262144)] (0, 0) _ HT7.out.rowr Try.underlying24 rfl (by rw [size_ins]; rfl) ?_)
        | (refine load_row_on rfl _ _ rfl B rfl IT #[.int .i64 o, .int .i64 ia, .int .i64 ib, .int .i64 (1024 * d + 64 * m + e - 262144)] (0, 0) _ HT7.out.rowb Try.underlying24 rfl (by rw [size_ins]; rfl) ?_))
      go_ret
      exact ⟨end_bool (by simp), HT7.out.below⟩
    · have HM : Hid (∀ w : World, Calls Try.prog 8 #[.agg #[.int .i64 o, .int .i64 ia, .int .i64 ib, .int .i64 i], .int .i64 d, .int .i64 m, .int .i64 e] w fun x w' => x = .returned (.tuple #[.agg #[.int .i64 o, .int .i64 ia, .int .i64 ib, .int .i64 (1024 * d + 64 * m + e)], .nilIface]) ∧ Below w.heap.size w w') := fun w => mark_int o ia ib i d m e _ w hk (by rw [if_neg h131])
      clear hk
      go_wp2_with (refine wpList_load_row rfl _ _ rfl B rfl IT (insRow o ia ib i).toArray (0, 0) _ HT4.out.row Try.underlying24 rfl (by rw [size_ins]; rfl) ?_)
      refine (HM.out _).mono ?_
      rintro x w5 ⟨rfl, hb5⟩
      have RUN := Lib.hid (box_ins w5 o ia ib (1024 * d + 64 * m + e))
      have HT5 := Lib.hid ((HT4.out.on hb5).two (insRow o ia ib (1024 * d + 64 * m + e)))
      clear hb5 HT4 HM
      go_wp2_with (first
        | (refine wpList_store_run _ rfl _ _ _ rfl _ _ rfl rfl (by exact RUN.out) ?_)
        | (refine wpList_load_row rfl _ _ rfl B rfl IT (insRow o ia ib i).toArray (0, 0) _ HT5.out.rowb Try.underlying24 rfl (by rw [size_ins]; rfl) ?_))
      refine (HY.out _).mono ?_
      rintro x w6 ⟨rfl, hb6⟩
      have HT6 := Lib.hid (HT5.out.on hb6)
      generalize w5.heap.size = X at *
      clear hb6 HT5 HY RUN
      have c3 : w6.cell? ⟨B, 3, none⟩ = some (.int .i64 i) := HT6.out.rowb.cell 3
      have f3 : w6.frozen? ⟨B, 3, none⟩ = false := HT6.out.rowb.free 3
      have HT7 : Hid (TwoI w (w6.setCell ⟨B, 3, none⟩ (.int .i64 (1024 * d + 64 * m + e))) B X (insRow o ia ib (1024 * d + 64 * m + e)) (insRow o ia ib (1024 * d + 64 * m + e))) := HT6.out.setB 3 (.int .i64 (1024 * d + 64 * m + e))
      clear HT6
      go_wp2_with (first
        | (refine load_row_on rfl _ _ rfl X rfl IT #[.int .i64 o, .int .i64 ia, .int .i64 ib, .int .i64 (1024 * d + 64 * m + e)] (0, 0) _ HT7.out.rowr Try.underlying24 rfl (by rw [size_ins]; rfl) ?_)
        | (refine load_row_on rfl _ _ rfl B rfl IT #[.int .i64 o, .int .i64 ia, .int .i64 ib, .int .i64 (1024 * d + 64 * m + e)] (0, 0) _ HT7.out.rowb Try.underlying24 rfl (by rw [size_ins]; rfl) ?_))
      go_ret
      exact ⟨end_bool (by simp), HT7.out.below⟩
  · rcases noMark hk with hy | ⟨hy, hz⟩
    · have HM : Hid (∀ w : World, Calls Try.prog 8 #[.agg #[.int .i64 o, .int .i64 ia, .int .i64 ib, .int .i64 i], .int .i64 d, .int .i64 m, .int .i64 e] w fun x w' => x = .returned (.tuple #[.agg #[.int .i64 0, .int .i64 0, .int .i64 0, .int .i64 0], argV]) ∧ Below w.heap.size w w') := fun w => mark_no o ia ib i d m e w hk
      have HY : Hid (∀ w : World, Calls Try.prog 9 #[.agg #[.int .i64 o, .int .i64 ia, .int .i64 ib, .int .i64 i]] w fun e w' => e = .returned (.bool false) ∧ Below w.heap.size w w') := fun w => refMay_no o ia ib i w hy
      clear hk hy
      go_wp2_with (refine wpList_load_row rfl _ _ rfl B rfl IT (insRow o ia ib i).toArray (0, 0) _ HT4.out.row Try.underlying24 rfl (by rw [size_ins]; rfl) ?_)
      refine (HM.out _).mono ?_
      rintro x w5 ⟨rfl, hb5⟩
      have RUN := Lib.hid (box_ins w5 0 0 0 0)
      have HT5 := Lib.hid ((HT4.out.on hb5).two (insRow 0 0 0 0))
      clear hb5 HT4 HM
      go_wp2_with (first
        | (refine wpList_store_run _ rfl _ _ _ rfl _ _ rfl rfl (by exact RUN.out) ?_)
        | (refine wpList_load_row rfl _ _ rfl B rfl IT (insRow o ia ib i).toArray (0, 0) _ HT5.out.rowb Try.underlying24 rfl (by rw [size_ins]; rfl) ?_))
      refine (HY.out _).mono ?_
      rintro x w6 ⟨rfl, hb6⟩
      have HT6 := Lib.hid (HT5.out.on hb6)
      generalize w5.heap.size = X at *
      clear hb6 HT5 HY RUN
      have q2 := arg_eql
      go_wp2_with (refine load_row_on rfl _ _ rfl X rfl IT #[.int .i64 0, .int .i64 0, .int .i64 0, .int .i64 0] (0, 0) _ HT6.out.rowr Try.underlying24 rfl (by rw [size_ins]; rfl) ?_)
      go_ret
      exact ⟨rfl, HT6.out.below⟩
    · have HM : Hid (∀ w : World, Calls Try.prog 8 #[.agg #[.int .i64 o, .int .i64 ia, .int .i64 ib, .int .i64 i], .int .i64 d, .int .i64 m, .int .i64 e] w fun x w' => x = .returned (.tuple #[.agg #[.int .i64 0, .int .i64 0, .int .i64 0, .int .i64 0], argV]) ∧ Below w.heap.size w w') := fun w => mark_no o ia ib i d m e w hk
      have HY : Hid (∀ w : World, Calls Try.prog 9 #[.agg #[.int .i64 o, .int .i64 ia, .int .i64 ib, .int .i64 i]] w fun e w' => e = .returned (.bool true) ∧ Below w.heap.size w w') := fun w => refMay_yes o ia ib i w hy
      clear hk hy
      rcases hz with z1 | ⟨z1, z2⟩ | ⟨z1, z2, z3⟩ | ⟨z1, z2, z3, z4⟩ | ⟨z1, z2, z3, z4, z5⟩ | ⟨z1, z2, z3, z4, z5, z6⟩
      all_goals
        go_wp2_with (refine wpList_load_row rfl _ _ rfl B rfl IT (insRow o ia ib i).toArray (0, 0) _ HT4.out.row Try.underlying24 rfl (by rw [size_ins]; rfl) ?_)
        refine (HM.out _).mono ?_
        rintro x w5 ⟨rfl, hb5⟩
        have RUN := Lib.hid (box_ins w5 0 0 0 0)
        have HT5 := Lib.hid ((HT4.out.on hb5).two (insRow 0 0 0 0))
        clear hb5 HT4 HM
        go_wp2_with (first
          | (refine wpList_store_run _ rfl _ _ _ rfl _ _ rfl rfl (by exact RUN.out) ?_)
          | (refine wpList_load_row rfl _ _ rfl B rfl IT (insRow o ia ib i).toArray (0, 0) _ HT5.out.rowb Try.underlying24 rfl (by rw [size_ins]; rfl) ?_))
        refine (HY.out _).mono ?_
        rintro x w6 ⟨rfl, hb6⟩
        have HT6 := Lib.hid (HT5.out.on hb6)
        generalize w5.heap.size = X at *
        clear hb6 HT5 HY RUN
        have q2 := arg_eql
        go_wp2_with (refine load_row_on rfl _ _ rfl X rfl IT #[.int .i64 0, .int .i64 0, .int .i64 0, .int .i64 0] (0, 0) _ HT6.out.rowr Try.underlying24 rfl (by rw [size_ins]; rfl) ?_)
        go_ret
        exact ⟨rfl, HT6.out.below⟩
end Go.Proofs.Ytfpifpmndioefaa
