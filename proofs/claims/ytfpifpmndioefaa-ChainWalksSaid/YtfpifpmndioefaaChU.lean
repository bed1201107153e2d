/-
  The examples at the head of layer 13's statement (up): true. No conditions.
-/
import Derived.Test.YtfpifpmndioefaaChB
import Derived.Test.YtfpifpmndioefaaChC
import Derived.Test.YtfpifpmndioefaaInsP
import Derived.Test.YtfpifpmndioefaaInsC
namespace Go.Proofs.Ytfpifpmndioefaa
open Go.ChangeShapes Go.WideShapes Go.ChangeAt Go.RowKit

/- an instruction told by a call, in a variable of its own -/
theorem box_ins (wr : World) (o a b n : Int) :
    (Instr.storeAt IT (.pointer (some ⟨wr.heap.size, 0, none⟩)) (.agg #[.int .i64 o, .int .i64 a, .int .i64 b, .int .i64 n])).run Try.prog (wr.alloc (.cells #[.int .i64 0, .int .i64 0, .int .i64 0, .int .i64 0] IT)) = .ok () (wr.alloc (.cells #[.int .i64 o, .int .i64 a, .int .i64 b, .int .i64 n] IT)) := by
  obtain ⟨r1, _, _⟩ := told_row (RowAt.new wr IT (insRow 0 0 0 0)) (xs := insRow o a b n) (k := 4) rfl rfl (insRow_one _ _ _ _) size_ins
  rw [setRow_alloc] at r1
  exact r1
set_option maxRecDepth 100000 in
theorem form_eql (w : World) : (binOp .eql 28 (.iface 34 (.int .i64 4)) (.iface 34 (.int .i64 4))).run Try.prog w = .ok (.bool true) w := by kernel_rfl
set_option maxRecDepth 100000 in
theorem form_neq (w : World) : (binOp .neq 28 (.iface 34 (.int .i64 4)) (.iface 34 (.int .i64 4))).run Try.prog w = .ok (.bool false) w := by kernel_rfl
theorem words_nil (w : World) : WordsAt w (.slice none 0 0) [] := ⟨⟨none, 0, 0, rfl, rfl, Nat.le_refl _, Nat.zero_le _, fun _ => rfl, .inl rfl⟩, fun x hx => by cases hx⟩
theorem words_one (wr : World) (x : Nat) (hx : x < 4294967296) (t : TypeId) : WordsAt (wr.alloc (.cells #[.int .u32 (x : Nat)] t)) (.slice (some ⟨wr.heap.size, 0, none⟩) 1 1) [x] := by
  have hr : RowAt (wr.alloc (.cells #[.int .u32 (x : Nat)] t)) wr.heap.size t [.int .u32 (x : Nat)] := RowAt.new wr t _
  have hs : SRow t 1 (wr.alloc (.cells #[.int .u32 (x : Nat)] t)) (.slice (some ⟨wr.heap.size, 0, none⟩) 1 1) [x].length (rows wRow [x]) :=
    ⟨.inr ⟨_, 1, [], rfl, hr, rfl, Nat.le_refl _, by simp [maxLen]⟩, rfl, fun u hu => by simp [rows, wRow] at hu; subst hu; rfl⟩
  exact ⟨hs.els fun _ => rfl, fun y hy => by simp at hy; omega⟩
theorem walk_one : walkV [1405091971] 1 20 = some [⟨0, 2, 3⟩] := by
  unfold walkV
  rw [if_neg (by decide), if_neg (by decide)]
  have hr : Refers 1405091971 20 := by
    refine ⟨⟨⟨by decide, by decide⟩, ⟨by decide, by decide⟩, ⟨by decide, by decide⟩, .inr ⟨.inr (by decide), by decide, by decide⟩⟩, by decide, by decide⟩
  exact walk_last (code := [1405091971]) (op := 20) (k := 0) (acc := []) (x := 1405091971) rfl hr (by decide)
theorem walk_none : walkV [] 1 20 = none := by
  unfold walkV
  rw [if_neg (by decide), if_neg (by decide)]
  exact walk_out (.inr (by decide))
theorem walk_zero : walkV [] 0 20 = some [] := by
  unfold walkV
  rw [if_pos rfl]

set_option maxRecDepth 100000 in
set_option maxHeartbeats 1000000 in
theorem up13 (w : World) : Calls Try.prog 4 #[] w fun e w' => e = .returned (.bool true) ∧ Below w.heap.size w w' := by
  have HM : Hid (∀ w : World, Calls Try.prog 8 #[.agg #[.int .i64 20, .int .i64 15, .int .i64 0, .int .i64 0], .int .i64 0, .int .i64 2, .int .i64 3] w fun x w' => x = .returned (.tuple #[.agg #[.int .i64 20, .int .i64 15, .int .i64 0, .int .i64 131], .nilIface]) ∧ Below w.heap.size w w') := fun w => by
    have := mark_yes 20 15 0 0 0 2 3 w ⟨⟨⟨by decide, by decide⟩, ⟨by decide, by decide⟩, ⟨by decide, by decide⟩, .inr ⟨.inr (by decide), by decide, by decide⟩⟩, by decide, by decide, by decide⟩
    rw [show markI 0 2 3 = 131 by decide] at this
    exact this
  have HY : Hid (∀ w : World, Calls Try.prog 9 #[.agg #[.int .i64 20, .int .i64 15, .int .i64 0, .int .i64 131]] w fun e w' => e = .returned (.bool true) ∧ Below w.heap.size w w') := fun w => refMay_yes 20 15 0 131 w ⟨⟨by decide, by decide⟩, ⟨by decide, by decide⟩, ⟨by decide, by decide⟩, .inr ⟨.inr (by decide), by decide, by decide⟩⟩
  have HP : Hid (∀ w : World, Calls Try.prog 10 #[.agg #[.int .i64 20, .int .i64 15, .int .i64 0, .int .i64 131]] w fun e w' => e = .returned (.int .u32 ((1405091971 : Nat) : Int)) ∧ Below w.heap.size w w') := fun w => by
    have := refPutIns_any 20 15 0 131 w (by decide) (by decide) (by decide) (by decide) (by decide)
    rw [show insN 20 15 0 (lowN 131) = 1405091971 by decide] at this
    exact this
  have HW1 : Hid (∀ w : World, Calls Try.prog 5 #[.slice none 0 0, .int .i64 0, .int .i64 20] w fun e w' => ∃ v, e = .returned (.tuple #[v, .nilIface]) ∧ WalkWay CT w w' v []) := fun w => by
    have := walk_any none 0 0 [] 0 20 w (words_nil w) (by decide) (by decide)
    rw [walk_zero] at this
    exact this
  have HW2 : Hid (∀ (w : World) (v : Option Addr), WordsAt w (.slice v 1 1) [1405091971] → Calls Try.prog 5 #[.slice v 1 1, .int .i64 1, .int .i64 20] w fun e w' => ∃ v, e = .returned (.tuple #[v, .nilIface]) ∧ WalkWay CT w w' v [⟨0, 2, 3⟩]) := fun w v hv => by
    have := walk_any v 1 1 [1405091971] 1 20 w hv (by decide) (by decide)
    rw [walk_one] at this
    exact this
  have HW3 : Hid (∀ w : World, Calls Try.prog 5 #[.slice none 0 0, .int .i64 1, .int .i64 20] w fun e w' => e = .returned (.tuple #[.slice none 0 0, formV]) ∧ Below w.heap.size w w') := fun w => by
    have := walk_any none 0 0 [] 1 20 w (words_nil w) (by decide) (by decide)
    rw [walk_none] at this
    exact this
  have HWD : Hid (∀ wr : World, WordsAt (wr.alloc (.cells #[.int .u32 ((1405091971 : Nat) : Int)] 40)) (.slice (some ⟨wr.heap.size, 0, none⟩) 1 1) [1405091971]) := fun wr => words_one wr 1405091971 (by decide) _
  have q1 := form_eql
  go_enter Try.func4, Try.ntmps4
  go_wp2_with fail
  refine (HM.out _).mono ?_
  rintro e w1 ⟨rfl, hb1⟩
  have RUN := Lib.hid (box_ins w1 20 15 0 131)
  have HK1 : Hid (Below w.heap.size w (w1.alloc (.cells #[.int .i64 20, .int .i64 15, .int .i64 0, .int .i64 131] IT))) := below_on hb1 ((Below.refl _ _).alloc (Nat.le_refl _) _) hb1.size
  have HR1 : Hid (RowAt (w1.alloc (.cells #[.int .i64 20, .int .i64 15, .int .i64 0, .int .i64 131] IT)) w1.heap.size IT (insRow 20 15 0 131)) := RowAt.new w1 IT (insRow 20 15 0 131)
  clear hb1 HM
  go_wp2_with (first
    | (refine wpList_store_run _ rfl _ _ _ rfl _ _ rfl rfl (by exact RUN.out) ?_)
    | (refine wpList_load_row rfl _ _ rfl w1.heap.size rfl IT (insRow 20 15 0 131).toArray (0, 0) _ HR1.out Try.underlying24 rfl (by rw [size_ins]; rfl) ?_))
  refine (HY.out _).mono ?_
  rintro e w2 ⟨rfl, hb2⟩
  have HK2 := Lib.hid (below_on HK1.out hb2 HK1.out.size)
  have HR2 := Lib.hid (HR1.out.keep (Kept.of_below (S := fun _ => False) hb2) (fun h => h))
  clear hb2 HK1 HR1 RUN HY
  go_wp2_with fail
  refine (HW1.out _).mono ?_
  rintro e w3 ⟨v3, rfl, hw3⟩
  obtain ⟨a3, c3, rfl, _⟩ := hw3.1.shape
  have HK3 := Lib.hid (below_on HK2.out hw3.2.2 HK2.out.size)
  have HR3 := Lib.hid (HR2.out.keep (Kept.of_below (S := fun _ => False) hw3.2.2) (fun h => h))
  clear hw3 HK2 HR2 HW1
  go_wp2_with (refine wpList_load_row rfl _ _ rfl w1.heap.size rfl IT (insRow 20 15 0 131).toArray (0, 0) _ HR3.out Try.underlying24 rfl (by rw [size_ins]; rfl) ?_)
  refine (HP.out _).mono ?_
  rintro e w4 ⟨rfl, hb4⟩
  have HK4 : Hid (Below w.heap.size w (w4.alloc (.cells #[.int .u32 ((1405091971 : Nat) : Int)] 40))) := by
    have h1 := below_on HK3.out hb4 HK3.out.size
    exact below_on h1 ((Below.refl _ _).alloc (Nat.le_refl _) _) h1.size
  have HX4 := Lib.hid (HWD.out w4)
  clear hb4 HK3 HR3 HP HWD
  go_wp2_with fail
  refine (HW2.out _ _ HX4.out).mono ?_
  rintro e w5 ⟨v5, rfl, hw5⟩
  obtain ⟨b5, c5, rfl, _, _, _, hcell⟩ := hw5.1.cell (by decide)
  have HK5 := Lib.hid (below_on HK4.out hw5.2.2 HK4.out.size)
  have d1 : w5.cell? ⟨b5, 1, none⟩ = some (.int .i64 ((2 : Nat) : Int)) := hcell 1 (by decide)
  have d2 : w5.cell? ⟨b5, 2, none⟩ = some (.int .i64 ((3 : Nat) : Int)) := hcell 2 (by decide)
  have hlt5 := cell_lt d1
  clear hw5 HK4 HX4 HW2 hcell
  go_wp2_with fail
  refine (HW3.out _).mono ?_
  rintro e w6 ⟨rfl, hb6⟩
  have f1 : w6.cell? ⟨b5, 1, none⟩ = some (.int .i64 2) := (hb6.cell (p := ⟨b5, 1, none⟩) hlt5).trans d1
  have f2 : w6.cell? ⟨b5, 2, none⟩ = some (.int .i64 3) := (hb6.cell (p := ⟨b5, 2, none⟩) hlt5).trans d2
  have HK6 := Lib.hid (below_on HK5.out hb6 HK5.out.size)
  clear hb6 HK5 d1 d2 HW3
  go_wp2_with fail
  go_ret
  exact ⟨rfl, HK6.out⟩
end Go.Proofs.Ytfpifpmndioefaa
