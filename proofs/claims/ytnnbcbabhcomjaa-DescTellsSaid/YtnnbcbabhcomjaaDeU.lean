/-
  The examples at the head of layer 16's statements (up): true. No conditions.
-/
import Derived.Test.YtnnbcbabhcomjaaDeA
namespace Go.Proofs.Ytnnbcbabhcomjaa
open Go.ChangeShapes Go.WideShapes Go.ChangeAt Go.RowKit

theorem ints_lit (wr : World) (L : List Int) (h : L.length ≤ 50) : ElsAt 1 intRow (wr.alloc (.cells (rows intRow L).toArray InT)) (.slice (some ⟨wr.heap.size, 0, none⟩) L.length L.length) L := by
  have hr : RowAt (wr.alloc (.cells (rows intRow L).toArray InT)) wr.heap.size InT (rows intRow L) := RowAt.new wr InT _
  have hs : SRow InT 1 (wr.alloc (.cells (rows intRow L).toArray InT)) (.slice (some ⟨wr.heap.size, 0, none⟩) L.length L.length) L.length (rows intRow L) :=
    ⟨.inr ⟨_, L.length, [], rfl, by rw [List.append_nil]; exact hr, by simp, Nat.le_refl _, Nat.le_trans h (by decide)⟩, by rw [rows_length 1 intRow_len], fun u hu => by obtain ⟨x, _, hx⟩ := List.mem_flatMap.1 hu; exact intRow_one x u hx⟩
  exact hs.els intRow_len
theorem none_ints (w : World) : ElsAt 1 intRow w (.slice none 0 0) [] := ⟨none, 0, 0, rfl, rfl, Nat.le_refl _, Nat.zero_le _, fun _ => rfl, .inl rfl⟩
set_option maxRecDepth 100000 in
set_option maxHeartbeats 2000000 in
theorem up16 (w : World) : Calls Try.prog 5 #[] w fun e w' => e = .returned (.bool true) ∧ Below w.heap.size w w' := by
  have HW1 : Hid (∀ wr : World, Calls Try.prog 8 #[.int .i64 8, .slice (some ⟨wr.heap.size, 0, none⟩) 2 2] (wr.alloc (.cells #[.int .i64 300, .int .i64 316] InT)) fun e w' => ∃ v', e = .returned (.tuple #[v', .nilIface]) ∧ ElsAt 1 wordRow w' v' [8, 300, 0, 0] ∧ Below (wr.alloc (.cells #[.int .i64 300, .int .i64 316] InT)).heap.size (wr.alloc (.cells #[.int .i64 300, .int .i64 316] InT)) w') := fun wr => words_yes 8 _ [300, 316] _ (ints_lit wr [300, 316] (by decide)) (by decide) (by decide)
  have HW2 : Hid (∀ w : World, Calls Try.prog 8 #[.int .i64 8, .slice none 0 0] w fun e w' => e = .returned (.tuple #[.slice none 0 0, formV]) ∧ Below w.heap.size w w') := fun w => words_no 8 _ [] w (none_ints w) (.inl (by decide))
  have HL1 : Hid (∀ wr : World, Calls Try.prog 6 #[.slice (some ⟨wr.heap.size, 0, none⟩) 1 1, .int .i64 316] (wr.alloc (.cells #[.int .i64 300] InT)) fun e w' => ∃ v', e = .returned (.tuple #[v', .nilIface]) ∧ ElsAt 1 intRow w' v' [300, 316] ∧ Below (wr.alloc (.cells #[.int .i64 300] InT)).heap.size (wr.alloc (.cells #[.int .i64 300] InT)) w') := fun wr => line_yes _ [300] 316 _ (ints_lit wr [300] (by decide)) (by decide)
  have HE1 : Hid (∀ (v : Value) (w : World), ElsAt 1 wordRow w v [8, 300, 0, 0] → Calls Try.prog 9 #[v, .int .i64 300] w fun e w' => e = .returned (.bool true) ∧ Below w.heap.size w w') := fun v w h => extends_any v _ 300 true w h (by decide) (by decide) ⟨fun _ => ⟨by decide, 1, 300, by decide, rfl, by decide⟩, fun _ => rfl⟩
  have HE2 : Hid (∀ (v : Value) (w : World), ElsAt 1 wordRow w v [8, 300, 0, 0] → Calls Try.prog 9 #[v, .int .i64 8] w fun e w' => e = .returned (.bool false) ∧ Below w.heap.size w w') := fun v w h => extends_any v _ 8 false w h (by decide) (by decide) ⟨(fun e => by cases e), (fun ⟨_, i, x, h1, h2, h3⟩ => by
    have hl := (List.getElem?_eq_some_iff.1 h2).1
    have hl4 : i < 4 := hl
    rcases (show i = 1 ∨ i = 2 ∨ i = 3 by omega) with rfl | rfl | rfl <;> (simp at h2; subst h2; omega))⟩
  have q1 := form_eql
  go_enter Try.func5, Try.ntmps5
  go_wp2_with fail
  refine (HW1.out _).mono ?_
  rintro e w1 ⟨v1, rfl, hw1, hb1⟩
  have HB1 : Hid (Below w.heap.size w w1) := below_on ((Below.refl _ _).alloc (Nat.le_refl _) _) hb1 (by simp)
  obtain ⟨b1, off1, cap1, e1, hlt1, g0⟩ := hw1.cell1 (i := 0) rfl rfl
  obtain ⟨b2, off2, cap2, e2, _, g1⟩ := hw1.cell1 (i := 1) rfl rfl
  obtain ⟨b3, off3, cap3, e3, _, g2⟩ := hw1.cell1 (i := 2) rfl rfl
  subst e1
  obtain ⟨rfl, rfl⟩ : b2 = b1 ∧ off2 = off1 := by cases e2; exact ⟨rfl, rfl⟩
  obtain ⟨rfl, rfl⟩ : b3 = b2 ∧ off3 = off2 := by cases e3; exact ⟨rfl, rfl⟩
  have HW := Lib.hid hw1
  clear e2 e3 hw1 hb1 HW1
  go_wp2_with fail
  refine (HW2.out _).mono ?_
  rintro e w2 ⟨rfl, hb2⟩
  have HB2 := Lib.hid (below_on HB1.out hb2 HB1.out.size)
  have k0 : w2.cell? ⟨b3, off3, none⟩ = some (.int .u32 8) := (hb2.cell (p := ⟨b3, off3, none⟩) hlt1).trans g0
  have k1 : w2.cell? ⟨b3, off3 + 1, none⟩ = some (.int .u32 300) := (hb2.cell (p := ⟨b3, off3 + 1, none⟩) hlt1).trans g1
  have k2 : w2.cell? ⟨b3, off3 + 2, none⟩ = some (.int .u32 0) := (hb2.cell (p := ⟨b3, off3 + 2, none⟩) hlt1).trans g2
  have HWB := Lib.hid (HW.out.on hb2)
  have hlt2 := Nat.lt_of_lt_of_le hlt1 hb2.size
  clear hb2 HB1 HW HW2 g0 g1 g2 hlt1
  go_wp2_with fail
  refine (HL1.out _).mono ?_
  rintro e w3 ⟨v3, rfl, hl3, hb3⟩
  have hbx : Below w2.heap.size w2 w3 := below_on ((Below.refl _ _).alloc (Nat.le_refl _) _) hb3 (by simp)
  have HB3 := Lib.hid (below_on HB2.out hbx HB2.out.size)
  have j0 := (hbx.cell (p := ⟨b3, off3, none⟩) hlt2).trans k0
  have j1 := (hbx.cell (p := ⟨b3, off3 + 1, none⟩) hlt2).trans k1
  have j2 := (hbx.cell (p := ⟨b3, off3 + 2, none⟩) hlt2).trans k2
  have HWC := Lib.hid (HWB.out.on hbx)
  obtain ⟨a3, c3, rfl, _⟩ := hl3.shape
  clear hb3 hbx HB2 HWB HL1 k0 k1 k2 hl3 hlt2
  go_wp2_with fail
  refine (HE1.out _ _ HWC.out).mono ?_
  rintro e w4 ⟨rfl, hb4⟩
  have HB4 := Lib.hid (below_on HB3.out hb4 HB3.out.size)
  have HWD := Lib.hid (HWC.out.on hb4)
  clear hb4 HB3 HWC j0 j1 j2
  go_wp2_with fail
  refine (HE2.out _ _ HWD.out).mono ?_
  rintro e w5 ⟨rfl, hb5⟩
  have HB5 := Lib.hid (below_on HB4.out hb5 HB4.out.size)
  clear hb5 HB4 HWD
  go_wp2_with fail
  go_ret
  exact ⟨rfl, HB5.out⟩
end Go.Proofs.Ytnnbcbabhcomjaa
