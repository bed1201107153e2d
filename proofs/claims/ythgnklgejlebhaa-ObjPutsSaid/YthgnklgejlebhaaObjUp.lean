/-
  The examples at the head of layer 12's statements (up): true. No conditions.
-/
import Derived.Test.YthgnklgejlebhaaObjZ
import Derived.Test.YthgnklgejlebhaaObjC
namespace Go.Proofs.Ythgnklgejlebhaa
open Go.ChangeShapes Go.WideShapes Go.ChangeAt Go.RowKit

/- a struct told by a call, in a variable of its own -/
theorem box_run {wr : World} {V : ObjV} {g : ObjD} (hg : ObjAt wr V g) :
    (Instr.storeAt OT (.pointer (some ⟨wr.heap.size, 0, none⟩)) (.agg (ocells V g).toArray)).run Try.prog (wr.alloc (.cells (ocells nilV noObj).toArray OT)) = .ok () (wr.alloc (.cells (ocells V g).toArray OT)) ∧ RowAt (wr.alloc (.cells (ocells V g).toArray OT)) wr.heap.size OT (ocells V g) ∧
      ObjAt (wr.alloc (.cells (ocells V g).toArray OT)) V g ∧ Below wr.heap.size wr (wr.alloc (.cells (ocells V g).toArray OT)) := by
  obtain ⟨r1, _, _⟩ := told_row (RowAt.new wr OT (ocells nilV noObj)) (xs := ocells V g) (k := 15) rfl rfl hg.ones size_obj
  have hb : Below wr.heap.size wr (wr.alloc (.cells (ocells V g).toArray OT)) := (Below.refl _ _).alloc (Nat.le_refl _) _
  rw [setRow_alloc] at r1
  exact ⟨r1, RowAt.new _ _ _, hg.on hb, hb⟩
set_option maxRecDepth 100000 in
theorem form_eql (w : World) : (binOp .eql 36 (.iface 43 (.int .i64 4)) (.iface 43 (.int .i64 4))).run Try.prog w = .ok (.bool true) w := by kernel_rfl
set_option maxRecDepth 100000 in
theorem form_neq (w : World) : (binOp .neq 36 (.iface 43 (.int .i64 4)) (.iface 43 (.int .i64 4))).run Try.prog w = .ok (.bool false) w := by kernel_rfl
def oA : ObjD := { noObj with name := ⟨#[65]⟩, key := 7 }
theorem lists_A (w : World) : Lists w nilV oA := ⟨SRow.nil _ _ _, SRow.nil _ _ _, SRow.nil _ _ _, SRow.nil _ _ _, SRow.nil _ _ _, SRow.nil _ _ _, SRow.nil _ _ _⟩
theorem fit_A : ObjFit oA := by
  constructor <;> first | (intro x hx; cases hx) | decide | (show -9223372036854775808 ≤ (0 : Int) ∧ (0 : Int) ≤ 9223372036854775807; decide)
theorem few_A : FewB oA := by constructor <;> decide
set_option maxRecDepth 100000 in
theorem put_A : putOk oA := ⟨by decide, by rfl⟩
theorem len_A : 10 < (pwrite oA).length := by decide
theorem get_nil : pGet [] = none := rfl
theorem bytes_nil (w : World) : BytesAt w (.slice none 0 0) [] := ⟨⟨none, 0, 0, rfl, rfl, Nat.le_refl _, Nat.zero_le _, fun _ => rfl, .inl rfl⟩, fun x hx => by cases hx⟩
set_option maxRecDepth 100000 in
set_option maxHeartbeats 1000000 in
theorem up12 (w : World) : Calls Try.prog 6 #[] w fun e w' => e = .returned (.bool true) ∧ Below w.heap.size w w' := by
  have HG : Hid (∀ w : World, Calls Try.prog 13 #[.slice none 0 0] w fun e w' => ∃ V, e = .returned (.tuple #[.agg (ocells V noObj).toArray, .iface 43 (.int .i64 4)]) ∧ ObjAt w' V noObj ∧ Below w.heap.size w w') := fun w => by
    have := get_any _ [] w (bytes_nil w) (by decide)
    rw [get_nil] at this
    exact this
  have HPA : Hid (∀ w : World, Calls Try.prog 8 #[.agg (ocells nilV oA).toArray] w fun e w' => ∃ v', e = .returned (.tuple #[v', .nilIface]) ∧ Bs w' v' (pwrite oA) ∧ Below w.heap.size w w') := fun w => put_yes nilV oA w ((lists_A w).obj fit_A) few_A put_A
  have HGA : Hid (∀ v w, BytesAt w v (pwrite oA) → Calls Try.prog 13 #[v] w fun e w' => ∃ V, e = .returned (.tuple #[.agg (ocells V oA).toArray, .nilIface]) ∧ ObjAt w' V oA ∧ Below w.heap.size w w') := fun v w h => by
    have := get_any v _ w h (by have := put_A.1; omega)
    rw [put_A.2] at this
    exact this
  have hlen := len_A
  have HLT := Lib.hid (pwrite_lt oA)
  generalize pwrite oA = P at *
  have i1 : (10 : Int) < ((P.length : Nat) : Int) := by omega
  have q1 := form_eql
  clear hlen
  go_enter Try.func6, Try.ntmps6
  go_wp2_with fail
  refine (HG.out _).mono ?_
  rintro e w1 ⟨V1, rfl, ho1, hb1⟩
  have HB1 := Lib.hid (box_run ho1)
  have HK1 := Lib.hid (below_on hb1 HB1.out.2.2.2 hb1.size)
  clear ho1 hb1 HG
  go_wp2_with (refine wpList_store_run _ rfl _ _ _ rfl _ _ rfl rfl (by exact HB1.out.1) ?_)
  generalize w1.alloc (.cells (ocells V1 noObj).toArray OT) = w2 at *
  clear HB1
  refine (HPA.out w2).mono ?_
  rintro e w3 ⟨v3, rfl, hb3, hk3⟩
  have HB3 := Lib.hid hb3
  have HK3 := Lib.hid (below_on HK1.out hk3 HK1.out.size)
  obtain ⟨a, c, rfl, _⟩ := hb3.shape
  clear hb3 hk3 HPA HK1
  go_wp2_with fail
  refine (HGA.out _ w3 (HB3.out.bytes HLT.out)).mono ?_
  rintro e w4 ⟨V4, rfl, ho4, hb4⟩
  have HB4 := Lib.hid (box_run ho4)
  have HK4 := Lib.hid (below_on (below_on HK3.out hb4 HK3.out.size) HB4.out.2.2.2 (below_on HK3.out hb4 HK3.out.size).size)
  clear ho4 hb4 HGA HK3 HB3
  generalize P.length = n at *
  have c0 : (w4.alloc (.cells (ocells V4 oA).toArray OT)).cell? ⟨w4.heap.size, 0, none⟩ = some (.string ⟨#[65]⟩) := HB4.out.2.1.cell 0
  have c1 : (w4.alloc (.cells (ocells V4 oA).toArray OT)).cell? ⟨w4.heap.size, 1, none⟩ = some (.int .u32 7) := HB4.out.2.1.cell 1
  go_wp2_with (first
    | (refine wpList_store_run _ rfl _ _ _ rfl _ _ rfl rfl (by exact HB4.out.1) ?_)
    | (refine load_row_on rfl _ _ rfl w4.heap.size rfl OT (ocells V4 oA).toArray (0, 0) _ HB4.out.2.1 Try.underlying31 rfl (by rw [size_obj]; rfl) ?_))
  refine (psame_any V4 nilV oA oA true _ HB4.out.2.2.1 ((lists_A _).obj fit_A) (by simp)).mono ?_
  rintro e w5 ⟨rfl, hb5⟩
  have RES := Lib.hid (below_on HK4.out hb5 HK4.out.size)
  clear hb5 HB4 HK4 c0 c1
  go_wp2_with fail
  go_ret
  exact ⟨rfl, RES.out⟩
end Go.Proofs.Ythgnklgejlebhaa
