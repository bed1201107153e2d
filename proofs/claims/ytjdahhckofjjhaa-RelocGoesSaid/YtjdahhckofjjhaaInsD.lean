/-
  Contracts of ins.Put and of the document's PutIns (layer 2). No conditions beyond those that each theorem names.
-/
import Derived.Test.YtjdahhckofjjhaaInsB
import Derived.Test.YtjdahhckofjjhaaFieldP
import Derived.Test.YtjdahhckofjjhaaMathB
namespace Go.Proofs.Ytjdahhckofjjhaa
open Go.ChangeShapes Go.WideShapes Go.ChangeAt Go.RowKit

set_option maxHeartbeats 1000000 in
theorem insPut_no (o a b n : Int) (w : World) (h : ¬ MayP o a b n) :
    Calls Try.prog 16 #[.agg #[.int .i64 o, .int .i64 a, .int .i64 b, .int .i64 n]] w fun e w' => e = .returned (.tuple #[.int .u32 0, .iface 35 (.int .i64 1)]) ∧ Below w.heap.size w w' := by
  have H := Lib.hid h
  clear h
  go_enter Try.func16, Try.ntmps16
  go_wp2_with fail
  refine (may_no o a b n _ H.out).mono ?_
  rintro e w1 ⟨rfl, hb⟩
  go_wp2_with fail
  go_ret2
  exact ⟨rfl, ((Below.refl _ _).alloc (Nat.le_refl _) _).trans (hb.mono (by simp))⟩

set_option maxHeartbeats 1000000 in
theorem insPut_yes (o a b : Nat) (n : Int) (w : World) (h : MayP o a b n) :
    Calls Try.prog 16 #[.agg #[.int .i64 o, .int .i64 a, .int .i64 b, .int .i64 n]] w fun e w' => e = .returned (.tuple #[.int .u32 (insN o a b (lowN n) : Nat), .nilIface]) ∧ Below w.heap.size w w' := by
  have ho : o < 64 := by have := h.1; unfold isOpP at this; omega
  have ha : a < 16 := by have := h.2.1; unfold isRegP at this; omega
  have hb : b < 16 := by have := h.2.2.1; unfold isRegP at this; omega
  have H := Lib.hid h
  clear h
  go_enter Try.func16, Try.ntmps16
  go_wp2_with fail
  refine (may_yes o a b n _ H.out).mono ?_
  rintro e w1 ⟨rfl, hb1⟩
  have hc := old_cell hb1
  have hf := old_mark hb1
  go_wp2_with fail
  refine (put_yes 0 26 6 o _ (by omega) (by omega) (by omega) (by omega)).mono ?_
  rintro e w2 ⟨rfl, hw2⟩
  rw [putN_zero_26 o ho]
  have hb2 := hb1.trans (hw2.below _)
  clear hc hf hb1
  have hc := old_cell hb2
  have hf := old_mark hb2
  go_wp2_with fail
  refine (put_yes (o * 67108864) 22 4 a _ (by omega) (by omega) (by omega) (by omega)).mono ?_
  rintro e w3 ⟨rfl, hw3⟩
  rw [putN_22 o a ha]
  have hb3 := hb2.trans (hw3.below _)
  clear hc hf hb2
  have hc := old_cell hb3
  have hf := old_mark hb3
  go_wp2_with fail
  refine (put_yes (o * 67108864 + a * 4194304) 18 4 b _ (by omega) (by omega) (by omega) (by omega)).mono ?_
  rintro e w4 ⟨rfl, hw4⟩
  rw [putN_18 o a b hb]
  have hb4 := hb3.trans (hw4.below _)
  clear hc hf hb3
  have hc := old_cell hb4
  have hf := old_mark hb4
  go_wp2_with fail
  rw [u32_cast n]
  refine (put_yes (o * 67108864 + a * 4194304 + b * 262144) 0 18 (n % 4294967296).toNat _ (by omega) (by omega) (by omega) (by omega)).mono ?_
  rintro e w5 ⟨rfl, hw5⟩
  rw [putN_0, u32_low]
  have hb5 := hb4.trans (hw5.below _)
  clear hc hf hb4
  go_wp2_with fail
  go_ret2
  exact ⟨rfl, ((Below.refl _ _).alloc (Nat.le_refl _) _).trans (hb5.mono (by simp))⟩
end Go.Proofs.Ytjdahhckofjjhaa
