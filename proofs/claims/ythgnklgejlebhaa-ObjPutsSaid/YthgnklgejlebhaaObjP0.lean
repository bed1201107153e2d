/-
  The program's Same (layer 12), part 1 of three. No conditions beyond those that each theorem names. (Written by wip/tools/obj-ps.py.)
-/
import Derived.Test.YthgnklgejlebhaaObjEq
import Derived.Deep.DeepCutAuto
namespace Go.Proofs.Ythgnklgejlebhaa
open Go.ChangeShapes Go.WideShapes Go.ChangeAt Go.RowKit

set_option maxRecDepth 100000 in
theorem eql_fix (a b x y u v : Int) (w : World) : (binOp .eql 29 (.agg #[.int .i64 a, .int .i64 x, .int .i64 u]) (.agg #[.int .i64 b, .int .i64 y, .int .i64 v])).run Try.prog w = .ok (.bool (a == b && x == y && u == v)) w := by
  have h1 : ∀ s z r, (part 3 #[.int .i64 s, .int .i64 z, .int .i64 r] 0).run Try.prog w = .ok (.int .i64 s) w := fun s z r => by kernel_rfl
  have h2 : ∀ s z r, (part 3 #[.int .i64 s, .int .i64 z, .int .i64 r] 1).run Try.prog w = .ok (.int .i64 z) w := fun s z r => by kernel_rfl
  have h3 : ∀ s z r, (part 3 #[.int .i64 s, .int .i64 z, .int .i64 r] 2).run Try.prog w = .ok (.int .i64 r) w := fun s z r => by kernel_rfl
  have hz : (sizeOf 3).run Try.prog w = .ok 1 w := by kernel_rfl
  have hr : List.range' 0 3 = [0, 1, 2] := rfl
  rw [run_eql_struct]
  unfold Op.equalIn
  rw [Sem.run_bind, run_underlying Try.underlying29]
  cases ha : (a == b) <;> cases hx : (x == y) <;> cases hu : (u == v) <;> simp [Result.andThen, hz, hr, h1, h2, h3, same_int, ha, hx, hu]
set_option maxRecDepth 100000 in
set_option maxHeartbeats 8000000 in
theorem psame_way0 (Va Vb : ObjV) (a b : ObjD) (w : World)  (hk : ¬ (a.name = b.name)) :
    Calls Try.prog 12 #[.agg (ocells Va a).toArray, .agg (ocells Vb b).toArray] w fun e w' => e = .returned (.bool false) ∧ Below w.heap.size w w' := by
  have HT : Hid (Two w ((w.alloc (.cells (ocells Va a).toArray OT)).alloc (.cells (ocells Vb b).toArray OT)) w.heap.size (w.heap.size + 1) Va Vb a b) := Lib.hid (two_at w Va Vb a b)
  have t0 : (a.name.toList == b.name.toList) = false := signs_not hk
  clear hk
  go_enter Try.func12, Try.ntmps12
  go_upto_region 1 with fail
  generalize (w.alloc (.cells (ocells Va a).toArray OT)).alloc (.cells (ocells Vb b).toArray OT) = wq at *
  generalize w.heap.size + 1 = ob at *
  generalize hoa : w.heap.size = oa at HT ⊢
  clear hoa
  generalize Value.agg (ocells Va a).toArray = va at *
  generalize Value.agg (ocells Vb b).toArray = vb at *
  have ca0 : wq.cell? ⟨oa, 0, none⟩ = some (.string a.name) := HT.out.rowa.cell 0
  have cb0 : wq.cell? ⟨ob, 0, none⟩ = some (.string b.name) := HT.out.rowb.cell 0
  have RES := Lib.hid HT.out.below
  clear HT
  go_wp2_with fail
  all_goals (go_ret; exact ⟨rfl, RES.out⟩)
set_option maxRecDepth 100000 in
set_option maxHeartbeats 8000000 in
theorem psame_way1 (Va Vb : ObjV) (a b : ObjD) (w : World) (e0 : a.name = b.name) (hk : ¬ (a.key = b.key)) :
    Calls Try.prog 12 #[.agg (ocells Va a).toArray, .agg (ocells Vb b).toArray] w fun e w' => e = .returned (.bool false) ∧ Below w.heap.size w w' := by
  have HT : Hid (Two w ((w.alloc (.cells (ocells Va a).toArray OT)).alloc (.cells (ocells Vb b).toArray OT)) w.heap.size (w.heap.size + 1) Va Vb a b) := Lib.hid (two_at w Va Vb a b)
  have E0 := Lib.hid e0
  have t1 : ¬ ((a.key : Nat) : Int) = ((b.key : Nat) : Int) := by omega
  have t0 : (((a.key : Nat) : Int) == ((b.key : Nat) : Int)) = false := by rw [beq_eq_false_iff_ne]; exact t1
  clear hk e0
  go_enter Try.func12, Try.ntmps12
  go_upto_region 1 with fail
  generalize (w.alloc (.cells (ocells Va a).toArray OT)).alloc (.cells (ocells Vb b).toArray OT) = wq at *
  generalize w.heap.size + 1 = ob at *
  generalize hoa : w.heap.size = oa at HT ⊢
  clear hoa
  generalize Value.agg (ocells Va a).toArray = va at *
  generalize Value.agg (ocells Vb b).toArray = vb at *
  have ca0 : wq.cell? ⟨oa, 0, none⟩ = some (.string a.name) := HT.out.rowa.cell 0
  have cb0 : wq.cell? ⟨ob, 0, none⟩ = some (.string a.name) := by rw [E0.out]; exact HT.out.rowb.cell 0
  have ca1 : wq.cell? ⟨oa, 1, none⟩ = some (.int .u32 (a.key : Nat)) := HT.out.rowa.cell 1
  have cb1 : wq.cell? ⟨ob, 1, none⟩ = some (.int .u32 (b.key : Nat)) := HT.out.rowb.cell 1
  have RES := Lib.hid HT.out.below
  clear HT
  go_wp2_with fail
  all_goals (go_ret; exact ⟨rfl, RES.out⟩)
set_option maxRecDepth 100000 in
set_option maxHeartbeats 8000000 in
theorem psame_way2 (Va Vb : ObjV) (a b : ObjD) (w : World) (e0 : a.name = b.name) (e1 : a.key = b.key) (hk : ¬ (a.data = b.data)) :
    Calls Try.prog 12 #[.agg (ocells Va a).toArray, .agg (ocells Vb b).toArray] w fun e w' => e = .returned (.bool false) ∧ Below w.heap.size w w' := by
  have HT : Hid (Two w ((w.alloc (.cells (ocells Va a).toArray OT)).alloc (.cells (ocells Vb b).toArray OT)) w.heap.size (w.heap.size + 1) Va Vb a b) := Lib.hid (two_at w Va Vb a b)
  have E0 := Lib.hid e0
  have E1 := Lib.hid e1
  have t1 : ¬ (a.data : Int) = (b.data : Int) := by omega
  have t0 : ((a.data : Int) == (b.data : Int)) = false := by rw [beq_eq_false_iff_ne]; exact t1
  clear hk e0 e1
  go_enter Try.func12, Try.ntmps12
  go_upto_region 1 with fail
  generalize (w.alloc (.cells (ocells Va a).toArray OT)).alloc (.cells (ocells Vb b).toArray OT) = wq at *
  generalize w.heap.size + 1 = ob at *
  generalize hoa : w.heap.size = oa at HT ⊢
  clear hoa
  generalize Value.agg (ocells Va a).toArray = va at *
  generalize Value.agg (ocells Vb b).toArray = vb at *
  have ca0 : wq.cell? ⟨oa, 0, none⟩ = some (.string a.name) := HT.out.rowa.cell 0
  have cb0 : wq.cell? ⟨ob, 0, none⟩ = some (.string a.name) := by rw [E0.out]; exact HT.out.rowb.cell 0
  have ca1 : wq.cell? ⟨oa, 1, none⟩ = some (.int .u32 (a.key : Nat)) := HT.out.rowa.cell 1
  have cb1 : wq.cell? ⟨ob, 1, none⟩ = some (.int .u32 (a.key : Nat)) := by rw [E1.out]; exact HT.out.rowb.cell 1
  have ca4 : wq.cell? ⟨oa, 4, none⟩ = some (.int .i64 a.data) := HT.out.rowa.cell 4
  have cb4 : wq.cell? ⟨ob, 4, none⟩ = some (.int .i64 b.data) := HT.out.rowb.cell 4
  have RES := Lib.hid HT.out.below
  clear HT
  go_wp2_with fail
  all_goals (go_ret; exact ⟨rfl, RES.out⟩)
set_option maxRecDepth 100000 in
set_option maxHeartbeats 8000000 in
theorem psame_way3 (Va Vb : ObjV) (a b : ObjD) (w : World) (e0 : a.name = b.name) (e1 : a.key = b.key) (e2 : a.data = b.data) (hk : ¬ (a.text = b.text)) :
    Calls Try.prog 12 #[.agg (ocells Va a).toArray, .agg (ocells Vb b).toArray] w fun e w' => e = .returned (.bool false) ∧ Below w.heap.size w w' := by
  have HT : Hid (Two w ((w.alloc (.cells (ocells Va a).toArray OT)).alloc (.cells (ocells Vb b).toArray OT)) w.heap.size (w.heap.size + 1) Va Vb a b) := Lib.hid (two_at w Va Vb a b)
  have E0 := Lib.hid e0
  have E1 := Lib.hid e1
  have E2 := Lib.hid e2
  have t0 : (a.text.toList == b.text.toList) = false := signs_not hk
  clear hk e0 e1 e2
  go_enter Try.func12, Try.ntmps12
  go_upto_region 1 with fail
  generalize (w.alloc (.cells (ocells Va a).toArray OT)).alloc (.cells (ocells Vb b).toArray OT) = wq at *
  generalize w.heap.size + 1 = ob at *
  generalize hoa : w.heap.size = oa at HT ⊢
  clear hoa
  generalize Value.agg (ocells Va a).toArray = va at *
  generalize Value.agg (ocells Vb b).toArray = vb at *
  have ca0 : wq.cell? ⟨oa, 0, none⟩ = some (.string a.name) := HT.out.rowa.cell 0
  have cb0 : wq.cell? ⟨ob, 0, none⟩ = some (.string a.name) := by rw [E0.out]; exact HT.out.rowb.cell 0
  have ca1 : wq.cell? ⟨oa, 1, none⟩ = some (.int .u32 (a.key : Nat)) := HT.out.rowa.cell 1
  have cb1 : wq.cell? ⟨ob, 1, none⟩ = some (.int .u32 (a.key : Nat)) := by rw [E1.out]; exact HT.out.rowb.cell 1
  have ca4 : wq.cell? ⟨oa, 4, none⟩ = some (.int .i64 a.data) := HT.out.rowa.cell 4
  have cb4 : wq.cell? ⟨ob, 4, none⟩ = some (.int .i64 a.data) := by rw [E2.out]; exact HT.out.rowb.cell 4
  have ca5 : wq.cell? ⟨oa, 5, none⟩ = some (.string a.text) := HT.out.rowa.cell 5
  have cb5 : wq.cell? ⟨ob, 5, none⟩ = some (.string b.text) := HT.out.rowb.cell 5
  have RES := Lib.hid HT.out.below
  clear HT
  go_wp2_with fail
  all_goals (go_ret; exact ⟨rfl, RES.out⟩)
set_option maxRecDepth 100000 in
set_option maxHeartbeats 8000000 in
theorem psame_way4 (Va Vb : ObjV) (a b : ObjD) (w : World) (e0 : a.name = b.name) (e1 : a.key = b.key) (e2 : a.data = b.data) (e3 : a.text = b.text) (hk : ¬ (a.f0 = b.f0 ∧ a.f1 = b.f1 ∧ a.f2 = b.f2)) :
    Calls Try.prog 12 #[.agg (ocells Va a).toArray, .agg (ocells Vb b).toArray] w fun e w' => e = .returned (.bool false) ∧ Below w.heap.size w w' := by
  have HT : Hid (Two w ((w.alloc (.cells (ocells Va a).toArray OT)).alloc (.cells (ocells Vb b).toArray OT)) w.heap.size (w.heap.size + 1) Va Vb a b) := Lib.hid (two_at w Va Vb a b)
  have E0 := Lib.hid e0
  have E1 := Lib.hid e1
  have E2 := Lib.hid e2
  have E3 := Lib.hid e3
  have t0 : (a.f0 == b.f0 && a.f1 == b.f1 && a.f2 == b.f2) = false := by rw [Bool.eq_false_iff]; intro e; simp only [Bool.and_eq_true, beq_iff_eq] at e; exact hk ⟨e.1.1, e.1.2, e.2⟩
  clear hk e0 e1 e2 e3
  go_enter Try.func12, Try.ntmps12
  go_upto_region 1 with fail
  generalize (w.alloc (.cells (ocells Va a).toArray OT)).alloc (.cells (ocells Vb b).toArray OT) = wq at *
  generalize w.heap.size + 1 = ob at *
  generalize hoa : w.heap.size = oa at HT ⊢
  clear hoa
  generalize Value.agg (ocells Va a).toArray = va at *
  generalize Value.agg (ocells Vb b).toArray = vb at *
  have ca0 : wq.cell? ⟨oa, 0, none⟩ = some (.string a.name) := HT.out.rowa.cell 0
  have cb0 : wq.cell? ⟨ob, 0, none⟩ = some (.string a.name) := by rw [E0.out]; exact HT.out.rowb.cell 0
  have ca1 : wq.cell? ⟨oa, 1, none⟩ = some (.int .u32 (a.key : Nat)) := HT.out.rowa.cell 1
  have cb1 : wq.cell? ⟨ob, 1, none⟩ = some (.int .u32 (a.key : Nat)) := by rw [E1.out]; exact HT.out.rowb.cell 1
  have ca4 : wq.cell? ⟨oa, 4, none⟩ = some (.int .i64 a.data) := HT.out.rowa.cell 4
  have cb4 : wq.cell? ⟨ob, 4, none⟩ = some (.int .i64 a.data) := by rw [E2.out]; exact HT.out.rowb.cell 4
  have ca5 : wq.cell? ⟨oa, 5, none⟩ = some (.string a.text) := HT.out.rowa.cell 5
  have cb5 : wq.cell? ⟨ob, 5, none⟩ = some (.string a.text) := by rw [E3.out]; exact HT.out.rowb.cell 5
  have ca11 : wq.cell? ⟨oa, 11, none⟩ = some (.int .i64 a.f0) := HT.out.rowa.cell 11
  have cb11 : wq.cell? ⟨ob, 11, none⟩ = some (.int .i64 b.f0) := HT.out.rowb.cell 11
  have ca12 : wq.cell? ⟨oa, 12, none⟩ = some (.int .i64 a.f1) := HT.out.rowa.cell 12
  have cb12 : wq.cell? ⟨ob, 12, none⟩ = some (.int .i64 b.f1) := HT.out.rowb.cell 12
  have ca13 : wq.cell? ⟨oa, 13, none⟩ = some (.int .i64 a.f2) := HT.out.rowa.cell 13
  have cb13 : wq.cell? ⟨ob, 13, none⟩ = some (.int .i64 b.f2) := HT.out.rowb.cell 13
  have nq := fun x y z x' y' z' => eql_fix x x' y y' z z'
  have RES := Lib.hid HT.out.below
  clear HT
  go_wp2_with fail
  all_goals (go_ret; exact ⟨rfl, RES.out⟩)
set_option maxRecDepth 100000 in
set_option maxHeartbeats 8000000 in
theorem psame_way5 (Va Vb : ObjV) (a b : ObjD) (w : World) (e0 : a.name = b.name) (e1 : a.key = b.key) (e2 : a.data = b.data) (e3 : a.text = b.text) (e4 : a.f0 = b.f0 ∧ a.f1 = b.f1 ∧ a.f2 = b.f2) (hk : ¬ (a.body = b.body)) :
    Calls Try.prog 12 #[.agg (ocells Va a).toArray, .agg (ocells Vb b).toArray] w fun e w' => e = .returned (.bool false) ∧ Below w.heap.size w w' := by
  have HT : Hid (Two w ((w.alloc (.cells (ocells Va a).toArray OT)).alloc (.cells (ocells Vb b).toArray OT)) w.heap.size (w.heap.size + 1) Va Vb a b) := Lib.hid (two_at w Va Vb a b)
  have E0 := Lib.hid e0
  have E1 := Lib.hid e1
  have E2 := Lib.hid e2
  have E3 := Lib.hid e3
  have E4 := Lib.hid e4
  have t1 : ¬ (a.body : Int) = (b.body : Int) := by omega
  have t0 : ((a.body : Int) == (b.body : Int)) = false := by rw [beq_eq_false_iff_ne]; exact t1
  clear hk e0 e1 e2 e3 e4
  go_enter Try.func12, Try.ntmps12
  go_upto_region 1 with fail
  generalize (w.alloc (.cells (ocells Va a).toArray OT)).alloc (.cells (ocells Vb b).toArray OT) = wq at *
  generalize w.heap.size + 1 = ob at *
  generalize hoa : w.heap.size = oa at HT ⊢
  clear hoa
  generalize Value.agg (ocells Va a).toArray = va at *
  generalize Value.agg (ocells Vb b).toArray = vb at *
  have ca0 : wq.cell? ⟨oa, 0, none⟩ = some (.string a.name) := HT.out.rowa.cell 0
  have cb0 : wq.cell? ⟨ob, 0, none⟩ = some (.string a.name) := by rw [E0.out]; exact HT.out.rowb.cell 0
  have ca1 : wq.cell? ⟨oa, 1, none⟩ = some (.int .u32 (a.key : Nat)) := HT.out.rowa.cell 1
  have cb1 : wq.cell? ⟨ob, 1, none⟩ = some (.int .u32 (a.key : Nat)) := by rw [E1.out]; exact HT.out.rowb.cell 1
  have ca4 : wq.cell? ⟨oa, 4, none⟩ = some (.int .i64 a.data) := HT.out.rowa.cell 4
  have cb4 : wq.cell? ⟨ob, 4, none⟩ = some (.int .i64 a.data) := by rw [E2.out]; exact HT.out.rowb.cell 4
  have ca5 : wq.cell? ⟨oa, 5, none⟩ = some (.string a.text) := HT.out.rowa.cell 5
  have cb5 : wq.cell? ⟨ob, 5, none⟩ = some (.string a.text) := by rw [E3.out]; exact HT.out.rowb.cell 5
  have ca11 : wq.cell? ⟨oa, 11, none⟩ = some (.int .i64 a.f0) := HT.out.rowa.cell 11
  have cb11 : wq.cell? ⟨ob, 11, none⟩ = some (.int .i64 a.f0) := by rw [E4.out.1]; exact HT.out.rowb.cell 11
  have ca12 : wq.cell? ⟨oa, 12, none⟩ = some (.int .i64 a.f1) := HT.out.rowa.cell 12
  have cb12 : wq.cell? ⟨ob, 12, none⟩ = some (.int .i64 a.f1) := by rw [E4.out.2.1]; exact HT.out.rowb.cell 12
  have ca13 : wq.cell? ⟨oa, 13, none⟩ = some (.int .i64 a.f2) := HT.out.rowa.cell 13
  have cb13 : wq.cell? ⟨ob, 13, none⟩ = some (.int .i64 a.f2) := by rw [E4.out.2.2]; exact HT.out.rowb.cell 13
  have ca14 : wq.cell? ⟨oa, 14, none⟩ = some (.int .i64 a.body) := HT.out.rowa.cell 14
  have cb14 : wq.cell? ⟨ob, 14, none⟩ = some (.int .i64 b.body) := HT.out.rowb.cell 14
  have nq := fun x y z x' y' z' => eql_fix x x' y y' z z'
  have RES := Lib.hid HT.out.below
  clear HT
  go_wp2_with fail
  all_goals (go_ret; exact ⟨rfl, RES.out⟩)
end Go.Proofs.Ythgnklgejlebhaa
