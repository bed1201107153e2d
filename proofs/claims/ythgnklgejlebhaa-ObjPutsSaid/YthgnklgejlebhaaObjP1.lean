/-
  The program's Same (layer 12), part 2 of three. No conditions beyond those that each theorem names. (Written by wip/tools/obj-ps.py.)
-/
import Derived.Test.YthgnklgejlebhaaObjP0
namespace Go.Proofs.Ythgnklgejlebhaa
open Go.ChangeShapes Go.WideShapes Go.ChangeAt Go.RowKit

set_option maxRecDepth 100000 in
set_option maxHeartbeats 8000000 in
theorem psame_main (Va Vb : ObjV) (a b : ObjD) (r : Bool) (w : World) (ha : ObjAt w Va a) (hb : ObjAt w Vb b) (hr : r = true ↔ a = b) (e0 : a.name = b.name) (e1 : a.key = b.key) (e2 : a.data = b.data) (e3 : a.text = b.text) (e4 : a.f0 = b.f0 ∧ a.f1 = b.f1 ∧ a.f2 = b.f2) (e5 : a.body = b.body) :
    Calls Try.prog 12 #[.agg (ocells Va a).toArray, .agg (ocells Vb b).toArray] w fun e w' => e = .returned (.bool r) ∧ Below w.heap.size w w' := by
  have HT : Hid (Two w ((w.alloc (.cells (ocells Va a).toArray OT)).alloc (.cells (ocells Vb b).toArray OT)) w.heap.size (w.heap.size + 1) Va Vb a b) := Lib.hid (two_at w Va Vb a b)
  have HA := Lib.hid ha
  have HB := Lib.hid hb
  have HR := Lib.hid hr
  have E0 := Lib.hid e0
  have E1 := Lib.hid e1
  have E2 := Lib.hid e2
  have E3 := Lib.hid e3
  have E4 := Lib.hid e4
  have E5 := Lib.hid e5
  clear ha hb hr e0 e1 e2 e3 e4 e5
  go_enter Try.func12, Try.ntmps12
  go_upto_region 1 with fail
  generalize (w.alloc (.cells (ocells Va a).toArray OT)).alloc (.cells (ocells Vb b).toArray OT) = wq at *
  generalize w.heap.size + 1 = ob at *
  generalize hoa : w.heap.size = oa at HT ⊢
  clear hoa
  generalize Value.agg (ocells Va a).toArray = va at *
  generalize Value.agg (ocells Vb b).toArray = vb at *
  have ca0 : wq.cell? ⟨oa, 0, none⟩ = some (.string a.name) := HT.out.rowa.cell 0
  have cb0 : wq.cell? ⟨ob, 0, none⟩ = some (.string a.name) := by rw [E0.out]; exact HT.out.rowb.cell 0
  have ca1 : wq.cell? ⟨oa, 1, none⟩ = some (.int .u32 (a.key : Nat)) := HT.out.rowa.cell 1
  have cb1 : wq.cell? ⟨ob, 1, none⟩ = some (.int .u32 (a.key : Nat)) := by rw [E1.out]; exact HT.out.rowb.cell 1
  have ca4 : wq.cell? ⟨oa, 4, none⟩ = some (.int .i64 a.data) := HT.out.rowa.cell 4
  have cb4 : wq.cell? ⟨ob, 4, none⟩ = some (.int .i64 a.data) := by rw [E2.out]; exact HT.out.rowb.cell 4
  have ca5 : wq.cell? ⟨oa, 5, none⟩ = some (.string a.text) := HT.out.rowa.cell 5
  have cb5 : wq.cell? ⟨ob, 5, none⟩ = some (.string a.text) := by rw [E3.out]; exact HT.out.rowb.cell 5
  have ca11 : wq.cell? ⟨oa, 11, none⟩ = some (.int .i64 a.f0) := HT.out.rowa.cell 11
  have cb11 : wq.cell? ⟨ob, 11, none⟩ = some (.int .i64 a.f0) := by rw [E4.out.1]; exact HT.out.rowb.cell 11
  have ca12 : wq.cell? ⟨oa, 12, none⟩ = some (.int .i64 a.f1) := HT.out.rowa.cell 12
  have cb12 : wq.cell? ⟨ob, 12, none⟩ = some (.int .i64 a.f1) := by rw [E4.out.2.1]; exact HT.out.rowb.cell 12
  have ca13 : wq.cell? ⟨oa, 13, none⟩ = some (.int .i64 a.f2) := HT.out.rowa.cell 13
  have cb13 : wq.cell? ⟨ob, 13, none⟩ = some (.int .i64 a.f2) := by rw [E4.out.2.2]; exact HT.out.rowb.cell 13
  have ca14 : wq.cell? ⟨oa, 14, none⟩ = some (.int .i64 a.body) := HT.out.rowa.cell 14
  have cb14 : wq.cell? ⟨ob, 14, none⟩ = some (.int .i64 a.body) := by rw [E5.out]; exact HT.out.rowb.cell 14
  have nq := fun x y z x' y' z' => eql_fix x x' y y' z z'
  have ca : wq.cell? ⟨oa, 2, none⟩ = some Va.i := HT.out.rowa.cell 2
  have cb : wq.cell? ⟨ob, 2, none⟩ = some Vb.i := HT.out.rowb.cell 2
  go_wp2_with fail
  by_cases k0 : a.imps = b.imps
  rotate_left
  · as_aux_lemma =>
      have hr : r = false := by
        cases r with
        | false => rfl
        | true => exact absurd (by rw [HR.out.1 rfl]) k0
      subst hr
      refine (eq_imps_any _ _ a.imps b.imps false _ (HA.out.imps.on HT.out.below) (HB.out.imps.on HT.out.below) (by simp [k0])).mono ?_
      rintro e w1 ⟨rfl, d1⟩
      have RES := Lib.hid (HT.out.on d1).below
      clear ca cb d1 HT HA HB
      go_wp2_with fail
      all_goals (go_ret; exact ⟨rfl, RES.out⟩)
  refine (eq_imps_any _ _ a.imps b.imps true _ (HA.out.imps.on HT.out.below) (HB.out.imps.on HT.out.below) (by simp [k0])).mono ?_
  rintro e w1 ⟨rfl, d1⟩
  have HT1 := Lib.hid (HT.out.on d1)
  have K0 := Lib.hid k0
  clear ca cb d1 HT k0 ca0 cb0 ca1 cb1 ca4 cb4 ca5 cb5 ca11 cb11 ca12 cb12 ca13 cb13 ca14 cb14 nq
  have ca : w1.cell? ⟨oa, 3, none⟩ = some Va.t := HT1.out.rowa.cell 3
  have cb : w1.cell? ⟨ob, 3, none⟩ = some Vb.t := HT1.out.rowb.cell 3
  go_wp2_with fail
  by_cases k1 : a.types = b.types
  rotate_left
  · as_aux_lemma =>
      have hr : r = false := by
        cases r with
        | false => rfl
        | true => exact absurd (by rw [HR.out.1 rfl]) k1
      subst hr
      refine (eq_types_any _ _ a.types b.types false _ (HA.out.types.on HT1.out.below) (HB.out.types.on HT1.out.below) (by simp [k1])).mono ?_
      rintro e w1 ⟨rfl, d1⟩
      have RES := Lib.hid (HT1.out.on d1).below
      clear ca cb d1 HT1 HA HB
      go_wp2_with fail
      all_goals (go_ret; exact ⟨rfl, RES.out⟩)
  refine (eq_types_any _ _ a.types b.types true _ (HA.out.types.on HT1.out.below) (HB.out.types.on HT1.out.below) (by simp [k1])).mono ?_
  rintro e w2 ⟨rfl, d2⟩
  have HT2 := Lib.hid (HT1.out.on d2)
  have K1 := Lib.hid k1
  clear ca cb d2 HT1 k1
  have ca : w2.cell? ⟨oa, 6, none⟩ = some Va.c := HT2.out.rowa.cell 6
  have cb : w2.cell? ⟨ob, 6, none⟩ = some Vb.c := HT2.out.rowb.cell 6
  go_wp2_with fail
  by_cases k2 : a.code = b.code
  rotate_left
  · as_aux_lemma =>
      have hr : r = false := by
        cases r with
        | false => rfl
        | true => exact absurd (by rw [HR.out.1 rfl]) k2
      subst hr
      refine (eq_code_any _ _ a.code b.code false _ (HA.out.code.on HT2.out.below) (HB.out.code.on HT2.out.below) (by simp [k2])).mono ?_
      rintro e w1 ⟨rfl, d1⟩
      have RES := Lib.hid (HT2.out.on d1).below
      clear ca cb d1 HT2 HA HB
      go_wp2_with fail
      all_goals (go_ret; exact ⟨rfl, RES.out⟩)
  refine (eq_code_any _ _ a.code b.code true _ (HA.out.code.on HT2.out.below) (HB.out.code.on HT2.out.below) (by simp [k2])).mono ?_
  rintro e w3 ⟨rfl, d3⟩
  have HT3 := Lib.hid (HT2.out.on d3)
  have K2 := Lib.hid k2
  clear ca cb d3 HT2 k2
  have ca : w3.cell? ⟨oa, 7, none⟩ = some Va.m := HT3.out.rowa.cell 7
  have cb : w3.cell? ⟨ob, 7, none⟩ = some Vb.m := HT3.out.rowb.cell 7
  go_wp2_with fail
  by_cases k3 : a.cmds = b.cmds
  rotate_left
  · as_aux_lemma =>
      have hr : r = false := by
        cases r with
        | false => rfl
        | true => exact absurd (by rw [HR.out.1 rfl]) k3
      subst hr
      refine (eq_cmds_any _ _ a.cmds b.cmds false _ (HA.out.cmds.on HT3.out.below) (HB.out.cmds.on HT3.out.below) (by simp [k3])).mono ?_
      rintro e w1 ⟨rfl, d1⟩
      have RES := Lib.hid (HT3.out.on d1).below
      clear ca cb d1 HT3 HA HB
      go_wp2_with fail
      all_goals (go_ret; exact ⟨rfl, RES.out⟩)
  refine (eq_cmds_any _ _ a.cmds b.cmds true _ (HA.out.cmds.on HT3.out.below) (HB.out.cmds.on HT3.out.below) (by simp [k3])).mono ?_
  rintro e w4 ⟨rfl, d4⟩
  have HT4 := Lib.hid (HT3.out.on d4)
  have K3 := Lib.hid k3
  clear ca cb d4 HT3 k3
  have ca : w4.cell? ⟨oa, 8, none⟩ = some Va.e := HT4.out.rowa.cell 8
  have cb : w4.cell? ⟨ob, 8, none⟩ = some Vb.e := HT4.out.rowb.cell 8
  go_wp2_with fail
  by_cases k4 : a.exps = b.exps
  rotate_left
  · as_aux_lemma =>
      have hr : r = false := by
        cases r with
        | false => rfl
        | true => exact absurd (by rw [HR.out.1 rfl]) k4
      subst hr
      refine (eq_exps_any _ _ a.exps b.exps false _ (HA.out.exps.on HT4.out.below) (HB.out.exps.on HT4.out.below) (by simp [k4])).mono ?_
      rintro e w1 ⟨rfl, d1⟩
      have RES := Lib.hid (HT4.out.on d1).below
      clear ca cb d1 HT4 HA HB
      go_wp2_with fail
      all_goals (go_ret; exact ⟨rfl, RES.out⟩)
  refine (eq_exps_any _ _ a.exps b.exps true _ (HA.out.exps.on HT4.out.below) (HB.out.exps.on HT4.out.below) (by simp [k4])).mono ?_
  rintro e w5 ⟨rfl, d5⟩
  have HT5 := Lib.hid (HT4.out.on d5)
  have K4 := Lib.hid k4
  clear ca cb d5 HT4 k4
  have ca : w5.cell? ⟨oa, 9, none⟩ = some Va.p := HT5.out.rowa.cell 9
  have cb : w5.cell? ⟨ob, 9, none⟩ = some Vb.p := HT5.out.rowb.cell 9
  go_wp2_with fail
  by_cases k5 : a.ptrs = b.ptrs
  rotate_left
  · as_aux_lemma =>
      have hr : r = false := by
        cases r with
        | false => rfl
        | true => exact absurd (by rw [HR.out.1 rfl]) k5
      subst hr
      refine (eq_ints_any _ _ a.ptrs b.ptrs false _ (HA.out.ptrs.on HT5.out.below) (HB.out.ptrs.on HT5.out.below) (by simp [k5])).mono ?_
      rintro e w1 ⟨rfl, d1⟩
      have RES := Lib.hid (HT5.out.on d1).below
      clear ca cb d1 HT5 HA HB
      go_wp2_with fail
      all_goals (go_ret; exact ⟨rfl, RES.out⟩)
  refine (eq_ints_any _ _ a.ptrs b.ptrs true _ (HA.out.ptrs.on HT5.out.below) (HB.out.ptrs.on HT5.out.below) (by simp [k5])).mono ?_
  rintro e w6 ⟨rfl, d6⟩
  have HT6 := Lib.hid (HT5.out.on d6)
  have K5 := Lib.hid k5
  clear ca cb d6 HT5 k5
  have ca : w6.cell? ⟨oa, 10, none⟩ = some Va.q := HT6.out.rowa.cell 10
  have cb : w6.cell? ⟨ob, 10, none⟩ = some Vb.q := HT6.out.rowb.cell 10
  go_wp2_with fail
  by_cases k6 : a.procs = b.procs
  rotate_left
  · as_aux_lemma =>
      have hr : r = false := by
        cases r with
        | false => rfl
        | true => exact absurd (by rw [HR.out.1 rfl]) k6
      subst hr
      refine (eq_ints_any _ _ a.procs b.procs false _ (HA.out.procs.on HT6.out.below) (HB.out.procs.on HT6.out.below) (by simp [k6])).mono ?_
      rintro e w1 ⟨rfl, d1⟩
      have RES := Lib.hid (HT6.out.on d1).below
      clear ca cb d1 HT6 HA HB
      go_wp2_with fail
      all_goals (go_ret; exact ⟨rfl, RES.out⟩)
  refine (eq_ints_any _ _ a.procs b.procs true _ (HA.out.procs.on HT6.out.below) (HB.out.procs.on HT6.out.below) (by simp [k6])).mono ?_
  rintro e w7 ⟨rfl, d7⟩
  have HT7 := Lib.hid (HT6.out.on d7)
  have K6 := Lib.hid k6
  clear ca cb d7 HT6 k6
  have hr : r = true := HR.out.2 ((ObjD.eqv_iff a b).1 ⟨E0.out, E1.out, K0.out, K1.out, E2.out, E3.out, K2.out, K3.out, K4.out, K5.out, K6.out, E4.out.1, E4.out.2.1, E4.out.2.2, E5.out⟩)
  subst hr
  have RES := Lib.hid HT7.out.below
  clear HT7 HA HB
  go_wp2_with fail
  all_goals (go_ret; exact ⟨rfl, RES.out⟩)
end Go.Proofs.Ythgnklgejlebhaa
