/-
  The program's write of an object (layer 12). Conditions: its lists are not longer than 300 (code: 2000). (Written by wip/tools/obj-v.py.)
-/
import Derived.Test.YthgnklgejlebhaaObjU
namespace Go.Proofs.Ythgnklgejlebhaa
open Go.ChangeShapes Go.WideShapes Go.ChangeAt Go.RowKit

def pw1 (o : ObjD) : List Nat := [68, 87] ++ textB (sb o.name) ++ numB o.key 4
def pw2 (o : ObjD) : List Nat := pw1 o ++ wl 1 impB o.imps
def pw3 (o : ObjD) : List Nat := pw2 o ++ wl 1 typeB o.types
def pw4 (o : ObjD) : List Nat := pw3 o ++ numZ o.data 1 ++ textB (sb o.text)
def pw5 (o : ObjD) : List Nat := pw4 o ++ wl 2 (numB · 4) o.code
def pw6 (o : ObjD) : List Nat := pw5 o ++ wl 1 cmdB o.cmds
def pw7 (o : ObjD) : List Nat := pw6 o ++ wl 1 expB o.exps
def pw8 (o : ObjD) : List Nat := pw7 o ++ wl 1 (numZ · 1) o.ptrs
def pw9 (o : ObjD) : List Nat := pw8 o ++ wl 1 (numZ · 1) o.procs
/- an object's bytes, as the program makes them -/
def pwrite (o : ObjD) : List Nat := pw9 o ++ [o.f0, o.f1, o.f2].flatMap (numZ · 2) ++ numZ o.body 2
theorem wl_len {α : Type} (wd : Nat) (f : α → List Nat) (c N : Nat) (hf : ∀ x, (f x).length ≤ c) (L : List α) (hL : L.length ≤ N) : (wl wd f L).length ≤ wd + N * c := by
  have := flat_take f c N hf L hL (256 ^ wd - 1)
  rw [wl, List.length_append, numZ_len]
  omega
theorem pw1_len (o : ObjD) : (pw1 o).length ≤ 300 := by
  have := textB_len (sb o.name)
  simp only [pw1, List.length_append, numB_length, List.length_cons, List.length_nil]
  omega
theorem pw2_len {o : ObjD} (h : FewB o) : (pw2 o).length ≤ 78400 := by
  have h1 := pw1_len o
  have h2 := wl_len 1 impB 260 300 impB_len o.imps h.imps
  rw [pw2, List.length_append]
  omega
theorem pw3_len {o : ObjD} (h : FewB o) : (pw3 o).length ≤ 80000 := by
  have h1 := pw2_len h
  have h2 := wl_len 1 typeB 4 300 typeB_len o.types h.types
  rw [pw3, List.length_append]
  omega
theorem pw4_len {o : ObjD} (h : FewB o) : (pw4 o).length ≤ 80300 := by
  have h1 := pw3_len h
  have h2 := textB_len (sb o.text)
  simp only [pw4, List.length_append, numZ_len]
  omega
theorem pw5_len {o : ObjD} (h : FewB o) : (pw5 o).length ≤ 88400 := by
  have h1 := pw4_len h
  have h2 := wl_len 2 (numB · 4) 4 2000 (fun x => Nat.le_of_eq (numB_length 4 x)) o.code h.code
  rw [pw5, List.length_append]
  omega
theorem pw6_len {o : ObjD} (h : FewB o) : (pw6 o).length ≤ 165900 := by
  have h1 := pw5_len h
  have h2 := wl_len 1 cmdB 258 300 cmdB_len o.cmds h.cmds
  rw [pw6, List.length_append]
  omega
theorem pw7_len {o : ObjD} (h : FewB o) : (pw7 o).length ≤ 166900 := by
  have h1 := pw6_len h
  have h2 := wl_len 1 expB 3 300 expB_len o.exps h.exps
  rw [pw7, List.length_append]
  omega
theorem pw8_len {o : ObjD} (h : FewB o) : (pw8 o).length ≤ 167300 := by
  have h1 := pw7_len h
  have h2 := wl_len 1 (numZ · 1) 1 300 (fun x => Nat.le_of_eq (numZ_len x 1)) o.ptrs h.ptrs
  rw [pw8, List.length_append]
  omega
theorem pw9_len {o : ObjD} (h : FewB o) : (pw9 o).length ≤ 167700 := by
  have h1 := pw8_len h
  have h2 := wl_len 1 (numZ · 1) 1 300 (fun x => Nat.le_of_eq (numZ_len x 1)) o.procs h.procs
  rw [pw9, List.length_append]
  omega
theorem fix_0 (a b c : Int) (w : World) : (Instr.index 29 (.agg #[.int .i64 a, .int .i64 b, .int .i64 c]) (.int .i64 0)).run Try.prog w = .ok (.int .i64 a) w := by kernel_rfl
theorem fix_1 (a b c : Int) (w : World) : (Instr.index 29 (.agg #[.int .i64 a, .int .i64 b, .int .i64 c]) (.int .i64 1)).run Try.prog w = .ok (.int .i64 b) w := by kernel_rfl
theorem fix_2 (a b c : Int) (w : World) : (Instr.index 29 (.agg #[.int .i64 a, .int .i64 b, .int .i64 c]) (.int .i64 2)).run Try.prog w = .ok (.int .i64 c) w := by kernel_rfl

set_option maxRecDepth 100000 in
set_option maxHeartbeats 4000000 in
theorem write_any (V : ObjV) (o : ObjD) (w : World) (h : ObjAt w V o) (hf : FewB o) :
    Calls Try.prog 15 #[.agg (ocells V o).toArray] w fun e w' => ∃ v', e = .returned v' ∧ Bs w' v' (pwrite o) ∧ (∀ j, own v' j → w.heap.size ≤ j) ∧ Below w.heap.size w w' := by
  have HO := Lib.hid h
  have HF := Lib.hid hf
  have HX : Hid (RowAt (w.alloc (.cells (ocells V o).toArray OT)) w.heap.size OT (ocells V o) ∧ Kept (fun _ => False) w (w.alloc (.cells (ocells V o).toArray OT)) ∧ w.heap.size < (w.alloc (.cells (ocells V o).toArray OT)).heap.size) := ⟨RowAt.new w _ _, (Kept.refl _ w).alloc _, by simp⟩
  clear h hf
  go_enter Try.func15, Try.ntmps15
  go_upto_region 1 with fail
  generalize w.alloc (.cells (ocells V o).toArray OT) = w0 at *
  obtain ⟨ob, hob⟩ : ∃ ob, ob = w.heap.size := ⟨_, rfl⟩
  have HOB := Lib.hid hob
  rw [← hob] at HX ⊢
  clear hob
  have q3 := Lib.run_convert_bytes_const (P := Try.prog) w0 BS BT #[.int .u8 68, .int .u8 87] 2 2 Try.underlying34 Try.underlying5
  have c0 : (w0.alloc (.cells #[.int .u8 68, .int .u8 87] BT (2, 3))).cell? ⟨ob, 0, none⟩ = some (.string o.name) := (HX.out.1.keep (S := fun _ => False) ((Kept.refl _ w0).alloc _) (fun h => h)).cell 0
  go_wp2_with fail
  refine (mark_text w0 o.name).mono ?_
  rintro e w1 ⟨x1, rfl, hb, ho, hk⟩
  have HM1 : Hid (Mid w w1 ob V o x1 ([68, 87] ++ textB (sb o.name))) := ⟨HX.out.1.keep hk (fun h => h), hb, fun j hj => by have := ho j hj; have h2 := HX.out.2.2; have h3 := HOB.out; omega, (HX.out.2.1.trans hk).none⟩
  clear hb ho hk q3 c0 HX
  have c1 : w1.cell? ⟨ob, 1, none⟩ = some (.int .u32 (o.key : Nat)) := HM1.out.row.cell 1
  go_wp2_with fail
  refine (bput_any _ _ o.key 4 _ HM1.out.bs HO.out.fit.key (by have := textB_len (sb o.name); simp only [List.length_append, List.length_cons, List.length_nil]; omega)).mono ?_
  rintro e w2 ⟨x2, rfl, hb, hg⟩
  have HM2 : Hid (Mid w w2 ob V o x2 (pw1 o)) := HM1.out.step hb hg
  clear hb hg HM1 c1
  have c2 : w2.cell? ⟨ob, 2, none⟩ = some (V.i) := HM2.out.row.cell 2
  go_wp2_with fail
  refine (wlist_imps_any w V.i o.imps HO.out.imps (fun x hx => (HO.out.fit.imps x hx).2) (by have := HF.out.imps; omega) (by have := HF.out.imps; omega) _ _ _ HM2.out.bs HM2.out.below (fun j hj => (HM2.out.fresh j hj).1) (by have := pw1_len o; omega)).mono ?_
  rintro e w3 ⟨x3, rfl, hb, hg⟩
  have HM3 : Hid (Mid w w3 ob V o x3 (pw2 o)) := HM2.out.step hb hg
  clear hb hg HM2 c2
  have c3 : w3.cell? ⟨ob, 3, none⟩ = some (V.t) := HM3.out.row.cell 3
  go_wp2_with fail
  refine (wlist_types_any w V.t o.types HO.out.types (by have := HF.out.types; omega) (by have := HF.out.types; omega) _ _ _ HM3.out.bs HM3.out.below (fun j hj => (HM3.out.fresh j hj).1) (by have := pw2_len HF.out; omega)).mono ?_
  rintro e w4 ⟨x4, rfl, hb, hg⟩
  have HM4 : Hid (Mid w w4 ob V o x4 (pw3 o)) := HM3.out.step hb hg
  clear hb hg HM3 c3
  have c4 : w4.cell? ⟨ob, 4, none⟩ = some (.int .i64 o.data) := HM4.out.row.cell 4
  go_wp2_with fail
  refine (wbyte_any _ _ o.data _ HM4.out.bs (by have := pw3_len HF.out; omega)).mono ?_
  rintro e w5 ⟨x5, rfl, hb, hg⟩
  have HM5 : Hid (Mid w w5 ob V o x5 (pw3 o ++ numZ o.data 1)) := HM4.out.step hb hg
  clear hb hg HM4 c4
  have c5 : w5.cell? ⟨ob, 5, none⟩ = some (.string o.text) := HM5.out.row.cell 5
  go_wp2_with fail
  refine (btext_any _ _ o.text _ HM5.out.bs (by have := pw3_len HF.out; rw [List.length_append, numZ_len]; omega)).mono ?_
  rintro e w6 ⟨x6, rfl, hb, hg⟩
  have HM6 : Hid (Mid w w6 ob V o x6 (pw4 o)) := HM5.out.step hb hg
  clear hb hg HM5 c5
  have c6 : w6.cell? ⟨ob, 6, none⟩ = some (V.c) := HM6.out.row.cell 6
  go_wp2_with fail
  refine (wlist_code_any w V.c o.code HO.out.code (fun x hx => HO.out.fit.code x hx) (by have := HF.out.code; omega) (by have := HF.out.code; omega) _ _ _ HM6.out.bs HM6.out.below (fun j hj => (HM6.out.fresh j hj).1) (by have := pw4_len HF.out; omega)).mono ?_
  rintro e w7 ⟨x7, rfl, hb, hg⟩
  have HM7 : Hid (Mid w w7 ob V o x7 (pw5 o)) := HM6.out.step hb hg
  clear hb hg HM6 c6
  have c7 : w7.cell? ⟨ob, 7, none⟩ = some (V.m) := HM7.out.row.cell 7
  go_wp2_with fail
  refine (wlist_cmds_any w V.m o.cmds HO.out.cmds (by have := HF.out.cmds; omega) (by have := HF.out.cmds; omega) _ _ _ HM7.out.bs HM7.out.below (fun j hj => (HM7.out.fresh j hj).1) (by have := pw5_len HF.out; omega)).mono ?_
  rintro e w8 ⟨x8, rfl, hb, hg⟩
  have HM8 : Hid (Mid w w8 ob V o x8 (pw6 o)) := HM7.out.step hb hg
  clear hb hg HM7 c7
  have c8 : w8.cell? ⟨ob, 8, none⟩ = some (V.e) := HM8.out.row.cell 8
  go_wp2_with fail
  refine (wlist_exps_any w V.e o.exps HO.out.exps (by have := HF.out.exps; omega) (by have := HF.out.exps; omega) _ _ _ HM8.out.bs HM8.out.below (fun j hj => (HM8.out.fresh j hj).1) (by have := pw6_len HF.out; omega)).mono ?_
  rintro e w9 ⟨x9, rfl, hb, hg⟩
  have HM9 : Hid (Mid w w9 ob V o x9 (pw7 o)) := HM8.out.step hb hg
  clear hb hg HM8 c8
  have c9 : w9.cell? ⟨ob, 9, none⟩ = some (V.p) := HM9.out.row.cell 9
  go_wp2_with fail
  refine (wlist_ints_any w V.p o.ptrs HO.out.ptrs (by have := HF.out.ptrs; omega) (by have := HF.out.ptrs; omega) _ _ _ HM9.out.bs HM9.out.below (fun j hj => (HM9.out.fresh j hj).1) (by have := pw7_len HF.out; omega)).mono ?_
  rintro e w10 ⟨x10, rfl, hb, hg⟩
  have HM10 : Hid (Mid w w10 ob V o x10 (pw8 o)) := HM9.out.step hb hg
  clear hb hg HM9 c9
  have c10 : w10.cell? ⟨ob, 10, none⟩ = some (V.q) := HM10.out.row.cell 10
  go_wp2_with fail
  refine (wlist_ints_any w V.q o.procs HO.out.procs (by have := HF.out.procs; omega) (by have := HF.out.procs; omega) _ _ _ HM10.out.bs HM10.out.below (fun j hj => (HM10.out.fresh j hj).1) (by have := pw8_len HF.out; omega)).mono ?_
  rintro e w11 ⟨x11, rfl, hb, hg⟩
  have HM11 : Hid (Mid w w11 ob V o x11 (pw9 o)) := HM10.out.step hb hg
  clear hb hg HM10 c10
  have c11 : w11.cell? ⟨ob, 11, none⟩ = some (.int .i64 o.f0) := HM11.out.row.cell 11
  have c12 : w11.cell? ⟨ob, 12, none⟩ = some (.int .i64 o.f1) := HM11.out.row.cell 12
  have c13 : w11.cell? ⟨ob, 13, none⟩ = some (.int .i64 o.f2) := HM11.out.row.cell 13
  have HQ : Hid (Mid w w11 ob V o x11 (pw9 o ++ ([o.f0, o.f1, o.f2].take 0).flatMap (numZ · 2))) := by show Mid _ _ _ _ _ _ _; simpa using HM11.out
  have HLEN : Hid (∀ q, (pw9 o ++ ([o.f0, o.f1, o.f2].take q).flatMap (numZ · 2)).length ≤ 200000) := fun q => by
    have h1 := pw9_len HF.out
    have h2 := flat_take (numZ · 2) 2 3 (fun x => Nat.le_of_eq (numZ_len x 2)) [o.f0, o.f1, o.f2] (by simp) q
    rw [List.length_append]
    omega
  clear HM11
  go_wp2_with fail
  go_loopw [3, 53] (fun out i wr => ∃ q : Nat, q ≤ 3 ∧ i = .int .i64 (q : Nat) ∧ Mid w wr ob V o out (pw9 o ++ ([o.f0, o.f1, o.f2].take q).flatMap (numZ · 2))) (fun _ i _ => 3 - (intOf i).toNat)
  case atStart => exact ⟨0, Nat.zero_le _, rfl, HQ.out⟩
  case round =>
    clear HQ c11 c12 c13
    obtain ⟨q, hq, rfl, hM⟩ := hrel
    have HM := Lib.hid hM
    clear hM
    have hcase : q = 0 ∨ q = 1 ∨ q = 2 ∨ q = 3 := by omega
    rcases hcase with rfl | rfl | rfl | rfl
    · as_aux_lemma =>
      have ix := fix_0 o.f0 o.f1 o.f2
      go_wp2_with fail
      refine (wplace_any _ _ o.f0 _ HM.out.bs (by have := HLEN.out 0; omega)).mono ?_
      rintro e w20 ⟨x20, rfl, hb, hg⟩
      have HN := Lib.hid (HM.out.step hb hg)
      clear hb hg HM
      go_wp2_with fail
      go_roundw
      case rel => exact ⟨1, by omega, rfl, by simpa [List.append_assoc] using HN.out⟩
      case measure => simp [intOf]
    · as_aux_lemma =>
      have ix := fix_1 o.f0 o.f1 o.f2
      go_wp2_with fail
      refine (wplace_any _ _ o.f1 _ HM.out.bs (by have := HLEN.out 1; omega)).mono ?_
      rintro e w20 ⟨x20, rfl, hb, hg⟩
      have HN := Lib.hid (HM.out.step hb hg)
      clear hb hg HM
      go_wp2_with fail
      go_roundw
      case rel => exact ⟨2, by omega, rfl, by simpa [List.append_assoc] using HN.out⟩
      case measure => simp [intOf]
    · as_aux_lemma =>
      have ix := fix_2 o.f0 o.f1 o.f2
      go_wp2_with fail
      refine (wplace_any _ _ o.f2 _ HM.out.bs (by have := HLEN.out 2; omega)).mono ?_
      rintro e w20 ⟨x20, rfl, hb, hg⟩
      have HN := Lib.hid (HM.out.step hb hg)
      clear hb hg HM
      go_wp2_with fail
      go_roundw
      case rel => exact ⟨3, by omega, rfl, by simpa [List.append_assoc] using HN.out⟩
      case measure => simp [intOf]
    · have c14 : wr.cell? ⟨ob, 14, none⟩ = some (.int .i64 o.body) := HM.out.row.cell 14
      go_wp2_with fail
      refine (wplace_any _ _ o.body _ HM.out.bs (by have := HLEN.out 3; omega)).mono ?_
      rintro e w20 ⟨x20, rfl, hb, hg⟩
      have hN := HM.out.step hb hg
      have RES : Hid (Bs w20 x20 (pwrite o) ∧ (∀ j, own x20 j → w.heap.size ≤ j) ∧ Below w.heap.size w w20) := ⟨hN.bs, fun j hj => (hN.fresh j hj).1, hN.below⟩
      clear hb hg hN HM
      go_wp2_with fail
      go_ret
      exact ⟨_, rfl, RES.out⟩
end Go.Proofs.Ythgnklgejlebhaa
