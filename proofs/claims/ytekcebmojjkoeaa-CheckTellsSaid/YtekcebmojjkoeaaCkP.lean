/-
  The program's partsMay (layer 14, rules 1 to 6). No conditions.
-/
import Derived.Test.YtekcebmojjkoeaaCkN
namespace Go.Proofs.Ytekcebmojjkoeaa
open Go.ChangeShapes Go.WideShapes Go.ChangeAt Go.RowKit

set_option maxRecDepth 100000 in
set_option maxHeartbeats 4000000 in
theorem parts_any (V : ObjV) (o : ObjD) (r : Bool) (w : World) (h : ObjAt w V o) (hr : r = true ↔ PartsQ o) :
    Calls Try.prog 16 #[.agg (ocells V o).toArray] w fun e w' => e = .returned (.bool r) ∧ Below w.heap.size w w' := by
  have HL' := Lib.hid (looks_new w V o)
  have HO := Lib.hid h
  have HR := Lib.hid hr
  obtain ⟨r1, hr1⟩ := some_bool (NamesQ o)
  obtain ⟨r2, hr2⟩ := some_bool (AmP o)
  obtain ⟨r3, hr3⟩ := some_bool (TysP o)
  obtain ⟨r4, hr4⟩ := some_bool (CmsP o)
  obtain ⟨r5, hr5⟩ := some_bool (ExsP o)
  obtain ⟨r6, hr6⟩ := some_bool (CesP o)
  obtain ⟨r7, hr7⟩ := some_bool (0 ≤ o.body ∧ o.body ≤ o.code.length)
  have H1 := Lib.hid hr1
  have H2 := Lib.hid hr2
  have H3 := Lib.hid hr3
  have H4 := Lib.hid hr4
  have H5 := Lib.hid hr5
  have H6 := Lib.hid hr6
  obtain ⟨a6, q6, hv6, _⟩ := h.code.shape
  obtain ⟨n6, hn6⟩ : ∃ n, n = o.code.length := ⟨_, rfl⟩
  rw [← hn6] at hv6 hr7
  have HV6 := Lib.hid hv6
  have HN6 := Lib.hid hn6
  have H7 := Lib.hid hr7
  clear h hr hr1 hr2 hr3 hr4 hr5 hr6 hr7 hv6 hn6
  go_enter Try.func16, Try.ntmps16
  go_upto_region 1 with fail
  generalize w.alloc (.cells (ocells V o).toArray OT) = w0 at *
  obtain ⟨ob, hob⟩ : ∃ ob, ob = w.heap.size := ⟨_, rfl⟩
  have HL : Hid (Looks w w0 ob V o) := by rw [hob]; exact HL'.out
  rw [← hob]
  clear HL' hob
  go_wp2_with (refine load_row_on rfl _ _ rfl ob rfl OT (ocells V o).toArray (0, 0) _ HL.out.row Try.underlying31 rfl (by rw [size_ob]; rfl) ?_)
  refine (namesMay_any V o r1 _ (HO.out.on HL.out.below) H1.out).mono ?_
  rintro e w1 ⟨rfl, hb1⟩
  have HL1 := Lib.hid (HL.out.on3 hb1)
  clear hb1 HL
  have HL := HL1
  clear HL1
  cases r1 with
  | false =>
    have HRF : Hid (r = false) := bool_not HR.out fun g => by have := H1.out.2 g.1; cases this
    as_aux_lemma =>
    go_wp2_with fail
    go_ret
    exact ⟨end_bool HRF.out.symm, HL.out.below⟩
  | true =>
  have G1 := Lib.hid (H1.out.1 rfl)
  clear H1
  go_wp2_with (refine load_row_on rfl _ _ rfl ob rfl OT (ocells V o).toArray (0, 0) _ HL.out.row Try.underlying31 rfl (by rw [size_ob]; rfl) ?_)
  refine (amounts_any V o r2 _ (HO.out.on HL.out.below) H2.out).mono ?_
  rintro e w1 ⟨rfl, hb1⟩
  have HL1 := Lib.hid (HL.out.on3 hb1)
  clear hb1 HL
  have HL := HL1
  clear HL1
  cases r2 with
  | false =>
    have HRF : Hid (r = false) := bool_not HR.out fun g => by have := H2.out.2 g.2.1; cases this
    as_aux_lemma =>
    go_wp2_with fail
    go_ret
    exact ⟨end_bool HRF.out.symm, HL.out.below⟩
  | true =>
  have G2 := Lib.hid (H2.out.1 rfl)
  clear H2
  go_wp2_with (refine load_row_on rfl _ _ rfl ob rfl OT (ocells V o).toArray (0, 0) _ HL.out.row Try.underlying31 rfl (by rw [size_ob]; rfl) ?_)
  refine (types_any V o r3 _ (HO.out.on HL.out.below) H3.out).mono ?_
  rintro e w1 ⟨rfl, hb1⟩
  have HL1 := Lib.hid (HL.out.on3 hb1)
  clear hb1 HL
  have HL := HL1
  clear HL1
  cases r3 with
  | false =>
    have HRF : Hid (r = false) := bool_not HR.out fun g => by have := H3.out.2 g.2.2.1; cases this
    as_aux_lemma =>
    go_wp2_with fail
    go_ret
    exact ⟨end_bool HRF.out.symm, HL.out.below⟩
  | true =>
  have G3 := Lib.hid (H3.out.1 rfl)
  clear H3
  go_wp2_with (refine load_row_on rfl _ _ rfl ob rfl OT (ocells V o).toArray (0, 0) _ HL.out.row Try.underlying31 rfl (by rw [size_ob]; rfl) ?_)
  refine (cmds_any V o r4 _ (HO.out.on HL.out.below) H4.out).mono ?_
  rintro e w1 ⟨rfl, hb1⟩
  have HL1 := Lib.hid (HL.out.on3 hb1)
  clear hb1 HL
  have HL := HL1
  clear HL1
  cases r4 with
  | false =>
    have HRF : Hid (r = false) := bool_not HR.out fun g => by have := H4.out.2 g.2.2.2.1; cases this
    as_aux_lemma =>
    go_wp2_with fail
    go_ret
    exact ⟨end_bool HRF.out.symm, HL.out.below⟩
  | true =>
  have G4 := Lib.hid (H4.out.1 rfl)
  clear H4
  go_wp2_with (refine load_row_on rfl _ _ rfl ob rfl OT (ocells V o).toArray (0, 0) _ HL.out.row Try.underlying31 rfl (by rw [size_ob]; rfl) ?_)
  refine (exports_any V o r5 _ (HO.out.on HL.out.below) H5.out).mono ?_
  rintro e w1 ⟨rfl, hb1⟩
  have HL1 := Lib.hid (HL.out.on3 hb1)
  clear hb1 HL
  have HL := HL1
  clear HL1
  cases r5 with
  | false =>
    have HRF : Hid (r = false) := bool_not HR.out fun g => by have := H5.out.2 g.2.2.2.2.1; cases this
    as_aux_lemma =>
    go_wp2_with fail
    go_ret
    exact ⟨end_bool HRF.out.symm, HL.out.below⟩
  | true =>
  have G5 := Lib.hid (H5.out.1 rfl)
  clear H5
  go_wp2_with (refine load_row_on rfl _ _ rfl ob rfl OT (ocells V o).toArray (0, 0) _ HL.out.row Try.underlying31 rfl (by rw [size_ob]; rfl) ?_)
  refine (cellsMay_any V o r6 _ (HO.out.on HL.out.below) H6.out).mono ?_
  rintro e w1 ⟨rfl, hb1⟩
  have HL1 := Lib.hid (HL.out.on3 hb1)
  clear hb1 HL
  have HL := HL1
  clear HL1
  cases r6 with
  | false =>
    have HRF : Hid (r = false) := bool_not HR.out fun g => by have := H6.out.2 g.2.2.2.2.2.1; cases this
    as_aux_lemma =>
    go_wp2_with fail
    go_ret
    exact ⟨end_bool HRF.out.symm, HL.out.below⟩
  | true =>
  have G6 := Lib.hid (H6.out.1 rfl)
  clear H6
  have c6 : w1.cell? ⟨ob, 6, none⟩ = some (.slice a6 n6 q6) := (HL.out.row.cell 6).trans (congrArg some HV6.out)
  have c14 : w1.cell? ⟨ob, 14, none⟩ = some (.int .i64 o.body) := HL.out.row.cell 14
  go_wp2_with fail
  refine (isUpTo_any o.body n6 r7 _ H7.out).mono ?_
  rintro e w' ⟨rfl, rfl⟩
  have HRR : Hid (r = r7) := by
    show r = r7
    cases r7 with
    | true => exact HR.out.2 ⟨G1.out, G2.out, G3.out, G4.out, G5.out, G6.out, by have := H7.out.1 rfl; rw [HN6.out] at this; exact this⟩
    | false => exact bool_not HR.out fun g => by have := H7.out.2 (by rw [HN6.out]; exact g.2.2.2.2.2.2); cases this
  go_wp2_with fail
  go_ret
  exact ⟨end_bool HRR.out.symm, HL.out.below⟩
end Go.Proofs.Ytekcebmojjkoeaa
