/-
  The program's amountsMay, cmdsMay, typesMay, exportsMay (layer 14, rules 2 to 4). No conditions.
-/
import Derived.Test.YtekcebmojjkoeaaCkB
import Derived.Test.YtekcebmojjkoeaaStru
import Derived.Deep.RegionHeld3
import Derived.Deep.MidRow
namespace Go.Proofs.Ytekcebmojjkoeaa
open Go.ChangeShapes Go.WideShapes Go.ChangeAt Go.RowKit

abbrev CmT : TypeId := 50
abbrev ExT : TypeId := 68
theorem Looks.on3 {w wr w' : World} {ob : Nat} {V : ObjV} {o : ObjD} (h : Looks w wr ob V o) (hb : Below wr.heap.size wr w') : Looks w w' ob V o :=
  ⟨h.row.keep (Kept.of_below (S := fun _ => False) hb) (fun e => e), below_on h.below hb h.below.size⟩
theorem RowAt.rangeC {w : World} {b : Nat} {t : TypeId} {cs : List Value} (h : RowAt w b t cs) : w.rangeAt b 0 cs := by
  intro j u hj
  rw [Nat.zero_add, h.cell, hj]
/- a whole element, copied into a new variable -/
theorem box_el (wr : World) (t : TypeId) (k : Nat) (zs xs : List Value) (hz : zs.length = k) (hx : xs.length = k) (h1 : Ones xs) (hs : (Try.prog.info? t).map (·.size) = some k) :
    (Instr.storeAt t (.pointer (some ⟨wr.heap.size, 0, none⟩)) (.agg xs.toArray)).run Try.prog (wr.alloc (.cells zs.toArray t)) = .ok () (wr.alloc (.cells xs.toArray t)) := by
  obtain ⟨r1, _, _⟩ := told_row (RowAt.new wr t zs) (xs := xs) (k := k) hz hx h1 hs
  rw [setRow_alloc] at r1
  exact r1
theorem ones_cmd (x : ByteArray × Int) : Ones (cmdRow x) := by intro u hu; simp only [cmdRow, List.mem_cons, List.not_mem_nil, or_false] at hu; rcases hu with rfl | rfl <;> rfl
theorem ones_exp (x : Int × Int) : Ones (expRow x) := by intro u hu; simp only [expRow, List.mem_cons, List.not_mem_nil, or_false] at hu; rcases hu with rfl | rfl <;> rfl
theorem ones_type (x : Int × Int × Int) : Ones (typeRow x) := by intro u hu; simp only [typeRow, List.mem_cons, List.not_mem_nil, or_false] at hu; rcases hu with rfl | rfl | rfl <;> rfl
theorem size_cm : (Try.prog.info? CmT).map (·.size) = some 2 := by kernel_rfl
theorem size_ex : (Try.prog.info? ExT).map (·.size) = some 2 := by kernel_rfl
theorem size_ty : (Try.prog.info? TyT).map (·.size) = some 3 := by kernel_rfl

set_option maxRecDepth 100000 in
set_option maxHeartbeats 1000000 in
theorem amounts_any (V : ObjV) (o : ObjD) (r : Bool) (w : World) (h : ObjAt w V o) (hr : r = true ↔ AmP o) :
    Calls Try.prog 26 #[.agg (ocells V o).toArray] w fun e w' => e = .returned (.bool r) ∧ Below w.heap.size w w' := by
  have HL' := Lib.hid (looks_new w V o)
  have HR := Lib.hid hr
  obtain ⟨r1, hr1⟩ := some_bool (0 ≤ o.data ∧ o.data ≤ 64)
  have H1 := Lib.hid hr1
  obtain ⟨a6, q6, hv6, _⟩ := h.code.shape
  obtain ⟨n6, hn6⟩ : ∃ n, n = o.code.length := ⟨_, rfl⟩
  rw [← hn6] at hv6
  have HV6 := Lib.hid hv6
  have HN6 := Lib.hid hn6
  clear h hr hr1 hv6 hn6
  go_enter Try.func26, Try.ntmps26
  go_upto_region 1 with fail
  generalize w.alloc (.cells (ocells V o).toArray OT) = w0 at *
  obtain ⟨ob, hob⟩ : ∃ ob, ob = w.heap.size := ⟨_, rfl⟩
  have HL : Hid (Looks w w0 ob V o) := by rw [hob]; exact HL'.out
  rw [← hob]
  clear HL' hob
  have c4 : w0.cell? ⟨ob, 4, none⟩ = some (.int .i64 o.data) := HL.out.row.cell 4
  have c5 : w0.cell? ⟨ob, 5, none⟩ = some (.string o.text) := HL.out.row.cell 5
  have c6 : w0.cell? ⟨ob, 6, none⟩ = some (.slice a6 n6 q6) := (HL.out.row.cell 6).trans (congrArg some HV6.out)
  go_wp2_with fail
  refine (isUpTo_any o.data 64 r1 _ H1.out).mono ?_
  rintro e w' ⟨rfl, rfl⟩
  cases r1 with
  | false =>
    have HRF : Hid (r = false) := bool_not HR.out fun g => by have := H1.out.2 g.1; cases this
    go_wp2_with fail
    go_ret
    exact ⟨end_bool HRF.out.symm, HL.out.below⟩
  | true =>
    have G1 := Lib.hid (H1.out.1 rfl)
    clear H1
    by_cases k2 : ((o.text.size : Nat) : Int) ≤ 60
    rotate_left
    · have k2' : decide (((o.text.size : Nat) : Int) ≤ 60) = false := by simpa using k2
      have HRF : Hid (r = false) := bool_not HR.out fun g => by have := g.2.1; omega
      go_wp2_with fail
      go_ret
      exact ⟨end_bool HRF.out.symm, HL.out.below⟩
    by_cases k3 : 1 ≤ (n6 : Int)
    rotate_left
    · have k3' : decide (1 ≤ (n6 : Int)) = false := by simpa using k3
      have HRF : Hid (r = false) := bool_not HR.out fun g => by have := g.2.2.1; have := HN6.out; omega
      go_wp2_with fail
      go_ret
      exact ⟨end_bool HRF.out.symm, HL.out.below⟩
    by_cases k4 : (n6 : Int) ≤ 256
    rotate_left
    · have k4' : decide ((n6 : Int) ≤ 256) = false := by simpa using k4
      have HRF : Hid (r = false) := bool_not HR.out fun g => by have := g.2.2.2; have := HN6.out; omega
      go_wp2_with fail
      go_ret
      exact ⟨end_bool HRF.out.symm, HL.out.below⟩
    have HRT : Hid (r = true) := HR.out.2 ⟨G1.out, by omega, by have := HN6.out; omega, by have := HN6.out; omega⟩
    have k4' : decide ((n6 : Int) ≤ 256) = true := by simpa using k4
    go_wp2_with fail
    go_ret
    exact ⟨end_bool HRT.out.symm, HL.out.below⟩
set_option maxRecDepth 100000 in
set_option maxHeartbeats 1000000 in
theorem cmds_any (V : ObjV) (o : ObjD) (r : Bool) (w : World) (h : ObjAt w V o) (hr : r = true ↔ CmsP o) :
    Calls Try.prog 28 #[.agg (ocells V o).toArray] w fun e w' => e = .returned (.bool r) ∧ Below w.heap.size w w' := by
  have HL' := Lib.hid (looks_new w V o)
  have HO := Lib.hid h
  have HR := Lib.hid hr
  obtain ⟨a6, q6, hv6, _⟩ := h.code.shape
  obtain ⟨n6, hn6⟩ : ∃ n, n = o.code.length := ⟨_, rfl⟩
  rw [← hn6] at hv6
  have HV6 := Lib.hid hv6
  have HN6 := Lib.hid hn6
  obtain ⟨a7, q7, hv7, hc7, hm7, _⟩ := h.cmds.shape
  obtain ⟨n7, hn7⟩ : ∃ n, n = o.cmds.length := ⟨_, rfl⟩
  rw [← hn7] at hv7 hc7
  have HV7 := Lib.hid hv7
  have HN7 := Lib.hid hn7
  have s7 : n7 ≤ 9223372036854775807 := Nat.le_trans hc7 hm7
  clear h hr hv6 hn6 hv7 hn7 hc7 hm7
  go_enter Try.func28, Try.ntmps28
  go_upto_region 1 with fail
  generalize w.alloc (.cells (ocells V o).toArray OT) = w0 at *
  obtain ⟨ob, hob⟩ : ∃ ob, ob = w.heap.size := ⟨_, rfl⟩
  have HL : Hid (Looks w w0 ob V o) := by rw [hob]; exact HL'.out
  rw [← hob]
  clear HL' hob
  have c7 : w0.cell? ⟨ob, 7, none⟩ = some (.slice a7 n7 q7) := (HL.out.row.cell 7).trans (congrArg some HV7.out)
  go_wp2_with fail
  clear c7
  go_loopw [8] (fun i wr => ∃ m : Nat, m ≤ n7 ∧ i = .int .i64 (m : Nat) ∧ Looks w wr ob V o ∧ ∀ (j : Nat) (x : ByteArray × Int), j < m → o.cmds[j]? = some x → CmAt o x) (fun i _ => n7 - (intOf i).toNat)
  case atStart => exact ⟨0, Nat.zero_le _, rfl, HL.out, fun j x hj => by omega⟩
  case round =>
    clear HL
    obtain ⟨m, hm, rfl, hL, hall⟩ := hrel
    have HL := Lib.hid hL
    have HALL := Lib.hid hall
    clear hL hall
    by_cases hlt : m < n7
    · obtain ⟨x, hx⟩ : ∃ x, o.cmds[m]? = some x := ⟨_, List.getElem?_eq_getElem (by have := HN7.out; omega)⟩
      have HX := Lib.hid hx
      obtain ⟨x1, x2⟩ := x
      obtain ⟨b, off, cap, e0, hb, p0, p1⟩ := HO.out.cmds.cell2 hx rfl
      rw [← HN7.out] at e0
      have ea : a7 = some ⟨b, off, none⟩ := by have e2 := HV7.out.symm.trans e0; cases e2; rfl
      rw [ea]
      have u0 := (HL.out.below.cell (p := ⟨b, off + m * 2, none⟩) hb).trans p0
      have u1 := (HL.out.below.cell (p := ⟨b, off + m * 2 + 1, none⟩) hb).trans p1
      have i1 : (m : Int) < (n7 : Int) := by omega
      have i2 : (0 : Int) ≤ (m : Int) := by omega
      have HLT : Hid (m < n7) := hlt
      have RUN := Lib.hid (box_el wr CmT 2 [.string ⟨#[]⟩, .int .i64 0] [.string x1, .int .i64 x2] rfl rfl (ones_cmd (x1, x2)) size_cm)
      have HL1 : Hid (Looks w (wr.alloc (.cells #[.string x1, .int .i64 x2] CmT)) ob V o) := HL.out.on3 ((Below.refl _ _).alloc (Nat.le_refl _) _)
      have HR1 : Hid (RowAt (wr.alloc (.cells #[.string x1, .int .i64 x2] CmT)) wr.heap.size CmT [.string x1, .int .i64 x2]) := RowAt.new wr CmT _
      obtain ⟨rb, hrb⟩ := some_bool (0 ≤ x2 ∧ x2 < (n6 : Int))
      have HRB := Lib.hid hrb
      clear e0 ea hb p0 p1 hx hm hlt HL hrb
      go_upto_region 4 with (refine wpList_store_run _ rfl _ _ _ rfl _ _ rfl rfl (by exact RUN.out) ?_)
      generalize wr.alloc (.cells #[.string x1, .int .i64 x2] CmT) = w1 at *
      generalize wr.heap.size = tb at *
      clear u0 u1 RUN
      have d1 : w1.cell? ⟨tb, 1, none⟩ = some (.int .i64 x2) := HR1.out.cell 1
      have c6 : w1.cell? ⟨ob, 6, none⟩ = some (.slice a6 n6 q6) := (HL1.out.row.cell 6).trans (congrArg some HV6.out)
      clear HR1
      go_wp2_with fail
      refine (isBelow_any x2 n6 rb _ HRB.out).mono ?_
      rintro e w' ⟨rfl, rfl⟩
      cases rb with
      | false =>
        as_aux_lemma =>
        have HRF : Hid (r = false) := bool_not HR.out fun g => by have := HRB.out.2 (by have := HN6.out; rw [this]; exact g m _ HX.out); cases this
        go_wp2_with fail
        go_ret
        exact ⟨end_bool HRF.out.symm, HL1.out.below⟩
      | true =>
        as_aux_lemma =>
        have HOK := Lib.hid (all_next (Q := fun _ x => CmAt o x) HALL.out HX.out (by have := HRB.out.1 rfl; rw [HN6.out] at this; exact this))
        go_wp2_with fail
        go_roundw
        case rel => exact ⟨m + 1, HLT.out, by go_num, HL1.out, HOK.out⟩
        case measure => have := HLT.out; simp [intOf]; omega
    · have i1 : ¬ (m : Int) < (n7 : Int) := by omega
      have HRT : Hid (r = true) := HR.out.2 (all_done (Q := fun _ x => CmAt o x) HALL.out (by have := HN7.out; omega))
      clear hm hlt
      go_wp2_with fail
      go_ret
      exact ⟨end_bool HRT.out.symm, HL.out.below⟩
set_option maxRecDepth 100000 in
set_option maxHeartbeats 2000000 in
theorem types_any (V : ObjV) (o : ObjD) (r : Bool) (w : World) (h : ObjAt w V o) (hr : r = true ↔ TysP o) :
    Calls Try.prog 27 #[.agg (ocells V o).toArray] w fun e w' => e = .returned (.bool r) ∧ Below w.heap.size w w' := by
  have HL' := Lib.hid (looks_new w V o)
  have HO := Lib.hid h
  have HR := Lib.hid hr
  obtain ⟨a2, q2, hv2, _⟩ := h.imps.shape
  obtain ⟨n2, hn2⟩ : ∃ n, n = o.imps.length := ⟨_, rfl⟩
  rw [← hn2] at hv2
  have HV2 := Lib.hid hv2
  have HN2 := Lib.hid hn2
  obtain ⟨a3, q3, hv3, _⟩ := h.types.shape
  obtain ⟨n3, hn3⟩ : ∃ n, n = o.types.length := ⟨_, rfl⟩
  rw [← hn3] at hv3
  have HV3 := Lib.hid hv3
  have HN3 := Lib.hid hn3
  clear h hr hv2 hn2 hv3 hn3
  go_enter Try.func27, Try.ntmps27
  go_upto_region 1 with fail
  generalize w.alloc (.cells (ocells V o).toArray OT) = w0 at *
  obtain ⟨ob, hob⟩ : ∃ ob, ob = w.heap.size := ⟨_, rfl⟩
  have HL : Hid (Looks w w0 ob V o) := by rw [hob]; exact HL'.out
  rw [← hob]
  clear HL' hob
  have c3 : w0.cell? ⟨ob, 3, none⟩ = some (.slice a3 n3 q3) := (HL.out.row.cell 3).trans (congrArg some HV3.out)
  by_cases h8 : 8 < (n3 : Int)
  · have HRF : Hid (r = false) := bool_not HR.out fun g => by have := g.1; have := HN3.out; omega
    go_wp2_with fail
    go_ret
    exact ⟨end_bool HRF.out.symm, HL.out.below⟩
  have s8 : n3 ≤ 8 := by omega
  go_wp2_with fail
  clear c3 h8
  go_loopw [12] (fun i wr => ∃ m : Nat, m ≤ n3 ∧ i = .int .i64 (m : Nat) ∧ Looks w wr ob V o ∧ ∀ (j : Nat) (x : Int × Int × Int), j < m → o.types[j]? = some x → TypeOk o j x) (fun i _ => n3 - (intOf i).toNat)
  case atStart => exact ⟨0, Nat.zero_le _, rfl, HL.out, fun j x hj => by omega⟩
  case round =>
    clear HL
    obtain ⟨m, hm, rfl, hL, hall⟩ := hrel
    have HL := Lib.hid hL
    have HALL := Lib.hid hall
    clear hL hall
    by_cases hlt : m < n3
    · obtain ⟨x, hx⟩ : ∃ x, o.types[m]? = some x := ⟨_, List.getElem?_eq_getElem (by have := HN3.out; omega)⟩
      have HX := Lib.hid hx
      have HTK := Lib.hid (base_ok (o := o) (i := m) (x := x) (by omega))
      obtain ⟨x1, x2, x3⟩ := x
      obtain ⟨b, off, cap, e0, hb, p0, p1, p2⟩ := HO.out.types.cell3 hx rfl
      rw [← HN3.out] at e0
      have ea : a3 = some ⟨b, off, none⟩ := by have e2 := HV3.out.symm.trans e0; cases e2; rfl
      rw [ea]
      have u0 := (HL.out.below.cell (p := ⟨b, off + m * 3, none⟩) hb).trans p0
      have u1 := (HL.out.below.cell (p := ⟨b, off + m * 3 + 1, none⟩) hb).trans p1
      have u2 := (HL.out.below.cell (p := ⟨b, off + m * 3 + 2, none⟩) hb).trans p2
      have i1 : (m : Int) < (n3 : Int) := by omega
      have i2 : (0 : Int) ≤ (m : Int) := by omega
      have HLT : Hid (m < n3) := hlt
      have RUN := Lib.hid (box_el wr TyT 3 [.int .i64 0, .int .i64 0, .int .i64 0] [.int .i64 x1, .int .i64 x2, .int .i64 x3] rfl rfl (ones_type (x1, x2, x3)) size_ty)
      have HL1 : Hid (Looks w (wr.alloc (.cells #[.int .i64 x1, .int .i64 x2, .int .i64 x3] TyT)) ob V o) := HL.out.on3 ((Below.refl _ _).alloc (Nat.le_refl _) _)
      have HR1 : Hid (RowAt (wr.alloc (.cells #[.int .i64 x1, .int .i64 x2, .int .i64 x3] TyT)) wr.heap.size TyT [.int .i64 x1, .int .i64 x2, .int .i64 x3]) := RowAt.new wr TyT _
      obtain ⟨rb, hrb⟩ := some_bool (0 ≤ x1 ∧ x1 ≤ 256)
      have HRB := Lib.hid hrb
      clear e0 ea hb p0 p1 p2 hx hm hlt HL hrb
      go_upto_region 6 with (refine wpList_store_run _ rfl _ _ _ rfl _ _ rfl rfl (by exact RUN.out) ?_)
      generalize wr.alloc (.cells #[.int .i64 x1, .int .i64 x2, .int .i64 x3] TyT) = w1 at *
      generalize wr.heap.size = tb at *
      clear u0 u1 u2 RUN
      have HR2 := HR1
      have d0 : w1.cell? ⟨tb, 0, none⟩ = some (.int .i64 x1) := HR1.out.cell 0
      have d1 : w1.cell? ⟨tb, 1, none⟩ = some (.int .i64 x2) := HR1.out.cell 1
      have d2 : w1.cell? ⟨tb, 2, none⟩ = some (.int .i64 x3) := HR1.out.cell 2
      have c2 : w1.cell? ⟨ob, 2, none⟩ = some (.slice a2 n2 q2) := (HL1.out.row.cell 2).trans (congrArg some HV2.out)
      clear HR1
      go_wp2_with fail
      refine (isUpTo_any x1 256 rb _ HRB.out).mono ?_
      rintro e w' ⟨rfl, rfl⟩
      cases rb with
      | false =>
        as_aux_lemma =>
        have HRF : Hid (r = false) := bool_not HR.out fun g => by have := HRB.out.2 (HTK.out.1 (g.2 m _ HX.out)).1; cases this
        go_wp2_with fail
        go_ret
        exact ⟨end_bool HRF.out.symm, HL1.out.below⟩
      | true =>
        have G1 := Lib.hid (HRB.out.1 rfl)
        clear HRB
        by_cases k2 : ¬ x1 % 4 = 0
        · as_aux_lemma =>
          have t1 : ¬ x1.tmod 4 = 0 := by rw [Int.tmod_eq_emod_of_nonneg G1.out.1]; exact k2
          have t2 : (x1.tmod 4 == 0) = false := by simp [t1]
          have HRF : Hid (r = false) := bool_not HR.out fun g => k2 (HTK.out.1 (g.2 m _ HX.out)).2.1
          clear k2
          go_wp2_with fail
          go_ret
          exact ⟨end_bool HRF.out.symm, HL1.out.below⟩
        have t1 : x1.tmod 4 = 0 := by rw [Int.tmod_eq_emod_of_nonneg G1.out.1]; omega
        have G2 : Hid (x1 % 4 = 0) := by show x1 % 4 = 0; omega
        clear k2
        obtain ⟨rc, hrc⟩ := some_bool (BaseP (x1, x2, x3) m n2)
        have HRC := Lib.hid hrc
        clear hrc
        go_wp2_with (refine wpList_load_row rfl _ _ rfl tb rfl TyT #[.int .i64 x1, .int .i64 x2, .int .i64 x3] (0, 0) _ HR2.out Try.underlying77 rfl (by rw [size_ty]; rfl) ?_)
        refine (base_any x1 x2 x3 m n2 rc _ HRC.out).mono ?_
        rintro e w2 ⟨rfl, hb2⟩
        have HL2 := Lib.hid (HL1.out.on3 hb2)
        clear hb2 HR2 HL1
        cases rc with
        | false =>
          as_aux_lemma =>
          have HRF : Hid (r = false) := bool_not HR.out fun g => by have := HRC.out.2 (by rw [HN2.out]; exact (HTK.out.1 (g.2 m _ HX.out)).2.2); cases this
          go_wp2_with fail
          go_ret
          exact ⟨end_bool HRF.out.symm, HL2.out.below⟩
        | true =>
          as_aux_lemma =>
          have HOK := Lib.hid (all_next (Q := TypeOk o) HALL.out HX.out (HTK.out.2 ⟨G1.out, G2.out, by rw [← HN2.out]; exact HRC.out.1 rfl⟩))
          go_wp2_with fail
          go_roundw
          case rel => exact ⟨m + 1, HLT.out, by go_num, HL2.out, HOK.out⟩
          case measure => have := HLT.out; simp [intOf]; omega
    · have i1 : ¬ (m : Int) < (n3 : Int) := by omega
      have HRT : Hid (r = true) := HR.out.2 ⟨by have := HN3.out; omega, all_done (Q := TypeOk o) HALL.out (by have := HN3.out; omega)⟩
      clear hm hlt
      go_wp2_with fail
      go_ret
      exact ⟨end_bool HRT.out.symm, HL.out.below⟩
set_option maxRecDepth 100000 in
set_option maxHeartbeats 2000000 in
theorem exports_any (V : ObjV) (o : ObjD) (r : Bool) (w : World) (h : ObjAt w V o) (hr : r = true ↔ ExsP o) :
    Calls Try.prog 29 #[.agg (ocells V o).toArray] w fun e w' => e = .returned (.bool r) ∧ Below w.heap.size w w' := by
  have HL' := Lib.hid (looks_new w V o)
  have HO := Lib.hid h
  have HR := Lib.hid hr
  obtain ⟨a8, q8, hv8, _⟩ := h.exps.shape
  obtain ⟨n8, hn8⟩ : ∃ n, n = o.exps.length := ⟨_, rfl⟩
  rw [← hn8] at hv8
  have HV8 := Lib.hid hv8
  have HN8 := Lib.hid hn8
  clear h hr hv8 hn8
  go_enter Try.func29, Try.ntmps29
  go_upto_region 1 with fail
  generalize w.alloc (.cells (ocells V o).toArray OT) = w0 at *
  obtain ⟨ob, hob⟩ : ∃ ob, ob = w.heap.size := ⟨_, rfl⟩
  have HL : Hid (Looks w w0 ob V o) := by rw [hob]; exact HL'.out
  rw [← hob]
  clear HL' hob
  have c8 : w0.cell? ⟨ob, 8, none⟩ = some (.slice a8 n8 q8) := (HL.out.row.cell 8).trans (congrArg some HV8.out)
  by_cases h8 : 64 < (n8 : Int)
  · have HRF : Hid (r = false) := bool_not HR.out fun g => by have := g.1; have := HN8.out; omega
    go_wp2_with fail
    go_ret
    exact ⟨end_bool HRF.out.symm, HL.out.below⟩
  have s8 : n8 ≤ 64 := by omega
  go_wp2_with fail
  clear c8 h8
  go_loopw [12] (fun i wr => ∃ m : Nat, m ≤ n8 ∧ i = .int .i64 (m : Nat) ∧ Looks w wr ob V o ∧ ∀ (j : Nat) (x : Int × Int), j < m → o.exps[j]? = some x → ExpOk o x) (fun i _ => n8 - (intOf i).toNat)
  case atStart => exact ⟨0, Nat.zero_le _, rfl, HL.out, fun j x hj => by omega⟩
  case round =>
    clear HL
    obtain ⟨m, hm, rfl, hL, hall⟩ := hrel
    have HL := Lib.hid hL
    have HALL := Lib.hid hall
    clear hL hall
    by_cases hlt : m < n8
    · obtain ⟨x, hx⟩ : ∃ x, o.exps[m]? = some x := ⟨_, List.getElem?_eq_getElem (by have := HN8.out; omega)⟩
      have HX := Lib.hid hx
      obtain ⟨x1, x2⟩ := x
      obtain ⟨b, off, cap, e0, hb, p0, p1⟩ := HO.out.exps.cell2 hx rfl
      rw [← HN8.out] at e0
      have ea : a8 = some ⟨b, off, none⟩ := by have e2 := HV8.out.symm.trans e0; cases e2; rfl
      rw [ea]
      have u0 := (HL.out.below.cell (p := ⟨b, off + m * 2, none⟩) hb).trans p0
      have u1 := (HL.out.below.cell (p := ⟨b, off + m * 2 + 1, none⟩) hb).trans p1
      have i1 : (m : Int) < (n8 : Int) := by omega
      have i2 : (0 : Int) ≤ (m : Int) := by omega
      have HLT : Hid (m < n8) := hlt
      have RUN := Lib.hid (box_el wr ExT 2 [.int .i64 0, .int .i64 0] [.int .i64 x1, .int .i64 x2] rfl rfl (ones_exp (x1, x2)) size_ex)
      have HL1 : Hid (Looks w (wr.alloc (.cells #[.int .i64 x1, .int .i64 x2] ExT)) ob V o) := HL.out.on3 ((Below.refl _ _).alloc (Nat.le_refl _) _)
      have HR1 : Hid (RowAt (wr.alloc (.cells #[.int .i64 x1, .int .i64 x2] ExT)) wr.heap.size ExT [.int .i64 x1, .int .i64 x2]) := RowAt.new wr ExT _
      obtain ⟨pv, hpv⟩ : ∃ p, p = placesV o x1 := ⟨_, rfl⟩
      have HPV := Lib.hid hpv
      have HPL : Hid (∀ w' : World, Below w.heap.size w w' → Calls Try.prog 40 #[.agg (ocells V o).toArray, .int .i64 x1] w' fun e w'' => e = .returned (.int .i64 pv) ∧ Below w'.heap.size w' w'') := fun w' hb => by
        rw [hpv]
        exact places_any V o x1 w' (HO.out.on hb)
      obtain ⟨rb, hrb⟩ := some_bool (0 ≤ x2 ∧ x2 < pv)
      have HRB := Lib.hid hrb
      have HBL := Lib.hid (fun w => isBelow_any x2 pv rb w hrb)
      clear e0 ea hb p0 p1 hx hm hlt HL hrb hpv
      go_upto_region 6 with (refine wpList_store_run _ rfl _ _ _ rfl _ _ rfl rfl (by exact RUN.out) ?_)
      generalize wr.alloc (.cells #[.int .i64 x1, .int .i64 x2] ExT) = w1 at *
      generalize wr.heap.size = tb at *
      clear u0 u1 RUN
      go_wp2_with fail
      refine wp_region_held_drew (S := fun w' => RowAt w' tb ExT [.int .i64 x1, .int .i64 x2] ∧ Looks w w' ob V o) (by kernel_rfl) ?_ (fun hHeld => ?_)
      · exact ⟨HR1.out.keep (Kept.of_below (S := fun _ => False) ((Drawn.of_n w1 1).below _)) (fun e => e), HL1.out.on3 ((Drawn.of_n w1 1).below _)⟩
      refine wpAnyH_take (i := 0) (v := ?_) rfl (by kernel_rfl) (by kernel_rfl) (by kernel_rfl) (fun _ _ _ h => h) (Or.inl ⟨by rfl, ?_⟩) (by assumption) ?_
      rotate_left
      · intro w hSw
        (try dsimp only at hSw)
        go_simp
        (try with_reducible rfl)
      try simp only [Act.put, List.getElem_toArray, List.getElem_cons_zero, List.setIfInBounds_toArray, List.set_cons_zero, List.set_cons_succ]
      refine wpAnyH_take (i := 1) (v := ?_) rfl (by kernel_rfl) (by kernel_rfl) (by kernel_rfl) (fun _ _ _ h => h) (Or.inl ⟨by rfl, ?_⟩) (by assumption) ?_
      rotate_left
      · intro w hSw
        have d1 := hSw.1.cell 1
        (try dsimp only at hSw)
        go_simp
        (try with_reducible rfl)
      try simp only [Act.put, List.getElem_toArray, List.getElem_cons_zero, List.getElem_cons_succ, List.setIfInBounds_toArray, List.set_cons_zero, List.set_cons_succ]
      refine wpAnyH_take (i := 2) (v := _) rfl (by kernel_rfl) (by kernel_rfl) (by kernel_rfl) (fun _ _ _ h => h) (yieldsIf_load_mid (by rfl) _ _ rfl _ _ rfl _ _ (fun w hSw => hSw.2.row.rangeC) (Try.underlying31) rfl (by rw [size_ob]; rfl)) (by assumption) ?_
      try simp only [Act.put, List.getElem_toArray, List.getElem_cons_zero, List.getElem_cons_succ, List.setIfInBounds_toArray, List.set_cons_zero, List.set_cons_succ]
      refine wpAnyH_take (i := 3) (v := ?_) rfl (by kernel_rfl) (by kernel_rfl) (by kernel_rfl) (fun _ _ _ h => h) (Or.inl ⟨by rfl, ?_⟩) (by assumption) ?_
      rotate_left
      · intro w hSw
        (try dsimp only at hSw)
        go_simp
        (try with_reducible rfl)
      try simp only [Act.put, List.getElem_toArray, List.getElem_cons_zero, List.getElem_cons_succ, List.setIfInBounds_toArray, List.set_cons_zero, List.set_cons_succ]
      refine wpAnyH_take (i := 4) (v := ?_) rfl (by kernel_rfl) (by kernel_rfl) (by kernel_rfl) (fun _ _ _ h => h) (Or.inl ⟨by rfl, ?_⟩) (by assumption) ?_
      rotate_left
      · intro w hSw
        have d0 := hSw.1.cell 0
        (try dsimp only at hSw)
        go_simp
        (try with_reducible rfl)
      try simp only [Act.put, List.getElem_toArray, List.getElem_cons_zero, List.getElem_cons_succ, List.setIfInBounds_toArray, List.set_cons_zero, List.set_cons_succ]
      refine wpAnyH_ready (rs := [5]) (by kernel_rfl) (by simp) ?_
      refine AllReadyH.cons rfl (fun K hK => ?_) AllReadyH.nil
      go_simp
      refine (HPL.out _ hHeld.2.below).mono ?_
      rintro e w2 ⟨rfl, hb2⟩
      first | show K _ _ | go_wp2_with fail
      refine hK.out _ _ ?_ (fun hHeld1 => ?_)
      · exact ⟨hHeld.1.keep (Kept.of_below (S := fun _ => False) hb2) (fun e => e), hHeld.2.on3 hb2⟩
      clear hK K
      try simp only [Act.put, List.getElem_toArray, List.getElem_cons_zero, List.getElem_cons_succ, List.setIfInBounds_toArray, List.set_cons_zero, List.set_cons_succ]
      refine wpAnyH_ready (rs := [6]) (by kernel_rfl) (by simp) ?_
      refine AllReadyH.cons rfl (fun K hK => ?_) AllReadyH.nil
      go_simp
      refine (HBL.out _).mono ?_
      rintro e w3 ⟨rfl, rfl⟩
      first | show K _ _ | go_wp2_with fail
      refine hK.out _ _ ?_ (fun hHeld2 => ?_)
      · exact hHeld1
      clear hK K
      try simp only [Act.put, List.getElem_toArray, List.getElem_cons_zero, List.getElem_cons_succ, List.setIfInBounds_toArray, List.set_cons_zero, List.set_cons_succ]
      refine wpAnyH_take (i := 7) (v := ?_) rfl (by kernel_rfl) (by kernel_rfl) (by kernel_rfl) (fun _ _ _ h => h) (Or.inl ⟨by rfl, ?_⟩) (by assumption) ?_
      rotate_left
      · intro w hSw
        (try dsimp only at hSw)
        go_simp
        (try with_reducible rfl)
      try simp only [Act.put, List.getElem_toArray, List.getElem_cons_zero, List.getElem_cons_succ, List.setIfInBounds_toArray, List.set_cons_zero, List.set_cons_succ]
      refine wpAnyH_done (by kernel_rfl) ?_ _
      have HL2 := Lib.hid hHeld2.2
      clear hHeld hHeld1 hHeld2 hb2 HR1 HL1
      cases rb with
      | false =>
        as_aux_lemma =>
        have HRF : Hid (r = false) := bool_not HR.out fun g => by have := HRB.out.2 (by rw [HPV.out]; exact exp_ok.1 (g.2 m _ HX.out)); cases this
        go_wp2_with fail
        go_ret
        exact ⟨end_bool HRF.out.symm, HL2.out.below⟩
      | true =>
        as_aux_lemma =>
        have HOK := Lib.hid (all_next (Q := fun _ x => ExpOk o x) HALL.out HX.out (exp_ok.2 (by have := HRB.out.1 rfl; rw [HPV.out] at this; exact this)))
        go_wp2_with fail
        go_roundw
        case rel => exact ⟨m + 1, HLT.out, by go_num, HL2.out, HOK.out⟩
        case measure => have := HLT.out; simp [intOf]; omega
    · have i1 : ¬ (m : Int) < (n8 : Int) := by omega
      have HRT : Hid (r = true) := HR.out.2 ⟨by have := HN8.out; omega, all_done (Q := fun _ x => ExpOk o x) HALL.out (by have := HN8.out; omega)⟩
      clear hm hlt
      go_wp2_with fail
      go_ret
      exact ⟨end_bool HRT.out.symm, HL.out.below⟩
end Go.Proofs.Ytekcebmojjkoeaa
