/-
  The document's parts (layer 14, rules 2 to 6 but for commands). No conditions. (Written by wip/tools/ref-pt.py.)
-/
import Derived.Test.YtkkjfbpflfknpaaRefNm
namespace Go.Proofs.Ytkkjfbpflfknpaa
open Go.ChangeShapes Go.WideShapes Go.ChangeAt Go.RowKit

abbrev TT : TypeId := 69
abbrev ET : TypeId := 73
theorem size_tt : (Try.prog.info? TT).map (·.size) = some 3 := by kernel_rfl
theorem size_et : (Try.prog.info? ET).map (·.size) = some 2 := by kernel_rfl
/- an element, in a variable of its own -/
theorem box_type (wr : World) (x y z : Int) :
    (Instr.storeAt TT (.pointer (some ⟨wr.heap.size, 0, none⟩)) (.agg #[.int .i64 x, .int .i64 y, .int .i64 z])).run Try.prog (wr.alloc (.cells #[.int .i64 0, .int .i64 0, .int .i64 0] TT)) = .ok () (wr.alloc (.cells #[.int .i64 x, .int .i64 y, .int .i64 z] TT)) := by
  obtain ⟨r1, _, _⟩ := told_row (RowAt.new wr TT [.int .i64 0, .int .i64 0, .int .i64 0]) (xs := [.int .i64 x, .int .i64 y, .int .i64 z]) (k := 3) rfl rfl (by intro u hu; simp at hu; rcases hu with rfl | rfl | rfl <;> rfl) size_tt
  rw [setRow_alloc] at r1
  exact r1
theorem box_exp (wr : World) (x y : Int) :
    (Instr.storeAt ET (.pointer (some ⟨wr.heap.size, 0, none⟩)) (.agg #[.int .i64 x, .int .i64 y])).run Try.prog (wr.alloc (.cells #[.int .i64 0, .int .i64 0] ET)) = .ok () (wr.alloc (.cells #[.int .i64 x, .int .i64 y] ET)) := by
  obtain ⟨r1, _, _⟩ := told_row (RowAt.new wr ET [.int .i64 0, .int .i64 0]) (xs := [.int .i64 x, .int .i64 y]) (k := 2) rfl rfl (by intro u hu; simp at hu; rcases hu with rfl | rfl <;> rfl) size_et
  rw [setRow_alloc] at r1
  exact r1
def bools65 : Obj := .cells (metV (fun _ => false)).toArray 4
theorem info_bool : (Try.prog.info? 4).map (fun i => (i.zero, i.size, i.bytes)) = some (some (.bool false), 1, 1) := by kernel_rfl
theorem make_bools (w : World) : (Instr.makeSlice 83 (.int .i64 65) (.int .i64 65)).run Try.prog w = .ok (.slice (some ⟨w.heap.size, 0, none⟩) 65 65) (w.alloc bools65) := by
  have h := run_make_row' (P := Try.prog) 83 4 (.bool false) 1 Try.underlying83 info_bool rfl .i64 .i64 65 (by omega) (by omega) w
  have e : madeCells #[Value.bool false] 65 = (metV (fun _ => false)).toArray := by
    apply Array.ext
    · simp [size_madeCells, metV]
    · intro i h1 h2
      simp [madeCells, metV, Nat.mod_one]
  rw [e] at h
  exact h
/- while the cells are looked at: the object, what was met -/
structure Cells (w wr : World) (ob mb : Nat) (V : ObjV) (o : ObjD) (m : Nat) (lv : Int) (f : Nat → Bool) : Prop where
  look : Looks w wr ob V o
  row : RowAt wr mb 4 (metV f)
  met : Met o m f
  last : lv = lastRaw o m ∧ -1 ≤ lv
  all : ∀ (j : Nat) (x : Int), j < m → (cellsO o)[j]? = some x → CellOk o j x
  far : w.heap.size ≤ mb ∧ ob ≠ mb
theorem Cells.next {w wr : World} {ob mb : Nat} {V : ObjV} {o : ObjD} {m : Nat} {lv : Int} {f : Nat → Bool} (h : Cells w wr ob mb V o m lv f) {k : Nat} (hk : k < 65) (hx : (cellsO o)[m]? = some (k : Int)) (hok : CellOk o m k) :
    Cells w (wr.setCell ⟨mb, k, none⟩ (.bool true)) ob mb V o (m + 1) k (fun j => if j = k then true else f j) := by
  refine ⟨⟨h.look.row.keep (kept_set wr mb k _) h.far.2, (kept_set wr mb k _).below h.look.below h.look.below.size fun _ _ e => by have := h.far.1; omega⟩, ?_, h.met.next hx, ⟨(last_next hx).symm, by omega⟩, all_next h.all hx hok, h.far⟩
  rw [← metV_set f k hk]
  exact h.row.setCell k _

set_option maxRecDepth 100000 in
set_option maxHeartbeats 16000000 in
theorem rparts_any (V : ObjV) (o : ObjD) (r : Bool) (w : World) (h : ObjAt w V o) (hr : r = true ↔ PartsP o) :
    Calls Try.prog 27 #[.agg (ocells V o).toArray] w fun e w' => e = .returned (.bool r) ∧ Below w.heap.size w w' := by
  have HO := Lib.hid h
  have HR := Lib.hid hr
  have HL' : Hid (Looks w (w.alloc (.cells (ocells V o).toArray OT)) w.heap.size V o) := ⟨RowAt.new w _ _, (Below.refl _ _).alloc (Nat.le_refl _) _⟩
  obtain ⟨a2, q2, hv2, hc2, hm2, _⟩ := h.imps.shape
  obtain ⟨n2, hn2⟩ : ∃ n, n = o.imps.length := ⟨_, rfl⟩
  rw [← hn2] at hv2 hc2
  have HV2 := Lib.hid hv2
  have HN2 := Lib.hid hn2
  obtain ⟨a3, q3, hv3, hc3, hm3, _⟩ := h.types.shape
  obtain ⟨n3, hn3⟩ : ∃ n, n = o.types.length := ⟨_, rfl⟩
  rw [← hn3] at hv3 hc3
  have HV3 := Lib.hid hv3
  have HN3 := Lib.hid hn3
  obtain ⟨a6, q6, hv6, hc6, hm6, _⟩ := h.code.shape
  obtain ⟨n6, hn6⟩ : ∃ n, n = o.code.length := ⟨_, rfl⟩
  rw [← hn6] at hv6 hc6
  have HV6 := Lib.hid hv6
  have HN6 := Lib.hid hn6
  obtain ⟨a8, q8, hv8, hc8, hm8, _⟩ := h.exps.shape
  obtain ⟨n8, hn8⟩ : ∃ n, n = o.exps.length := ⟨_, rfl⟩
  rw [← hn8] at hv8 hc8
  have HV8 := Lib.hid hv8
  have HN8 := Lib.hid hn8
  obtain ⟨a9, q9, hv9, hc9, hm9, _⟩ := h.ptrs.shape
  obtain ⟨n9, hn9⟩ : ∃ n, n = o.ptrs.length := ⟨_, rfl⟩
  rw [← hn9] at hv9 hc9
  have HV9 := Lib.hid hv9
  have HN9 := Lib.hid hn9
  obtain ⟨a10, q10, hv10, hc10, hm10, _⟩ := h.procs.shape
  obtain ⟨n10, hn10⟩ : ∃ n, n = o.procs.length := ⟨_, rfl⟩
  rw [← hn10] at hv10 hc10
  have HV10 := Lib.hid hv10
  have HN10 := Lib.hid hn10
  clear h hr hv2 hc2 hm2 hn2 hv3 hc3 hm3 hn3 hv6 hc6 hm6 hn6 hv8 hc8 hm8 hn8 hv9 hc9 hm9 hn9 hv10 hc10 hm10 hn10
  go_enter Try.func27, Try.ntmps27
  go_upto_region 1 with fail
  generalize w.alloc (.cells (ocells V o).toArray OT) = w0 at *
  obtain ⟨ob, hob⟩ : ∃ ob, ob = w.heap.size := ⟨_, rfl⟩
  have HL : Hid (Looks w w0 ob V o) := by rw [hob]; exact HL'.out
  have HOB : Hid (ob = w.heap.size) := hob
  rw [← hob]
  clear HL' hob
  have c3 : w0.cell? ⟨ob, 3, none⟩ = some (.slice a3 n3 q3) := (HL.out.row.cell 3).trans (congrArg some HV3.out)
  have c4 : w0.cell? ⟨ob, 4, none⟩ = some (.int .i64 o.data) := HL.out.row.cell 4
  have c5 : w0.cell? ⟨ob, 5, none⟩ = some (.string o.text) := HL.out.row.cell 5
  have c6 : w0.cell? ⟨ob, 6, none⟩ = some (.slice a6 n6 q6) := (HL.out.row.cell 6).trans (congrArg some HV6.out)
  have c8 : w0.cell? ⟨ob, 8, none⟩ = some (.slice a8 n8 q8) := (HL.out.row.cell 8).trans (congrArg some HV8.out)
  have c9 : w0.cell? ⟨ob, 9, none⟩ = some (.slice a9 n9 q9) := (HL.out.row.cell 9).trans (congrArg some HV9.out)
  have c10 : w0.cell? ⟨ob, 10, none⟩ = some (.slice a10 n10 q10) := (HL.out.row.cell 10).trans (congrArg some HV10.out)
  have c14 : w0.cell? ⟨ob, 14, none⟩ = some (.int .i64 o.body) := HL.out.row.cell 14
  by_cases k0 : o.data < 0
  · as_aux_lemma =>
    have HRF : Hid (r = false) := bool_not HR.out fun g => by have := g.data; omega
    have RES := Lib.hid HL.out.below
    go_wp2_with fail
    go_ret
    exact ⟨end_bool HRF.out.symm, RES.out⟩
  by_cases k1 : 64 < o.data
  · as_aux_lemma =>
    have HRF : Hid (r = false) := bool_not HR.out fun g => by have := g.data; omega
    have RES := Lib.hid HL.out.below
    go_wp2_with fail
    go_ret
    exact ⟨end_bool HRF.out.symm, RES.out⟩
  by_cases k2 : (60 : Int) < ((o.text.size : Nat) : Int)
  · as_aux_lemma =>
    have HRF : Hid (r = false) := bool_not HR.out fun g => by have := g.text; omega
    have RES := Lib.hid HL.out.below
    go_wp2_with fail
    go_ret
    exact ⟨end_bool HRF.out.symm, RES.out⟩
  by_cases k3 : (n6 : Int) < 1
  · as_aux_lemma =>
    have HRF : Hid (r = false) := bool_not HR.out fun g => by have := g.code; have := HN6.out; omega
    have RES := Lib.hid HL.out.below
    go_wp2_with fail
    go_ret
    exact ⟨end_bool HRF.out.symm, RES.out⟩
  by_cases k4 : 256 < (n6 : Int)
  · as_aux_lemma =>
    have HRF : Hid (r = false) := bool_not HR.out fun g => by have := g.code; have := HN6.out; omega
    have RES := Lib.hid HL.out.below
    go_wp2_with fail
    go_ret
    exact ⟨end_bool HRF.out.symm, RES.out⟩
  by_cases k5 : o.body < 0
  · as_aux_lemma =>
    have HRF : Hid (r = false) := bool_not HR.out fun g => by have := g.body; omega
    have RES := Lib.hid HL.out.below
    go_wp2_with fail
    go_ret
    exact ⟨end_bool HRF.out.symm, RES.out⟩
  by_cases k6 : (n6 : Int) < o.body
  · as_aux_lemma =>
    have HRF : Hid (r = false) := bool_not HR.out fun g => by have := g.body; have := HN6.out; omega
    have RES := Lib.hid HL.out.below
    go_wp2_with fail
    go_ret
    exact ⟨end_bool HRF.out.symm, RES.out⟩
  by_cases k7 : 8 < (n3 : Int)
  · as_aux_lemma =>
    have HRF : Hid (r = false) := bool_not HR.out fun g => by have := g.types; have := HN3.out; omega
    have RES := Lib.hid HL.out.below
    go_wp2_with fail
    go_ret
    exact ⟨end_bool HRF.out.symm, RES.out⟩
  by_cases k8 : 64 < (n8 : Int)
  · as_aux_lemma =>
    have HRF : Hid (r = false) := bool_not HR.out fun g => by have := g.exps; have := HN8.out; omega
    have RES := Lib.hid HL.out.below
    go_wp2_with fail
    go_ret
    exact ⟨end_bool HRF.out.symm, RES.out⟩
  by_cases k9 : 16 < (n9 : Int)
  · as_aux_lemma =>
    have HRF : Hid (r = false) := bool_not HR.out fun g => by have := g.ptrs; have := HN9.out; omega
    have RES := Lib.hid HL.out.below
    go_wp2_with fail
    go_ret
    exact ⟨end_bool HRF.out.symm, RES.out⟩
  by_cases k10 : 16 < (n10 : Int)
  · as_aux_lemma =>
    have HRF : Hid (r = false) := bool_not HR.out fun g => by have := g.procs; have := HN10.out; omega
    have RES := Lib.hid HL.out.below
    go_wp2_with fail
    go_ret
    exact ⟨end_bool HRF.out.symm, RES.out⟩
  have HDATA : Hid (0 ≤ o.data ∧ o.data ≤ 64) := by show _ ∧ _; omega
  have HTEXT : Hid (o.text.size ≤ 60) := by show o.text.size ≤ 60; omega
  have HCODE : Hid (1 ≤ o.code.length ∧ o.code.length ≤ 256) := by have := HN6.out; show _ ∧ _; omega
  have HBODY : Hid (0 ≤ o.body ∧ o.body ≤ o.code.length) := by have := HN6.out; show _ ∧ _; omega
  have s3 : n3 ≤ 8 := by omega
  have s8 : n8 ≤ 64 := by omega
  have s9 : n9 ≤ 16 := by omega
  have s10 : n10 ≤ 16 := by omega
  go_wp2_with fail
  clear c3 c4 c5 c6 c8 c9 c10 c14 k0 k1 k2 k3 k4 k5 k6 k7 k8 k9 k10
  go_loopw [3] (fun i wr => ∃ m : Nat, m ≤ n3 ∧ i = .int .i64 (m : Nat) ∧ Looks w wr ob V o ∧ ∀ (j : Nat) (x : Int × Int × Int), j < m → o.types[j]? = some x → TypeOk o j x) (fun i _ => n3 - (intOf i).toNat)
  case atStart => exact ⟨0, Nat.zero_le _, rfl, HL.out, fun j x hj => by omega⟩
  case round =>
    clear HL
    obtain ⟨m, hm, rfl, hL, hall⟩ := hrel
    have HL := Lib.hid hL
    have HALL := Lib.hid hall
    have c3 : wr.cell? ⟨ob, 3, none⟩ = some (.slice a3 n3 q3) := (hL.row.cell 3).trans (congrArg some HV3.out)
    clear hL hall
    by_cases hlt : m < n3
    · obtain ⟨x, hx⟩ : ∃ x, o.types[m]? = some x := ⟨_, List.getElem?_eq_getElem (by have := HN3.out; omega)⟩
      have HX := Lib.hid hx
      obtain ⟨x1, x2, x3⟩ := x
      obtain ⟨b, off, cap, e0, hb, p0, p1, p2⟩ := HO.out.types.cell3 hx rfl
      rw [← HN3.out] at e0
      have ea : a3 = some ⟨b, off, none⟩ := by have e2 := HV3.out.symm.trans e0; cases e2; rfl
      rw [ea] at c3
      have u0 := (HL.out.below.cell (p := ⟨b, off + m * 3, none⟩) hb).trans p0
      have u1 := (HL.out.below.cell (p := ⟨b, off + m * 3 + 1, none⟩) hb).trans p1
      have u2 := (HL.out.below.cell (p := ⟨b, off + m * 3 + 2, none⟩) hb).trans p2
      have i1 : (m : Int) < (n3 : Int) := by omega
      have i2 : (0 : Int) ≤ (m : Int) := by omega
      have HLT : Hid (m < n3) := hlt
      have RUN := Lib.hid (box_type wr x1 x2 x3)
      have HL1 : Hid (Looks w (wr.alloc (.cells #[.int .i64 x1, .int .i64 x2, .int .i64 x3] TT)) ob V o) := HL.out.on ((Below.refl _ _).alloc (Nat.le_refl _) _)
      have HR1 : Hid (RowAt (wr.alloc (.cells #[.int .i64 x1, .int .i64 x2, .int .i64 x3] TT)) wr.heap.size TT [.int .i64 x1, .int .i64 x2, .int .i64 x3]) := RowAt.new wr TT _
      clear e0 ea hb p0 p1 p2 hx hm hlt HL
      go_upto_region 7 with (refine wpList_store_run _ rfl _ _ _ rfl _ _ rfl rfl (by exact RUN.out) ?_)
      generalize wr.alloc (.cells #[.int .i64 x1, .int .i64 x2, .int .i64 x3] TT) = w1 at *
      generalize wr.heap.size = tb at *
      clear u0 u1 u2 c3 RUN
      have d0 : w1.cell? ⟨tb, 0, none⟩ = some (.int .i64 x1) := HR1.out.cell 0
      have d1 : w1.cell? ⟨tb, 1, none⟩ = some (.int .i64 x2) := HR1.out.cell 1
      have d2 : w1.cell? ⟨tb, 2, none⟩ = some (.int .i64 x3) := HR1.out.cell 2
      have c2 : w1.cell? ⟨ob, 2, none⟩ = some (.slice a2 n2 q2) := (HL1.out.row.cell 2).trans (congrArg some HV2.out)
      clear HR1
      by_cases k0 : x1 < 0
      · as_aux_lemma =>
        have HRF : Hid (r = false) := bool_not HR.out fun g => by have := g.type m _ HX.out; unfold TypeOk at this; (try dsimp only at this); have := HN2.out; omega
        have RES := Lib.hid HL1.out.below
        go_wp2_with fail
        go_ret
        exact ⟨end_bool HRF.out.symm, RES.out⟩
      by_cases k1 : 256 < x1
      · as_aux_lemma =>
        have HRF : Hid (r = false) := bool_not HR.out fun g => by have := g.type m _ HX.out; unfold TypeOk at this; (try dsimp only at this); have := HN2.out; omega
        have RES := Lib.hid HL1.out.below
        go_wp2_with fail
        go_ret
        exact ⟨end_bool HRF.out.symm, RES.out⟩
      by_cases k2 : ¬ x1 % 4 = 0
      · as_aux_lemma =>
        have t1 : ¬ x1.tmod 4 = 0 := by rw [Int.tmod_eq_emod_of_nonneg (by omega)]; exact k2
        have t2 : (x1.tmod 4 == 0) = false := by simp [t1]
        have HRF : Hid (r = false) := bool_not HR.out fun g => by have := g.type m _ HX.out; unfold TypeOk at this; (try dsimp only at this); have := HN2.out; omega
        have RES := Lib.hid HL1.out.below
        go_wp2_with fail
        go_ret
        exact ⟨end_bool HRF.out.symm, RES.out⟩
      have t1 : x1.tmod 4 = 0 := by rw [Int.tmod_eq_emod_of_nonneg (by omega)]; omega
      by_cases k3 : x2 < 0
      · as_aux_lemma =>
        have HRF : Hid (r = false) := bool_not HR.out fun g => by have := g.type m _ HX.out; unfold TypeOk at this; (try dsimp only at this); have := HN2.out; omega
        have RES := Lib.hid HL1.out.below
        go_wp2_with fail
        go_ret
        exact ⟨end_bool HRF.out.symm, RES.out⟩
      by_cases k4 : (n2 : Int) < x2
      · as_aux_lemma =>
        have HRF : Hid (r = false) := bool_not HR.out fun g => by have := g.type m _ HX.out; unfold TypeOk at this; (try dsimp only at this); have := HN2.out; omega
        have RES := Lib.hid HL1.out.below
        go_wp2_with fail
        go_ret
        exact ⟨end_bool HRF.out.symm, RES.out⟩
      by_cases k5 : 63 < x3
      · as_aux_lemma =>
        have HRF : Hid (r = false) := bool_not HR.out fun g => by have := g.type m _ HX.out; unfold TypeOk at this; (try dsimp only at this); have := HN2.out; omega
        have RES := Lib.hid HL1.out.below
        go_wp2_with fail
        go_ret
        exact ⟨end_bool HRF.out.symm, RES.out⟩
      have HPRE : Hid ((0 ≤ x1 ∧ x1 ≤ 256 ∧ x1 % 4 = 0) ∧ (0 ≤ x2 ∧ x2 ≤ o.imps.length) ∧ x3 ≤ 63) := by have := HN2.out; show (_ ∧ _ ∧ _) ∧ (_ ∧ _) ∧ _; omega
      by_cases k6 : x2 = 0
      · have t6 : (x2 == 0) = true := by simp [k6]
        have t8 : ¬ (0 : Int) < x2 := by omega
        by_cases k7 : x3 < -1
        · as_aux_lemma =>
          have HRF : Hid (r = false) := bool_not HR.out fun g => by have := g.type m _ HX.out; unfold TypeOk at this; (try dsimp only at this); have := HN2.out; omega
          have RES := Lib.hid HL1.out.below
          go_wp2_with fail
          go_ret
          exact ⟨end_bool HRF.out.symm, RES.out⟩
        by_cases k8 : (m : Int) ≤ x3
        · as_aux_lemma =>
          have HRF : Hid (r = false) := bool_not HR.out fun g => by have := g.type m _ HX.out; unfold TypeOk at this; (try dsimp only at this); have := HN2.out; omega
          have RES := Lib.hid HL1.out.below
          go_wp2_with fail
          go_ret
          exact ⟨end_bool HRF.out.symm, RES.out⟩
        as_aux_lemma =>
          have HOK := Lib.hid (all_next (Q := TypeOk o) HALL.out HX.out ⟨HPRE.out.1, HPRE.out.2.1, HPRE.out.2.2, by (try dsimp only); omega⟩)
          clear k6
          go_wp2_with fail
          go_roundw
          case rel => exact ⟨m + 1, HLT.out, by go_num, HL1.out, HOK.out⟩
          case measure => have := HLT.out; simp [intOf]; omega
      · have t6 : (x2 == 0) = false := by simp [k6]
        have t7 : 0 < x2 := by omega
        by_cases k7 : x3 < 0
        · as_aux_lemma =>
          have HRF : Hid (r = false) := bool_not HR.out fun g => by have := g.type m _ HX.out; unfold TypeOk at this; (try dsimp only at this); have := HN2.out; omega
          have RES := Lib.hid HL1.out.below
          go_wp2_with fail
          go_ret
          exact ⟨end_bool HRF.out.symm, RES.out⟩
        as_aux_lemma =>
          have HOK := Lib.hid (all_next (Q := TypeOk o) HALL.out HX.out ⟨HPRE.out.1, HPRE.out.2.1, HPRE.out.2.2, by (try dsimp only); omega⟩)
          clear k3 k6
          go_wp2_with fail
          go_roundw
          case rel => exact ⟨m + 1, HLT.out, by go_num, HL1.out, HOK.out⟩
          case measure => have := HLT.out; simp [intOf]; omega
    · have i1 : ¬ (m : Int) < (n3 : Int) := by omega
      have HTY := Lib.hid (all_done (Q := TypeOk o) HALL.out (by have := HN3.out; omega))
      clear hm hlt HALL
      go_wp2_with fail
      clear c3 i1
      go_loopw [5] (fun i wr => ∃ m : Nat, m ≤ n8 ∧ i = .int .i64 (m : Nat) ∧ Looks w wr ob V o ∧ ∀ (j : Nat) (x : Int × Int), j < m → o.exps[j]? = some x → ExpOk o x) (fun i _ => n8 - (intOf i).toNat)
      case atStart => exact ⟨0, Nat.zero_le _, rfl, HL.out, fun j x hj => by omega⟩
      case round =>
        clear HL
        obtain ⟨m, hm, rfl, hL, hall⟩ := hrel
        have HL := Lib.hid hL
        have HALL := Lib.hid hall
        have c8 : wr.cell? ⟨ob, 8, none⟩ = some (.slice a8 n8 q8) := (hL.row.cell 8).trans (congrArg some HV8.out)
        clear hL hall
        by_cases hlt : m < n8
        · obtain ⟨x, hx⟩ : ∃ x, o.exps[m]? = some x := ⟨_, List.getElem?_eq_getElem (by have := HN8.out; omega)⟩
          have HX := Lib.hid hx
          obtain ⟨x1, x2⟩ := x
          obtain ⟨b, off, cap, e0, hb, p0, p1⟩ := HO.out.exps.cell2 hx rfl
          rw [← HN8.out] at e0
          have ea : a8 = some ⟨b, off, none⟩ := by have e2 := HV8.out.symm.trans e0; cases e2; rfl
          rw [ea] at c8
          have u0 := (HL.out.below.cell (p := ⟨b, off + m * 2, none⟩) hb).trans p0
          have u1 := (HL.out.below.cell (p := ⟨b, off + m * 2 + 1, none⟩) hb).trans p1
          have i1 : (m : Int) < (n8 : Int) := by omega
          have i2 : (0 : Int) ≤ (m : Int) := by omega
          have HLT : Hid (m < n8) := hlt
          have RUN := Lib.hid (box_exp wr x1 x2)
          have HL1 : Hid (Looks w (wr.alloc (.cells #[.int .i64 x1, .int .i64 x2] ET)) ob V o) := HL.out.on ((Below.refl _ _).alloc (Nat.le_refl _) _)
          have HR1 : Hid (RowAt (wr.alloc (.cells #[.int .i64 x1, .int .i64 x2] ET)) wr.heap.size ET [.int .i64 x1, .int .i64 x2]) := RowAt.new wr ET _
          clear e0 ea hb p0 p1 hx hm hlt HL
          go_upto_region 15 with (refine wpList_store_run _ rfl _ _ _ rfl _ _ rfl rfl (by exact RUN.out) ?_)
          generalize wr.alloc (.cells #[.int .i64 x1, .int .i64 x2] ET) = w1 at *
          generalize wr.heap.size = tb at *
          clear u0 u1 c8 RUN
          have d0 : w1.cell? ⟨tb, 0, none⟩ = some (.int .i64 x1) := HR1.out.cell 0
          have d1 : w1.cell? ⟨tb, 1, none⟩ = some (.int .i64 x2) := HR1.out.cell 1
          have c3 : w1.cell? ⟨ob, 3, none⟩ = some (.slice a3 n3 q3) := (HL1.out.row.cell 3).trans (congrArg some HV3.out)
          have c4 : w1.cell? ⟨ob, 4, none⟩ = some (.int .i64 o.data) := HL1.out.row.cell 4
          have c6 : w1.cell? ⟨ob, 6, none⟩ = some (.slice a6 n6 q6) := (HL1.out.row.cell 6).trans (congrArg some HV6.out)
          clear HR1
          by_cases e1 : x1 = 0
          · have g0 : (x1 == 0) = true := by simp [e1]
            have g1 : (x1 == 1) = false := by simp [e1]
            have g2 : (x1 == 2) = false := by simp [e1]
            by_cases k0 : x2 < (n6 : Int)
            · by_cases k1 : x2 < 0
              · as_aux_lemma =>
                have HRF : Hid (r = false) := bool_not HR.out fun g => by have := g.exp m _ HX.out; unfold ExpOk at this; (try dsimp only at this); have := HN3.out; have := HN6.out; omega
                have RES := Lib.hid HL1.out.below
                go_wp2_with fail
                go_ret
                exact ⟨end_bool HRF.out.symm, RES.out⟩
              · as_aux_lemma =>
                have HOK := Lib.hid (all_next (Q := fun _ x => ExpOk o x) HALL.out HX.out ⟨by (try dsimp only); omega, by have := HN3.out; have := HN6.out; (try dsimp only); omega⟩)
                clear e1
                go_wp2_with fail
                go_roundw
                case rel => exact ⟨m + 1, HLT.out, by go_num, HL1.out, HOK.out⟩
                case measure => have := HLT.out; simp [intOf]; omega
            · have k2 : decide (x2 < (n6 : Int)) = false := by simpa using k0
              as_aux_lemma =>
                have HRF : Hid (r = false) := bool_not HR.out fun g => by have := g.exp m _ HX.out; unfold ExpOk at this; (try dsimp only at this); have := HN3.out; have := HN6.out; omega
                have RES := Lib.hid HL1.out.below
                go_wp2_with fail
                go_ret
                exact ⟨end_bool HRF.out.symm, RES.out⟩
          have g0 : (x1 == 0) = false := by simp [e1]
          have f0 := Lib.hid e1
          clear e1
          by_cases e1 : x1 = 1
          · have g1 : (x1 == 1) = true := by simp [e1]
            have g2 : (x1 == 2) = false := by simp [e1]
            by_cases k0 : x2 < o.data
            · by_cases k1 : x2 < 0
              · as_aux_lemma =>
                have HRF : Hid (r = false) := bool_not HR.out fun g => by have := g.exp m _ HX.out; unfold ExpOk at this; (try dsimp only at this); have := HN3.out; have := HN6.out; omega
                have RES := Lib.hid HL1.out.below
                go_wp2_with fail
                go_ret
                exact ⟨end_bool HRF.out.symm, RES.out⟩
              · as_aux_lemma =>
                have HOK := Lib.hid (all_next (Q := fun _ x => ExpOk o x) HALL.out HX.out ⟨by (try dsimp only); omega, by have := HN3.out; have := HN6.out; (try dsimp only); omega⟩)
                clear e1
                go_wp2_with fail
                go_roundw
                case rel => exact ⟨m + 1, HLT.out, by go_num, HL1.out, HOK.out⟩
                case measure => have := HLT.out; simp [intOf]; omega
            · have k2 : decide (x2 < o.data) = false := by simpa using k0
              as_aux_lemma =>
                have HRF : Hid (r = false) := bool_not HR.out fun g => by have := g.exp m _ HX.out; unfold ExpOk at this; (try dsimp only at this); have := HN3.out; have := HN6.out; omega
                have RES := Lib.hid HL1.out.below
                go_wp2_with fail
                go_ret
                exact ⟨end_bool HRF.out.symm, RES.out⟩
          have g1 : (x1 == 1) = false := by simp [e1]
          have f1 := Lib.hid e1
          clear e1
          by_cases e1 : x1 = 2
          · have g2 : (x1 == 2) = true := by simp [e1]
            by_cases k0 : x2 < (n3 : Int)
            · by_cases k1 : x2 < 0
              · as_aux_lemma =>
                have HRF : Hid (r = false) := bool_not HR.out fun g => by have := g.exp m _ HX.out; unfold ExpOk at this; (try dsimp only at this); have := HN3.out; have := HN6.out; omega
                have RES := Lib.hid HL1.out.below
                go_wp2_with fail
                go_ret
                exact ⟨end_bool HRF.out.symm, RES.out⟩
              · as_aux_lemma =>
                have HOK := Lib.hid (all_next (Q := fun _ x => ExpOk o x) HALL.out HX.out ⟨by (try dsimp only); omega, by have := HN3.out; have := HN6.out; (try dsimp only); omega⟩)
                clear e1
                go_wp2_with fail
                go_roundw
                case rel => exact ⟨m + 1, HLT.out, by go_num, HL1.out, HOK.out⟩
                case measure => have := HLT.out; simp [intOf]; omega
            · have k2 : decide (x2 < (n3 : Int)) = false := by simpa using k0
              as_aux_lemma =>
                have HRF : Hid (r = false) := bool_not HR.out fun g => by have := g.exp m _ HX.out; unfold ExpOk at this; (try dsimp only at this); have := HN3.out; have := HN6.out; omega
                have RES := Lib.hid HL1.out.below
                go_wp2_with fail
                go_ret
                exact ⟨end_bool HRF.out.symm, RES.out⟩
          have g2 : (x1 == 2) = false := by simp [e1]
          have f2 := Lib.hid e1
          clear e1
          as_aux_lemma =>
            have HRF : Hid (r = false) := bool_not HR.out fun g => by have := g.exp m _ HX.out; unfold ExpOk at this; (try dsimp only at this); have := f0.out; have := f1.out; have := f2.out; omega
            have RES := Lib.hid HL1.out.below
            go_wp2_with fail
            go_ret
            exact ⟨end_bool HRF.out.symm, RES.out⟩
        · have i1 : ¬ (m : Int) < (n8 : Int) := by omega
          have HEX := Lib.hid (all_done (Q := fun _ x => ExpOk o x) HALL.out (by have := HN8.out; omega))
          have hmk := make_bools
          have HC : Hid (Cells w (wr.alloc bools65) ob wr.heap.size V o 0 (-1) (fun _ => false)) := ⟨HL.out.on ((Below.refl _ _).alloc (Nat.le_refl _) _), RowAt.new wr _ _, Met.start o, ⟨rfl, by decide⟩, fun j x hj => by omega, HL.out.below.size, Nat.ne_of_lt HL.out.row.lt⟩
          clear hm hlt HALL
          go_upto_region 19 with fail
          clear hmk
          generalize wr.alloc bools65 = w5 at *
          generalize wr.heap.size = mb at *
          go_wp2_with fail
          clear c8 i1 HL
          go_loopw [9, 10] (fun s i wr => ∃ (m : Nat) (lv : Int) (f : Nat → Bool), m ≤ n9 + n10 ∧ s = .int .i64 lv ∧ i = .int .i64 (m : Nat) ∧ Cells w wr ob mb V o m lv f) (fun _ i _ => n9 + n10 - (intOf i).toNat)
          case atStart => exact ⟨0, -1, _, Nat.zero_le _, rfl, rfl, HC.out⟩
          case round =>
            clear HC
            obtain ⟨m, lv, f, hm, rfl, rfl, hC⟩ := hrel
            have HC := Lib.hid hC
            have c4 : wr.cell? ⟨ob, 4, none⟩ = some (.int .i64 o.data) := hC.look.row.cell 4
            have c9 : wr.cell? ⟨ob, 9, none⟩ = some (.slice a9 n9 q9) := (hC.look.row.cell 9).trans (congrArg some HV9.out)
            have c10 : wr.cell? ⟨ob, 10, none⟩ = some (.slice a10 n10 q10) := (hC.look.row.cell 10).trans (congrArg some HV10.out)
            have hlv := hC.last.2
            clear hC
            by_cases hlt : m < n9 + n10
            · obtain ⟨x, hx⟩ : ∃ x, (cellsO o)[m]? = some x := ⟨_, List.getElem?_eq_getElem (by rw [cells_len]; have := HN9.out; have := HN10.out; omega)⟩
              have HX := Lib.hid hx
              have i1 : (m : Int) < (n9 : Int) + (n10 : Int) := by omega
              have i2 : (0 : Int) ≤ (m : Int) := by omega
              have HLT : Hid (m < n9 + n10) := hlt
              by_cases h9 : m < n9
              · have hy : o.ptrs[m]? = some x := by rw [← cells_low (by have := HN9.out; omega)]; exact hx
                obtain ⟨b, off, cap, e0, hb, p0⟩ := HO.out.ptrs.cell1 hy rfl
                rw [← HN9.out] at e0
                have ea : a9 = some ⟨b, off, none⟩ := by have e2 := HV9.out.symm.trans e0; cases e2; rfl
                rw [ea] at c9
                have u0 := (HC.out.look.below.cell (p := ⟨b, off + m, none⟩) hb).trans p0
                have i3 : (m : Int) < (n9 : Int) := by omega
                have i4 : ((m : Int) == (n9 : Int)) = false := by simp; omega
                have HLA : Hid (lastAt o m = lv) := by
                  have := HN9.out
                  show lastAt o m = lv
                  rw [lastAt, if_neg (by omega), HC.out.last.1]
                clear e0 ea hb p0 hx hy hm hlt h9
                by_cases k0 : x ≤ lv
                · as_aux_lemma =>
                  have HRF : Hid (r = false) := bool_not HR.out fun g => by have := g.cell m _ HX.out; unfold CellOk at this; rw [HLA.out] at this; omega
                  have RES := Lib.hid HC.out.look.below
                  go_wp2_with fail
                  go_ret
                  exact ⟨end_bool HRF.out.symm, RES.out⟩
                by_cases k1 : o.data ≤ x
                · as_aux_lemma =>
                  have HRF : Hid (r = false) := bool_not HR.out fun g => by have := g.cell m _ HX.out; unfold CellOk at this; rw [HLA.out] at this; omega
                  have RES := Lib.hid HC.out.look.below
                  go_wp2_with fail
                  go_ret
                  exact ⟨end_bool HRF.out.symm, RES.out⟩
                obtain ⟨k, rfl⟩ := Int.eq_ofNat_of_zero_le (show 0 ≤ x by omega)
                have hk : k < 65 := by have := HDATA.out; omega
                have j1 : (k : Int) < 65 := by omega
                have j2 : (0 : Int) ≤ (k : Int) := by omega
                have cm : wr.cell? ⟨mb, k, none⟩ = some (.bool (f k)) := (HC.out.row.cell k).trans (metV_at f k hk)
                by_cases hf : f k = true
                · as_aux_lemma =>
                  rw [hf] at cm
                  have HRF : Hid (r = false) := bool_not HR.out fun g => by
                    obtain ⟨j, hj, hy⟩ := (HC.out.met k).1 hf
                    exact (g.cell m _ HX.out).2.2.2 j _ hj hy rfl
                  have RES := Lib.hid HC.out.look.below
                  clear hf
                  go_wp2_with fail
                  go_ret
                  exact ⟨end_bool HRF.out.symm, RES.out⟩
                have hf2 : f k = false := by simpa using hf
                rw [hf2] at cm
                have fm : wr.frozen? ⟨mb, k, none⟩ = false := HC.out.row.free k
                have HN := Lib.hid (HC.out.next hk HX.out ⟨by omega, by rw [HLA.out]; omega, by omega, fun j y hj hy e => hf ((HC.out.met k).2 ⟨j, hj, by rw [hy, e]⟩)⟩)
                clear hf hf2 HC hk
                go_wp2_with fail
                go_roundw
                case rel => exact ⟨m + 1, (k : Int), _, HLT.out, rfl, by go_num, HN.out⟩
                case measure => have := HLT.out; simp [intOf]; omega
              · obtain ⟨j, hj⟩ : ∃ j, j = m - n9 := ⟨_, rfl⟩
                have hy : o.procs[j]? = some x := by rw [hj, HN9.out, ← cells_high (by have := HN9.out; omega)]; exact hx
                obtain ⟨b, off, cap, e0, hb, p0⟩ := HO.out.procs.cell1 hy rfl
                rw [← HN10.out] at e0
                have ea : a10 = some ⟨b, off, none⟩ := by have e2 := HV10.out.symm.trans e0; cases e2; rfl
                rw [ea] at c10
                have u0 := (HC.out.look.below.cell (p := ⟨b, off + j, none⟩) hb).trans p0
                have i3 : ¬ (m : Int) < (n9 : Int) := by omega
                have i5 : (m : Int) - (n9 : Int) = (j : Int) := by omega
                have i6 : (j : Int) < (n10 : Int) := by omega
                have i7 : (0 : Int) ≤ (j : Int) := by omega
                by_cases hs : m = n9
                · have i4 : ((m : Int) == (n9 : Int)) = true := by simp; omega
                  have HLA : Hid (lastAt o m = -1) := by
                    have := HN9.out
                    show lastAt o m = -1
                    rw [lastAt, if_pos (by omega)]
                  clear e0 ea hb p0 hx hy hm hlt h9 hs hj
                  by_cases k0 : x ≤ -1
                  · as_aux_lemma =>
                    have HRF : Hid (r = false) := bool_not HR.out fun g => by have := g.cell m _ HX.out; unfold CellOk at this; rw [HLA.out] at this; omega
                    have RES := Lib.hid HC.out.look.below
                    go_wp2_with fail
                    go_ret
                    exact ⟨end_bool HRF.out.symm, RES.out⟩
                  by_cases k1 : o.data ≤ x
                  · as_aux_lemma =>
                    have HRF : Hid (r = false) := bool_not HR.out fun g => by have := g.cell m _ HX.out; unfold CellOk at this; rw [HLA.out] at this; omega
                    have RES := Lib.hid HC.out.look.below
                    go_wp2_with fail
                    go_ret
                    exact ⟨end_bool HRF.out.symm, RES.out⟩
                  obtain ⟨k, rfl⟩ := Int.eq_ofNat_of_zero_le (show 0 ≤ x by omega)
                  have hk : k < 65 := by have := HDATA.out; omega
                  have j1 : (k : Int) < 65 := by omega
                  have j2 : (0 : Int) ≤ (k : Int) := by omega
                  have cm : wr.cell? ⟨mb, k, none⟩ = some (.bool (f k)) := (HC.out.row.cell k).trans (metV_at f k hk)
                  by_cases hf : f k = true
                  · as_aux_lemma =>
                    rw [hf] at cm
                    have HRF : Hid (r = false) := bool_not HR.out fun g => by
                      obtain ⟨j, hj, hy⟩ := (HC.out.met k).1 hf
                      exact (g.cell m _ HX.out).2.2.2 j _ hj hy rfl
                    have RES := Lib.hid HC.out.look.below
                    clear hf
                    go_wp2_with fail
                    go_ret
                    exact ⟨end_bool HRF.out.symm, RES.out⟩
                  have hf2 : f k = false := by simpa using hf
                  rw [hf2] at cm
                  have fm : wr.frozen? ⟨mb, k, none⟩ = false := HC.out.row.free k
                  have HN := Lib.hid (HC.out.next hk HX.out ⟨by omega, by rw [HLA.out]; omega, by omega, fun j y hj hy e => hf ((HC.out.met k).2 ⟨j, hj, by rw [hy, e]⟩)⟩)
                  clear hf hf2 HC hk
                  go_wp2_with fail
                  go_roundw
                  case rel => exact ⟨m + 1, (k : Int), _, HLT.out, rfl, by go_num, HN.out⟩
                  case measure => have := HLT.out; simp [intOf]; omega
                · have i4 : ((m : Int) == (n9 : Int)) = false := by simp; omega
                  have HLA : Hid (lastAt o m = lv) := by
                    have := HN9.out
                    show lastAt o m = lv
                    rw [lastAt, if_neg (by omega), HC.out.last.1]
                  clear e0 ea hb p0 hx hy hm hlt h9 hs hj
                  by_cases k0 : x ≤ lv
                  · as_aux_lemma =>
                    have HRF : Hid (r = false) := bool_not HR.out fun g => by have := g.cell m _ HX.out; unfold CellOk at this; rw [HLA.out] at this; omega
                    have RES := Lib.hid HC.out.look.below
                    go_wp2_with fail
                    go_ret
                    exact ⟨end_bool HRF.out.symm, RES.out⟩
                  by_cases k1 : o.data ≤ x
                  · as_aux_lemma =>
                    have HRF : Hid (r = false) := bool_not HR.out fun g => by have := g.cell m _ HX.out; unfold CellOk at this; rw [HLA.out] at this; omega
                    have RES := Lib.hid HC.out.look.below
                    go_wp2_with fail
                    go_ret
                    exact ⟨end_bool HRF.out.symm, RES.out⟩
                  obtain ⟨k, rfl⟩ := Int.eq_ofNat_of_zero_le (show 0 ≤ x by omega)
                  have hk : k < 65 := by have := HDATA.out; omega
                  have j1 : (k : Int) < 65 := by omega
                  have j2 : (0 : Int) ≤ (k : Int) := by omega
                  have cm : wr.cell? ⟨mb, k, none⟩ = some (.bool (f k)) := (HC.out.row.cell k).trans (metV_at f k hk)
                  by_cases hf : f k = true
                  · as_aux_lemma =>
                    rw [hf] at cm
                    have HRF : Hid (r = false) := bool_not HR.out fun g => by
                      obtain ⟨j, hj, hy⟩ := (HC.out.met k).1 hf
                      exact (g.cell m _ HX.out).2.2.2 j _ hj hy rfl
                    have RES := Lib.hid HC.out.look.below
                    clear hf
                    go_wp2_with fail
                    go_ret
                    exact ⟨end_bool HRF.out.symm, RES.out⟩
                  have hf2 : f k = false := by simpa using hf
                  rw [hf2] at cm
                  have fm : wr.frozen? ⟨mb, k, none⟩ = false := HC.out.row.free k
                  have HN := Lib.hid (HC.out.next hk HX.out ⟨by omega, by rw [HLA.out]; omega, by omega, fun j y hj hy e => hf ((HC.out.met k).2 ⟨j, hj, by rw [hy, e]⟩)⟩)
                  clear hf hf2 HC hk
                  go_wp2_with fail
                  go_roundw
                  case rel => exact ⟨m + 1, (k : Int), _, HLT.out, rfl, by go_num, HN.out⟩
                  case measure => have := HLT.out; simp [intOf]; omega
            · have i1 : ¬ (m : Int) < (n9 : Int) + (n10 : Int) := by omega
              have HRT : Hid (r = true) := HR.out.2 ⟨HDATA.out, HTEXT.out, HCODE.out, HBODY.out, by have := HN3.out; omega, by have := HN8.out; omega, by have := HN9.out; omega, by have := HN10.out; omega, HTY.out, HEX.out, all_done (Q := CellOk o) HC.out.all (by rw [cells_len]; have := HN9.out; have := HN10.out; omega)⟩
              have RES := Lib.hid HC.out.look.below
              clear hm hlt HC
              go_wp2_with fail
              go_ret
              exact ⟨end_bool HRT.out.symm, RES.out⟩
end Go.Proofs.Ytkkjfbpflfknpaa
