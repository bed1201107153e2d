/-
  The program's cellListMay, areApart, cellsMay (layer 14, rule 5). No conditions.
-/
import Derived.Test.YtekcebmojjkoeaaCkA
namespace Go.Proofs.Ytekcebmojjkoeaa
open Go.ChangeShapes Go.WideShapes Go.ChangeAt Go.RowKit

set_option maxRecDepth 100000 in
set_option maxHeartbeats 1000000 in
theorem clist_any (v : Value) (L : List Int) (d : Int) (r : Bool) (w : World) (h : ElsAt 1 intRow w v L) (hr : r = true ↔ RiseP L d) :
    Calls Try.prog 41 #[v, .int .i64 d] w fun e w' => e = .returned (.bool r) ∧ w = w' := by
  have HO := Lib.hid h
  have HR := Lib.hid hr
  obtain ⟨a, cap, hv, hc, hm, _⟩ := h.shape
  obtain ⟨n, hn⟩ : ∃ n, n = L.length := ⟨_, rfl⟩
  rw [← hn] at hv hc
  have HN := Lib.hid hn
  subst hv
  clear h hr hn hc hm
  by_cases h16 : 16 < (n : Int)
  · have HRF : Hid (r = false) := bool_not HR.out fun g => by have := g.1; have := HN.out; omega
    go_enter Try.func41, Try.ntmps41
    go_wp2_with fail
    go_ret
    exact ⟨end_bool HRF.out.symm, rfl⟩
  have n16 : n ≤ 16 := by omega
  go_enter Try.func41, Try.ntmps41
  go_wp2_with fail
  clear h16
  go_loopw [12] (fun i wr => w = wr ∧ ∃ m : Nat, m ≤ n ∧ i = .int .i64 (m : Nat) ∧ ∀ (j : Nat) (x : Int), j < m → L[j]? = some x → RiseAt L d j x) (fun i _ => n - (intOf i).toNat)
  case atStart => exact ⟨rfl, 0, Nat.zero_le _, rfl, fun j x hj => by omega⟩
  case round =>
    obtain ⟨rfl, m, hm, rfl, hall⟩ := hrel
    have HALL := Lib.hid hall
    clear hall
    by_cases hlt : m < n
    · obtain ⟨x, hx⟩ : ∃ x, L[m]? = some x := ⟨_, List.getElem?_eq_getElem (by have := HN.out; omega)⟩
      have HX := Lib.hid hx
      obtain ⟨b, off, cap', e0, hb, u0⟩ := HO.out.cell1 hx rfl
      have ea : a = some ⟨b, off, none⟩ := by cases e0; rfl
      subst ea
      obtain ⟨rb, hrb⟩ : ∃ rb : Bool, rb = true ↔ 0 ≤ x ∧ x < d := by
        by_cases h : 0 ≤ x ∧ x < d
        · exact ⟨true, fun _ => h, fun _ => rfl⟩
        · exact ⟨false, (fun e => by cases e), fun e => absurd e h⟩
      have HRB := Lib.hid hrb
      have HB := Lib.hid (fun w => isBelow_any x d rb w hrb)
      have i1 : (m : Int) < (n : Int) := by omega
      have i2 : (0 : Int) ≤ (m : Int) := by omega
      have HLT : Hid (m < n) := hlt
      clear e0 hx hb hrb hm hlt
      go_wp2_with fail
      refine (HB.out _).mono ?_
      rintro e w' ⟨rfl, rfl⟩
      clear HB
      cases rb with
      | false =>
        as_aux_lemma =>
        have HRF : Hid (r = false) := bool_not HR.out fun g => by have := HRB.out.2 (g.2 m _ HX.out).1; cases this
        go_wp2_with fail
        go_ret
        exact ⟨end_bool HRF.out.symm, rfl⟩
      | true =>
        by_cases h0 : m = 0
        · as_aux_lemma =>
          have HOK := Lib.hid (all_next (Q := RiseAt L d) HALL.out HX.out ⟨HRB.out.1 rfl, fun y hy => by omega⟩)
          have t0 : ¬ (0 : Int) < (m : Int) := by omega
          have t1 : decide ((0 : Int) < (m : Int)) = false := by simpa using t0
          clear h0
          go_wp2_with fail
          go_roundw
          case rel => exact ⟨by trivial, m + 1, HLT.out, by go_num, HOK.out⟩
          case measure => have := HLT.out; simp [intOf]; omega
        · obtain ⟨k, hk⟩ : ∃ k, m = k + 1 := ⟨m - 1, by omega⟩
          obtain ⟨y, hy⟩ : ∃ y, L[k]? = some y := ⟨_, List.getElem?_eq_getElem (by have := HN.out; have := HLT.out; omega)⟩
          have HY : Hid (L[m - 1]? = some y) := by rw [hk, Nat.add_sub_cancel]; exact hy
          obtain ⟨b', off', cap'', e0, hb, u1⟩ := HO.out.cell1 hy rfl
          obtain ⟨rfl, rfl⟩ : b' = b ∧ off' = off := by cases e0; exact ⟨rfl, rfl⟩
          have t0 : (0 : Int) < (m : Int) := by omega
          have t2 : (m : Int) - 1 = (k : Int) := by omega
          have t3 : (k : Int) < (n : Int) := by omega
          have t4 : (0 : Int) ≤ (k : Int) := by omega
          clear hy hb hk h0 e0
          by_cases hxy : x ≤ y
          · as_aux_lemma =>
            have HRF : Hid (r = false) := bool_not HR.out fun g => by have := (g.2 m _ HX.out).2 y (by omega) HY.out; omega
            go_wp2_with fail
            go_ret
            exact ⟨end_bool HRF.out.symm, rfl⟩
          · as_aux_lemma =>
            have HOK := Lib.hid (all_next (Q := RiseAt L d) HALL.out HX.out ⟨HRB.out.1 rfl, fun z _ hz => by have e := HY.out.symm.trans hz; cases e; omega⟩)
            have t5 : decide (x ≤ y) = false := by simpa using hxy
            go_wp2_with fail
            go_roundw
            case rel => exact ⟨by trivial, m + 1, HLT.out, by go_num, HOK.out⟩
            case measure => have := HLT.out; simp [intOf]; omega
    · have i1 : ¬ (m : Int) < (n : Int) := by omega
      have HRT : Hid (r = true) := HR.out.2 ⟨by have := HN.out; omega, all_done (Q := RiseAt L d) HALL.out (by have := HN.out; omega)⟩
      clear hm hlt
      go_wp2_with fail
      go_ret
      exact ⟨end_bool HRT.out.symm, rfl⟩
set_option maxRecDepth 100000 in
set_option maxHeartbeats 1000000 in
theorem apart_any (v u : Value) (A B : List Int) (r : Bool) (w : World) (h : ElsAt 1 intRow w v A) (h' : ElsAt 1 intRow w u B) (hr : r = true ↔ ApartP A B) :
    Calls Try.prog 42 #[v, u] w fun e w' => e = .returned (.bool r) ∧ w = w' := by
  have HA := Lib.hid h
  have HB := Lib.hid h'
  have HR := Lib.hid hr
  obtain ⟨a, cap, hv, hc, hm, _⟩ := h.shape
  obtain ⟨n, hn⟩ : ∃ n, n = A.length := ⟨_, rfl⟩
  rw [← hn] at hv hc
  have HN := Lib.hid hn
  have hsn : n ≤ 9223372036854775807 := Nat.le_trans hc hm
  subst hv
  obtain ⟨a', cap', hv, hc', hm', _⟩ := h'.shape
  obtain ⟨n', hn'⟩ : ∃ n, n = B.length := ⟨_, rfl⟩
  rw [← hn'] at hv hc'
  have HN' := Lib.hid hn'
  have hsn' : n' ≤ 9223372036854775807 := Nat.le_trans hc' hm'
  subst hv
  clear h h' hr hn hn' hc hm hc' hm'
  go_enter Try.func42, Try.ntmps42
  go_wp2_with fail
  go_loopw [11] (fun i wr => w = wr ∧ ∃ m : Nat, m ≤ n ∧ i = .int .i64 (m : Nat) ∧ ∀ (j : Nat) (x : Int), j < m → A[j]? = some x → ∀ (k : Nat) (y : Int), B[k]? = some y → x ≠ y) (fun i _ => n - (intOf i).toNat)
  case atStart => exact ⟨rfl, 0, Nat.zero_le _, rfl, fun j x hj => by omega⟩
  case round =>
    obtain ⟨rfl, m, hm, rfl, hall⟩ := hrel
    have HALL := Lib.hid hall
    clear hall
    by_cases hlt : m < n
    · obtain ⟨x, hx⟩ : ∃ x, A[m]? = some x := ⟨_, List.getElem?_eq_getElem (by have := HN.out; omega)⟩
      have HX := Lib.hid hx
      obtain ⟨b, off, cap1, e0, hb, u0⟩ := HA.out.cell1 hx rfl
      have ea : a = some ⟨b, off, none⟩ := by cases e0; rfl
      subst ea
      have i1 : (m : Int) < (n : Int) := by omega
      have i2 : (0 : Int) ≤ (m : Int) := by omega
      have HLT : Hid (m < n) := hlt
      clear e0 hx hb hm hlt
      go_wp2_with fail
      clear u0 i1 i2
      go_loopw [17] (fun i wr => w = wr ∧ ∃ k : Nat, k ≤ n' ∧ i = .int .i64 (k : Nat) ∧ ∀ (j : Nat) (y : Int), j < k → B[j]? = some y → x ≠ y) (fun i _ => n' - (intOf i).toNat)
      case atStart => exact ⟨rfl, 0, Nat.zero_le _, rfl, fun j x hj => by omega⟩
      case round =>
        obtain ⟨rfl, k, hk, rfl, hall⟩ := hrel
        have HAK := Lib.hid hall
        clear hall
        by_cases hlt : k < n'
        · obtain ⟨y, hy⟩ : ∃ y, B[k]? = some y := ⟨_, List.getElem?_eq_getElem (by have := HN'.out; omega)⟩
          have HY := Lib.hid hy
          obtain ⟨b', off', cap2, e0, hb, u0⟩ := HB.out.cell1 hy rfl
          have ea : a' = some ⟨b', off', none⟩ := by cases e0; rfl
          subst ea
          have i1 : (k : Int) < (n' : Int) := by omega
          have i2 : (0 : Int) ≤ (k : Int) := by omega
          have HKT : Hid (k < n') := hlt
          clear e0 hy hb hk hlt
          by_cases hxy : x = y
          · as_aux_lemma =>
            have HRF : Hid (r = false) := bool_not HR.out fun g => g m x HX.out k y HY.out hxy
            have t1 : (x == y) = true := by simp [hxy]
            clear hxy
            go_wp2_with fail
            go_ret
            exact ⟨end_bool HRF.out.symm, rfl⟩
          · as_aux_lemma =>
            have t1 : (x == y) = false := by simp [hxy]
            have HOK := Lib.hid (all_next (Q := fun _ y => x ≠ y) HAK.out HY.out hxy)
            go_wp2_with fail
            go_roundw
            case rel => exact ⟨by trivial, k + 1, HKT.out, by go_num, HOK.out⟩
            case measure => have := HKT.out; simp [intOf]; omega
        · have i1 : ¬ (k : Int) < (n' : Int) := by omega
          have HOK := Lib.hid (all_next (Q := fun _ x => ∀ (k : Nat) (y : Int), B[k]? = some y → x ≠ y) HALL.out HX.out (all_done (Q := fun _ y => x ≠ y) HAK.out (by have := HN'.out; omega)))
          clear hk hlt
          have j4 : (m : Int) < (n : Int) := by have := HLT.out; omega
          go_wp2_with fail
          go_roundw
          case rel => exact ⟨by trivial, m + 1, HLT.out, by go_num, HOK.out⟩
          case measure => have := HLT.out; simp [intOf]; omega
    · have i1 : ¬ (m : Int) < (n : Int) := by omega
      have HRT : Hid (r = true) := HR.out.2 (all_done (Q := fun _ x => ∀ (k : Nat) (y : Int), B[k]? = some y → x ≠ y) HALL.out (by have := HN.out; omega))
      clear hm hlt
      go_wp2_with fail
      go_ret
      exact ⟨end_bool HRT.out.symm, rfl⟩
/- an object in a variable of its own -/
theorem looks_new (w : World) (V : ObjV) (o : ObjD) : Looks w (w.alloc (.cells (ocells V o).toArray OT)) w.heap.size V o := ⟨RowAt.new w _ _, (Below.refl _ _).alloc (Nat.le_refl _) _⟩
theorem some_bool (P : Prop) : ∃ r : Bool, r = true ↔ P := by
  by_cases h : P
  · exact ⟨true, fun _ => h, fun _ => rfl⟩
  · exact ⟨false, (fun e => by cases e), fun e => absurd e h⟩
set_option maxRecDepth 100000 in
set_option maxHeartbeats 1000000 in
theorem cellsMay_any (V : ObjV) (o : ObjD) (r : Bool) (w : World) (h : ObjAt w V o) (hr : r = true ↔ CesP o) :
    Calls Try.prog 30 #[.agg (ocells V o).toArray] w fun e w' => e = .returned (.bool r) ∧ Below w.heap.size w w' := by
  have HL' := Lib.hid (looks_new w V o)
  have HO := Lib.hid h
  have HR := Lib.hid hr
  obtain ⟨r1, hr1⟩ := some_bool (RiseP o.ptrs o.data)
  obtain ⟨r2, hr2⟩ := some_bool (RiseP o.procs o.data)
  obtain ⟨r3, hr3⟩ := some_bool (ApartP o.ptrs o.procs)
  have H1 := Lib.hid hr1
  have H2 := Lib.hid hr2
  have H3 := Lib.hid hr3
  clear h hr hr1 hr2 hr3
  go_enter Try.func30, Try.ntmps30
  go_upto_region 1 with fail
  generalize w.alloc (.cells (ocells V o).toArray OT) = w0 at *
  obtain ⟨ob, hob⟩ : ∃ ob, ob = w.heap.size := ⟨_, rfl⟩
  have HL : Hid (Looks w w0 ob V o) := by rw [hob]; exact HL'.out
  rw [← hob]
  clear HL' hob
  have c4 : w0.cell? ⟨ob, 4, none⟩ = some (.int .i64 o.data) := HL.out.row.cell 4
  have c9 : w0.cell? ⟨ob, 9, none⟩ = some V.p := HL.out.row.cell 9
  have c10 : w0.cell? ⟨ob, 10, none⟩ = some V.q := HL.out.row.cell 10
  have HOL := Lib.hid (HO.out.on HL.out.below)
  go_wp2_with fail
  refine (clist_any V.p o.ptrs o.data r1 _ HOL.out.ptrs H1.out).mono ?_
  rintro e w' ⟨rfl, rfl⟩
  cases r1 with
  | false =>
    have HRF : Hid (r = false) := bool_not HR.out fun g => by have := H1.out.2 g.1; cases this
    go_wp2_with fail
    go_ret
    exact ⟨end_bool HRF.out.symm, HL.out.below⟩
  | true =>
    have G1 : Hid (RiseP o.ptrs o.data) := H1.out.1 rfl
    clear H1
    go_wp2_with fail
    refine (clist_any V.q o.procs o.data r2 _ HOL.out.procs H2.out).mono ?_
    rintro e w' ⟨rfl, rfl⟩
    cases r2 with
    | false =>
      have HRF : Hid (r = false) := bool_not HR.out fun g => by have := H2.out.2 g.2.1; cases this
      go_wp2_with fail
      go_ret
      exact ⟨end_bool HRF.out.symm, HL.out.below⟩
    | true =>
      have G2 : Hid (RiseP o.procs o.data) := H2.out.1 rfl
      clear H2
      go_wp2_with fail
      refine (apart_any V.p V.q o.ptrs o.procs r3 _ HOL.out.ptrs HOL.out.procs H3.out).mono ?_
      rintro e w' ⟨rfl, rfl⟩
      have HRR : Hid (r = r3) := by
        show r = r3
        cases r3 with
        | true => exact HR.out.2 ⟨G1.out, G2.out, H3.out.1 rfl⟩
        | false => exact bool_not HR.out fun g => by have := H3.out.2 g.2.2; cases this
      go_wp2_with fail
      go_ret
      exact ⟨end_bool HRR.out.symm, HL.out.below⟩
end Go.Proofs.Ytekcebmojjkoeaa
