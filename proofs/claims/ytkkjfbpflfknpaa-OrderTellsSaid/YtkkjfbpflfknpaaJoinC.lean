/-
  The program's small functions of check (layer 14): isUpTo, isBelow, Fits, opOf, placesOf, baseMay. No conditions beyond those that each theorem names.
-/
import Derived.Test.YtkkjfbpflfknpaaCkMa
import Derived.Test.YtkkjfbpflfknpaaObjK
import Derived.Test.YtkkjfbpflfknpaaStru
import Derived.Deep.RegionHeld3
import Derived.Deep.MidRow
import Derived.Test.YtkkjfbpflfknpaaNameA
import Derived.Test.YtkkjfbpflfknpaaGrow
import Derived.Test.YtkkjfbpflfknpaaInA
import Derived.Deep.DeepCutAuto
import Derived.Test.YtkkjfbpflfknpaaChB
import Derived.Test.YtkkjfbpflfknpaaEl
import Derived.Test.YtkkjfbpflfknpaaInsP
namespace Go.Proofs.Ytkkjfbpflfknpaa
open Go.ChangeShapes Go.WideShapes Go.ChangeAt Go.RowKit

set_option maxRecDepth 100000 in
theorem isUpTo_any (n m : Int) (r : Bool) (w : World) (hr : r = true ↔ 0 ≤ n ∧ n ≤ m) :
    Calls Try.prog 57 #[.int .i64 n, .int .i64 m] w fun e w' => e = .returned (.bool r) ∧ w = w' := by
  by_cases h1 : 0 ≤ n
  · by_cases h2 : n ≤ m
    · obtain rfl : r = true := hr.2 ⟨h1, h2⟩
      clear hr
      go_enter Try.func57, Try.ntmps57
      go_wp2_with fail
      go_ret
      exact ⟨end_bool (by simp <;> omega), rfl⟩
    · obtain rfl : r = false := bool_not hr (by omega)
      have h3 : decide (n ≤ m) = false := by simpa using h2
      clear hr
      go_enter Try.func57, Try.ntmps57
      go_wp2_with fail
      go_ret
      exact ⟨end_bool (by simp <;> omega), rfl⟩
  · obtain rfl : r = false := bool_not hr (by omega)
    have h2 : n < 0 := by omega
    clear hr h1
    go_enter Try.func57, Try.ntmps57
    go_wp2_with fail
    go_ret
    exact ⟨end_bool (by simp <;> omega), rfl⟩
set_option maxRecDepth 100000 in
theorem isBelow_any (n m : Int) (r : Bool) (w : World) (hr : r = true ↔ 0 ≤ n ∧ n < m) :
    Calls Try.prog 64 #[.int .i64 n, .int .i64 m] w fun e w' => e = .returned (.bool r) ∧ w = w' := by
  by_cases h1 : 0 ≤ n
  · by_cases h2 : n < m
    · obtain rfl : r = true := hr.2 ⟨h1, h2⟩
      clear hr
      go_enter Try.func64, Try.ntmps64
      go_wp2_with fail
      go_ret
      exact ⟨end_bool (by simp <;> omega), rfl⟩
    · obtain rfl : r = false := bool_not hr (by omega)
      have h3 : decide (n < m) = false := by simpa using h2
      clear hr
      go_enter Try.func64, Try.ntmps64
      go_wp2_with fail
      go_ret
      exact ⟨end_bool (by simp <;> omega), rfl⟩
  · obtain rfl : r = false := bool_not hr (by omega)
    have h2 : n < 0 := by omega
    clear hr h1
    go_enter Try.func64, Try.ntmps64
    go_wp2_with fail
    go_ret
    exact ⟨end_bool (by simp <;> omega), rfl⟩
set_option maxRecDepth 100000 in
set_option maxHeartbeats 1000000 in
theorem pfits_any (a k : Int) (w : World) (r : Bool) (hr : r = true ↔ FitsP a k) :
    Calls Try.prog 70 #[.int .i64 a, .int .i64 k] w fun e w' => e = .returned (.bool r) ∧ w = w' := by
  unfold FitsP at hr
  by_cases h0 : a = 0
  · subst h0
    by_cases k0 : k = 0
    · subst k0
      obtain rfl : r = true := hr.2 (.inl ⟨rfl, rfl⟩)
      clear hr
      go_enter Try.func70, Try.ntmps70
      go_wp2_with fail
      go_ret
      exact ⟨rfl, rfl⟩
    · obtain rfl : r = false := bool_not hr (by omega)
      have e0 : (k == 0) = false := by simp [k0]
      clear hr
      go_enter Try.func70, Try.ntmps70
      go_wp2_with fail
      go_ret
      exact ⟨rfl, rfl⟩
  · have g0 : (a == 0) = false := by simp [h0]
    by_cases h1 : a = 1
    · subst h1
      by_cases k0 : k = 0
      · subst k0
        obtain rfl : r = true := hr.2 (.inr (.inl ⟨rfl, .inl rfl⟩))
        clear hr
        go_enter Try.func70, Try.ntmps70
        go_wp2_with fail
        go_ret
        exact ⟨rfl, rfl⟩
      · have e0 : (k == 0) = false := by simp [k0]
        by_cases k1 : k = 1
        · subst k1
          obtain rfl : r = true := hr.2 (.inr (.inl ⟨rfl, .inr rfl⟩))
          clear hr
          go_enter Try.func70, Try.ntmps70
          go_wp2_with fail
          go_ret
          exact ⟨rfl, rfl⟩
        · have e1 : (k == 1) = false := by simp [k1]
          obtain rfl : r = false := bool_not hr (by omega)
          clear hr
          go_enter Try.func70, Try.ntmps70
          go_wp2_with fail
          go_ret
          exact ⟨rfl, rfl⟩
    · have g1 : (a == 1) = false := by simp [h1]
      by_cases h2 : a = 2
      · subst h2
        by_cases k2 : k = 2
        · subst k2
          obtain rfl : r = true := hr.2 (.inr (.inr ⟨rfl, rfl⟩))
          clear hr
          go_enter Try.func70, Try.ntmps70
          go_wp2_with fail
          go_ret
          exact ⟨rfl, rfl⟩
        · have e2 : (k == 2) = false := by simp [k2]
          obtain rfl : r = false := bool_not hr (by omega)
          clear hr
          go_enter Try.func70, Try.ntmps70
          go_wp2_with fail
          go_ret
          exact ⟨rfl, rfl⟩
      · have g2 : (a == 2) = false := by simp [h2]
        obtain rfl : r = false := bool_not hr (by omega)
        clear hr
        go_enter Try.func70, Try.ntmps70
        go_wp2_with fail
        go_ret
        exact ⟨rfl, rfl⟩
set_option maxRecDepth 100000 in
theorem opOf_any (a : Nat) (w : World) :
    Calls Try.prog 47 #[.int .i64 (a : Nat)] w fun e w' => e = .returned (.int .i64 (opK a)) ∧ w = w' := by
  unfold opK
  by_cases h : a = 0
  · subst h
    go_enter Try.func47, Try.ntmps47
    go_wp2_with fail
    go_ret
    exact ⟨rfl, rfl⟩
  · have e0 : (((a : Nat) : Int) == 0) = false := by simp; omega
    rw [if_neg h]
    go_enter Try.func47, Try.ntmps47
    go_wp2_with fail
    go_ret
    exact ⟨rfl, rfl⟩
set_option maxRecDepth 100000 in
set_option maxHeartbeats 1000000 in
theorem places_any (V : ObjV) (o : ObjD) (k : Int) (w : World) (h : ObjAt w V o) :
    Calls Try.prog 65 #[.agg (ocells V o).toArray, .int .i64 k] w fun e w' => e = .returned (.int .i64 (placesV o k)) ∧ Below w.heap.size w w' := by
  have HX' : Hid (RowAt (w.alloc (.cells (ocells V o).toArray OT)) w.heap.size OT (ocells V o) ∧ Below w.heap.size w (w.alloc (.cells (ocells V o).toArray OT))) := ⟨RowAt.new w _ _, (Below.refl _ _).alloc (Nat.le_refl _) _⟩
  obtain ⟨a3, q3, hv3, _⟩ := h.types.shape
  obtain ⟨n3, hn3⟩ : ∃ n, n = o.types.length := ⟨_, rfl⟩
  rw [← hn3] at hv3
  have HV3 := Lib.hid hv3
  have HN3 := Lib.hid hn3
  obtain ⟨a6, q6, hv6, _⟩ := h.code.shape
  obtain ⟨n6, hn6⟩ : ∃ n, n = o.code.length := ⟨_, rfl⟩
  rw [← hn6] at hv6
  have HV6 := Lib.hid hv6
  have HN6 := Lib.hid hn6
  clear h hn3 hn6 hv3 hv6
  unfold placesV
  by_cases h0 : k = 0
  · subst h0
    rw [if_pos rfl, ← HN6.out]
    go_enter Try.func65, Try.ntmps65
    go_upto_region 1 with fail
    generalize w.alloc (.cells (ocells V o).toArray OT) = w0 at *
    obtain ⟨ob, hob⟩ : ∃ ob, ob = w.heap.size := ⟨_, rfl⟩
    have HX : Hid (RowAt w0 ob OT (ocells V o) ∧ Below w.heap.size w w0) := by rw [hob]; exact HX'.out
    rw [← hob]
    clear HX' hob
    have c3 : w0.cell? ⟨ob, 3, none⟩ = some (.slice a3 n3 q3) := (HX.out.1.cell 3).trans (congrArg some HV3.out)
    have c4 : w0.cell? ⟨ob, 4, none⟩ = some (.int .i64 o.data) := HX.out.1.cell 4
    have c6 : w0.cell? ⟨ob, 6, none⟩ = some (.slice a6 n6 q6) := (HX.out.1.cell 6).trans (congrArg some HV6.out)
    go_wp2_with fail
    go_ret
    exact ⟨rfl, HX.out.2⟩
  have e0 : (k == 0) = false := by simp [h0]
  rw [if_neg h0]
  by_cases h1 : k = 1
  · subst h1
    rw [if_pos rfl]
    go_enter Try.func65, Try.ntmps65
    go_upto_region 1 with fail
    generalize w.alloc (.cells (ocells V o).toArray OT) = w0 at *
    obtain ⟨ob, hob⟩ : ∃ ob, ob = w.heap.size := ⟨_, rfl⟩
    have HX : Hid (RowAt w0 ob OT (ocells V o) ∧ Below w.heap.size w w0) := by rw [hob]; exact HX'.out
    rw [← hob]
    clear HX' hob
    have c3 : w0.cell? ⟨ob, 3, none⟩ = some (.slice a3 n3 q3) := (HX.out.1.cell 3).trans (congrArg some HV3.out)
    have c4 : w0.cell? ⟨ob, 4, none⟩ = some (.int .i64 o.data) := HX.out.1.cell 4
    have c6 : w0.cell? ⟨ob, 6, none⟩ = some (.slice a6 n6 q6) := (HX.out.1.cell 6).trans (congrArg some HV6.out)
    go_wp2_with fail
    go_ret
    exact ⟨rfl, HX.out.2⟩
  have e1 : (k == 1) = false := by simp [h1]
  rw [if_neg h1]
  by_cases h2 : k = 2
  · subst h2
    rw [if_pos rfl, ← HN3.out]
    go_enter Try.func65, Try.ntmps65
    go_upto_region 1 with fail
    generalize w.alloc (.cells (ocells V o).toArray OT) = w0 at *
    obtain ⟨ob, hob⟩ : ∃ ob, ob = w.heap.size := ⟨_, rfl⟩
    have HX : Hid (RowAt w0 ob OT (ocells V o) ∧ Below w.heap.size w w0) := by rw [hob]; exact HX'.out
    rw [← hob]
    clear HX' hob
    have c3 : w0.cell? ⟨ob, 3, none⟩ = some (.slice a3 n3 q3) := (HX.out.1.cell 3).trans (congrArg some HV3.out)
    have c4 : w0.cell? ⟨ob, 4, none⟩ = some (.int .i64 o.data) := HX.out.1.cell 4
    have c6 : w0.cell? ⟨ob, 6, none⟩ = some (.slice a6 n6 q6) := (HX.out.1.cell 6).trans (congrArg some HV6.out)
    go_wp2_with fail
    go_ret
    exact ⟨rfl, HX.out.2⟩
  have e2 : (k == 2) = false := by simp [h2]
  rw [if_neg h2]
  go_enter Try.func65, Try.ntmps65
  go_upto_region 1 with fail
  generalize w.alloc (.cells (ocells V o).toArray OT) = w0 at *
  obtain ⟨ob, hob⟩ : ∃ ob, ob = w.heap.size := ⟨_, rfl⟩
  have HX : Hid (RowAt w0 ob OT (ocells V o) ∧ Below w.heap.size w w0) := by rw [hob]; exact HX'.out
  rw [← hob]
  clear HX' hob
  have c3 : w0.cell? ⟨ob, 3, none⟩ = some (.slice a3 n3 q3) := (HX.out.1.cell 3).trans (congrArg some HV3.out)
  have c4 : w0.cell? ⟨ob, 4, none⟩ = some (.int .i64 o.data) := HX.out.1.cell 4
  have c6 : w0.cell? ⟨ob, 6, none⟩ = some (.slice a6 n6 q6) := (HX.out.1.cell 6).trans (congrArg some HV6.out)
  go_wp2_with fail
  go_ret
  exact ⟨rfl, HX.out.2⟩
set_option maxRecDepth 100000 in
set_option maxHeartbeats 1000000 in
theorem base_any (s m b i n : Int) (r : Bool) (w : World) (hr : r = true ↔ BaseP (s, m, b) i n) :
    Calls Try.prog 63 #[.agg #[.int .i64 s, .int .i64 m, .int .i64 b], .int .i64 i, .int .i64 n] w fun e w' => e = .returned (.bool r) ∧ Below w.heap.size w w' := by
  unfold BaseP at hr
  dsimp only at hr
  by_cases h0 : m = 0
  · subst h0
    by_cases h1 : b = -1
    · subst h1
      obtain rfl : r = true := hr.2 (.inl ⟨rfl, .inl rfl⟩)
      clear hr
      go_enter Try.func63, Try.ntmps63
      go_wp2_with fail
      go_ret
      exact ⟨end_bool (by simp <;> omega), (Below.refl _ _).alloc (Nat.le_refl _) _⟩
    · have e1 : (b == -1) = false := by simp [h1]
      have HB := Lib.hid (fun w => isBelow_any b i r w (by rw [hr]; omega))
      clear hr
      go_enter Try.func63, Try.ntmps63
      go_wp2_with fail
      refine (HB.out _).mono ?_
      rintro e w' ⟨rfl, rfl⟩
      go_wp2_with fail
      go_ret
      exact ⟨end_bool (by simp <;> omega), (Below.refl _ _).alloc (Nat.le_refl _) _⟩
  · have e0 : (m == 0) = false := by simp [h0]
    by_cases h1 : 1 ≤ m
    · by_cases h2 : m ≤ n
      · have HB := Lib.hid (fun w => isBelow_any b 64 r w (by rw [hr]; omega))
        clear hr
        go_enter Try.func63, Try.ntmps63
        go_wp2_with fail
        refine (HB.out _).mono ?_
        rintro e w' ⟨rfl, rfl⟩
        go_wp2_with fail
        go_ret
        exact ⟨end_bool (by simp <;> omega), (Below.refl _ _).alloc (Nat.le_refl _) _⟩
      · obtain rfl : r = false := bool_not hr (by omega)
        have e3 : decide (m ≤ n) = false := by simpa using h2
        clear hr
        go_enter Try.func63, Try.ntmps63
        go_wp2_with fail
        go_ret
        exact ⟨end_bool (by simp <;> omega), (Below.refl _ _).alloc (Nat.le_refl _) _⟩
    · obtain rfl : r = false := bool_not hr (by omega)
      have e2 : decide ((1 : Int) ≤ m) = false := by simpa using h1
      clear hr
      go_enter Try.func63, Try.ntmps63
      go_wp2_with fail
      go_ret
      exact ⟨end_bool (by simp <;> omega), (Below.refl _ _).alloc (Nat.le_refl _) _⟩
end Go.Proofs.Ytkkjfbpflfknpaa

/-
  The program's cellListMay, areApart, cellsMay (layer 14, rule 5). No conditions.
-/
namespace Go.Proofs.Ytkkjfbpflfknpaa
open Go.ChangeShapes Go.WideShapes Go.ChangeAt Go.RowKit

set_option maxRecDepth 100000 in
set_option maxHeartbeats 1000000 in
theorem clist_any (v : Value) (L : List Int) (d : Int) (r : Bool) (w : World) (h : ElsAt 1 intRow w v L) (hr : r = true ↔ RiseP L d) :
    Calls Try.prog 66 #[v, .int .i64 d] w fun e w' => e = .returned (.bool r) ∧ w = w' := by
  have HO := Lib.hid h
  have HR := Lib.hid hr
  obtain ⟨a, cap, hv, hc, hm, _⟩ := h.shape
  obtain ⟨n, hn⟩ : ∃ n, n = L.length := ⟨_, rfl⟩
  rw [← hn] at hv hc
  have HN := Lib.hid hn
  subst hv
  clear h hr hn hc hm
  by_cases h16 : 16 < (n : Int)
  · have HRF : Hid (r = false) := bool_not HR.out fun g => by have := g.1; have := HN.out; omega
    go_enter Try.func66, Try.ntmps66
    go_wp2_with fail
    go_ret
    exact ⟨end_bool HRF.out.symm, rfl⟩
  have n16 : n ≤ 16 := by omega
  go_enter Try.func66, Try.ntmps66
  go_wp2_with fail
  clear h16
  go_loopw [12] (fun i wr => w = wr ∧ ∃ m : Nat, m ≤ n ∧ i = .int .i64 (m : Nat) ∧ ∀ (j : Nat) (x : Int), j < m → L[j]? = some x → RiseAt L d j x) (fun i _ => n - (intOf i).toNat)
  case atStart => exact ⟨rfl, 0, Nat.zero_le _, rfl, fun j x hj => by omega⟩
  case round =>
    obtain ⟨rfl, m, hm, rfl, hall⟩ := hrel
    have HALL := Lib.hid hall
    clear hall
    by_cases hlt : m < n
    · obtain ⟨x, hx⟩ : ∃ x, L[m]? = some x := ⟨_, List.getElem?_eq_getElem (by have := HN.out; omega)⟩
      have HX := Lib.hid hx
      obtain ⟨b, off, cap', e0, hb, u0⟩ := HO.out.cell1 hx rfl
      have ea : a = some ⟨b, off, none⟩ := by cases e0; rfl
      subst ea
      obtain ⟨rb, hrb⟩ : ∃ rb : Bool, rb = true ↔ 0 ≤ x ∧ x < d := by
        by_cases h : 0 ≤ x ∧ x < d
        · exact ⟨true, fun _ => h, fun _ => rfl⟩
        · exact ⟨false, (fun e => by cases e), fun e => absurd e h⟩
      have HRB := Lib.hid hrb
      have HB := Lib.hid (fun w => isBelow_any x d rb w hrb)
      have i1 : (m : Int) < (n : Int) := by omega
      have i2 : (0 : Int) ≤ (m : Int) := by omega
      have HLT : Hid (m < n) := hlt
      clear e0 hx hb hrb hm hlt
      go_wp2_with fail
      refine (HB.out _).mono ?_
      rintro e w' ⟨rfl, rfl⟩
      clear HB
      cases rb with
      | false =>
        as_aux_lemma =>
        have HRF : Hid (r = false) := bool_not HR.out fun g => by have := HRB.out.2 (g.2 m _ HX.out).1; cases this
        go_wp2_with fail
        go_ret
        exact ⟨end_bool HRF.out.symm, rfl⟩
      | true =>
        by_cases h0 : m = 0
        · as_aux_lemma =>
          have HOK := Lib.hid (all_next (Q := RiseAt L d) HALL.out HX.out ⟨HRB.out.1 rfl, fun y hy => by omega⟩)
          have t0 : ¬ (0 : Int) < (m : Int) := by omega
          have t1 : decide ((0 : Int) < (m : Int)) = false := by simpa using t0
          clear h0
          go_wp2_with fail
          go_roundw
          case rel => exact ⟨by trivial, m + 1, HLT.out, by go_num, HOK.out⟩
          case measure => have := HLT.out; simp [intOf]; omega
        · obtain ⟨k, hk⟩ : ∃ k, m = k + 1 := ⟨m - 1, by omega⟩
          obtain ⟨y, hy⟩ : ∃ y, L[k]? = some y := ⟨_, List.getElem?_eq_getElem (by have := HN.out; have := HLT.out; omega)⟩
          have HY : Hid (L[m - 1]? = some y) := by rw [hk, Nat.add_sub_cancel]; exact hy
          obtain ⟨b', off', cap'', e0, hb, u1⟩ := HO.out.cell1 hy rfl
          obtain ⟨rfl, rfl⟩ : b' = b ∧ off' = off := by cases e0; exact ⟨rfl, rfl⟩
          have t0 : (0 : Int) < (m : Int) := by omega
          have t2 : (m : Int) - 1 = (k : Int) := by omega
          have t3 : (k : Int) < (n : Int) := by omega
          have t4 : (0 : Int) ≤ (k : Int) := by omega
          clear hy hb hk h0 e0
          by_cases hxy : x ≤ y
          · as_aux_lemma =>
            have HRF : Hid (r = false) := bool_not HR.out fun g => by have := (g.2 m _ HX.out).2 y (by omega) HY.out; omega
            go_wp2_with fail
            go_ret
            exact ⟨end_bool HRF.out.symm, rfl⟩
          · as_aux_lemma =>
            have HOK := Lib.hid (all_next (Q := RiseAt L d) HALL.out HX.out ⟨HRB.out.1 rfl, fun z _ hz => by have e := HY.out.symm.trans hz; cases e; omega⟩)
            have t5 : decide (x ≤ y) = false := by simpa using hxy
            go_wp2_with fail
            go_roundw
            case rel => exact ⟨by trivial, m + 1, HLT.out, by go_num, HOK.out⟩
            case measure => have := HLT.out; simp [intOf]; omega
    · have i1 : ¬ (m : Int) < (n : Int) := by omega
      have HRT : Hid (r = true) := HR.out.2 ⟨by have := HN.out; omega, all_done (Q := RiseAt L d) HALL.out (by have := HN.out; omega)⟩
      clear hm hlt
      go_wp2_with fail
      go_ret
      exact ⟨end_bool HRT.out.symm, rfl⟩
set_option maxRecDepth 100000 in
set_option maxHeartbeats 1000000 in
theorem apart_any (v u : Value) (A B : List Int) (r : Bool) (w : World) (h : ElsAt 1 intRow w v A) (h' : ElsAt 1 intRow w u B) (hr : r = true ↔ ApartP A B) :
    Calls Try.prog 67 #[v, u] w fun e w' => e = .returned (.bool r) ∧ w = w' := by
  have HA := Lib.hid h
  have HB := Lib.hid h'
  have HR := Lib.hid hr
  obtain ⟨a, cap, hv, hc, hm, _⟩ := h.shape
  obtain ⟨n, hn⟩ : ∃ n, n = A.length := ⟨_, rfl⟩
  rw [← hn] at hv hc
  have HN := Lib.hid hn
  have hsn : n ≤ 9223372036854775807 := Nat.le_trans hc hm
  subst hv
  obtain ⟨a', cap', hv, hc', hm', _⟩ := h'.shape
  obtain ⟨n', hn'⟩ : ∃ n, n = B.length := ⟨_, rfl⟩
  rw [← hn'] at hv hc'
  have HN' := Lib.hid hn'
  have hsn' : n' ≤ 9223372036854775807 := Nat.le_trans hc' hm'
  subst hv
  clear h h' hr hn hn' hc hm hc' hm'
  go_enter Try.func67, Try.ntmps67
  go_wp2_with fail
  go_loopw [11] (fun i wr => w = wr ∧ ∃ m : Nat, m ≤ n ∧ i = .int .i64 (m : Nat) ∧ ∀ (j : Nat) (x : Int), j < m → A[j]? = some x → ∀ (k : Nat) (y : Int), B[k]? = some y → x ≠ y) (fun i _ => n - (intOf i).toNat)
  case atStart => exact ⟨rfl, 0, Nat.zero_le _, rfl, fun j x hj => by omega⟩
  case round =>
    obtain ⟨rfl, m, hm, rfl, hall⟩ := hrel
    have HALL := Lib.hid hall
    clear hall
    by_cases hlt : m < n
    · obtain ⟨x, hx⟩ : ∃ x, A[m]? = some x := ⟨_, List.getElem?_eq_getElem (by have := HN.out; omega)⟩
      have HX := Lib.hid hx
      obtain ⟨b, off, cap1, e0, hb, u0⟩ := HA.out.cell1 hx rfl
      have ea : a = some ⟨b, off, none⟩ := by cases e0; rfl
      subst ea
      have i1 : (m : Int) < (n : Int) := by omega
      have i2 : (0 : Int) ≤ (m : Int) := by omega
      have HLT : Hid (m < n) := hlt
      clear e0 hx hb hm hlt
      go_wp2_with fail
      clear u0 i1 i2
      go_loopw [17] (fun i wr => w = wr ∧ ∃ k : Nat, k ≤ n' ∧ i = .int .i64 (k : Nat) ∧ ∀ (j : Nat) (y : Int), j < k → B[j]? = some y → x ≠ y) (fun i _ => n' - (intOf i).toNat)
      case atStart => exact ⟨rfl, 0, Nat.zero_le _, rfl, fun j x hj => by omega⟩
      case round =>
        obtain ⟨rfl, k, hk, rfl, hall⟩ := hrel
        have HAK := Lib.hid hall
        clear hall
        by_cases hlt : k < n'
        · obtain ⟨y, hy⟩ : ∃ y, B[k]? = some y := ⟨_, List.getElem?_eq_getElem (by have := HN'.out; omega)⟩
          have HY := Lib.hid hy
          obtain ⟨b', off', cap2, e0, hb, u0⟩ := HB.out.cell1 hy rfl
          have ea : a' = some ⟨b', off', none⟩ := by cases e0; rfl
          subst ea
          have i1 : (k : Int) < (n' : Int) := by omega
          have i2 : (0 : Int) ≤ (k : Int) := by omega
          have HKT : Hid (k < n') := hlt
          clear e0 hy hb hk hlt
          by_cases hxy : x = y
          · as_aux_lemma =>
            have HRF : Hid (r = false) := bool_not HR.out fun g => g m x HX.out k y HY.out hxy
            have t1 : (x == y) = true := by simp [hxy]
            clear hxy
            go_wp2_with fail
            go_ret
            exact ⟨end_bool HRF.out.symm, rfl⟩
          · as_aux_lemma =>
            have t1 : (x == y) = false := by simp [hxy]
            have HOK := Lib.hid (all_next (Q := fun _ y => x ≠ y) HAK.out HY.out hxy)
            go_wp2_with fail
            go_roundw
            case rel => exact ⟨by trivial, k + 1, HKT.out, by go_num, HOK.out⟩
            case measure => have := HKT.out; simp [intOf]; omega
        · have i1 : ¬ (k : Int) < (n' : Int) := by omega
          have HOK := Lib.hid (all_next (Q := fun _ x => ∀ (k : Nat) (y : Int), B[k]? = some y → x ≠ y) HALL.out HX.out (all_done (Q := fun _ y => x ≠ y) HAK.out (by have := HN'.out; omega)))
          clear hk hlt
          have j4 : (m : Int) < (n : Int) := by have := HLT.out; omega
          go_wp2_with fail
          go_roundw
          case rel => exact ⟨by trivial, m + 1, HLT.out, by go_num, HOK.out⟩
          case measure => have := HLT.out; simp [intOf]; omega
    · have i1 : ¬ (m : Int) < (n : Int) := by omega
      have HRT : Hid (r = true) := HR.out.2 (all_done (Q := fun _ x => ∀ (k : Nat) (y : Int), B[k]? = some y → x ≠ y) HALL.out (by have := HN.out; omega))
      clear hm hlt
      go_wp2_with fail
      go_ret
      exact ⟨end_bool HRT.out.symm, rfl⟩
set_option maxRecDepth 100000 in
set_option maxHeartbeats 1000000 in
theorem cellsMay_any (V : ObjV) (o : ObjD) (r : Bool) (w : World) (h : ObjAt w V o) (hr : r = true ↔ CesP o) :
    Calls Try.prog 56 #[.agg (ocells V o).toArray] w fun e w' => e = .returned (.bool r) ∧ Below w.heap.size w w' := by
  have HL' := Lib.hid (looks_new w V o)
  have HO := Lib.hid h
  have HR := Lib.hid hr
  obtain ⟨r1, hr1⟩ := some_bool (RiseP o.ptrs o.data)
  obtain ⟨r2, hr2⟩ := some_bool (RiseP o.procs o.data)
  obtain ⟨r3, hr3⟩ := some_bool (ApartP o.ptrs o.procs)
  have H1 := Lib.hid hr1
  have H2 := Lib.hid hr2
  have H3 := Lib.hid hr3
  clear h hr hr1 hr2 hr3
  go_enter Try.func56, Try.ntmps56
  go_upto_region 1 with fail
  generalize w.alloc (.cells (ocells V o).toArray OT) = w0 at *
  obtain ⟨ob, hob⟩ : ∃ ob, ob = w.heap.size := ⟨_, rfl⟩
  have HL : Hid (Looks w w0 ob V o) := by rw [hob]; exact HL'.out
  rw [← hob]
  clear HL' hob
  have c4 : w0.cell? ⟨ob, 4, none⟩ = some (.int .i64 o.data) := HL.out.row.cell 4
  have c9 : w0.cell? ⟨ob, 9, none⟩ = some V.p := HL.out.row.cell 9
  have c10 : w0.cell? ⟨ob, 10, none⟩ = some V.q := HL.out.row.cell 10
  have HOL := Lib.hid (HO.out.on HL.out.below)
  go_wp2_with fail
  refine (clist_any V.p o.ptrs o.data r1 _ HOL.out.ptrs H1.out).mono ?_
  rintro e w' ⟨rfl, rfl⟩
  cases r1 with
  | false =>
    have HRF : Hid (r = false) := bool_not HR.out fun g => by have := H1.out.2 g.1; cases this
    go_wp2_with fail
    go_ret
    exact ⟨end_bool HRF.out.symm, HL.out.below⟩
  | true =>
    have G1 : Hid (RiseP o.ptrs o.data) := H1.out.1 rfl
    clear H1
    go_wp2_with fail
    refine (clist_any V.q o.procs o.data r2 _ HOL.out.procs H2.out).mono ?_
    rintro e w' ⟨rfl, rfl⟩
    cases r2 with
    | false =>
      have HRF : Hid (r = false) := bool_not HR.out fun g => by have := H2.out.2 g.2.1; cases this
      go_wp2_with fail
      go_ret
      exact ⟨end_bool HRF.out.symm, HL.out.below⟩
    | true =>
      have G2 : Hid (RiseP o.procs o.data) := H2.out.1 rfl
      clear H2
      go_wp2_with fail
      refine (apart_any V.p V.q o.ptrs o.procs r3 _ HOL.out.ptrs HOL.out.procs H3.out).mono ?_
      rintro e w' ⟨rfl, rfl⟩
      have HRR : Hid (r = r3) := by
        show r = r3
        cases r3 with
        | true => exact HR.out.2 ⟨G1.out, G2.out, H3.out.1 rfl⟩
        | false => exact bool_not HR.out fun g => by have := H3.out.2 g.2.2; cases this
      go_wp2_with fail
      go_ret
      exact ⟨end_bool HRR.out.symm, HL.out.below⟩
end Go.Proofs.Ytkkjfbpflfknpaa

/-
  The program's amountsMay, cmdsMay, typesMay, exportsMay (layer 14, rules 2 to 4). No conditions.
-/
namespace Go.Proofs.Ytkkjfbpflfknpaa
open Go.ChangeShapes Go.WideShapes Go.ChangeAt Go.RowKit

set_option maxRecDepth 100000 in
set_option maxHeartbeats 1000000 in
theorem amounts_any (V : ObjV) (o : ObjD) (r : Bool) (w : World) (h : ObjAt w V o) (hr : r = true ↔ AmP o) :
    Calls Try.prog 52 #[.agg (ocells V o).toArray] w fun e w' => e = .returned (.bool r) ∧ Below w.heap.size w w' := by
  have HL' := Lib.hid (looks_new w V o)
  have HR := Lib.hid hr
  obtain ⟨r1, hr1⟩ := some_bool (0 ≤ o.data ∧ o.data ≤ 64)
  have H1 := Lib.hid hr1
  obtain ⟨a6, q6, hv6, _⟩ := h.code.shape
  obtain ⟨n6, hn6⟩ : ∃ n, n = o.code.length := ⟨_, rfl⟩
  rw [← hn6] at hv6
  have HV6 := Lib.hid hv6
  have HN6 := Lib.hid hn6
  clear h hr hr1 hv6 hn6
  go_enter Try.func52, Try.ntmps52
  go_upto_region 1 with fail
  generalize w.alloc (.cells (ocells V o).toArray OT) = w0 at *
  obtain ⟨ob, hob⟩ : ∃ ob, ob = w.heap.size := ⟨_, rfl⟩
  have HL : Hid (Looks w w0 ob V o) := by rw [hob]; exact HL'.out
  rw [← hob]
  clear HL' hob
  have c4 : w0.cell? ⟨ob, 4, none⟩ = some (.int .i64 o.data) := HL.out.row.cell 4
  have c5 : w0.cell? ⟨ob, 5, none⟩ = some (.string o.text) := HL.out.row.cell 5
  have c6 : w0.cell? ⟨ob, 6, none⟩ = some (.slice a6 n6 q6) := (HL.out.row.cell 6).trans (congrArg some HV6.out)
  go_wp2_with fail
  refine (isUpTo_any o.data 64 r1 _ H1.out).mono ?_
  rintro e w' ⟨rfl, rfl⟩
  cases r1 with
  | false =>
    have HRF : Hid (r = false) := bool_not HR.out fun g => by have := H1.out.2 g.1; cases this
    go_wp2_with fail
    go_ret
    exact ⟨end_bool HRF.out.symm, HL.out.below⟩
  | true =>
    have G1 := Lib.hid (H1.out.1 rfl)
    clear H1
    by_cases k2 : ((o.text.size : Nat) : Int) ≤ 60
    rotate_left
    · have k2' : decide (((o.text.size : Nat) : Int) ≤ 60) = false := by simpa using k2
      have HRF : Hid (r = false) := bool_not HR.out fun g => by have := g.2.1; omega
      go_wp2_with fail
      go_ret
      exact ⟨end_bool HRF.out.symm, HL.out.below⟩
    by_cases k3 : 1 ≤ (n6 : Int)
    rotate_left
    · have k3' : decide (1 ≤ (n6 : Int)) = false := by simpa using k3
      have HRF : Hid (r = false) := bool_not HR.out fun g => by have := g.2.2.1; have := HN6.out; omega
      go_wp2_with fail
      go_ret
      exact ⟨end_bool HRF.out.symm, HL.out.below⟩
    by_cases k4 : (n6 : Int) ≤ 256
    rotate_left
    · have k4' : decide ((n6 : Int) ≤ 256) = false := by simpa using k4
      have HRF : Hid (r = false) := bool_not HR.out fun g => by have := g.2.2.2; have := HN6.out; omega
      go_wp2_with fail
      go_ret
      exact ⟨end_bool HRF.out.symm, HL.out.below⟩
    have HRT : Hid (r = true) := HR.out.2 ⟨G1.out, by omega, by have := HN6.out; omega, by have := HN6.out; omega⟩
    have k4' : decide ((n6 : Int) ≤ 256) = true := by simpa using k4
    go_wp2_with fail
    go_ret
    exact ⟨end_bool HRT.out.symm, HL.out.below⟩
set_option maxRecDepth 100000 in
set_option maxHeartbeats 1000000 in
theorem cmds_any (V : ObjV) (o : ObjD) (r : Bool) (w : World) (h : ObjAt w V o) (hr : r = true ↔ CmsP o) :
    Calls Try.prog 54 #[.agg (ocells V o).toArray] w fun e w' => e = .returned (.bool r) ∧ Below w.heap.size w w' := by
  have HL' := Lib.hid (looks_new w V o)
  have HO := Lib.hid h
  have HR := Lib.hid hr
  obtain ⟨a6, q6, hv6, _⟩ := h.code.shape
  obtain ⟨n6, hn6⟩ : ∃ n, n = o.code.length := ⟨_, rfl⟩
  rw [← hn6] at hv6
  have HV6 := Lib.hid hv6
  have HN6 := Lib.hid hn6
  obtain ⟨a7, q7, hv7, hc7, hm7, _⟩ := h.cmds.shape
  obtain ⟨n7, hn7⟩ : ∃ n, n = o.cmds.length := ⟨_, rfl⟩
  rw [← hn7] at hv7 hc7
  have HV7 := Lib.hid hv7
  have HN7 := Lib.hid hn7
  have s7 : n7 ≤ 9223372036854775807 := Nat.le_trans hc7 hm7
  clear h hr hv6 hn6 hv7 hn7 hc7 hm7
  go_enter Try.func54, Try.ntmps54
  go_upto_region 1 with fail
  generalize w.alloc (.cells (ocells V o).toArray OT) = w0 at *
  obtain ⟨ob, hob⟩ : ∃ ob, ob = w.heap.size := ⟨_, rfl⟩
  have HL : Hid (Looks w w0 ob V o) := by rw [hob]; exact HL'.out
  rw [← hob]
  clear HL' hob
  have c7 : w0.cell? ⟨ob, 7, none⟩ = some (.slice a7 n7 q7) := (HL.out.row.cell 7).trans (congrArg some HV7.out)
  go_wp2_with fail
  clear c7
  go_loopw [8] (fun i wr => ∃ m : Nat, m ≤ n7 ∧ i = .int .i64 (m : Nat) ∧ Looks w wr ob V o ∧ ∀ (j : Nat) (x : ByteArray × Int), j < m → o.cmds[j]? = some x → CmAt o x) (fun i _ => n7 - (intOf i).toNat)
  case atStart => exact ⟨0, Nat.zero_le _, rfl, HL.out, fun j x hj => by omega⟩
  case round =>
    clear HL
    obtain ⟨m, hm, rfl, hL, hall⟩ := hrel
    have HL := Lib.hid hL
    have HALL := Lib.hid hall
    clear hL hall
    by_cases hlt : m < n7
    · obtain ⟨x, hx⟩ : ∃ x, o.cmds[m]? = some x := ⟨_, List.getElem?_eq_getElem (by have := HN7.out; omega)⟩
      have HX := Lib.hid hx
      obtain ⟨x1, x2⟩ := x
      obtain ⟨b, off, cap, e0, hb, p0, p1⟩ := HO.out.cmds.cell2 hx rfl
      rw [← HN7.out] at e0
      have ea : a7 = some ⟨b, off, none⟩ := by have e2 := HV7.out.symm.trans e0; cases e2; rfl
      rw [ea]
      have u0 := (HL.out.below.cell (p := ⟨b, off + m * 2, none⟩) hb).trans p0
      have u1 := (HL.out.below.cell (p := ⟨b, off + m * 2 + 1, none⟩) hb).trans p1
      have i1 : (m : Int) < (n7 : Int) := by omega
      have i2 : (0 : Int) ≤ (m : Int) := by omega
      have HLT : Hid (m < n7) := hlt
      have RUN := Lib.hid (box_el wr CmT 2 [.string ⟨#[]⟩, .int .i64 0] [.string x1, .int .i64 x2] rfl rfl (ones_cmd (x1, x2)) size_cm)
      have HL1 : Hid (Looks w (wr.alloc (.cells #[.string x1, .int .i64 x2] CmT)) ob V o) := HL.out.on3 ((Below.refl _ _).alloc (Nat.le_refl _) _)
      have HR1 : Hid (RowAt (wr.alloc (.cells #[.string x1, .int .i64 x2] CmT)) wr.heap.size CmT [.string x1, .int .i64 x2]) := RowAt.new wr CmT _
      obtain ⟨rb, hrb⟩ := some_bool (0 ≤ x2 ∧ x2 < (n6 : Int))
      have HRB := Lib.hid hrb
      clear e0 ea hb p0 p1 hx hm hlt HL hrb
      go_upto_region 4 with (refine wpList_store_run _ rfl _ _ _ rfl _ _ rfl rfl (by exact RUN.out) ?_)
      generalize wr.alloc (.cells #[.string x1, .int .i64 x2] CmT) = w1 at *
      generalize wr.heap.size = tb at *
      clear u0 u1 RUN
      have d1 : w1.cell? ⟨tb, 1, none⟩ = some (.int .i64 x2) := HR1.out.cell 1
      have c6 : w1.cell? ⟨ob, 6, none⟩ = some (.slice a6 n6 q6) := (HL1.out.row.cell 6).trans (congrArg some HV6.out)
      clear HR1
      go_wp2_with fail
      refine (isBelow_any x2 n6 rb _ HRB.out).mono ?_
      rintro e w' ⟨rfl, rfl⟩
      cases rb with
      | false =>
        as_aux_lemma =>
        have HRF : Hid (r = false) := bool_not HR.out fun g => by have := HRB.out.2 (by have := HN6.out; rw [this]; exact g m _ HX.out); cases this
        go_wp2_with fail
        go_ret
        exact ⟨end_bool HRF.out.symm, HL1.out.below⟩
      | true =>
        as_aux_lemma =>
        have HOK := Lib.hid (all_next (Q := fun _ x => CmAt o x) HALL.out HX.out (by have := HRB.out.1 rfl; rw [HN6.out] at this; exact this))
        go_wp2_with fail
        go_roundw
        case rel => exact ⟨m + 1, HLT.out, by go_num, HL1.out, HOK.out⟩
        case measure => have := HLT.out; simp [intOf]; omega
    · have i1 : ¬ (m : Int) < (n7 : Int) := by omega
      have HRT : Hid (r = true) := HR.out.2 (all_done (Q := fun _ x => CmAt o x) HALL.out (by have := HN7.out; omega))
      clear hm hlt
      go_wp2_with fail
      go_ret
      exact ⟨end_bool HRT.out.symm, HL.out.below⟩
set_option maxRecDepth 100000 in
set_option maxHeartbeats 2000000 in
theorem types_any (V : ObjV) (o : ObjD) (r : Bool) (w : World) (h : ObjAt w V o) (hr : r = true ↔ TysP o) :
    Calls Try.prog 53 #[.agg (ocells V o).toArray] w fun e w' => e = .returned (.bool r) ∧ Below w.heap.size w w' := by
  have HL' := Lib.hid (looks_new w V o)
  have HO := Lib.hid h
  have HR := Lib.hid hr
  obtain ⟨a2, q2, hv2, _⟩ := h.imps.shape
  obtain ⟨n2, hn2⟩ : ∃ n, n = o.imps.length := ⟨_, rfl⟩
  rw [← hn2] at hv2
  have HV2 := Lib.hid hv2
  have HN2 := Lib.hid hn2
  obtain ⟨a3, q3, hv3, _⟩ := h.types.shape
  obtain ⟨n3, hn3⟩ : ∃ n, n = o.types.length := ⟨_, rfl⟩
  rw [← hn3] at hv3
  have HV3 := Lib.hid hv3
  have HN3 := Lib.hid hn3
  clear h hr hv2 hn2 hv3 hn3
  go_enter Try.func53, Try.ntmps53
  go_upto_region 1 with fail
  generalize w.alloc (.cells (ocells V o).toArray OT) = w0 at *
  obtain ⟨ob, hob⟩ : ∃ ob, ob = w.heap.size := ⟨_, rfl⟩
  have HL : Hid (Looks w w0 ob V o) := by rw [hob]; exact HL'.out
  rw [← hob]
  clear HL' hob
  have c3 : w0.cell? ⟨ob, 3, none⟩ = some (.slice a3 n3 q3) := (HL.out.row.cell 3).trans (congrArg some HV3.out)
  by_cases h8 : 8 < (n3 : Int)
  · have HRF : Hid (r = false) := bool_not HR.out fun g => by have := g.1; have := HN3.out; omega
    go_wp2_with fail
    go_ret
    exact ⟨end_bool HRF.out.symm, HL.out.below⟩
  have s8 : n3 ≤ 8 := by omega
  go_wp2_with fail
  clear c3 h8
  go_loopw [12] (fun i wr => ∃ m : Nat, m ≤ n3 ∧ i = .int .i64 (m : Nat) ∧ Looks w wr ob V o ∧ ∀ (j : Nat) (x : Int × Int × Int), j < m → o.types[j]? = some x → TypeOk o j x) (fun i _ => n3 - (intOf i).toNat)
  case atStart => exact ⟨0, Nat.zero_le _, rfl, HL.out, fun j x hj => by omega⟩
  case round =>
    clear HL
    obtain ⟨m, hm, rfl, hL, hall⟩ := hrel
    have HL := Lib.hid hL
    have HALL := Lib.hid hall
    clear hL hall
    by_cases hlt : m < n3
    · obtain ⟨x, hx⟩ : ∃ x, o.types[m]? = some x := ⟨_, List.getElem?_eq_getElem (by have := HN3.out; omega)⟩
      have HX := Lib.hid hx
      have HTK := Lib.hid (base_ok (o := o) (i := m) (x := x) (by omega))
      obtain ⟨x1, x2, x3⟩ := x
      obtain ⟨b, off, cap, e0, hb, p0, p1, p2⟩ := HO.out.types.cell3 hx rfl
      rw [← HN3.out] at e0
      have ea : a3 = some ⟨b, off, none⟩ := by have e2 := HV3.out.symm.trans e0; cases e2; rfl
      rw [ea]
      have u0 := (HL.out.below.cell (p := ⟨b, off + m * 3, none⟩) hb).trans p0
      have u1 := (HL.out.below.cell (p := ⟨b, off + m * 3 + 1, none⟩) hb).trans p1
      have u2 := (HL.out.below.cell (p := ⟨b, off + m * 3 + 2, none⟩) hb).trans p2
      have i1 : (m : Int) < (n3 : Int) := by omega
      have i2 : (0 : Int) ≤ (m : Int) := by omega
      have HLT : Hid (m < n3) := hlt
      have RUN := Lib.hid (box_el wr TyT 3 [.int .i64 0, .int .i64 0, .int .i64 0] [.int .i64 x1, .int .i64 x2, .int .i64 x3] rfl rfl (ones_type (x1, x2, x3)) size_ty)
      have HL1 : Hid (Looks w (wr.alloc (.cells #[.int .i64 x1, .int .i64 x2, .int .i64 x3] TyT)) ob V o) := HL.out.on3 ((Below.refl _ _).alloc (Nat.le_refl _) _)
      have HR1 : Hid (RowAt (wr.alloc (.cells #[.int .i64 x1, .int .i64 x2, .int .i64 x3] TyT)) wr.heap.size TyT [.int .i64 x1, .int .i64 x2, .int .i64 x3]) := RowAt.new wr TyT _
      obtain ⟨rb, hrb⟩ := some_bool (0 ≤ x1 ∧ x1 ≤ 256)
      have HRB := Lib.hid hrb
      clear e0 ea hb p0 p1 p2 hx hm hlt HL hrb
      go_upto_region 6 with (refine wpList_store_run _ rfl _ _ _ rfl _ _ rfl rfl (by exact RUN.out) ?_)
      generalize wr.alloc (.cells #[.int .i64 x1, .int .i64 x2, .int .i64 x3] TyT) = w1 at *
      generalize wr.heap.size = tb at *
      clear u0 u1 u2 RUN
      have HR2 := HR1
      have d0 : w1.cell? ⟨tb, 0, none⟩ = some (.int .i64 x1) := HR1.out.cell 0
      have d1 : w1.cell? ⟨tb, 1, none⟩ = some (.int .i64 x2) := HR1.out.cell 1
      have d2 : w1.cell? ⟨tb, 2, none⟩ = some (.int .i64 x3) := HR1.out.cell 2
      have c2 : w1.cell? ⟨ob, 2, none⟩ = some (.slice a2 n2 q2) := (HL1.out.row.cell 2).trans (congrArg some HV2.out)
      clear HR1
      go_wp2_with fail
      refine (isUpTo_any x1 256 rb _ HRB.out).mono ?_
      rintro e w' ⟨rfl, rfl⟩
      cases rb with
      | false =>
        as_aux_lemma =>
        have HRF : Hid (r = false) := bool_not HR.out fun g => by have := HRB.out.2 (HTK.out.1 (g.2 m _ HX.out)).1; cases this
        go_wp2_with fail
        go_ret
        exact ⟨end_bool HRF.out.symm, HL1.out.below⟩
      | true =>
        have G1 := Lib.hid (HRB.out.1 rfl)
        clear HRB
        by_cases k2 : ¬ x1 % 4 = 0
        · as_aux_lemma =>
          have t1 : ¬ x1.tmod 4 = 0 := by rw [Int.tmod_eq_emod_of_nonneg G1.out.1]; exact k2
          have t2 : (x1.tmod 4 == 0) = false := by simp [t1]
          have HRF : Hid (r = false) := bool_not HR.out fun g => k2 (HTK.out.1 (g.2 m _ HX.out)).2.1
          clear k2
          go_wp2_with fail
          go_ret
          exact ⟨end_bool HRF.out.symm, HL1.out.below⟩
        have t1 : x1.tmod 4 = 0 := by rw [Int.tmod_eq_emod_of_nonneg G1.out.1]; omega
        have G2 : Hid (x1 % 4 = 0) := by show x1 % 4 = 0; omega
        clear k2
        obtain ⟨rc, hrc⟩ := some_bool (BaseP (x1, x2, x3) m n2)
        have HRC := Lib.hid hrc
        clear hrc
        go_wp2_with (refine wpList_load_row rfl _ _ rfl tb rfl TyT #[.int .i64 x1, .int .i64 x2, .int .i64 x3] (0, 0) _ HR2.out Try.underlying69 rfl (by rw [size_ty]; rfl) ?_)
        refine (base_any x1 x2 x3 m n2 rc _ HRC.out).mono ?_
        rintro e w2 ⟨rfl, hb2⟩
        have HL2 := Lib.hid (HL1.out.on3 hb2)
        clear hb2 HR2 HL1
        cases rc with
        | false =>
          as_aux_lemma =>
          have HRF : Hid (r = false) := bool_not HR.out fun g => by have := HRC.out.2 (by rw [HN2.out]; exact (HTK.out.1 (g.2 m _ HX.out)).2.2); cases this
          go_wp2_with fail
          go_ret
          exact ⟨end_bool HRF.out.symm, HL2.out.below⟩
        | true =>
          as_aux_lemma =>
          have HOK := Lib.hid (all_next (Q := TypeOk o) HALL.out HX.out (HTK.out.2 ⟨G1.out, G2.out, by rw [← HN2.out]; exact HRC.out.1 rfl⟩))
          go_wp2_with fail
          go_roundw
          case rel => exact ⟨m + 1, HLT.out, by go_num, HL2.out, HOK.out⟩
          case measure => have := HLT.out; simp [intOf]; omega
    · have i1 : ¬ (m : Int) < (n3 : Int) := by omega
      have HRT : Hid (r = true) := HR.out.2 ⟨by have := HN3.out; omega, all_done (Q := TypeOk o) HALL.out (by have := HN3.out; omega)⟩
      clear hm hlt
      go_wp2_with fail
      go_ret
      exact ⟨end_bool HRT.out.symm, HL.out.below⟩
set_option maxRecDepth 100000 in
set_option maxHeartbeats 2000000 in
theorem exports_any (V : ObjV) (o : ObjD) (r : Bool) (w : World) (h : ObjAt w V o) (hr : r = true ↔ ExsP o) :
    Calls Try.prog 55 #[.agg (ocells V o).toArray] w fun e w' => e = .returned (.bool r) ∧ Below w.heap.size w w' := by
  have HL' := Lib.hid (looks_new w V o)
  have HO := Lib.hid h
  have HR := Lib.hid hr
  obtain ⟨a8, q8, hv8, _⟩ := h.exps.shape
  obtain ⟨n8, hn8⟩ : ∃ n, n = o.exps.length := ⟨_, rfl⟩
  rw [← hn8] at hv8
  have HV8 := Lib.hid hv8
  have HN8 := Lib.hid hn8
  clear h hr hv8 hn8
  go_enter Try.func55, Try.ntmps55
  go_upto_region 1 with fail
  generalize w.alloc (.cells (ocells V o).toArray OT) = w0 at *
  obtain ⟨ob, hob⟩ : ∃ ob, ob = w.heap.size := ⟨_, rfl⟩
  have HL : Hid (Looks w w0 ob V o) := by rw [hob]; exact HL'.out
  rw [← hob]
  clear HL' hob
  have c8 : w0.cell? ⟨ob, 8, none⟩ = some (.slice a8 n8 q8) := (HL.out.row.cell 8).trans (congrArg some HV8.out)
  by_cases h8 : 64 < (n8 : Int)
  · have HRF : Hid (r = false) := bool_not HR.out fun g => by have := g.1; have := HN8.out; omega
    go_wp2_with fail
    go_ret
    exact ⟨end_bool HRF.out.symm, HL.out.below⟩
  have s8 : n8 ≤ 64 := by omega
  go_wp2_with fail
  clear c8 h8
  go_loopw [12] (fun i wr => ∃ m : Nat, m ≤ n8 ∧ i = .int .i64 (m : Nat) ∧ Looks w wr ob V o ∧ ∀ (j : Nat) (x : Int × Int), j < m → o.exps[j]? = some x → ExpOk o x) (fun i _ => n8 - (intOf i).toNat)
  case atStart => exact ⟨0, Nat.zero_le _, rfl, HL.out, fun j x hj => by omega⟩
  case round =>
    clear HL
    obtain ⟨m, hm, rfl, hL, hall⟩ := hrel
    have HL := Lib.hid hL
    have HALL := Lib.hid hall
    clear hL hall
    by_cases hlt : m < n8
    · obtain ⟨x, hx⟩ : ∃ x, o.exps[m]? = some x := ⟨_, List.getElem?_eq_getElem (by have := HN8.out; omega)⟩
      have HX := Lib.hid hx
      obtain ⟨x1, x2⟩ := x
      obtain ⟨b, off, cap, e0, hb, p0, p1⟩ := HO.out.exps.cell2 hx rfl
      rw [← HN8.out] at e0
      have ea : a8 = some ⟨b, off, none⟩ := by have e2 := HV8.out.symm.trans e0; cases e2; rfl
      rw [ea]
      have u0 := (HL.out.below.cell (p := ⟨b, off + m * 2, none⟩) hb).trans p0
      have u1 := (HL.out.below.cell (p := ⟨b, off + m * 2 + 1, none⟩) hb).trans p1
      have i1 : (m : Int) < (n8 : Int) := by omega
      have i2 : (0 : Int) ≤ (m : Int) := by omega
      have HLT : Hid (m < n8) := hlt
      have RUN := Lib.hid (box_el wr ExT 2 [.int .i64 0, .int .i64 0] [.int .i64 x1, .int .i64 x2] rfl rfl (ones_exp (x1, x2)) size_ex)
      have HL1 : Hid (Looks w (wr.alloc (.cells #[.int .i64 x1, .int .i64 x2] ExT)) ob V o) := HL.out.on3 ((Below.refl _ _).alloc (Nat.le_refl _) _)
      have HR1 : Hid (RowAt (wr.alloc (.cells #[.int .i64 x1, .int .i64 x2] ExT)) wr.heap.size ExT [.int .i64 x1, .int .i64 x2]) := RowAt.new wr ExT _
      obtain ⟨pv, hpv⟩ : ∃ p, p = placesV o x1 := ⟨_, rfl⟩
      have HPV := Lib.hid hpv
      have HPL : Hid (∀ w' : World, Below w.heap.size w w' → Calls Try.prog 65 #[.agg (ocells V o).toArray, .int .i64 x1] w' fun e w'' => e = .returned (.int .i64 pv) ∧ Below w'.heap.size w' w'') := fun w' hb => by
        rw [hpv]
        exact places_any V o x1 w' (HO.out.on hb)
      obtain ⟨rb, hrb⟩ := some_bool (0 ≤ x2 ∧ x2 < pv)
      have HRB := Lib.hid hrb
      have HBL := Lib.hid (fun w => isBelow_any x2 pv rb w hrb)
      clear e0 ea hb p0 p1 hx hm hlt HL hrb hpv
      go_upto_region 6 with (refine wpList_store_run _ rfl _ _ _ rfl _ _ rfl rfl (by exact RUN.out) ?_)
      generalize wr.alloc (.cells #[.int .i64 x1, .int .i64 x2] ExT) = w1 at *
      generalize wr.heap.size = tb at *
      clear u0 u1 RUN
      go_wp2_with fail
      refine wp_region_held_drew (S := fun w' => RowAt w' tb ExT [.int .i64 x1, .int .i64 x2] ∧ Looks w w' ob V o) (by kernel_rfl) ?_ (fun hHeld => ?_)
      · exact ⟨HR1.out.keep (Kept.of_below (S := fun _ => False) ((Drawn.of_n w1 1).below _)) (fun e => e), HL1.out.on3 ((Drawn.of_n w1 1).below _)⟩
      refine wpAnyH_take (i := 0) (v := ?_) rfl (by kernel_rfl) (by kernel_rfl) (by kernel_rfl) (fun _ _ _ h => h) (Or.inl ⟨by rfl, ?_⟩) (by assumption) ?_
      rotate_left
      · intro w hSw
        (try dsimp only at hSw)
        go_simp
        (try with_reducible rfl)
      try simp only [Act.put, List.getElem_toArray, List.getElem_cons_zero, List.setIfInBounds_toArray, List.set_cons_zero, List.set_cons_succ]
      refine wpAnyH_take (i := 1) (v := ?_) rfl (by kernel_rfl) (by kernel_rfl) (by kernel_rfl) (fun _ _ _ h => h) (Or.inl ⟨by rfl, ?_⟩) (by assumption) ?_
      rotate_left
      · intro w hSw
        have d1 := hSw.1.cell 1
        (try dsimp only at hSw)
        go_simp
        (try with_reducible rfl)
      try simp only [Act.put, List.getElem_toArray, List.getElem_cons_zero, List.getElem_cons_succ, List.setIfInBounds_toArray, List.set_cons_zero, List.set_cons_succ]
      refine wpAnyH_take (i := 2) (v := _) rfl (by kernel_rfl) (by kernel_rfl) (by kernel_rfl) (fun _ _ _ h => h) (yieldsIf_load_mid (by rfl) _ _ rfl _ _ rfl _ _ (fun w hSw => hSw.2.row.rangeC) (Try.underlying48) rfl (by rw [size_ob]; rfl)) (by assumption) ?_
      try simp only [Act.put, List.getElem_toArray, List.getElem_cons_zero, List.getElem_cons_succ, List.setIfInBounds_toArray, List.set_cons_zero, List.set_cons_succ]
      refine wpAnyH_take (i := 3) (v := ?_) rfl (by kernel_rfl) (by kernel_rfl) (by kernel_rfl) (fun _ _ _ h => h) (Or.inl ⟨by rfl, ?_⟩) (by assumption) ?_
      rotate_left
      · intro w hSw
        (try dsimp only at hSw)
        go_simp
        (try with_reducible rfl)
      try simp only [Act.put, List.getElem_toArray, List.getElem_cons_zero, List.getElem_cons_succ, List.setIfInBounds_toArray, List.set_cons_zero, List.set_cons_succ]
      refine wpAnyH_take (i := 4) (v := ?_) rfl (by kernel_rfl) (by kernel_rfl) (by kernel_rfl) (fun _ _ _ h => h) (Or.inl ⟨by rfl, ?_⟩) (by assumption) ?_
      rotate_left
      · intro w hSw
        have d0 := hSw.1.cell 0
        (try dsimp only at hSw)
        go_simp
        (try with_reducible rfl)
      try simp only [Act.put, List.getElem_toArray, List.getElem_cons_zero, List.getElem_cons_succ, List.setIfInBounds_toArray, List.set_cons_zero, List.set_cons_succ]
      refine wpAnyH_ready (rs := [5]) (by kernel_rfl) (by simp) ?_
      refine AllReadyH.cons rfl (fun K hK => ?_) AllReadyH.nil
      go_simp
      refine (HPL.out _ hHeld.2.below).mono ?_
      rintro e w2 ⟨rfl, hb2⟩
      first | show K _ _ | go_wp2_with fail
      refine hK.out _ _ ?_ (fun hHeld1 => ?_)
      · exact ⟨hHeld.1.keep (Kept.of_below (S := fun _ => False) hb2) (fun e => e), hHeld.2.on3 hb2⟩
      clear hK K
      try simp only [Act.put, List.getElem_toArray, List.getElem_cons_zero, List.getElem_cons_succ, List.setIfInBounds_toArray, List.set_cons_zero, List.set_cons_succ]
      refine wpAnyH_ready (rs := [6]) (by kernel_rfl) (by simp) ?_
      refine AllReadyH.cons rfl (fun K hK => ?_) AllReadyH.nil
      go_simp
      refine (HBL.out _).mono ?_
      rintro e w3 ⟨rfl, rfl⟩
      first | show K _ _ | go_wp2_with fail
      refine hK.out _ _ ?_ (fun hHeld2 => ?_)
      · exact hHeld1
      clear hK K
      try simp only [Act.put, List.getElem_toArray, List.getElem_cons_zero, List.getElem_cons_succ, List.setIfInBounds_toArray, List.set_cons_zero, List.set_cons_succ]
      refine wpAnyH_take (i := 7) (v := ?_) rfl (by kernel_rfl) (by kernel_rfl) (by kernel_rfl) (fun _ _ _ h => h) (Or.inl ⟨by rfl, ?_⟩) (by assumption) ?_
      rotate_left
      · intro w hSw
        (try dsimp only at hSw)
        go_simp
        (try with_reducible rfl)
      try simp only [Act.put, List.getElem_toArray, List.getElem_cons_zero, List.getElem_cons_succ, List.setIfInBounds_toArray, List.set_cons_zero, List.set_cons_succ]
      refine wpAnyH_done (by kernel_rfl) ?_ _
      have HL2 := Lib.hid hHeld2.2
      clear hHeld hHeld1 hHeld2 hb2 HR1 HL1
      cases rb with
      | false =>
        as_aux_lemma =>
        have HRF : Hid (r = false) := bool_not HR.out fun g => by have := HRB.out.2 (by rw [HPV.out]; exact exp_ok.1 (g.2 m _ HX.out)); cases this
        go_wp2_with fail
        go_ret
        exact ⟨end_bool HRF.out.symm, HL2.out.below⟩
      | true =>
        as_aux_lemma =>
        have HOK := Lib.hid (all_next (Q := fun _ x => ExpOk o x) HALL.out HX.out (exp_ok.2 (by have := HRB.out.1 rfl; rw [HPV.out] at this; exact this)))
        go_wp2_with fail
        go_roundw
        case rel => exact ⟨m + 1, HLT.out, by go_num, HL2.out, HOK.out⟩
        case measure => have := HLT.out; simp [intOf]; omega
    · have i1 : ¬ (m : Int) < (n8 : Int) := by omega
      have HRT : Hid (r = true) := HR.out.2 ⟨by have := HN8.out; omega, all_done (Q := fun _ x => ExpOk o x) HALL.out (by have := HN8.out; omega)⟩
      clear hm hlt
      go_wp2_with fail
      go_ret
      exact ⟨end_bool HRT.out.symm, HL.out.below⟩
end Go.Proofs.Ytkkjfbpflfknpaa

/-
  The program's areNames, namesMay (layer 14, rule 1). No conditions.
-/
namespace Go.Proofs.Ytkkjfbpflfknpaa
open Go.ChangeShapes Go.WideShapes Go.ChangeAt Go.RowKit

set_option maxRecDepth 100000 in
set_option maxHeartbeats 1000000 in
theorem areNames_any (v : Value) (L : List ByteArray) (r : Bool) (w : World) (h : ElsAt 1 sRow w v L) (hr : r = true ↔ NmsP L) :
    Calls Try.prog 62 #[v] w fun e w' => e = .returned (.bool r) ∧ w = w' := by
  have HO := Lib.hid h
  have HR := Lib.hid hr
  obtain ⟨a, cap, hv, hc, hm, _⟩ := h.shape
  obtain ⟨n, hn⟩ : ∃ n, n = L.length := ⟨_, rfl⟩
  rw [← hn] at hv hc
  have HN := Lib.hid hn
  have hsn : n ≤ 9223372036854775807 := Nat.le_trans hc hm
  have HCAP : Hid (n ≤ cap) := hc
  subst hv
  clear h hr hn hc hm
  go_enter Try.func62, Try.ntmps62
  go_wp2_with fail
  go_loopw [9] (fun i wr => w = wr ∧ ∃ m : Nat, m ≤ n ∧ i = .int .i64 (m : Nat) ∧ ∀ (j : Nat) (x : ByteArray), j < m → L[j]? = some x → NmAt L j x) (fun i _ => n - (intOf i).toNat)
  case atStart => exact ⟨rfl, 0, Nat.zero_le _, rfl, fun j x hj => by omega⟩
  case round =>
    obtain ⟨rfl, m, hm, rfl, hall⟩ := hrel
    have HALL := Lib.hid hall
    clear hall
    by_cases hlt : m < n
    · obtain ⟨x, hx⟩ : ∃ x, L[m]? = some x := ⟨_, List.getElem?_eq_getElem (by have := HN.out; omega)⟩
      have HX := Lib.hid hx
      obtain ⟨b, off, cap', e0, hb, u0⟩ := HO.out.cell1 hx rfl
      have ea : a = some ⟨b, off, none⟩ := by cases e0; rfl
      subst ea
      have i1 : (m : Int) < (n : Int) := by omega
      have i2 : (0 : Int) ≤ (m : Int) := by omega
      have i3 : (m : Int) ≤ (cap : Int) := by have := HCAP.out; omega
      have HLT : Hid (m < n) := hlt
      clear e0 hx hb hm hlt
      by_cases hnm : NameP x
      rotate_left
      · as_aux_lemma =>
        have HC := Lib.hid (fun w => nm_no x w hnm)
        have HRF : Hid (r = false) := bool_not HR.out fun g => hnm (g m _ HX.out).1
        clear hnm
        go_wp2_with fail
        refine (HC.out _).mono ?_
        rintro e w' ⟨rfl, rfl⟩
        go_wp2_with fail
        go_ret
        exact ⟨end_bool HRF.out.symm, rfl⟩
      have HC := Lib.hid (fun w => nm_yes x w hnm)
      have HNP := Lib.hid hnm
      clear hnm
      go_wp2_with fail
      refine (HC.out _).mono ?_
      rintro e w' ⟨rfl, rfl⟩
      clear HC
      go_wp2_with fail
      clear u0
      go_loopw [21] (fun i wr => w = wr ∧ ∃ k : Nat, k ≤ m ∧ i = .int .i64 (k : Nat) ∧ ∀ (j : Nat) (y : ByteArray), j < k → L[j]? = some y → y ≠ x) (fun i _ => m - (intOf i).toNat)
      case atStart => exact ⟨rfl, 0, Nat.zero_le _, rfl, fun j x hj => by omega⟩
      case round =>
        obtain ⟨rfl, k, hk, rfl, hall⟩ := hrel
        have HAK := Lib.hid hall
        clear hall
        by_cases hlt : k < m
        · obtain ⟨y, hy⟩ : ∃ y, L[k]? = some y := ⟨_, List.getElem?_eq_getElem (by have := HN.out; have := HLT.out; omega)⟩
          have HY := Lib.hid hy
          obtain ⟨b', off', cap2, e0, hb, u0⟩ := HO.out.cell1 hy rfl
          obtain ⟨rfl, rfl⟩ : b' = b ∧ off' = off := by cases e0; exact ⟨rfl, rfl⟩
          have j1 : (k : Int) < (m : Int) := by omega
          have j2 : (0 : Int) ≤ (k : Int) := by omega
          have HKT : Hid (k < m) := hlt
          clear e0 hy hb hk hlt
          by_cases hxy : y = x
          · as_aux_lemma =>
            have HRF : Hid (r = false) := bool_not HR.out fun g => (g m x HX.out).2 k y HKT.out HY.out hxy
            have t1 : (y.toList == x.toList) = true := by rw [hxy]; simp
            clear hxy
            go_wp2_with fail
            go_ret
            exact ⟨end_bool HRF.out.symm, rfl⟩
          · as_aux_lemma =>
            have t1 := str_ne hxy
            have t2 := str_nq hxy
            have HOK := Lib.hid (all_next (Q := fun _ y => y ≠ x) HAK.out HY.out hxy)
            clear hxy
            go_wp2_with fail
            go_roundw
            case rel => exact ⟨by trivial, k + 1, HKT.out, by go_num, HOK.out⟩
            case measure => have := HKT.out; simp [intOf]; omega
        · have j1 : ¬ (k : Int) < (m : Int) := by omega
          have HK : Hid (k = m) := by show k = m; omega
          have HOK := Lib.hid (all_next (Q := NmAt L) HALL.out HX.out ⟨HNP.out, fun j y hj hy => HAK.out j y (by have := HK.out; omega) hy⟩)
          clear hk hlt
          go_wp2_with fail
          go_roundw
          case rel => exact ⟨by trivial, m + 1, HLT.out, by go_num, HOK.out⟩
          case measure => have := HLT.out; simp [intOf]; omega
    · have i1 : ¬ (m : Int) < (n : Int) := by omega
      have HRT : Hid (r = true) := HR.out.2 (all_done (Q := NmAt L) HALL.out (by have := HN.out; omega))
      clear hm hlt
      go_wp2_with fail
      go_ret
      exact ⟨end_bool HRT.out.symm, rfl⟩

/- rows of different types are different blocks -/
theorem SRow.notIn {t T : TypeId} {k ob : Nat} {w : World} {v : Value} {n : Nat} {cs ds : List Value} (h : SRow t k w v n cs) (ho : RowAt w ob T ds) (ht : t ≠ T) : ¬ own v ob := by
  rcases h.is with ⟨rfl, h0⟩ | ⟨b, cap, rest, rfl, hr, _⟩
  · exact fun hj => hj.elim
  · intro hj
    have e1 : ob = b := hj
    subst e1
    have := hr.symm.trans ho
    simp at this
    exact ht this.2
/- while names are laid side by side: the object, the names so far -/
structure Nam (w wr : World) (ob : Nat) (V : ObjV) (o : ObjD) (v : Value) (L : List ByteArray) : Prop where
  look : Looks w wr ob V o
  row : SRow StT 1 wr v L.length (rows sRow L)
  fresh : ∀ j, own v j → w.heap.size ≤ j
theorem Nam.on {w wr w' : World} {ob : Nat} {V : ObjV} {o : ObjD} {v : Value} {L : List ByteArray} (h : Nam w wr ob V o v L) (hb : Below wr.heap.size wr w') : Nam w w' ob V o v L :=
  ⟨h.look.on3 hb, h.row.keep (Kept.of_below (S := fun _ => False) hb) (fun _ _ e => e), h.fresh⟩
theorem Nam.one {w wr : World} {ob : Nat} {V : ObjV} {o : ObjD} (h : Looks w wr ob V o) (s : ByteArray) : Nam w (wr.alloc (.cells #[.string s] StT)) ob V o (.slice (some ⟨wr.heap.size, 0, none⟩) 1 1) [s] := by
  refine ⟨h.on3 ((Below.refl _ _).alloc (Nat.le_refl _) _), ⟨.inr ⟨wr.heap.size, 1, [], rfl, RowAt.new wr StT [.string s], rfl, Nat.le_refl _, by decide⟩, rfl, sRow_one s⟩, fun j hj => ?_⟩
  have e : j = wr.heap.size := hj
  subst e
  exact h.below.size
theorem Nam.none {w wr : World} {ob : Nat} {V : ObjV} {o : ObjD} (h : Looks w wr ob V o) : Nam w wr ob V o (.slice none 0 0) [] := ⟨h, SRow.nil _ _ _, fun _ hj => hj.elim⟩
theorem Nam.more {w wr w' : World} {ob : Nat} {V : ObjV} {o : ObjD} {v v' : Value} {L : List ByteArray} {s : ByteArray} (h : Nam w wr ob V o v L) (h1 : SRow StT 1 w' v' (L ++ [s]).length (rows sRow (L ++ [s]))) (g : Grew wr w' v v') : Nam w w' ob V o v' (L ++ [s]) := by
  refine ⟨⟨h.look.row.keep g.1 (h.row.notIn h.look.row (by decide)), g.1.below h.look.below h.look.below.size fun j _ hj => h.fresh j hj⟩, h1, fun j hj => ?_⟩
  rcases g.2 j hj with e | e
  · exact h.fresh j e
  · exact Nat.le_trans h.look.below.size e
set_option maxRecDepth 100000 in
set_option maxHeartbeats 2000000 in
theorem namesMay_any (V : ObjV) (o : ObjD) (r : Bool) (w : World) (h : ObjAt w V o) (hr : r = true ↔ NamesQ o) :
    Calls Try.prog 51 #[.agg (ocells V o).toArray] w fun e w' => e = .returned (.bool r) ∧ Below w.heap.size w w' := by
  have HL' := Lib.hid (looks_new w V o)
  have HO := Lib.hid h
  have HR := Lib.hid hr
  obtain ⟨a2, q2, hv2, _⟩ := h.imps.shape
  obtain ⟨n2, hn2⟩ : ∃ n, n = o.imps.length := ⟨_, rfl⟩
  rw [← hn2] at hv2
  have HV2 := Lib.hid hv2
  have HN2 := Lib.hid hn2
  obtain ⟨a7, q7, hv7, _⟩ := h.cmds.shape
  obtain ⟨n7, hn7⟩ : ∃ n, n = o.cmds.length := ⟨_, rfl⟩
  rw [← hn7] at hv7
  have HV7 := Lib.hid hv7
  have HN7 := Lib.hid hn7
  clear h hr hv2 hn2 hv7 hn7
  go_enter Try.func51, Try.ntmps51
  go_upto_region 1 with fail
  generalize w.alloc (.cells (ocells V o).toArray OT) = w0 at *
  obtain ⟨ob, hob⟩ : ∃ ob, ob = w.heap.size := ⟨_, rfl⟩
  have HL : Hid (Looks w w0 ob V o) := by rw [hob]; exact HL'.out
  rw [← hob]
  clear HL' hob
  have c2 : w0.cell? ⟨ob, 2, none⟩ = some (.slice a2 n2 q2) := (HL.out.row.cell 2).trans (congrArg some HV2.out)
  have c7 : w0.cell? ⟨ob, 7, none⟩ = some (.slice a7 n7 q7) := (HL.out.row.cell 7).trans (congrArg some HV7.out)
  by_cases h2 : 8 < (n2 : Int)
  · as_aux_lemma =>
    have HRF : Hid (r = false) := bool_not HR.out fun g => by have := g.1.1; have := HN2.out; omega
    go_wp2_with fail
    go_ret
    exact ⟨end_bool HRF.out.symm, HL.out.below⟩
  by_cases h7 : 8 < (n7 : Int)
  · as_aux_lemma =>
    have HRF : Hid (r = false) := bool_not HR.out fun g => by have := g.1.2; have := HN7.out; omega
    have h7' : decide (8 < (n7 : Int)) = true := by simpa using h7
    go_wp2_with fail
    go_ret
    exact ⟨end_bool HRF.out.symm, HL.out.below⟩
  have s2 : n2 ≤ 8 := by omega
  have s7 : n7 ≤ 8 := by omega
  have h7' : decide (8 < (n7 : Int)) = false := by simpa using h7
  have c0 : w0.cell? ⟨ob, 0, none⟩ = some (.string o.name) := HL.out.row.cell 0
  have HM0 := Lib.hid (Nam.one HL.out o.name)
  have c2' := (HM0.out.look.row.cell 2).trans (congrArg some HV2.out)
  obtain ⟨r1, hr1⟩ := some_bool (NmsP (o.name :: o.imps.map (·.1)))
  obtain ⟨r2, hr2⟩ := some_bool (NmsP (o.cmds.map (·.1)))
  have H1 := Lib.hid hr1
  have H2 := Lib.hid hr2
  have HS : Hid (o.imps.length ≤ 8 ∧ o.cmds.length ≤ 8) := by have := HN2.out; have := HN7.out; show _ ∧ _; omega
  clear hr1 hr2
  go_upto_region 4 with fail
  generalize w0.alloc (.cells #[.string o.name] StT) = w1 at *
  generalize w0.heap.size = nb at *
  clear c0 c2 c7 h2 h7 h7' HL
  go_wp2_with fail
  clear c2'
  go_loopw [3, 25] (fun v i wr => ∃ m : Nat, m ≤ n2 ∧ i = .int .i64 (m : Nat) ∧ Nam w wr ob V o v (o.name :: (o.imps.map (·.1)).take m)) (fun _ i _ => n2 - (intOf i).toNat)
  case atStart => exact ⟨0, Nat.zero_le _, rfl, HM0.out⟩
  case round =>
    clear HM0
    obtain ⟨m, hm, rfl, hM⟩ := hrel
    have HM := Lib.hid hM
    clear hM
    by_cases hlt : m < n2
    · obtain ⟨x, hx⟩ : ∃ x, o.imps[m]? = some x := ⟨_, List.getElem?_eq_getElem (by have := HN2.out; omega)⟩
      obtain ⟨x1, x2⟩ := x
      have HTK : Hid ((o.imps.map (·.1)).take m ++ [x1] = (o.imps.map (·.1)).take (m + 1)) := take_next (by simp [hx])
      obtain ⟨b, off, cap, e0, hb, p0, p1⟩ := HO.out.imps.cell2 hx rfl
      rw [← HN2.out] at e0
      have ea : a2 = some ⟨b, off, none⟩ := by have e2 := HV2.out.symm.trans e0; cases e2; rfl
      rw [ea]
      have v0 := (HM.out.look.below.cell (p := ⟨b, off + m * 2, none⟩) hb).trans p0
      have v1 := (HM.out.look.below.cell (p := ⟨b, off + m * 2 + 1, none⟩) hb).trans p1
      have i1 : (m : Int) < (n2 : Int) := by omega
      have i2 : (0 : Int) ≤ (m : Int) := by omega
      have HLT : Hid (m < n2) := hlt
      have RUN := Lib.hid (box_el wr ImT 2 [.string ⟨#[]⟩, .int .u32 0] [.string x1, .int .u32 (x2 : Nat)] rfl rfl (ones_imp (x1, x2)) size_im)
      have HM1 : Hid (Nam w (wr.alloc (.cells #[.string x1, .int .u32 (x2 : Nat)] ImT)) ob V o u3 (o.name :: (o.imps.map (·.1)).take m)) := HM.out.on ((Below.refl _ _).alloc (Nat.le_refl _) _)
      have HR1 : Hid (RowAt (wr.alloc (.cells #[.string x1, .int .u32 (x2 : Nat)] ImT)) wr.heap.size ImT [.string x1, .int .u32 (x2 : Nat)]) := RowAt.new wr ImT _
      clear e0 ea hb p0 p1 hx hm hlt HM
      go_upto_region 7 with (refine wpList_store_run _ rfl _ _ _ rfl _ _ rfl rfl (by exact RUN.out) ?_)
      generalize wr.alloc (.cells #[.string x1, .int .u32 (x2 : Nat)] ImT) = w2 at *
      generalize wr.heap.size = tb at *
      clear v0 v1 RUN
      have d0 : w2.cell? ⟨tb, 0, none⟩ = some (.string x1) := HR1.out.cell 0
      obtain ⟨v4, w4, hr4, hs4, hg4⟩ := more_el (T := SlT) Try.underlying23 info_st rfl (by decide) sRow_len sRow_one HM1.out.row x1 (by simp; omega)
      have HM4 : Hid (Nam w w4 ob V o v4 (o.name :: (o.imps.map (·.1)).take (m + 1))) := by rw [← HTK.out]; exact HM1.out.more hs4 hg4
      clear hs4 hg4 HR1 HM1 HTK
      go_wp2_with (at_builtin; refine Lib.wpList_append_run _ rfl _ _ _ _ rfl _ _ rfl rfl _ _ hr4 ?_)
      go_roundw
      case rel => exact ⟨m + 1, HLT.out, by go_num, HM4.out⟩
      case measure => have := HLT.out; simp [intOf]; omega
    · have i1 : ¬ (m : Int) < (n2 : Int) := by omega
      have HMA : Hid (Nam w wr ob V o u3 (o.name :: o.imps.map (·.1))) := by
        have := HM.out
        rw [List.take_of_length_le (by have := HN2.out; simp; omega)] at this
        exact this
      have HE1 := Lib.hid (HMA.out.row.els sRow_len)
      have HLA : Hid (Looks wr wr ob V o) := ⟨HMA.out.look.row, Below.refl _ _⟩
      have c7 : wr.cell? ⟨ob, 7, none⟩ = some (.slice a7 n7 q7) := (HMA.out.look.row.cell 7).trans (congrArg some HV7.out)
      have HOA := Lib.hid (HO.out.on HMA.out.look.below)
      have HBA := Lib.hid HMA.out.look.below
      clear HM hm hlt HMA
      go_wp2_with fail
      clear c7 i1
      generalize wr = wA at *
      go_loopw [6, 38] (fun v i wr => ∃ m : Nat, m ≤ n7 ∧ i = .int .i64 (m : Nat) ∧ Nam wA wr ob V o v ((o.cmds.map (·.1)).take m)) (fun _ i _ => n7 - (intOf i).toNat)
      case atStart => exact ⟨0, Nat.zero_le _, rfl, Nam.none HLA.out⟩
      case round =>
        clear HLA
        obtain ⟨m, hm, rfl, hM⟩ := hrel
        have HM := Lib.hid hM
        clear hM
        by_cases hlt : m < n7
        · obtain ⟨x, hx⟩ : ∃ x, o.cmds[m]? = some x := ⟨_, List.getElem?_eq_getElem (by have := HN7.out; omega)⟩
          obtain ⟨x1, x2⟩ := x
          have HTK : Hid ((o.cmds.map (·.1)).take m ++ [x1] = (o.cmds.map (·.1)).take (m + 1)) := take_next (by simp [hx])
          obtain ⟨b, off, cap, e0, hb, p0, p1⟩ := HOA.out.cmds.cell2 hx rfl
          rw [← HN7.out] at e0
          have ea : a7 = some ⟨b, off, none⟩ := by have e2 := HV7.out.symm.trans e0; cases e2; rfl
          rw [ea]
          have v0 := (HM.out.look.below.cell (p := ⟨b, off + m * 2, none⟩) hb).trans p0
          have v1 := (HM.out.look.below.cell (p := ⟨b, off + m * 2 + 1, none⟩) hb).trans p1
          have i1 : (m : Int) < (n7 : Int) := by omega
          have i2 : (0 : Int) ≤ (m : Int) := by omega
          have HLT : Hid (m < n7) := hlt
          have RUN := Lib.hid (box_el wr CmT 2 [.string ⟨#[]⟩, .int .i64 0] [.string x1, .int .i64 x2] rfl rfl (ones_cmd (x1, x2)) size_cm)
          have HM1 : Hid (Nam wA (wr.alloc (.cells #[.string x1, .int .i64 x2] CmT)) ob V o u6 ((o.cmds.map (·.1)).take m)) := HM.out.on ((Below.refl _ _).alloc (Nat.le_refl _) _)
          have HR1 : Hid (RowAt (wr.alloc (.cells #[.string x1, .int .i64 x2] CmT)) wr.heap.size CmT [.string x1, .int .i64 x2]) := RowAt.new wr CmT _
          clear e0 ea hb p0 p1 hx hm hlt HM
          go_upto_region 13 with (refine wpList_store_run _ rfl _ _ _ rfl _ _ rfl rfl (by exact RUN.out) ?_)
          generalize wr.alloc (.cells #[.string x1, .int .i64 x2] CmT) = w2 at *
          generalize wr.heap.size = tb at *
          clear v0 v1 RUN
          have d0 : w2.cell? ⟨tb, 0, none⟩ = some (.string x1) := HR1.out.cell 0
          obtain ⟨v4, w4, hr4, hs4, hg4⟩ := more_el (T := SlT) Try.underlying23 info_st rfl (by decide) sRow_len sRow_one HM1.out.row x1 (by simp; omega)
          have HM4 : Hid (Nam wA w4 ob V o v4 ((o.cmds.map (·.1)).take (m + 1))) := by rw [← HTK.out]; exact HM1.out.more hs4 hg4
          clear hs4 hg4 HR1 HM1 HTK
          go_wp2_with (at_builtin; refine Lib.wpList_append_run _ rfl _ _ _ _ rfl _ _ rfl rfl _ _ hr4 ?_)
          go_roundw
          case rel => exact ⟨m + 1, HLT.out, by go_num, HM4.out⟩
          case measure => have := HLT.out; simp [intOf]; omega
        · have i1 : ¬ (m : Int) < (n7 : Int) := by omega
          have HMB : Hid (Nam wA wr ob V o u6 (o.cmds.map (·.1))) := by
            have := HM.out
            rw [List.take_of_length_le (by have := HN7.out; simp; omega)] at this
            exact this
          have HE2 := Lib.hid (HMB.out.row.els sRow_len)
          have HE1' := Lib.hid (HE1.out.on HMB.out.look.below)
          have RES := Lib.hid (below_on HBA.out HMB.out.look.below HBA.out.size)
          clear HM hm hlt HMB HE1 HOA HBA
          go_wp2_with fail
          refine (areNames_any _ _ r1 _ HE1'.out H1.out).mono ?_
          rintro e w' ⟨rfl, rfl⟩
          cases r1 with
          | false =>
            as_aux_lemma =>
            have HRF : Hid (r = false) := bool_not HR.out fun g => by have := H1.out.2 g.2.1; cases this
            go_wp2_with fail
            go_ret
            exact ⟨end_bool HRF.out.symm, RES.out⟩
          | true =>
            as_aux_lemma =>
            have G1 := Lib.hid (H1.out.1 rfl)
            clear H1
            go_wp2_with fail
            refine (areNames_any _ _ r2 _ HE2.out H2.out).mono ?_
            rintro e w' ⟨rfl, rfl⟩
            have HRR : Hid (r = r2) := by
              show r = r2
              cases r2 with
              | true => exact HR.out.2 ⟨HS.out, G1.out, H2.out.1 rfl⟩
              | false => exact bool_not HR.out fun g => by have := H2.out.2 g.2.2; cases this
            go_wp2_with fail
            go_ret
            exact ⟨end_bool HRR.out.symm, RES.out⟩
end Go.Proofs.Ytkkjfbpflfknpaa

/-
  The program's partsMay (layer 14, rules 1 to 6). No conditions.
-/
namespace Go.Proofs.Ytkkjfbpflfknpaa
open Go.ChangeShapes Go.WideShapes Go.ChangeAt Go.RowKit

set_option maxRecDepth 100000 in
set_option maxHeartbeats 4000000 in
theorem parts_any (V : ObjV) (o : ObjD) (r : Bool) (w : World) (h : ObjAt w V o) (hr : r = true ↔ PartsQ o) :
    Calls Try.prog 45 #[.agg (ocells V o).toArray] w fun e w' => e = .returned (.bool r) ∧ Below w.heap.size w w' := by
  have HL' := Lib.hid (looks_new w V o)
  have HO := Lib.hid h
  have HR := Lib.hid hr
  obtain ⟨r1, hr1⟩ := some_bool (NamesQ o)
  obtain ⟨r2, hr2⟩ := some_bool (AmP o)
  obtain ⟨r3, hr3⟩ := some_bool (TysP o)
  obtain ⟨r4, hr4⟩ := some_bool (CmsP o)
  obtain ⟨r5, hr5⟩ := some_bool (ExsP o)
  obtain ⟨r6, hr6⟩ := some_bool (CesP o)
  obtain ⟨r7, hr7⟩ := some_bool (0 ≤ o.body ∧ o.body ≤ o.code.length)
  have H1 := Lib.hid hr1
  have H2 := Lib.hid hr2
  have H3 := Lib.hid hr3
  have H4 := Lib.hid hr4
  have H5 := Lib.hid hr5
  have H6 := Lib.hid hr6
  obtain ⟨a6, q6, hv6, _⟩ := h.code.shape
  obtain ⟨n6, hn6⟩ : ∃ n, n = o.code.length := ⟨_, rfl⟩
  rw [← hn6] at hv6 hr7
  have HV6 := Lib.hid hv6
  have HN6 := Lib.hid hn6
  have H7 := Lib.hid hr7
  clear h hr hr1 hr2 hr3 hr4 hr5 hr6 hr7 hv6 hn6
  go_enter Try.func45, Try.ntmps45
  go_upto_region 1 with fail
  generalize w.alloc (.cells (ocells V o).toArray OT) = w0 at *
  obtain ⟨ob, hob⟩ : ∃ ob, ob = w.heap.size := ⟨_, rfl⟩
  have HL : Hid (Looks w w0 ob V o) := by rw [hob]; exact HL'.out
  rw [← hob]
  clear HL' hob
  go_wp2_with (refine load_row_on rfl _ _ rfl ob rfl OT (ocells V o).toArray (0, 0) _ HL.out.row Try.underlying48 rfl (by rw [size_ob]; rfl) ?_)
  refine (namesMay_any V o r1 _ (HO.out.on HL.out.below) H1.out).mono ?_
  rintro e w1 ⟨rfl, hb1⟩
  have HL1 := Lib.hid (HL.out.on3 hb1)
  clear hb1 HL
  have HL := HL1
  clear HL1
  cases r1 with
  | false =>
    have HRF : Hid (r = false) := bool_not HR.out fun g => by have := H1.out.2 g.1; cases this
    as_aux_lemma =>
    go_wp2_with fail
    go_ret
    exact ⟨end_bool HRF.out.symm, HL.out.below⟩
  | true =>
  have G1 := Lib.hid (H1.out.1 rfl)
  clear H1
  go_wp2_with (refine load_row_on rfl _ _ rfl ob rfl OT (ocells V o).toArray (0, 0) _ HL.out.row Try.underlying48 rfl (by rw [size_ob]; rfl) ?_)
  refine (amounts_any V o r2 _ (HO.out.on HL.out.below) H2.out).mono ?_
  rintro e w1 ⟨rfl, hb1⟩
  have HL1 := Lib.hid (HL.out.on3 hb1)
  clear hb1 HL
  have HL := HL1
  clear HL1
  cases r2 with
  | false =>
    have HRF : Hid (r = false) := bool_not HR.out fun g => by have := H2.out.2 g.2.1; cases this
    as_aux_lemma =>
    go_wp2_with fail
    go_ret
    exact ⟨end_bool HRF.out.symm, HL.out.below⟩
  | true =>
  have G2 := Lib.hid (H2.out.1 rfl)
  clear H2
  go_wp2_with (refine load_row_on rfl _ _ rfl ob rfl OT (ocells V o).toArray (0, 0) _ HL.out.row Try.underlying48 rfl (by rw [size_ob]; rfl) ?_)
  refine (types_any V o r3 _ (HO.out.on HL.out.below) H3.out).mono ?_
  rintro e w1 ⟨rfl, hb1⟩
  have HL1 := Lib.hid (HL.out.on3 hb1)
  clear hb1 HL
  have HL := HL1
  clear HL1
  cases r3 with
  | false =>
    have HRF : Hid (r = false) := bool_not HR.out fun g => by have := H3.out.2 g.2.2.1; cases this
    as_aux_lemma =>
    go_wp2_with fail
    go_ret
    exact ⟨end_bool HRF.out.symm, HL.out.below⟩
  | true =>
  have G3 := Lib.hid (H3.out.1 rfl)
  clear H3
  go_wp2_with (refine load_row_on rfl _ _ rfl ob rfl OT (ocells V o).toArray (0, 0) _ HL.out.row Try.underlying48 rfl (by rw [size_ob]; rfl) ?_)
  refine (cmds_any V o r4 _ (HO.out.on HL.out.below) H4.out).mono ?_
  rintro e w1 ⟨rfl, hb1⟩
  have HL1 := Lib.hid (HL.out.on3 hb1)
  clear hb1 HL
  have HL := HL1
  clear HL1
  cases r4 with
  | false =>
    have HRF : Hid (r = false) := bool_not HR.out fun g => by have := H4.out.2 g.2.2.2.1; cases this
    as_aux_lemma =>
    go_wp2_with fail
    go_ret
    exact ⟨end_bool HRF.out.symm, HL.out.below⟩
  | true =>
  have G4 := Lib.hid (H4.out.1 rfl)
  clear H4
  go_wp2_with (refine load_row_on rfl _ _ rfl ob rfl OT (ocells V o).toArray (0, 0) _ HL.out.row Try.underlying48 rfl (by rw [size_ob]; rfl) ?_)
  refine (exports_any V o r5 _ (HO.out.on HL.out.below) H5.out).mono ?_
  rintro e w1 ⟨rfl, hb1⟩
  have HL1 := Lib.hid (HL.out.on3 hb1)
  clear hb1 HL
  have HL := HL1
  clear HL1
  cases r5 with
  | false =>
    have HRF : Hid (r = false) := bool_not HR.out fun g => by have := H5.out.2 g.2.2.2.2.1; cases this
    as_aux_lemma =>
    go_wp2_with fail
    go_ret
    exact ⟨end_bool HRF.out.symm, HL.out.below⟩
  | true =>
  have G5 := Lib.hid (H5.out.1 rfl)
  clear H5
  go_wp2_with (refine load_row_on rfl _ _ rfl ob rfl OT (ocells V o).toArray (0, 0) _ HL.out.row Try.underlying48 rfl (by rw [size_ob]; rfl) ?_)
  refine (cellsMay_any V o r6 _ (HO.out.on HL.out.below) H6.out).mono ?_
  rintro e w1 ⟨rfl, hb1⟩
  have HL1 := Lib.hid (HL.out.on3 hb1)
  clear hb1 HL
  have HL := HL1
  clear HL1
  cases r6 with
  | false =>
    have HRF : Hid (r = false) := bool_not HR.out fun g => by have := H6.out.2 g.2.2.2.2.2.1; cases this
    as_aux_lemma =>
    go_wp2_with fail
    go_ret
    exact ⟨end_bool HRF.out.symm, HL.out.below⟩
  | true =>
  have G6 := Lib.hid (H6.out.1 rfl)
  clear H6
  have c6 : w1.cell? ⟨ob, 6, none⟩ = some (.slice a6 n6 q6) := (HL.out.row.cell 6).trans (congrArg some HV6.out)
  have c14 : w1.cell? ⟨ob, 14, none⟩ = some (.int .i64 o.body) := HL.out.row.cell 14
  go_wp2_with fail
  refine (isUpTo_any o.body n6 r7 _ H7.out).mono ?_
  rintro e w' ⟨rfl, rfl⟩
  have HRR : Hid (r = r7) := by
    show r = r7
    cases r7 with
    | true => exact HR.out.2 ⟨G1.out, G2.out, G3.out, G4.out, G5.out, G6.out, by have := H7.out.1 rfl; rw [HN6.out] at this; exact this⟩
    | false => exact bool_not HR.out fun g => by have := H7.out.2 (by rw [HN6.out]; exact g.2.2.2.2.2.2); cases this
  go_wp2_with fail
  go_ret
  exact ⟨end_bool HRR.out.symm, HL.out.below⟩
end Go.Proofs.Ytkkjfbpflfknpaa

/-
  The program's take, means, meanWhatIs (layer 14, rule 7). Conditions: references lie in code (InCode).
-/
namespace Go.Proofs.Ytkkjfbpflfknpaa
open Go.ChangeShapes Go.WideShapes Go.ChangeAt Go.RowKit

theorem size_ct : (Try.prog.info? CT).map (·.size) = some 3 := by kernel_rfl
theorem box_cref (wr : World) (p y z : Nat) :
    (Instr.storeAt CT (.pointer (some ⟨wr.heap.size, 0, none⟩)) (.agg #[.int .i64 (p : Nat), .int .i64 (y : Nat), .int .i64 (z : Nat)])).run Try.prog (wr.alloc (.cells #[.int .i64 0, .int .i64 0, .int .i64 0] CT)) = .ok () (wr.alloc (.cells #[.int .i64 (p : Nat), .int .i64 (y : Nat), .int .i64 (z : Nat)] CT)) :=
  box_el wr CT 3 [.int .i64 0, .int .i64 0, .int .i64 0] [.int .i64 (p : Nat), .int .i64 (y : Nat), .int .i64 (z : Nat)] rfl rfl (refRow_one ⟨(p : Nat), y, z⟩) size_ct
/- while places are taken -/
structure Tak (w wr : World) (mb n : Nat) (P : List Int) (f : Nat → Bool) : Prop where
  row : RowAt wr mb 4 (metN n f)
  met : MetP P f
  kept : Kept (· = mb) w wr
theorem Tak.on {w wr w' : World} {mb n : Nat} {P : List Int} {f : Nat → Bool} (h : Tak w wr mb n P f) (hb : Below wr.heap.size wr w') : Tak w w' mb n P f :=
  ⟨h.row.keep (Kept.of_below (S := fun _ => False) hb) (fun e => e), h.met, h.kept.trans (Kept.of_below hb)⟩
theorem Tak.set {w wr : World} {mb n : Nat} {P : List Int} {f : Nat → Bool} (h : Tak w wr mb n P f) {k : Nat} (hk : k < n) : Tak w (wr.setCell ⟨mb, k, none⟩ (.bool true)) mb n ((k : Int) :: P) (fun j => if j = k then true else f j) := by
  refine ⟨?_, h.met.next k, h.kept.trans (kept_set wr mb k _)⟩
  rw [← metN_set f hk]
  exact h.row.setCell k _
/- what a run of take says -/
def TakeTold (w w' : World) (mb n : Nat) (l : List RefD) (P : List Int) (e : Ending) : Prop :=
  (e = .returned (.bool true) ∧ TakeP l P ∧ ∃ f, Tak w w' mb n (placesT l P) f) ∨ (e = .returned (.bool false) ∧ ¬ TakeP l P ∧ Kept (· = mb) w w')
set_option maxRecDepth 100000 in
set_option maxHeartbeats 2000000 in
theorem take_any (mb n : Nat) (v : Value) (l : List RefD) (P : List Int) (f : Nat → Bool) (code : List Nat) (w : World) (hn : n = code.length) (hT : Tak w w mb n P f) (h : SRow CT 3 w v l.length (rows refRow l)) (hin : ∀ r ∈ l, InCode code r) :
    Calls Try.prog 48 #[.slice (some ⟨mb, 0, none⟩) n n, v] w fun e w' => TakeTold w w' mb n l P e := by
  have HT0 := Lib.hid hT
  have HIN := Lib.hid hin
  have HCN := Lib.hid hn
  have HNM : Hid (∀ j, own v j → j ≠ mb) := fun j hj e => by subst e; exact h.notIn hT.row (by decide) hj
  have HROW0 := Lib.hid h
  obtain ⟨a1, c1, rfl, hc, hm⟩ := h.shape
  obtain ⟨nl, hnl⟩ : ∃ nl, nl = l.length := ⟨_, rfl⟩
  have HNL := Lib.hid hnl
  have HROW : Hid (SRow CT 3 w (.slice a1 nl c1) l.length (rows refRow l)) := by rw [hnl]; exact HROW0.out
  have HOWN : Hid (∀ j, own (.slice a1 nl c1) j → j ≠ mb) := fun j hj => HNM.out j (by rw [hnl] at hj; exact hj)
  have hsl : nl ≤ 9223372036854775807 := by rw [hnl]; exact Nat.le_trans hc hm
  have HE0 : Hid ((TakeP l P ↔ TakeP (l.drop 0) P) ∧ placesT (l.drop 0) P = placesT l P) := ⟨Iff.rfl, rfl⟩
  rw [← hnl]
  clear hT h hin hn hnl hc hm HNM HROW0
  go_enter Try.func48, Try.ntmps48
  go_wp2_with fail
  go_loopw [9] (fun i wr => ∃ (j : Nat) (P2 : List Int) (f2 : Nat → Bool), j ≤ nl ∧ i = .int .i64 (j : Nat) ∧ Tak w wr mb n P2 f2 ∧ SRow CT 3 wr (.slice a1 nl c1) l.length (rows refRow l) ∧ (TakeP l P ↔ TakeP (l.drop j) P2) ∧ placesT (l.drop j) P2 = placesT l P) (fun i _ => nl - (intOf i).toNat)
  case atStart => exact ⟨0, _, _, Nat.zero_le _, rfl, HT0.out, HROW.out, HE0.out⟩
  case round =>
    clear HT0 HROW HE0
    obtain ⟨j, P2, f2, hj, rfl, hT, hR, hE⟩ := hrel
    have HT := Lib.hid hT
    have HROW := Lib.hid hR
    have HE := Lib.hid hE
    clear hT hR hE
    by_cases hlt : j < nl
    · obtain ⟨x, hx⟩ : ∃ x, l[j]? = some x := ⟨_, List.getElem?_eq_getElem (by have := HNL.out; omega)⟩
      have HD' : l.drop j = x :: l.drop (j + 1) := by
        have hl := (List.getElem?_eq_some_iff.1 hx).1
        have := List.drop_eq_getElem_cons hl
        rw [(List.getElem?_eq_some_iff.1 hx).2] at this
        exact this
      have hin := HIN.out x (List.mem_of_getElem? hx)
      obtain ⟨xa, y, z⟩ := x
      obtain ⟨p, rfl⟩ := Int.eq_ofNat_of_zero_le (show 0 ≤ xa from hin.1.1)
      have HD := Lib.hid HD'
      have hpn : p < n := by have h1 : ((p : Nat) : Int) < (code.length : Int) := hin.1.2; have := HCN.out; omega
      obtain ⟨b, off, cap, e0, hb, p0, p1, p2⟩ := (HROW.out.els refRow_len).cell3 hx (c0 := .int .i64 (p : Nat)) (c1 := .int .i64 (y : Nat)) (c2 := .int .i64 (z : Nat)) rfl
      have ea : a1 = some ⟨b, off, none⟩ := by cases e0; rfl
      subst ea
      have RUN := Lib.hid (box_cref wr p y z)
      have hbel : Below wr.heap.size wr (wr.alloc (.cells #[.int .i64 (p : Nat), .int .i64 (y : Nat), .int .i64 (z : Nat)] CT)) := (Below.refl _ _).alloc (Nat.le_refl _) _
      have HT4 := Lib.hid (HT.out.on hbel)
      have HR4 : Hid (SRow CT 3 (wr.alloc (.cells #[.int .i64 (p : Nat), .int .i64 (y : Nat), .int .i64 (z : Nat)] CT)) (.slice (some ⟨b, off, none⟩) nl c1) l.length (rows refRow l)) := HROW.out.keep (Kept.of_below (S := fun _ => False) hbel) (fun _ _ e => e)
      have HB4 : Hid (RowAt (wr.alloc (.cells #[.int .i64 (p : Nat), .int .i64 (y : Nat), .int .i64 (z : Nat)] CT)) wr.heap.size CT (refRow ⟨(p : Nat), y, z⟩)) := RowAt.new wr CT (refRow ⟨(p : Nat), y, z⟩)
      have HTM : Hid (wr.heap.size ≠ mb) := fun e => by have := HT.out.row.lt; omega
      have i3 : (j : Int) < (nl : Int) := by omega
      have i4 : (0 : Int) ≤ (j : Int) := by omega
      have i5 : (p : Int) < (n : Int) := by omega
      have i6 : (0 : Int) ≤ (p : Int) := by omega
      have HJ : Hid (j < nl) := hlt
      have HPN : Hid (p < n) := hpn
      clear e0 hx hin hlt hj hbel HT HROW hb HD' hpn
      go_upto_region 4 with (refine wpList_store_run _ rfl _ _ _ rfl _ _ rfl rfl (by exact RUN.out) ?_)
      generalize wr.alloc (.cells #[.int .i64 (p : Nat), .int .i64 (y : Nat), .int .i64 (z : Nat)] CT) = w4 at *
      generalize wr.heap.size = tb at *
      clear p0 p1 p2 RUN
      have d0 : w4.cell? ⟨tb, 0, none⟩ = some (.int .i64 (p : Nat)) := HB4.out.cell 0
      have cm : w4.cell? ⟨mb, p, none⟩ = some (.bool (f2 p)) := (HT4.out.row.cell p).trans (metN_at f2 HPN.out)
      by_cases hf : f2 p = true
      · as_aux_lemma =>
        rw [hf] at cm
        have RES : Hid (¬ TakeP l P) := fun g => by
          have := HE.out.1.1 g
          rw [HD.out] at this
          exact this.1 ((HT4.out.met p).1 hf)
        go_wp2_with fail
        go_ret
        exact .inr ⟨rfl, RES.out, HT4.out.kept⟩
      have hf2 : f2 p = false := by simpa using hf
      rw [hf2] at cm
      have fm : w4.frozen? ⟨mb, p, none⟩ = false := HT4.out.row.free p
      have HF : Hid (((p : Nat) : Int) ∉ P2) := fun g => hf ((HT4.out.met p).2 g)
      have HEN : Hid ((TakeP l P ↔ TakeP (l.drop (j + 1)) (((p : Nat) : Int) :: P2)) ∧ placesT (l.drop (j + 1)) (((p : Nat) : Int) :: P2) = placesT l P) := by
        have g1 := HE.out.1
        have g2 := HE.out.2
        rw [HD.out] at g1 g2
        exact ⟨g1.trans ⟨fun g => g.2, fun g => ⟨HF.out, g⟩⟩, g2⟩
      have HT5 := Lib.hid (HT4.out.set HPN.out)
      have HR5 := Lib.hid (HR4.out.keep (kept_set w4 mb p (.bool true)) (fun i hi => HOWN.out i hi))
      clear hf hf2 HB4 HR4 HT4 HTM HE
      go_wp2_with fail
      go_roundw
      case rel => exact ⟨j + 1, _, _, HJ.out, by go_num, HT5.out, HR5.out, HEN.out⟩
      case measure => have := HJ.out; simp [intOf]; omega
    · have i3 : ¬ (j : Int) < (nl : Int) := by omega
      have hd : l.drop j = [] := List.drop_of_length_le (by have := HNL.out; omega)
      have G1 : Hid (TakeP l P) := HE.out.1.2 (by rw [hd]; trivial)
      have G2 : Hid (P2 = placesT l P) := by have := HE.out.2; rw [hd] at this; exact this
      clear hd hlt hj
      go_wp2_with fail
      go_ret
      exact .inl ⟨rfl, G1.out, f2, by rw [← G2.out]; exact HT.out⟩

/- what one reference means -/
set_option maxRecDepth 100000 in
set_option maxHeartbeats 4000000 in
theorem means_any (V : ObjV) (o : ObjD) (a : Nat) (x : RefD) (r : Bool) (w : World) (h : ObjAt w V o) (hy : x.mod < 16) (hz : x.ent < 64) (hr : r = true ↔ RefOk o a x) :
    Calls Try.prog 61 #[.agg (ocells V o).toArray, .int .i64 (a : Nat), .agg #[.int .i64 x.at_, .int .i64 (x.mod : Nat), .int .i64 (x.ent : Nat)]] w fun e w' => e = .returned (.bool r) ∧ Below w.heap.size w w' := by
  obtain ⟨xp, y, z⟩ := x
  dsimp only at *
  have HL' := Lib.hid (looks_new w V o)
  have HO := Lib.hid h
  have HR := Lib.hid hr
  obtain ⟨a2, q2, hv2, _⟩ := h.imps.shape
  obtain ⟨n2, hn2⟩ : ∃ n, n = o.imps.length := ⟨_, rfl⟩
  rw [← hn2] at hv2
  have HV2 := Lib.hid hv2
  have HN2 := Lib.hid hn2
  obtain ⟨a8, q8, hv8, _⟩ := h.exps.shape
  obtain ⟨n8, hn8⟩ : ∃ n, n = o.exps.length := ⟨_, rfl⟩
  rw [← hn8] at hv8
  have HV8 := Lib.hid hv8
  have HN8 := Lib.hid hn8
  have HRK : Hid (r = true ↔ (y = 15 ∧ a = 1 ∧ z ≤ o.text.size) ∨ (y ≠ 15 ∧ y ≤ o.imps.length ∧ (y = 0 → ∃ x, o.exps[z]? = some x ∧ FitsP a x.1))) := hr
  clear h hr hv2 hn2 hv8 hn8 HR
  go_enter Try.func61, Try.ntmps61
  go_upto_region 1 with fail
  have HL2 : Hid (Looks w ((w.alloc (.cells (ocells V o).toArray OT)).alloc (.cells #[.int .i64 xp, .int .i64 (y : Nat), .int .i64 (z : Nat)] CT)) w.heap.size V o) := HL'.out.on3 ((Below.refl _ _).alloc (Nat.le_refl _) _)
  have HB2 : Hid (RowAt ((w.alloc (.cells (ocells V o).toArray OT)).alloc (.cells #[.int .i64 xp, .int .i64 (y : Nat), .int .i64 (z : Nat)] CT)) (w.heap.size + 1) CT [.int .i64 xp, .int .i64 (y : Nat), .int .i64 (z : Nat)]) := by
    have := RowAt.new (w.alloc (.cells (ocells V o).toArray OT)) CT [.int .i64 xp, .int .i64 (y : Nat), .int .i64 (z : Nat)]
    rw [show (w.alloc (.cells (ocells V o).toArray OT)).heap.size = w.heap.size + 1 by simp] at this
    exact this
  clear HL'
  generalize (w.alloc (.cells (ocells V o).toArray OT)).alloc (.cells #[.int .i64 xp, .int .i64 (y : Nat), .int .i64 (z : Nat)] CT) = w0 at *
  generalize w.heap.size + 1 = tb at *
  obtain ⟨ob, hob⟩ : ∃ ob, ob = w.heap.size := ⟨_, rfl⟩
  have HL : Hid (Looks w w0 ob V o) := by rw [hob]; exact HL2.out
  rw [← hob]
  clear HL2 hob
  have d1 : w0.cell? ⟨tb, 1, none⟩ = some (.int .i64 (y : Nat)) := HB2.out.cell 1
  have d2 : w0.cell? ⟨tb, 2, none⟩ = some (.int .i64 (z : Nat)) := HB2.out.cell 2
  have c2 : w0.cell? ⟨ob, 2, none⟩ = some (.slice a2 n2 q2) := (HL.out.row.cell 2).trans (congrArg some HV2.out)
  have c5 : w0.cell? ⟨ob, 5, none⟩ = some (.string o.text) := HL.out.row.cell 5
  have c8 : w0.cell? ⟨ob, 8, none⟩ = some (.slice a8 n8 q8) := (HL.out.row.cell 8).trans (congrArg some HV8.out)
  clear HB2
  have RES := Lib.hid HL.out.below
  by_cases h0 : y = 0
  · have HY : Hid (y = 0) := h0
    have t0 : (((y : Nat) : Int) == 0) = true := by simp; omega
    by_cases hz8 : (z : Int) < (n8 : Int)
    · obtain ⟨x8, hx8⟩ : ∃ x, o.exps[z]? = some x := ⟨_, List.getElem?_eq_getElem (by have := HN8.out; omega)⟩
      have HX8 := Lib.hid hx8
      obtain ⟨k1, k2⟩ := x8
      obtain ⟨b8, off8, cap8, e8, hb8, g0, _⟩ := HO.out.exps.cell2 hx8 rfl
      rw [← HN8.out] at e8
      have ea8 : a8 = some ⟨b8, off8, none⟩ := by have e2 := HV8.out.symm.trans e8; cases e2; rfl
      rw [ea8] at c8
      have u0 := (HL.out.below.cell (p := ⟨b8, off8 + z * 2, none⟩) hb8).trans g0
      obtain ⟨rF, hrF⟩ := some_bool (FitsP a k1)
      have HRF := Lib.hid hrF
      have HFT := Lib.hid (fun w => pfits_any a k1 w rF hrF)
      have i8 : (0 : Int) ≤ (z : Int) := by omega
      have HRR : Hid (r = rF) := by
        show r = rF
        cases rF with
        | true => exact HRK.out.2 (.inr ⟨by omega, by omega, fun _ => ⟨_, HX8.out, HRF.out.1 rfl⟩⟩)
        | false =>
          refine bool_not HRK.out fun g => ?_
          rcases g with ⟨g1, _⟩ | ⟨_, _, g3⟩
          · have := HY.out
            omega
          · obtain ⟨x, hx, hft⟩ := g3 HY.out
            have e := HX8.out.symm.trans hx
            cases e
            have := HRF.out.2 hft
            cases this
      clear e8 ea8 hb8 g0 hrF hx8 h0
      go_wp2_with fail
      refine (HFT.out _).mono ?_
      rintro e w' ⟨rfl, rfl⟩
      go_wp2_with fail
      go_ret
      exact ⟨end_bool HRR.out.symm, RES.out⟩
    · have HRF : Hid (r = false) := bool_not HRK.out fun g => by
        rcases g with ⟨g1, _⟩ | ⟨_, _, g3⟩
        · omega
        · obtain ⟨x, hx, _⟩ := g3 h0
          have := (List.getElem?_eq_some_iff.1 hx).1
          have := HN8.out
          omega
      have t5 : decide ((z : Int) < (n8 : Int)) = false := by simpa using hz8
      clear h0
      go_wp2_with fail
      go_ret
      exact ⟨end_bool HRF.out.symm, RES.out⟩
  · have t0 : (((y : Nat) : Int) == 0) = false := by simp; omega
    by_cases h15 : y = 15
    · have t15 : (((y : Nat) : Int) == 15) = true := by simp; omega
      by_cases ha : a = 1
      · have ta : (((a : Nat) : Int) == 1) = true := by simp; omega
        have HRR : Hid (r = decide (z ≤ o.text.size)) := by
          show r = decide _
          by_cases hz5 : z ≤ o.text.size
          · rw [decide_eq_true hz5]
            exact HRK.out.2 (.inl ⟨h15, ha, by omega⟩)
          · rw [decide_eq_false hz5]
            exact bool_not HRK.out fun g => by rcases g with ⟨_, _, g3⟩ | ⟨g1, _⟩ <;> omega
        clear h0 h15 ha
        go_wp2_with fail
        go_ret
        exact ⟨end_bool HRR.out.symm, RES.out⟩
      · have ta : (((a : Nat) : Int) == 1) = false := by simp; omega
        have HRF : Hid (r = false) := bool_not HRK.out fun g => by rcases g with ⟨_, g2, _⟩ | ⟨g1, _⟩ <;> omega
        clear h0 h15 ha
        go_wp2_with fail
        go_ret
        exact ⟨end_bool HRF.out.symm, RES.out⟩
    · have t15 : (((y : Nat) : Int) == 15) = false := by simp; omega
      have HRR : Hid (r = decide (y ≤ n2)) := by
        show r = decide _
        by_cases hy2 : y ≤ n2
        · rw [decide_eq_true hy2]
          exact HRK.out.2 (.inr ⟨h15, by have := HN2.out; omega, fun e => absurd e h0⟩)
        · rw [decide_eq_false hy2]
          exact bool_not HRK.out fun g => by have := HN2.out; rcases g with ⟨g1, _⟩ | ⟨_, g2, _⟩ <;> omega
      clear h0 h15
      go_wp2_with fail
      go_ret
      exact ⟨end_bool HRR.out.symm, RES.out⟩
set_option maxRecDepth 100000 in
set_option maxHeartbeats 2000000 in
theorem meanAll_any (V : ObjV) (o : ObjD) (a : Nat) (v : Value) (l : List RefD) (r : Bool) (w : World) (h : ObjAt w V o) (hl : ElsAt 3 refRow w v l) (hin : ∀ x ∈ l, InCode o.code x) (hr : r = true ↔ AllOk o a l) :
    Calls Try.prog 49 #[.agg (ocells V o).toArray, .int .i64 (a : Nat), v] w fun e w' => e = .returned (.bool r) ∧ Below w.heap.size w w' := by
  have HL' := Lib.hid (looks_new w V o)
  have HO := Lib.hid h
  have HR := Lib.hid hr
  have HE := Lib.hid hl
  have HIN := Lib.hid hin
  obtain ⟨a1, c1, hv, hc, hm, _⟩ := hl.shape
  obtain ⟨nl, hnl⟩ : ∃ nl, nl = l.length := ⟨_, rfl⟩
  rw [← hnl] at hv hc
  have HNL := Lib.hid hnl
  have hsl : nl ≤ 9223372036854775807 := Nat.le_trans hc hm
  subst hv
  clear h hr hl hin hnl hc hm
  go_enter Try.func49, Try.ntmps49
  go_upto_region 1 with fail
  generalize w.alloc (.cells (ocells V o).toArray OT) = w0 at *
  obtain ⟨ob, hob⟩ : ∃ ob, ob = w.heap.size := ⟨_, rfl⟩
  have HL : Hid (Looks w w0 ob V o) := by rw [hob]; exact HL'.out
  rw [← hob]
  clear HL' hob
  go_wp2_with fail
  go_loopw [11] (fun i wr => ∃ j : Nat, j ≤ nl ∧ i = .int .i64 (j : Nat) ∧ Looks w wr ob V o ∧ ∀ (k : Nat) (x : RefD), k < j → l[k]? = some x → RefOk o a x) (fun i _ => nl - (intOf i).toNat)
  case atStart => exact ⟨0, Nat.zero_le _, rfl, HL.out, fun j x hj => by omega⟩
  case round =>
    clear HL
    obtain ⟨j, hj, rfl, hL, hall⟩ := hrel
    have HL := Lib.hid hL
    have HALL := Lib.hid hall
    clear hL hall
    by_cases hlt : j < nl
    · obtain ⟨x, hx⟩ : ∃ x, l[j]? = some x := ⟨_, List.getElem?_eq_getElem (by have := HNL.out; omega)⟩
      have HX := Lib.hid hx
      have hin := HIN.out x (List.mem_of_getElem? hx)
      obtain ⟨rm, hrm⟩ := some_bool (RefOk o a x)
      have HRM := Lib.hid hrm
      have HMN : Hid (∀ w' : World, Below w.heap.size w w' → Calls Try.prog 61 #[.agg (ocells V o).toArray, .int .i64 (a : Nat), .agg #[.int .i64 x.at_, .int .i64 (x.mod : Nat), .int .i64 (x.ent : Nat)]] w' fun e w'' => e = .returned (.bool rm) ∧ Below w'.heap.size w' w'') := fun w' hb => means_any V o a x rm w' (HO.out.on hb) hin.2.1 hin.2.2 hrm
      obtain ⟨p, hp⟩ := Int.eq_ofNat_of_zero_le (show 0 ≤ x.at_ from hin.1.1)
      obtain ⟨b, off, cap, e0, hb, p0, p1, p2⟩ := HE.out.cell3 hx (c0 := .int .i64 x.at_) (c1 := .int .i64 (x.mod : Nat)) (c2 := .int .i64 (x.ent : Nat)) rfl
      have ea : a1 = some ⟨b, off, none⟩ := by cases e0; rfl
      subst ea
      have u0 := (HL.out.below.cell (p := ⟨b, off + j * 3, none⟩) hb).trans p0
      have u1 := (HL.out.below.cell (p := ⟨b, off + j * 3 + 1, none⟩) hb).trans p1
      have u2 := (HL.out.below.cell (p := ⟨b, off + j * 3 + 2, none⟩) hb).trans p2
      rw [hp] at u0 HMN
      generalize x.mod = y at *
      generalize x.ent = z at *
      have RUN := Lib.hid (box_cref wr p y z)
      have HL1 : Hid (Looks w (wr.alloc (.cells #[.int .i64 (p : Nat), .int .i64 (y : Nat), .int .i64 (z : Nat)] CT)) ob V o) := HL.out.on3 ((Below.refl _ _).alloc (Nat.le_refl _) _)
      have HB1 : Hid (RowAt (wr.alloc (.cells #[.int .i64 (p : Nat), .int .i64 (y : Nat), .int .i64 (z : Nat)] CT)) wr.heap.size CT [.int .i64 (p : Nat), .int .i64 (y : Nat), .int .i64 (z : Nat)]) := RowAt.new wr CT _
      have i3 : (j : Int) < (nl : Int) := by omega
      have i4 : (0 : Int) ≤ (j : Int) := by omega
      have HJ : Hid (j < nl) := hlt
      clear e0 hx hin hlt hj hb p0 p1 p2 hrm hp HL
      go_upto_region 4 with (refine wpList_store_run _ rfl _ _ _ rfl _ _ rfl rfl (by exact RUN.out) ?_)
      generalize wr.alloc (.cells #[.int .i64 (p : Nat), .int .i64 (y : Nat), .int .i64 (z : Nat)] CT) = w1 at *
      generalize wr.heap.size = tb at *
      clear u0 u1 u2 RUN
      go_wp2_with (first
        | (refine load_row_on rfl _ _ rfl ob rfl OT (ocells V o).toArray (0, 0) _ HL1.out.row Try.underlying48 rfl (by rw [size_ob]; rfl) ?_)
        | (refine load_row_on rfl _ _ rfl tb rfl CT #[.int .i64 (p : Nat), .int .i64 (y : Nat), .int .i64 (z : Nat)] (0, 0) _ HB1.out Try.underlying117 rfl (by rw [size_ct]; rfl) ?_))
      refine (HMN.out _ HL1.out.below).mono ?_
      rintro e w2 ⟨rfl, hb2⟩
      have HL2 := Lib.hid (HL1.out.on3 hb2)
      clear hb2 HL1 HB1 HMN
      cases rm with
      | false =>
        as_aux_lemma =>
        have HRF : Hid (r = false) := bool_not HR.out fun g => by have := HRM.out.2 (g j _ HX.out); cases this
        go_wp2_with fail
        go_ret
        exact ⟨end_bool HRF.out.symm, HL2.out.below⟩
      | true =>
        as_aux_lemma =>
        have HOK := Lib.hid (all_next (Q := fun _ x => RefOk o a x) HALL.out HX.out (HRM.out.1 rfl))
        go_wp2_with fail
        go_roundw
        case rel => exact ⟨j + 1, HJ.out, by go_num, HL2.out, HOK.out⟩
        case measure => have := HJ.out; simp [intOf]; omega
    · have i3 : ¬ (j : Int) < (nl : Int) := by omega
      have HRT : Hid (r = true) := HR.out.2 (all_done (Q := fun _ x => RefOk o a x) HALL.out (by have := HNL.out; omega))
      clear hlt hj
      go_wp2_with fail
      go_ret
      exact ⟨end_bool HRT.out.symm, HL.out.below⟩
end Go.Proofs.Ytkkjfbpflfknpaa

/-
  The program's Refs, Valid (layer 14). No conditions.
-/
namespace Go.Proofs.Ytkkjfbpflfknpaa
open Go.ChangeShapes Go.WideShapes Go.ChangeAt Go.RowKit

abbrev A3T : TypeId := 103
def nil3 : List Value := [.slice none 0 0, .slice none 0 0, .slice none 0 0]
theorem nil3_one : Ones nil3 := by intro u hu; simp only [nil3, List.mem_cons, List.not_mem_nil, or_false] at hu; rcases hu with rfl | rfl | rfl <;> rfl
theorem size_a3 : (Try.prog.info? A3T).map (·.size) = some 3 := by kernel_rfl
theorem info_boolC : (Try.prog.info? 4).map (fun i => (i.zero, i.size, i.bytes)) = some (some (.bool false), 1, 1) := by kernel_rfl
theorem make_boolsC (n : Nat) (hn : n ≤ 100000) (w : World) : (Instr.makeSlice 83 (.int .i64 n) (.int .i64 n)).run Try.prog w = .ok (.slice (some ⟨w.heap.size, 0, none⟩) n n) (w.alloc (.cells (metN n (fun _ => false)).toArray 4)) := by
  have h := run_make_row' (P := Try.prog) 83 4 (.bool false) 1 Try.underlying83 info_boolC rfl .i64 .i64 n (by omega) (by omega) w
  have e : madeCells #[Value.bool false] n = (metN n (fun _ => false)).toArray := by
    apply Array.ext
    · simp [size_madeCells, metN]
    · intro i h1 h2
      simp [madeCells, metN, Nat.mod_one]
  rw [e] at h
  exact h
theorem fix_index (o : ObjD) : ∀ a : Nat, a < 3 → ∀ w : World, (Instr.index 46 (.agg #[.int .i64 o.f0, .int .i64 o.f1, .int .i64 o.f2]) (.int .i64 (a : Nat))).run Try.prog w = .ok (.int .i64 (fixO o a)) w
  | 0, _ => fun _ => by kernel_rfl
  | 1, _ => fun _ => by kernel_rfl
  | 2, _ => fun _ => by kernel_rfl
  | a + 3, h => by omega
theorem drop3C : ∀ a : Nat, a < 3 → [0, 1, 2].drop a = a :: [0, 1, 2].drop (a + 1)
  | 0, _ => rfl
  | 1, _ => rfl
  | 2, _ => rfl
  | a + 3, h => by omega
theorem RowAt.neC {w : World} {a b : Nat} {t T : TypeId} {cs ds : List Value} (h : RowAt w a t cs) (g : RowAt w b T ds) (ht : t ≠ T) : a ≠ b := by
  intro e
  subst e
  have := h.symm.trans g
  simp at this
  exact ht this.2
/- the answer's variable is told -/
theorem tell3 {w wr : World} {ob gb : Nat} {V : ObjV} {o : ObjD} {ds : List Value} (h : Looks w wr ob V o) (hg : RowAt wr gb A3T ds) (hd : ds.length = 3) (hw : w.heap.size ≤ gb) (xs : List Value) (hx : xs.length = 3) (h1 : Ones xs) :
    (Instr.storeAt A3T (.pointer (some ⟨gb, 0, none⟩)) (.agg xs.toArray)).run Try.prog wr = .ok () (wr.setRow gb xs.toArray) ∧ RowAt (wr.setRow gb xs.toArray) gb A3T xs ∧ Kept (· = gb) wr (wr.setRow gb xs.toArray) ∧ Below w.heap.size w (wr.setRow gb xs.toArray) := by
  obtain ⟨r1, r2, r3⟩ := told_row hg hd hx h1 size_a3
  exact ⟨r1, r2, r3, r3.below h.below h.below.size fun k _ e => by omega⟩
/- while Refs goes on -/
structure Pk (w wr : World) (ob gb rb mb : Nat) (V : ObjV) (o : ObjD) (P : List Int) (f : Nat → Bool) (cs : List Value) (Ls : List (List RefD)) : Prop where
  look : Looks w wr ob V o
  gon : RowAt wr gb A3T nil3
  row : RowAt wr mb 4 (metN o.code.length f)
  met : MetP P f
  res : RowAt wr rb A3T cs
  len : cs.length = 3
  one : Ones cs
  els : ∀ (j : Nat) (l : List RefD), Ls[j]? = some l → ∃ v, cs[j]? = some v ∧ SRow CT 3 wr v l.length (rows refRow l)
  far : w.heap.size ≤ gb ∧ w.heap.size ≤ rb ∧ w.heap.size ≤ mb ∧ gb ≠ rb
theorem Pk.on {w wr w' : World} {ob gb rb mb : Nat} {V : ObjV} {o : ObjD} {P : List Int} {f : Nat → Bool} {cs : List Value} {Ls : List (List RefD)} (h : Pk w wr ob gb rb mb V o P f cs Ls) (hb : Below wr.heap.size wr w') : Pk w w' ob gb rb mb V o P f cs Ls := by
  have k := Kept.of_below (S := fun _ => False) hb
  refine ⟨h.look.on3 hb, h.gon.keep k (fun e => e), h.row.keep k (fun e => e), h.met, h.res.keep k (fun e => e), h.len, h.one, fun j l hl => ?_, h.far⟩
  obtain ⟨v, hv, hr⟩ := h.els j l hl
  exact ⟨v, hv, hr.keep k (fun _ _ e => e)⟩
theorem Pk.taken {w wr w' : World} {ob gb rb mb : Nat} {V : ObjV} {o : ObjD} {P P' : List Int} {f f' : Nat → Bool} {cs : List Value} {Ls : List (List RefD)} (h : Pk w wr ob gb rb mb V o P f cs Ls) (t : Tak wr w' mb o.code.length P' f') : Pk w w' ob gb rb mb V o P' f' cs Ls := by
  refine ⟨⟨h.look.row.keep t.kept (h.look.row.neC h.row (by decide)), t.kept.below h.look.below h.look.below.size fun j _ e => by have := h.far.2.2.1; omega⟩, h.gon.keep t.kept (h.gon.neC h.row (by decide)), t.row, t.met, h.res.keep t.kept (h.res.neC h.row (by decide)), h.len, h.one, fun j l hl => ?_, h.far⟩
  obtain ⟨v, hv, hr⟩ := h.els j l hl
  exact ⟨v, hv, hr.keep t.kept (fun i hi e => by subst e; exact hr.notIn h.row (by decide) hi)⟩
theorem Pk.keptT {w wr w' : World} {ob gb rb mb : Nat} {V : ObjV} {o : ObjD} {P : List Int} {f : Nat → Bool} {cs : List Value} {Ls : List (List RefD)} (h : Pk w wr ob gb rb mb V o P f cs Ls) (k : Kept (· = mb) wr w') : Looks w w' ob V o ∧ RowAt w' gb A3T nil3 :=
  ⟨⟨h.look.row.keep k (h.look.row.neC h.row (by decide)), k.below h.look.below h.look.below.size fun j _ e => by have := h.far.2.2.1; omega⟩, h.gon.keep k (h.gon.neC h.row (by decide))⟩
theorem Pk.put {w wr : World} {ob gb rb mb : Nat} {V : ObjV} {o : ObjD} {P : List Int} {f : Nat → Bool} {cs : List Value} {Ls : List (List RefD)} (h : Pk w wr ob gb rb mb V o P f cs Ls) {a : Nat} {v : Value} {l : List RefD} (ha : Ls.length = a) (h3 : a < 3) (hv : SRow CT 3 wr v l.length (rows refRow l)) : Pk w (wr.setCell ⟨rb, a, none⟩ v) ob gb rb mb V o P f (cs.set a v) (Ls ++ [l]) := by
  have k := kept_set wr rb a v
  refine ⟨⟨h.look.row.keep k (h.look.row.neC h.res (by decide)), k.below h.look.below h.look.below.size fun j _ e => by have := h.far.2.1; omega⟩, h.gon.keep k h.far.2.2.2, h.row.keep k (h.row.neC h.res (by decide)), h.met, h.res.setCell a v, by rw [List.length_set]; exact h.len, fun u hu => ?_, fun j m hm => ?_, h.far⟩
  · rcases List.mem_or_eq_of_mem_set hu with e | e
    · exact h.one u e
    · subst e
      obtain ⟨_, _, rfl, _⟩ := hv.shape
      rfl
  · by_cases hj : j = a
    · subst hj
      rw [List.getElem?_append_right (by omega), ha, Nat.sub_self] at hm
      simp at hm
      subst hm
      exact ⟨v, by rw [List.getElem?_set_self (by have := h.len; omega)], hv.keep k (fun i hi e => by subst e; exact hv.notIn h.res (by decide) hi)⟩
    · have hl := (List.getElem?_eq_some_iff.1 hm).1
      simp at hl
      rw [List.getElem?_append_left (by omega)] at hm
      obtain ⟨u, hu, hr⟩ := h.els j m hm
      exact ⟨u, by rw [List.getElem?_set_ne (by omega)]; exact hu, hr.keep k (fun i hi e => by subst e; exact hr.notIn h.res (by decide) hi)⟩
/- what Refs answers -/
def PRefsTold (w : World) (ans : Option (List (List RefD))) (e : Ending) (w' : World) : Prop :=
  match ans with
  | some Ls => ∃ cs : List Value, e = .returned (.tuple #[.agg cs.toArray, .bool true]) ∧ cs.length = 3 ∧ Ones cs ∧ (∀ (j : Nat) (l : List RefD), Ls[j]? = some l → ∃ v, cs[j]? = some v ∧ ElsAt 3 refRow w' v l) ∧ Below w.heap.size w w'
  | none => e = .returned (.tuple #[.agg nil3.toArray, .bool false]) ∧ Below w.heap.size w w'
theorem PRefsTold.yes {w w' : World} {ans : Option (List (List RefD))} {Ls : List (List RefD)} {cs : List Value} (ha : ans = some Ls) (hl : cs.length = 3) (h1 : Ones cs) (he : ∀ (j : Nat) (l : List RefD), Ls[j]? = some l → ∃ v, cs[j]? = some v ∧ ElsAt 3 refRow w' v l) (hb : Below w.heap.size w w') : PRefsTold w ans (.returned (.tuple #[.agg cs.toArray, .bool true])) w' := by
  subst ha
  exact ⟨cs, rfl, hl, h1, he, hb⟩
theorem PRefsTold.no {w w' : World} {ans : Option (List (List RefD))} (hb : Below w.heap.size w w') (ha : ans = none) : PRefsTold w ans (.returned (.tuple #[.agg nil3.toArray, .bool false])) w' := by
  subst ha
  exact ⟨rfl, hb⟩
theorem refsV_no {o : ObjD} (h : ¬ PartsQ o) : refsV o = none := by
  unfold refsV
  rw [if_neg (fun g => h ((parts_iff o).2 g))]
theorem refsV_go {o : ObjD} (h : PartsQ o) : refsV o = refsG o [0, 1, 2] [] [] := by
  unfold refsV
  rw [if_pos ((parts_iff o).1 h)]

set_option maxRecDepth 100000 in
set_option maxHeartbeats 4000000 in
theorem prefs_any (V : ObjV) (o : ObjD) (w : World) (h : ObjAt w V o) :
    Calls Try.prog 42 #[.agg (ocells V o).toArray] w fun e w' => PRefsTold w (refsV o) e w' := by
  have HL' := Lib.hid (looks_new w V o)
  have HO := Lib.hid h
  obtain ⟨ans, hans⟩ : ∃ ans, ans = refsV o := ⟨_, rfl⟩
  have HANS := Lib.hid hans
  rw [← hans]
  obtain ⟨r1, hr1⟩ := some_bool (PartsQ o)
  have H1 := Lib.hid hr1
  obtain ⟨a6, q6, hv6, _⟩ := h.code.shape
  obtain ⟨n6, hn6⟩ : ∃ n, n = o.code.length := ⟨_, rfl⟩
  rw [← hn6] at hv6
  have HV6 := Lib.hid hv6
  have HN6 := Lib.hid hn6
  clear h hans hr1 hv6 hn6
  go_enter Try.func42, Try.ntmps42
  go_upto_region 1 with fail
  have HL2 : Hid (Looks w ((w.alloc (.cells (ocells V o).toArray OT)).alloc (.cells #[.slice none 0 0, .slice none 0 0, .slice none 0 0] A3T)) w.heap.size V o) := HL'.out.on3 ((Below.refl _ _).alloc (Nat.le_refl _) _)
  have HG2 : Hid (RowAt ((w.alloc (.cells (ocells V o).toArray OT)).alloc (.cells #[.slice none 0 0, .slice none 0 0, .slice none 0 0] A3T)) (w.heap.size + 1) A3T nil3) := by
    have := RowAt.new (w.alloc (.cells (ocells V o).toArray OT)) A3T nil3
    rw [show (w.alloc (.cells (ocells V o).toArray OT)).heap.size = w.heap.size + 1 by simp] at this
    exact this
  have HGW : Hid (w.heap.size ≤ w.heap.size + 1) := Nat.le_succ _
  clear HL'
  generalize (w.alloc (.cells (ocells V o).toArray OT)).alloc (.cells #[.slice none 0 0, .slice none 0 0, .slice none 0 0] A3T) = w0 at *
  generalize w.heap.size + 1 = gb at *
  obtain ⟨ob, hob⟩ : ∃ ob, ob = w.heap.size := ⟨_, rfl⟩
  have HL : Hid (Looks w w0 ob V o) := by rw [hob]; exact HL2.out
  rw [← hob]
  clear HL2 hob
  go_wp2_with (refine load_row_on rfl _ _ rfl ob rfl OT (ocells V o).toArray (0, 0) _ HL.out.row Try.underlying48 rfl (by rw [size_ob]; rfl) ?_)
  refine (parts_any V o r1 _ (HO.out.on HL.out.below) H1.out).mono ?_
  rintro e w1 ⟨rfl, hb1⟩
  have HL1 := Lib.hid (HL.out.on3 hb1)
  have HG1 := Lib.hid (HG2.out.keep (Kept.of_below (S := fun _ => False) hb1) (fun e => e))
  clear hb1 HL HG2
  cases r1 with
  | false =>
    as_aux_lemma =>
    have RES : Hid (ans = none) := HANS.out.trans (refsV_no fun g => by have := H1.out.2 g; cases this)
    have TELL := Lib.hid (tell3 HL1.out HG1.out rfl HGW.out nil3 rfl nil3_one)
    go_wp2_with (refine wpList_store_run _ rfl _ _ _ rfl _ _ rfl rfl (by exact TELL.out.1) ?_)
    refine bodyPost_ret (v := .tuple #[.agg nil3.toArray, .bool false]) ?_ rfl (PRefsTold.no TELL.out.2.2.2 RES.out)
    exact results_two Try.results42 _ _ gb A3T _ _ _ _ rfl rfl TELL.out.2.1 Try.underlying103 rfl (by rw [size_a3]; rfl)
  | true =>
  have HPQ : Hid (PartsQ o) := H1.out.1 rfl
  have HREF : Hid (refsG o [0, 1, 2] [] [] = ans) := (HANS.out.trans (refsV_go HPQ.out)).symm
  have s6 : n6 ≤ 256 := by have := HPQ.out.2.1.2.2.2; have := HN6.out; omega
  have hmk := make_boolsC n6 (by omega)
  have c6 : (w1.alloc (.cells #[.slice none 0 0, .slice none 0 0, .slice none 0 0] A3T)).cell? ⟨ob, 6, none⟩ = some (.slice a6 n6 q6) := ((HL1.out.on3 ((Below.refl _ _).alloc (Nat.le_refl _) _)).row.cell 6).trans (congrArg some HV6.out)
  have HC : Hid (Pk w ((w1.alloc (.cells #[.slice none 0 0, .slice none 0 0, .slice none 0 0] A3T)).alloc (.cells (metN n6 (fun _ => false)).toArray 4)) ob gb w1.heap.size (w1.heap.size + 1) V o [] (fun _ => false) nil3 []) := by
    have k1 : Below w1.heap.size w1 (w1.alloc (.cells #[.slice none 0 0, .slice none 0 0, .slice none 0 0] A3T)) := (Below.refl _ _).alloc (Nat.le_refl _) _
    have k2 : Kept (fun _ => False) (w1.alloc (.cells #[.slice none 0 0, .slice none 0 0, .slice none 0 0] A3T)) ((w1.alloc (.cells #[.slice none 0 0, .slice none 0 0, .slice none 0 0] A3T)).alloc (.cells (metN n6 (fun _ => false)).toArray 4)) := (Kept.refl _ _).alloc _
    have hlt := HG1.out.lt
    refine ⟨(HL1.out.on3 k1).on3 k2.none, (HG1.out.keep (Kept.of_below (S := fun _ => False) k1) (fun e => e)).keep k2 (fun e => e), ?_, MetP.start, (RowAt.new w1 A3T nil3).keep k2 (fun e => e), rfl, nil3_one, (fun j l h => by simp at h), ⟨HGW.out, HL1.out.below.size, Nat.le_trans HL1.out.below.size (Nat.le_succ _), by omega⟩⟩
    rw [← HN6.out]
    have := RowAt.new (w1.alloc (.cells #[.slice none 0 0, .slice none 0 0, .slice none 0 0] A3T)) 4 (metN n6 (fun _ => false))
    rw [show (w1.alloc (.cells #[.slice none 0 0, .slice none 0 0, .slice none 0 0] A3T)).heap.size = w1.heap.size + 1 by simp] at this
    exact this
  clear H1 HANS HL1 HG1 HGW
  go_upto_region 5 with fail
  clear hmk c6
  generalize (w1.alloc (.cells #[.slice none 0 0, .slice none 0 0, .slice none 0 0] A3T)).alloc (.cells (metN n6 (fun _ => false)).toArray 4) = w2 at *
  generalize w1.heap.size + 1 = mb at *
  generalize w1.heap.size = rb at *
  have c11 : w2.cell? ⟨ob, 11, none⟩ = some (.int .i64 o.f0) := HC.out.look.row.cell 11
  have c12 : w2.cell? ⟨ob, 12, none⟩ = some (.int .i64 o.f1) := HC.out.look.row.cell 12
  have c13 : w2.cell? ⟨ob, 13, none⟩ = some (.int .i64 o.f2) := HC.out.look.row.cell 13
  go_wp2_with fail
  clear c11 c12 c13
  go_loopw [20] (fun i wr => ∃ (a : Nat) (cs : List Value) (Ls : List (List RefD)) (P : List Int) (f : Nat → Bool), a ≤ 3 ∧ i = .int .i64 (a : Nat) ∧ Pk w wr ob gb rb mb V o P f cs Ls ∧ Ls.length = a ∧ refsG o ([0, 1, 2].drop a) Ls P = ans) (fun i _ => 3 - (intOf i).toNat)
  case atStart => exact ⟨0, nil3, [], [], _, by decide, rfl, HC.out, rfl, HREF.out⟩
  case round =>
    clear HC HREF
    obtain ⟨a, cs, Ls, P, f, ha, rfl, hC, hLL, hG⟩ := hrel
    have HC := Lib.hid hC
    have HLA : Hid (Ls.length = a) := hLL
    clear hC hLL
    by_cases hlt : a < 3
    · have HA : Hid (a < 3) := hlt
      have i1 : (a : Int) < 3 := by omega
      have i2 : (0 : Int) ≤ (a : Int) := by omega
      rw [drop3C a hlt] at hG
      have hix := fix_index o a hlt
      have HOP := Lib.hid (fun w => opOf_any a w)
      have HWO : Hid (WordsAt w (.slice a6 n6 q6) o.code) := ⟨by rw [← HV6.out]; exact HO.out.code, HO.out.fit.code⟩
      have HWF : Hid ((Lit.int .i64 (fixO o a)).wf = true) := WalkArith.wf_i64 (by unfold fixO; split; exact HO.out.fit.f0; split; exact HO.out.fit.f1; exact HO.out.fit.f2)
      cases hwk : walkV o.code (fixO o a) (opK a) with
      | none =>
        as_aux_lemma =>
        have RES : Hid (ans = none) := hG.symm.trans (refsG_none hwk)
        have HW : Hid (∀ w' : World, Below w.heap.size w w' → Calls Try.prog 46 #[.slice a6 n6 q6, .int .i64 (fixO o a), .int .i64 (opK a)] w' fun e w'' => e = .returned (.tuple #[.slice none 0 0, formV]) ∧ Below w'.heap.size w' w'') := fun w' hb => by
          have := walk_any a6 n6 q6 o.code (fixO o a) (opK a) w' (HWO.out.on hb) (by omega) HWF.out
          rw [hwk] at this
          exact this
        clear hG hwk hlt ha HWO HWF
        generalize fixO o a = hd at *
        generalize opK a = op at *
        go_wp2_with fail
        clear hix
        refine wp_region_held_drew (S := fun w' => Pk w w' ob gb rb mb V o P f cs Ls) (by kernel_rfl) ?_ (fun hHeld => ?_)
        · exact HC.out.on ((Drawn.of_n wr 1).below _)
        refine wpAnyH_take (i := 0) (v := ?_) rfl (by kernel_rfl) (by kernel_rfl) (by kernel_rfl) (fun _ _ _ h => h) (Or.inl ⟨by rfl, ?_⟩) (by assumption) ?_
        rotate_left
        · intro w hSw
          (try dsimp only at hSw)
          go_simp
          (try with_reducible rfl)
        try simp only [Act.put, List.getElem_toArray, List.getElem_cons_zero, List.setIfInBounds_toArray, List.set_cons_zero, List.set_cons_succ]
        refine wpAnyH_take (i := 1) (v := ?_) rfl (by kernel_rfl) (by kernel_rfl) (by kernel_rfl) (fun _ _ _ h => h) (Or.inl ⟨by rfl, ?_⟩) (by assumption) ?_
        rotate_left
        · intro w hSw
          have c6 := (hSw.look.row.cell 6).trans (congrArg some HV6.out)
          (try dsimp only at hSw)
          go_simp
          (try with_reducible rfl)
        try simp only [Act.put, List.getElem_toArray, List.getElem_cons_zero, List.getElem_cons_succ, List.setIfInBounds_toArray, List.set_cons_zero, List.set_cons_succ]
        refine wpAnyH_take (i := 2) (v := ?_) rfl (by kernel_rfl) (by kernel_rfl) (by kernel_rfl) (fun _ _ _ h => h) (Or.inl ⟨by rfl, ?_⟩) (by assumption) ?_
        rotate_left
        · intro w hSw
          (try dsimp only at hSw)
          go_simp
          (try with_reducible rfl)
        try simp only [Act.put, List.getElem_toArray, List.getElem_cons_zero, List.getElem_cons_succ, List.setIfInBounds_toArray, List.set_cons_zero, List.set_cons_succ]
        refine wpAnyH_take (i := 3) (v := ?_) rfl (by kernel_rfl) (by kernel_rfl) (by kernel_rfl) (fun _ _ _ h => h) (Or.inl ⟨by rfl, ?_⟩) (by assumption) ?_
        rotate_left
        · intro w hSw
          (try dsimp only at hSw)
          go_simp
          (try with_reducible rfl)
        try simp only [Act.put, List.getElem_toArray, List.getElem_cons_zero, List.getElem_cons_succ, List.setIfInBounds_toArray, List.set_cons_zero, List.set_cons_succ]
        refine wpAnyH_ready (rs := [4]) (by kernel_rfl) (by simp) ?_
        refine AllReadyH.cons rfl (fun K hK => ?_) AllReadyH.nil
        go_simp
        refine (HOP.out _).mono ?_
        rintro e we ⟨rfl, rfl⟩
        first | show K _ _ | go_wp2_with fail
        refine hK.out _ _ ?_ (fun hHeld1 => ?_)
        · exact hHeld
        clear hK K
        try simp only [Act.put, List.getElem_toArray, List.getElem_cons_zero, List.getElem_cons_succ, List.setIfInBounds_toArray, List.set_cons_zero, List.set_cons_succ]
        refine wpAnyH_ready (rs := [5]) (by kernel_rfl) (by simp) ?_
        refine AllReadyH.cons rfl (fun K hK => ?_) AllReadyH.nil
        go_simp
        refine (HW.out _ hHeld1.look.below).mono ?_
        rintro e we ⟨rfl, hbe⟩
        first | show K _ _ | go_wp2_with fail
        refine hK.out _ _ ?_ (fun hHeld2 => ?_)
        · exact hHeld1.on hbe
        clear hK K
        try simp only [Act.put, List.getElem_toArray, List.getElem_cons_zero, List.getElem_cons_succ, List.setIfInBounds_toArray, List.set_cons_zero, List.set_cons_succ]
        refine wpAnyH_take (i := 6) (v := ?_) rfl (by kernel_rfl) (by kernel_rfl) (by kernel_rfl) (fun _ _ _ h => h) (Or.inl ⟨by rfl, ?_⟩) (by assumption) ?_
        rotate_left
        · intro w hSw
          (try dsimp only at hSw)
          go_simp
          (try with_reducible rfl)
        try simp only [Act.put, List.getElem_toArray, List.getElem_cons_zero, List.getElem_cons_succ, List.setIfInBounds_toArray, List.set_cons_zero, List.set_cons_succ]
        refine wpAnyH_take (i := 7) (v := ?_) rfl (by kernel_rfl) (by kernel_rfl) (by kernel_rfl) (fun _ _ _ h => h) (Or.inl ⟨by rfl, ?_⟩) (by assumption) ?_
        rotate_left
        · intro w hSw
          (try dsimp only at hSw)
          go_simp
          (try with_reducible rfl)
        try simp only [Act.put, List.getElem_toArray, List.getElem_cons_zero, List.getElem_cons_succ, List.setIfInBounds_toArray, List.set_cons_zero, List.set_cons_succ]
        refine wpAnyH_take (i := 8) (v := ?_) rfl (by kernel_rfl) (by kernel_rfl) (by kernel_rfl) (fun _ _ _ h => h) (Or.inl ⟨by rfl, ?_⟩) (by assumption) ?_
        rotate_left
        · intro w hSw
          (try dsimp only at hSw)
          go_simp
          (try with_reducible rfl)
        try simp only [Act.put, List.getElem_toArray, List.getElem_cons_zero, List.getElem_cons_succ, List.setIfInBounds_toArray, List.set_cons_zero, List.set_cons_succ]
        refine wpAnyH_take (i := 9) (v := ?_) rfl (by kernel_rfl) (by kernel_rfl) (by kernel_rfl) (fun _ _ _ h => h) (Or.inl ⟨by rfl, ?_⟩) (by assumption) ?_
        rotate_left
        · intro w hSw
          (try dsimp only at hSw)
          go_simp
          (try with_reducible rfl)
        try simp only [Act.put, List.getElem_toArray, List.getElem_cons_zero, List.getElem_cons_succ, List.setIfInBounds_toArray, List.set_cons_zero, List.set_cons_succ]
        refine wpAnyH_take (i := 10) (v := ?_) rfl (by kernel_rfl) (by kernel_rfl) (by kernel_rfl) (fun _ _ _ h => h) (Or.inl ⟨by rfl, ?_⟩) (by assumption) ?_
        rotate_left
        · intro w hSw
          (try dsimp only at hSw)
          go_simp
          (try with_reducible rfl)
        try simp only [Act.put, List.getElem_toArray, List.getElem_cons_zero, List.getElem_cons_succ, List.setIfInBounds_toArray, List.set_cons_zero, List.set_cons_succ]
        refine wpAnyH_done (by kernel_rfl) ?_ _
        have TELL := Lib.hid (tell3 hHeld2.look hHeld2.gon rfl hHeld2.far.1 nil3 rfl nil3_one)
        clear hHeld hHeld1 hHeld2 HC hbe HW HOP
        go_wp2_with (refine wpList_store_run _ rfl _ _ _ rfl _ _ rfl rfl (by exact TELL.out.1) ?_)
        refine bodyPost_ret (v := .tuple #[.agg nil3.toArray, .bool false]) ?_ rfl (PRefsTold.no TELL.out.2.2.2 RES.out)
        exact results_two Try.results42 _ _ gb A3T _ _ _ _ rfl rfl TELL.out.2.1 Try.underlying103 rfl (by rw [size_a3]; rfl)
      | some l =>
        have HG1 : Hid ((scan o a l P).bind (fun P' => refsG o ([0, 1, 2].drop (a + 1)) (Ls ++ [l]) P') = ans) := (refsG_some hwk).symm.trans hG
        have HIN := Lib.hid (walkV_in hwk)
        have HW : Hid (∀ w' : World, Below w.heap.size w w' → Calls Try.prog 46 #[.slice a6 n6 q6, .int .i64 (fixO o a), .int .i64 (opK a)] w' fun e w'' => ∃ v, e = .returned (.tuple #[v, .nilIface]) ∧ WalkWay CT w' w'' v l) := fun w' hb => by
          have := walk_any a6 n6 q6 o.code (fixO o a) (opK a) w' (HWO.out.on hb) (by omega) HWF.out
          rw [hwk] at this
          exact this
        clear hG hwk hlt ha HWO HWF
        generalize fixO o a = hd at *
        generalize opK a = op at *
        go_wp2_with fail
        clear hix
        refine wp_region_held_drew (S := fun w' => Pk w w' ob gb rb mb V o P f cs Ls) (by kernel_rfl) ?_ (fun hHeld => ?_)
        · exact HC.out.on ((Drawn.of_n wr 1).below _)
        refine wpAnyH_take (i := 0) (v := ?_) rfl (by kernel_rfl) (by kernel_rfl) (by kernel_rfl) (fun _ _ _ h => h) (Or.inl ⟨by rfl, ?_⟩) (by assumption) ?_
        rotate_left
        · intro w hSw
          (try dsimp only at hSw)
          go_simp
          (try with_reducible rfl)
        try simp only [Act.put, List.getElem_toArray, List.getElem_cons_zero, List.setIfInBounds_toArray, List.set_cons_zero, List.set_cons_succ]
        refine wpAnyH_take (i := 1) (v := ?_) rfl (by kernel_rfl) (by kernel_rfl) (by kernel_rfl) (fun _ _ _ h => h) (Or.inl ⟨by rfl, ?_⟩) (by assumption) ?_
        rotate_left
        · intro w hSw
          have c6 := (hSw.look.row.cell 6).trans (congrArg some HV6.out)
          (try dsimp only at hSw)
          go_simp
          (try with_reducible rfl)
        try simp only [Act.put, List.getElem_toArray, List.getElem_cons_zero, List.getElem_cons_succ, List.setIfInBounds_toArray, List.set_cons_zero, List.set_cons_succ]
        refine wpAnyH_take (i := 2) (v := ?_) rfl (by kernel_rfl) (by kernel_rfl) (by kernel_rfl) (fun _ _ _ h => h) (Or.inl ⟨by rfl, ?_⟩) (by assumption) ?_
        rotate_left
        · intro w hSw
          (try dsimp only at hSw)
          go_simp
          (try with_reducible rfl)
        try simp only [Act.put, List.getElem_toArray, List.getElem_cons_zero, List.getElem_cons_succ, List.setIfInBounds_toArray, List.set_cons_zero, List.set_cons_succ]
        refine wpAnyH_take (i := 3) (v := ?_) rfl (by kernel_rfl) (by kernel_rfl) (by kernel_rfl) (fun _ _ _ h => h) (Or.inl ⟨by rfl, ?_⟩) (by assumption) ?_
        rotate_left
        · intro w hSw
          (try dsimp only at hSw)
          go_simp
          (try with_reducible rfl)
        try simp only [Act.put, List.getElem_toArray, List.getElem_cons_zero, List.getElem_cons_succ, List.setIfInBounds_toArray, List.set_cons_zero, List.set_cons_succ]
        refine wpAnyH_ready (rs := [4]) (by kernel_rfl) (by simp) ?_
        refine AllReadyH.cons rfl (fun K hK => ?_) AllReadyH.nil
        go_simp
        refine (HOP.out _).mono ?_
        rintro e we ⟨rfl, rfl⟩
        first | show K _ _ | go_wp2_with fail
        refine hK.out _ _ ?_ (fun hHeld1 => ?_)
        · exact hHeld
        clear hK K
        try simp only [Act.put, List.getElem_toArray, List.getElem_cons_zero, List.getElem_cons_succ, List.setIfInBounds_toArray, List.set_cons_zero, List.set_cons_succ]
        refine wpAnyH_ready (rs := [5]) (by kernel_rfl) (by simp) ?_
        refine AllReadyH.cons rfl (fun K hK => ?_) AllReadyH.nil
        go_simp
        refine (HW.out _ hHeld1.look.below).mono ?_
        rintro e we ⟨v1, rfl, hw1⟩
        first | show K _ _ | go_wp2_with fail
        refine hK.out _ _ ?_ (fun hHeld2 => ?_)
        · exact hHeld1.on hw1.2.2
        clear hK K
        try simp only [Act.put, List.getElem_toArray, List.getElem_cons_zero, List.getElem_cons_succ, List.setIfInBounds_toArray, List.set_cons_zero, List.set_cons_succ]
        refine wpAnyH_take (i := 6) (v := ?_) rfl (by kernel_rfl) (by kernel_rfl) (by kernel_rfl) (fun _ _ _ h => h) (Or.inl ⟨by rfl, ?_⟩) (by assumption) ?_
        rotate_left
        · intro w hSw
          (try dsimp only at hSw)
          go_simp
          (try with_reducible rfl)
        try simp only [Act.put, List.getElem_toArray, List.getElem_cons_zero, List.getElem_cons_succ, List.setIfInBounds_toArray, List.set_cons_zero, List.set_cons_succ]
        refine wpAnyH_take (i := 7) (v := ?_) rfl (by kernel_rfl) (by kernel_rfl) (by kernel_rfl) (fun _ _ _ h => h) (Or.inl ⟨by rfl, ?_⟩) (by assumption) ?_
        rotate_left
        · intro w hSw
          (try dsimp only at hSw)
          go_simp
          (try with_reducible rfl)
        try simp only [Act.put, List.getElem_toArray, List.getElem_cons_zero, List.getElem_cons_succ, List.setIfInBounds_toArray, List.set_cons_zero, List.set_cons_succ]
        refine wpAnyH_take (i := 8) (v := ?_) rfl (by kernel_rfl) (by kernel_rfl) (by kernel_rfl) (fun _ _ _ h => h) (Or.inl ⟨by rfl, ?_⟩) (by assumption) ?_
        rotate_left
        · intro w hSw
          (try dsimp only at hSw)
          go_simp
          (try with_reducible rfl)
        try simp only [Act.put, List.getElem_toArray, List.getElem_cons_zero, List.getElem_cons_succ, List.setIfInBounds_toArray, List.set_cons_zero, List.set_cons_succ]
        refine wpAnyH_take (i := 9) (v := ?_) rfl (by kernel_rfl) (by kernel_rfl) (by kernel_rfl) (fun _ _ _ h => h) (Or.inl ⟨by rfl, ?_⟩) (by assumption) ?_
        rotate_left
        · intro w hSw
          (try dsimp only at hSw)
          go_simp
          (try with_reducible rfl)
        try simp only [Act.put, List.getElem_toArray, List.getElem_cons_zero, List.getElem_cons_succ, List.setIfInBounds_toArray, List.set_cons_zero, List.set_cons_succ]
        refine wpAnyH_take (i := 10) (v := ?_) rfl (by kernel_rfl) (by kernel_rfl) (by kernel_rfl) (fun _ _ _ h => h) (Or.inl ⟨by rfl, ?_⟩) (by assumption) ?_
        rotate_left
        · intro w hSw
          (try dsimp only at hSw)
          go_simp
          (try with_reducible rfl)
        try simp only [Act.put, List.getElem_toArray, List.getElem_cons_zero, List.getElem_cons_succ, List.setIfInBounds_toArray, List.set_cons_zero, List.set_cons_succ]
        refine wpAnyH_done (by kernel_rfl) ?_ _
        have HC1 := Lib.hid hHeld2
        have HROW := Lib.hid hw1.1
        have HTK : Hid (Calls Try.prog 48 #[.slice (some ⟨mb, 0, none⟩) n6 n6, v1] we fun e w' => TakeTold we w' mb n6 l P e) := take_any mb n6 v1 l P f o.code we HN6.out ⟨by rw [HN6.out]; exact hHeld2.row, hHeld2.met, Kept.refl _ _⟩ hw1.1 HIN.out
        clear hHeld hHeld1 hHeld2 hw1 HC HW HOP
        go_wp2_with fail
        refine HTK.out.mono ?_
        rintro e w4 (⟨rfl, htp, f4, ht4⟩ | ⟨rfl, htp, hk4⟩)
        rotate_left
        · as_aux_lemma =>
          have RES : Hid (ans = none) := HG1.out.symm.trans (by rw [scan_none l P (fun g => htp g.1)]; rfl)
          have TELL := Lib.hid (tell3 (HC1.out.keptT hk4).1 (HC1.out.keptT hk4).2 rfl HC1.out.far.1 nil3 rfl nil3_one)
          clear HC1 HROW HTK hk4 htp
          go_wp2_with (refine wpList_store_run _ rfl _ _ _ rfl _ _ rfl rfl (by exact TELL.out.1) ?_)
          refine bodyPost_ret (v := .tuple #[.agg nil3.toArray, .bool false]) ?_ rfl (PRefsTold.no TELL.out.2.2.2 RES.out)
          exact results_two Try.results42 _ _ gb A3T _ _ _ _ rfl rfl TELL.out.2.1 Try.underlying103 rfl (by rw [size_a3]; rfl)
        have HTP := Lib.hid htp
        have HC4 : Hid (Pk w w4 ob gb rb mb V o (placesT l P) f4 cs Ls) := HC1.out.taken (by rw [← HN6.out]; exact ht4)
        have HR4 : Hid (SRow CT 3 w4 v1 l.length (rows refRow l)) := HROW.out.keep ht4.kept (fun i hi e => by subst e; exact HROW.out.notIn HC1.out.row (by decide) hi)
        clear htp ht4 HC1 HROW HTK
        obtain ⟨rm, hrm⟩ := some_bool (AllOk o a l)
        have HRM := Lib.hid hrm
        clear hrm
        go_wp2_with (refine load_row_on rfl _ _ rfl ob rfl OT (ocells V o).toArray (0, 0) _ HC4.out.look.row Try.underlying48 rfl (by rw [size_ob]; rfl) ?_)
        refine (meanAll_any V o a v1 l rm _ (HO.out.on HC4.out.look.below) (HR4.out.els refRow_len) HIN.out HRM.out).mono ?_
        rintro e w5 ⟨rfl, hb5⟩
        have HC5 := Lib.hid (HC4.out.on hb5)
        have HR5 := Lib.hid (HR4.out.keep (Kept.of_below (S := fun _ => False) hb5) (fun _ _ e => e))
        clear hb5 HC4 HR4
        cases rm with
        | false =>
          as_aux_lemma =>
          have RES : Hid (ans = none) := HG1.out.symm.trans (by rw [scan_none l P (fun g => by have := HRM.out.2 g.2; cases this)]; rfl)
          have TELL := Lib.hid (tell3 HC5.out.look HC5.out.gon rfl HC5.out.far.1 nil3 rfl nil3_one)
          clear HC5 HR5
          go_wp2_with (refine wpList_store_run _ rfl _ _ _ rfl _ _ rfl rfl (by exact TELL.out.1) ?_)
          refine bodyPost_ret (v := .tuple #[.agg nil3.toArray, .bool false]) ?_ rfl (PRefsTold.no TELL.out.2.2.2 RES.out)
          exact results_two Try.results42 _ _ gb A3T _ _ _ _ rfl rfl TELL.out.2.1 Try.underlying103 rfl (by rw [size_a3]; rfl)
        | true =>
          as_aux_lemma =>
          have HGN : Hid (refsG o ([0, 1, 2].drop (a + 1)) (Ls ++ [l]) (placesT l P) = ans) := by
            have := HG1.out
            rw [scan_some l P HTP.out (HRM.out.1 rfl)] at this
            exact this
          obtain ⟨x, hx⟩ : ∃ x, cs[a]? = some x := ⟨_, List.getElem?_eq_getElem (by have := HC5.out.len; have := HA.out; omega)⟩
          have cr : w5.cell? ⟨rb, a, none⟩ = some x := (HC5.out.res.cell a).trans hx
          have fr : w5.frozen? ⟨rb, a, none⟩ = false := HC5.out.res.free a
          have HC6 := Lib.hid (HC5.out.put HLA.out HA.out HR5.out)
          have HLN : Hid ((Ls ++ [l]).length = a + 1) := by show (Ls ++ [l]).length = a + 1; rw [List.length_append, HLA.out]; rfl
          clear hx HC5 HG1 HRM HTP
          obtain ⟨x1, x2, rfl, _⟩ := HR5.out.shape
          clear HR5
          go_wp2_with fail
          go_roundw
          case rel => exact ⟨a + 1, _, _, _, _, by have := HA.out; omega, by go_num, HC6.out, HLN.out, HGN.out⟩
          case measure => have := HA.out; simp [intOf]; omega
    · obtain rfl : a = 3 := by omega
      have RES : Hid (ans = some Ls) := by
        show ans = some Ls
        rw [← hG]
        rfl
      have i1 : ¬ ((3 : Nat) : Int) < 3 := by omega
      have TELL := Lib.hid (tell3 HC.out.look HC.out.gon rfl HC.out.far.1 cs HC.out.len HC.out.one)
      clear hG hlt ha
      go_wp2_with (first
        | (refine load_row_on rfl _ _ rfl rb rfl A3T cs.toArray (0, 0) _ HC.out.res Try.underlying103 rfl (by rw [size_a3]; simp [HC.out.len]) ?_)
        | (refine wpList_store_run _ rfl _ _ _ rfl _ _ rfl rfl (by exact TELL.out.1) ?_))
      refine bodyPost_ret (v := .tuple #[.agg cs.toArray, .bool true]) ?_ rfl (PRefsTold.yes RES.out HC.out.len HC.out.one (fun j l hl => ?_) TELL.out.2.2.2)
      · exact results_two Try.results42 _ _ gb A3T _ _ _ _ rfl rfl TELL.out.2.1 Try.underlying103 rfl (by rw [size_a3]; simp [HC.out.len])
      · obtain ⟨v, hv, hr⟩ := HC.out.els j l hl
        exact ⟨v, hv, (hr.keep TELL.out.2.2.1 (fun i hi e => by subst e; exact hr.notIn HC.out.gon (by decide) hi)).els refRow_len⟩
theorem box_a3 (wr : World) (xs : List Value) (hx : xs.length = 3) (h1 : Ones xs) :
    (Instr.storeAt A3T (.pointer (some ⟨wr.heap.size, 0, none⟩)) (.agg xs.toArray)).run Try.prog (wr.alloc (.cells #[.slice none 0 0, .slice none 0 0, .slice none 0 0] A3T)) = .ok () (wr.alloc (.cells xs.toArray A3T)) :=
  box_el wr A3T 3 nil3 xs rfl hx h1 size_a3
set_option maxRecDepth 100000 in
set_option maxHeartbeats 2000000 in
theorem valid_any (V : ObjV) (o : ObjD) (w : World) (h : ObjAt w V o) :
    Calls Try.prog 32 #[.agg (ocells V o).toArray] w fun e w' => e = .returned (.bool (refsV o).isSome) ∧ Below w.heap.size w w' := by
  have HL' := Lib.hid (looks_new w V o)
  have HO := Lib.hid h
  clear h
  go_enter Try.func32, Try.ntmps32
  go_upto_region 1 with fail
  generalize w.alloc (.cells (ocells V o).toArray OT) = w0 at *
  obtain ⟨ob, hob⟩ : ∃ ob, ob = w.heap.size := ⟨_, rfl⟩
  have HL : Hid (Looks w w0 ob V o) := by rw [hob]; exact HL'.out
  rw [← hob]
  clear HL' hob
  have HRF := Lib.hid (prefs_any V o w0 (HO.out.on HL.out.below))
  go_wp2_with (refine load_row_on rfl _ _ rfl ob rfl OT (ocells V o).toArray (0, 0) _ HL.out.row Try.underlying48 rfl (by rw [size_ob]; rfl) ?_)
  refine HRF.out.mono ?_
  rintro e w1 ht
  clear HRF
  cases hv : refsV o with
  | none =>
    as_aux_lemma =>
    have HV : Hid ((refsV o).isSome = false) := by show _ = _; rw [hv]; rfl
    rw [hv] at ht
    obtain ⟨rfl, hb⟩ := ht
    have RUN := Lib.hid (box_a3 w1 nil3 rfl nil3_one)
    have RES : Hid (Below w.heap.size w (w1.alloc (.cells nil3.toArray A3T))) := below_on (below_on HL.out.below hb HL.out.below.size) ((Below.refl _ _).alloc (Nat.le_refl _) _) (Nat.le_trans HL.out.below.size hb.size)
    clear hb hv HL
    go_wp2_with (refine wpList_store_run _ rfl _ _ _ rfl _ _ rfl rfl (by exact RUN.out) ?_)
    go_ret
    exact ⟨end_bool HV.out.symm, RES.out⟩
  | some Ls =>
    as_aux_lemma =>
    have HV : Hid ((refsV o).isSome = true) := by show _ = _; rw [hv]; rfl
    rw [hv] at ht
    obtain ⟨cs, rfl, hl, h1, _, hb⟩ := ht
    have RUN := Lib.hid (box_a3 w1 cs hl h1)
    have RES : Hid (Below w.heap.size w (w1.alloc (.cells cs.toArray A3T))) := below_on (below_on HL.out.below hb HL.out.below.size) ((Below.refl _ _).alloc (Nat.le_refl _) _) (Nat.le_trans HL.out.below.size hb.size)
    clear hb hv HL hl h1
    go_wp2_with (refine wpList_store_run _ rfl _ _ _ rfl _ _ rfl rfl (by exact RUN.out) ?_)
    go_ret
    exact ⟨end_bool HV.out.symm, RES.out⟩
end Go.Proofs.Ytkkjfbpflfknpaa

/-
  The examples at the head of layer 14's statements (up): true. No conditions.
-/
namespace Go.Proofs.Ytkkjfbpflfknpaa
open Go.ChangeShapes Go.WideShapes Go.ChangeAt Go.RowKit

def oneV (a : Option Addr) : ObjV := { nilO with c := .slice a 1 1 }
def oneO : ObjD := { noObj with name := ⟨#[65]⟩, code := [1472200704], body := 1 }
theorem fit_one : ObjFit oneO := ⟨by decide, by decide, (fun x hx => by cases hx), (fun x hx => by cases hx), i64_0, by decide, (fun x hx => by simp [oneO, noObj] at hx; omega), (fun x hx => by cases hx), (fun x hx => by cases hx), (fun x hx => by cases hx), (fun x hx => by cases hx), i64_0, i64_0, i64_0, ⟨by decide, by decide⟩⟩
theorem words_oneC (wr : World) (x : Nat) (t : TypeId) : ElsAt 1 wordRow (wr.alloc (.cells #[.int .u32 (x : Nat)] t)) (.slice (some ⟨wr.heap.size, 0, none⟩) 1 1) [x] := by
  have hr : RowAt (wr.alloc (.cells #[.int .u32 (x : Nat)] t)) wr.heap.size t [.int .u32 (x : Nat)] := RowAt.new wr t _
  have hs : SRow t 1 (wr.alloc (.cells #[.int .u32 (x : Nat)] t)) (.slice (some ⟨wr.heap.size, 0, none⟩) 1 1) [x].length (rows wordRow [x]) :=
    ⟨.inr ⟨_, 1, [], rfl, hr, rfl, Nat.le_refl _, by simp [maxLen]⟩, rfl, fun u hu => by simp [rows, wordRow] at hu; subst hu; rfl⟩
  exact hs.els fun _ => rfl
theorem obj_one (wr : World) : ObjAt (wr.alloc (.cells #[.int .u32 ((1472200704 : Nat) : Int)] 26)) (oneV (some ⟨wr.heap.size, 0, none⟩)) oneO :=
  ⟨els_none _ _ _, els_none _ _ _, words_oneC wr 1472200704 _, els_none _ _ _, els_none _ _ _, els_none _ _ _, els_none _ _ _, fit_one⟩
theorem name_A : NameP (ByteArray.mk #[65]) := by
  refine ⟨by decide, by decide, fun i hi => ?_⟩
  have h1 : i < 1 := hi
  obtain rfl : i = 0 := by omega
  exact .inl (.inr (by decide))
theorem nms_nil : NmsP [] := fun i s h => by simp at h
theorem parts_one : PartsQ oneO := by
  refine ⟨⟨⟨by decide, by decide⟩, fun i s hs => ?_, nms_nil⟩, ⟨⟨by decide, by decide⟩, by decide, by decide, by decide⟩, ⟨by decide, fun i x h => ?_⟩, fun i x h => ?_, ⟨by decide, fun i x h => ?_⟩, ⟨⟨by decide, fun i x h => ?_⟩, ⟨by decide, fun i x h => ?_⟩, fun i x h => ?_⟩, by decide, by decide⟩
  · have hs' : ([(ByteArray.mk #[65])] : List ByteArray)[i]? = some s := hs
    have hl := (List.getElem?_eq_some_iff.1 hs').1
    have hi : i < 1 := hl
    obtain rfl : i = 0 := by omega
    have e : ByteArray.mk #[65] = s := by simpa using hs'
    subst e
    exact ⟨name_A, fun k t hk => by omega⟩
  all_goals (simp [oneO, noObj] at h)
theorem refsV_none : refsV noObj = none := refsV_no fun g => by have := g.2.1.2.2.1; simp [noObj] at this
theorem walk_start (o : ObjD) (a : Nat) (h : fixO o a = 0) : walkV o.code (fixO o a) (opK a) = some [] := by
  unfold walkV
  rw [if_pos h]
theorem refsG_start {o : ObjD} {a : Nat} (h : fixO o a = 0) (ks : List Nat) (acc : List (List RefD)) (P : List Int) : refsG o (a :: ks) acc P = refsG o ks (acc ++ [[]]) P := by
  rw [refsG_some (walk_start o a h), scan]
  rfl
theorem refsV_one : refsV oneO = some [[], [], []] := by
  rw [refsV_go parts_one, refsG_start rfl, refsG_start rfl, refsG_start rfl, refsG]
  rfl
theorem valid_yes (V : ObjV) (o : ObjD) (w : World) (h : ObjAt w V o) (hv : (refsV o).isSome = true) : Calls Try.prog 32 #[.agg (ocells V o).toArray] w fun e w' => e = .returned (.bool true) ∧ Below w.heap.size w w' := by
  have := valid_any V o w h
  rw [hv] at this
  exact this
theorem valid_no (V : ObjV) (o : ObjD) (w : World) (h : ObjAt w V o) (hv : (refsV o).isSome = false) : Calls Try.prog 32 #[.agg (ocells V o).toArray] w fun e w' => e = .returned (.bool false) ∧ Below w.heap.size w w' := by
  have := valid_any V o w h
  rw [hv] at this
  exact this

end Go.Proofs.Ytkkjfbpflfknpaa
