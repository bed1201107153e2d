/-
  The program's small functions of check (layer 14): isUpTo, isBelow, Fits, opOf, placesOf, baseMay. No conditions beyond those that each theorem names.
-/
import Derived.Test.YtekcebmojjkoeaaCkMa
import Derived.Test.YtekcebmojjkoeaaFewS
namespace Go.Proofs.Ytekcebmojjkoeaa
open Go.ChangeShapes Go.WideShapes Go.ChangeAt Go.RowKit

abbrev TyT : TypeId := 77
set_option maxRecDepth 100000 in
theorem isUpTo_any (n m : Int) (r : Bool) (w : World) (hr : r = true ↔ 0 ≤ n ∧ n ≤ m) :
    Calls Try.prog 31 #[.int .i64 n, .int .i64 m] w fun e w' => e = .returned (.bool r) ∧ w = w' := by
  by_cases h1 : 0 ≤ n
  · by_cases h2 : n ≤ m
    · obtain rfl : r = true := hr.2 ⟨h1, h2⟩
      clear hr
      go_enter Try.func31, Try.ntmps31
      go_wp2_with fail
      go_ret
      exact ⟨end_bool (by simp <;> omega), rfl⟩
    · obtain rfl : r = false := bool_not hr (by omega)
      have h3 : decide (n ≤ m) = false := by simpa using h2
      clear hr
      go_enter Try.func31, Try.ntmps31
      go_wp2_with fail
      go_ret
      exact ⟨end_bool (by simp <;> omega), rfl⟩
  · obtain rfl : r = false := bool_not hr (by omega)
    have h2 : n < 0 := by omega
    clear hr h1
    go_enter Try.func31, Try.ntmps31
    go_wp2_with fail
    go_ret
    exact ⟨end_bool (by simp <;> omega), rfl⟩
set_option maxRecDepth 100000 in
theorem isBelow_any (n m : Int) (r : Bool) (w : World) (hr : r = true ↔ 0 ≤ n ∧ n < m) :
    Calls Try.prog 39 #[.int .i64 n, .int .i64 m] w fun e w' => e = .returned (.bool r) ∧ w = w' := by
  by_cases h1 : 0 ≤ n
  · by_cases h2 : n < m
    · obtain rfl : r = true := hr.2 ⟨h1, h2⟩
      clear hr
      go_enter Try.func39, Try.ntmps39
      go_wp2_with fail
      go_ret
      exact ⟨end_bool (by simp <;> omega), rfl⟩
    · obtain rfl : r = false := bool_not hr (by omega)
      have h3 : decide (n < m) = false := by simpa using h2
      clear hr
      go_enter Try.func39, Try.ntmps39
      go_wp2_with fail
      go_ret
      exact ⟨end_bool (by simp <;> omega), rfl⟩
  · obtain rfl : r = false := bool_not hr (by omega)
    have h2 : n < 0 := by omega
    clear hr h1
    go_enter Try.func39, Try.ntmps39
    go_wp2_with fail
    go_ret
    exact ⟨end_bool (by simp <;> omega), rfl⟩
set_option maxRecDepth 100000 in
set_option maxHeartbeats 1000000 in
theorem pfits_any (a k : Int) (w : World) (r : Bool) (hr : r = true ↔ FitsP a k) :
    Calls Try.prog 10 #[.int .i64 a, .int .i64 k] w fun e w' => e = .returned (.bool r) ∧ w = w' := by
  unfold FitsP at hr
  by_cases h0 : a = 0
  · subst h0
    by_cases k0 : k = 0
    · subst k0
      obtain rfl : r = true := hr.2 (.inl ⟨rfl, rfl⟩)
      clear hr
      go_enter Try.func10, Try.ntmps10
      go_wp2_with fail
      go_ret
      exact ⟨rfl, rfl⟩
    · obtain rfl : r = false := bool_not hr (by omega)
      have e0 : (k == 0) = false := by simp [k0]
      clear hr
      go_enter Try.func10, Try.ntmps10
      go_wp2_with fail
      go_ret
      exact ⟨rfl, rfl⟩
  · have g0 : (a == 0) = false := by simp [h0]
    by_cases h1 : a = 1
    · subst h1
      by_cases k0 : k = 0
      · subst k0
        obtain rfl : r = true := hr.2 (.inr (.inl ⟨rfl, .inl rfl⟩))
        clear hr
        go_enter Try.func10, Try.ntmps10
        go_wp2_with fail
        go_ret
        exact ⟨rfl, rfl⟩
      · have e0 : (k == 0) = false := by simp [k0]
        by_cases k1 : k = 1
        · subst k1
          obtain rfl : r = true := hr.2 (.inr (.inl ⟨rfl, .inr rfl⟩))
          clear hr
          go_enter Try.func10, Try.ntmps10
          go_wp2_with fail
          go_ret
          exact ⟨rfl, rfl⟩
        · have e1 : (k == 1) = false := by simp [k1]
          obtain rfl : r = false := bool_not hr (by omega)
          clear hr
          go_enter Try.func10, Try.ntmps10
          go_wp2_with fail
          go_ret
          exact ⟨rfl, rfl⟩
    · have g1 : (a == 1) = false := by simp [h1]
      by_cases h2 : a = 2
      · subst h2
        by_cases k2 : k = 2
        · subst k2
          obtain rfl : r = true := hr.2 (.inr (.inr ⟨rfl, rfl⟩))
          clear hr
          go_enter Try.func10, Try.ntmps10
          go_wp2_with fail
          go_ret
          exact ⟨rfl, rfl⟩
        · have e2 : (k == 2) = false := by simp [k2]
          obtain rfl : r = false := bool_not hr (by omega)
          clear hr
          go_enter Try.func10, Try.ntmps10
          go_wp2_with fail
          go_ret
          exact ⟨rfl, rfl⟩
      · have g2 : (a == 2) = false := by simp [h2]
        obtain rfl : r = false := bool_not hr (by omega)
        clear hr
        go_enter Try.func10, Try.ntmps10
        go_wp2_with fail
        go_ret
        exact ⟨rfl, rfl⟩
set_option maxRecDepth 100000 in
theorem opOf_any (a : Nat) (w : World) :
    Calls Try.prog 18 #[.int .i64 (a : Nat)] w fun e w' => e = .returned (.int .i64 (opK a)) ∧ w = w' := by
  unfold opK
  by_cases h : a = 0
  · subst h
    go_enter Try.func18, Try.ntmps18
    go_wp2_with fail
    go_ret
    exact ⟨rfl, rfl⟩
  · have e0 : (((a : Nat) : Int) == 0) = false := by simp; omega
    rw [if_neg h]
    go_enter Try.func18, Try.ntmps18
    go_wp2_with fail
    go_ret
    exact ⟨rfl, rfl⟩
set_option maxRecDepth 100000 in
set_option maxHeartbeats 1000000 in
theorem places_any (V : ObjV) (o : ObjD) (k : Int) (w : World) (h : ObjAt w V o) :
    Calls Try.prog 40 #[.agg (ocells V o).toArray, .int .i64 k] w fun e w' => e = .returned (.int .i64 (placesV o k)) ∧ Below w.heap.size w w' := by
  have HX' : Hid (RowAt (w.alloc (.cells (ocells V o).toArray OT)) w.heap.size OT (ocells V o) ∧ Below w.heap.size w (w.alloc (.cells (ocells V o).toArray OT))) := ⟨RowAt.new w _ _, (Below.refl _ _).alloc (Nat.le_refl _) _⟩
  obtain ⟨a3, q3, hv3, _⟩ := h.types.shape
  obtain ⟨n3, hn3⟩ : ∃ n, n = o.types.length := ⟨_, rfl⟩
  rw [← hn3] at hv3
  have HV3 := Lib.hid hv3
  have HN3 := Lib.hid hn3
  obtain ⟨a6, q6, hv6, _⟩ := h.code.shape
  obtain ⟨n6, hn6⟩ : ∃ n, n = o.code.length := ⟨_, rfl⟩
  rw [← hn6] at hv6
  have HV6 := Lib.hid hv6
  have HN6 := Lib.hid hn6
  clear h hn3 hn6 hv3 hv6
  unfold placesV
  by_cases h0 : k = 0
  · subst h0
    rw [if_pos rfl, ← HN6.out]
    go_enter Try.func40, Try.ntmps40
    go_upto_region 1 with fail
    generalize w.alloc (.cells (ocells V o).toArray OT) = w0 at *
    obtain ⟨ob, hob⟩ : ∃ ob, ob = w.heap.size := ⟨_, rfl⟩
    have HX : Hid (RowAt w0 ob OT (ocells V o) ∧ Below w.heap.size w w0) := by rw [hob]; exact HX'.out
    rw [← hob]
    clear HX' hob
    have c3 : w0.cell? ⟨ob, 3, none⟩ = some (.slice a3 n3 q3) := (HX.out.1.cell 3).trans (congrArg some HV3.out)
    have c4 : w0.cell? ⟨ob, 4, none⟩ = some (.int .i64 o.data) := HX.out.1.cell 4
    have c6 : w0.cell? ⟨ob, 6, none⟩ = some (.slice a6 n6 q6) := (HX.out.1.cell 6).trans (congrArg some HV6.out)
    go_wp2_with fail
    go_ret
    exact ⟨rfl, HX.out.2⟩
  have e0 : (k == 0) = false := by simp [h0]
  rw [if_neg h0]
  by_cases h1 : k = 1
  · subst h1
    rw [if_pos rfl]
    go_enter Try.func40, Try.ntmps40
    go_upto_region 1 with fail
    generalize w.alloc (.cells (ocells V o).toArray OT) = w0 at *
    obtain ⟨ob, hob⟩ : ∃ ob, ob = w.heap.size := ⟨_, rfl⟩
    have HX : Hid (RowAt w0 ob OT (ocells V o) ∧ Below w.heap.size w w0) := by rw [hob]; exact HX'.out
    rw [← hob]
    clear HX' hob
    have c3 : w0.cell? ⟨ob, 3, none⟩ = some (.slice a3 n3 q3) := (HX.out.1.cell 3).trans (congrArg some HV3.out)
    have c4 : w0.cell? ⟨ob, 4, none⟩ = some (.int .i64 o.data) := HX.out.1.cell 4
    have c6 : w0.cell? ⟨ob, 6, none⟩ = some (.slice a6 n6 q6) := (HX.out.1.cell 6).trans (congrArg some HV6.out)
    go_wp2_with fail
    go_ret
    exact ⟨rfl, HX.out.2⟩
  have e1 : (k == 1) = false := by simp [h1]
  rw [if_neg h1]
  by_cases h2 : k = 2
  · subst h2
    rw [if_pos rfl, ← HN3.out]
    go_enter Try.func40, Try.ntmps40
    go_upto_region 1 with fail
    generalize w.alloc (.cells (ocells V o).toArray OT) = w0 at *
    obtain ⟨ob, hob⟩ : ∃ ob, ob = w.heap.size := ⟨_, rfl⟩
    have HX : Hid (RowAt w0 ob OT (ocells V o) ∧ Below w.heap.size w w0) := by rw [hob]; exact HX'.out
    rw [← hob]
    clear HX' hob
    have c3 : w0.cell? ⟨ob, 3, none⟩ = some (.slice a3 n3 q3) := (HX.out.1.cell 3).trans (congrArg some HV3.out)
    have c4 : w0.cell? ⟨ob, 4, none⟩ = some (.int .i64 o.data) := HX.out.1.cell 4
    have c6 : w0.cell? ⟨ob, 6, none⟩ = some (.slice a6 n6 q6) := (HX.out.1.cell 6).trans (congrArg some HV6.out)
    go_wp2_with fail
    go_ret
    exact ⟨rfl, HX.out.2⟩
  have e2 : (k == 2) = false := by simp [h2]
  rw [if_neg h2]
  go_enter Try.func40, Try.ntmps40
  go_upto_region 1 with fail
  generalize w.alloc (.cells (ocells V o).toArray OT) = w0 at *
  obtain ⟨ob, hob⟩ : ∃ ob, ob = w.heap.size := ⟨_, rfl⟩
  have HX : Hid (RowAt w0 ob OT (ocells V o) ∧ Below w.heap.size w w0) := by rw [hob]; exact HX'.out
  rw [← hob]
  clear HX' hob
  have c3 : w0.cell? ⟨ob, 3, none⟩ = some (.slice a3 n3 q3) := (HX.out.1.cell 3).trans (congrArg some HV3.out)
  have c4 : w0.cell? ⟨ob, 4, none⟩ = some (.int .i64 o.data) := HX.out.1.cell 4
  have c6 : w0.cell? ⟨ob, 6, none⟩ = some (.slice a6 n6 q6) := (HX.out.1.cell 6).trans (congrArg some HV6.out)
  go_wp2_with fail
  go_ret
  exact ⟨rfl, HX.out.2⟩
set_option maxRecDepth 100000 in
set_option maxHeartbeats 1000000 in
theorem base_any (s m b i n : Int) (r : Bool) (w : World) (hr : r = true ↔ BaseP (s, m, b) i n) :
    Calls Try.prog 38 #[.agg #[.int .i64 s, .int .i64 m, .int .i64 b], .int .i64 i, .int .i64 n] w fun e w' => e = .returned (.bool r) ∧ Below w.heap.size w w' := by
  unfold BaseP at hr
  dsimp only at hr
  by_cases h0 : m = 0
  · subst h0
    by_cases h1 : b = -1
    · subst h1
      obtain rfl : r = true := hr.2 (.inl ⟨rfl, .inl rfl⟩)
      clear hr
      go_enter Try.func38, Try.ntmps38
      go_wp2_with fail
      go_ret
      exact ⟨end_bool (by simp <;> omega), (Below.refl _ _).alloc (Nat.le_refl _) _⟩
    · have e1 : (b == -1) = false := by simp [h1]
      have HB := Lib.hid (fun w => isBelow_any b i r w (by rw [hr]; omega))
      clear hr
      go_enter Try.func38, Try.ntmps38
      go_wp2_with fail
      refine (HB.out _).mono ?_
      rintro e w' ⟨rfl, rfl⟩
      go_wp2_with fail
      go_ret
      exact ⟨end_bool (by simp <;> omega), (Below.refl _ _).alloc (Nat.le_refl _) _⟩
  · have e0 : (m == 0) = false := by simp [h0]
    by_cases h1 : 1 ≤ m
    · by_cases h2 : m ≤ n
      · have HB := Lib.hid (fun w => isBelow_any b 64 r w (by rw [hr]; omega))
        clear hr
        go_enter Try.func38, Try.ntmps38
        go_wp2_with fail
        refine (HB.out _).mono ?_
        rintro e w' ⟨rfl, rfl⟩
        go_wp2_with fail
        go_ret
        exact ⟨end_bool (by simp <;> omega), (Below.refl _ _).alloc (Nat.le_refl _) _⟩
      · obtain rfl : r = false := bool_not hr (by omega)
        have e3 : decide (m ≤ n) = false := by simpa using h2
        clear hr
        go_enter Try.func38, Try.ntmps38
        go_wp2_with fail
        go_ret
        exact ⟨end_bool (by simp <;> omega), (Below.refl _ _).alloc (Nat.le_refl _) _⟩
    · obtain rfl : r = false := bool_not hr (by omega)
      have e2 : decide ((1 : Int) ≤ m) = false := by simpa using h1
      clear hr
      go_enter Try.func38, Try.ntmps38
      go_wp2_with fail
      go_ret
      exact ⟨end_bool (by simp <;> omega), (Below.refl _ _).alloc (Nat.le_refl _) _⟩
end Go.Proofs.Ytekcebmojjkoeaa
