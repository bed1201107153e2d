/-
  Contracts of package zone (layer 6): the small functions over places and over one zone. No conditions beyond those that each theorem names.
-/
import Derived.Test.YtlnjcaicagcinaaZoneA
import Derived.Test.YtlnjcaicagcinaaZoneM
namespace Go.Proofs.Ytlnjcaicagcinaa
open Go.ChangeShapes Go.WideShapes Go.ChangeAt Go.RowKit

/- a zone, and the slices that it holds -/
structure ZR where
  z : ZV
  p : Sl
  q : Sl
def ZR.v (x : ZR) : Value := .agg #[.int .i64 x.z.b, .int .i64 x.z.d, .int .i64 x.z.r, .int .i64 x.z.e, x.p.v, x.q.v]
def ZR.el (x : ZR) : El 6 := ⟨[.int .i64 x.z.b, .int .i64 x.z.d, .int .i64 x.z.r, .int .i64 x.z.e, x.p.v, x.q.v], rfl, by
  intro u hu
  simp at hu
  rcases hu with rfl | rfl | rfl | rfl | rfl | rfl <;> rfl⟩

theorem tm4 (a : Int) : (a.tmod 4 == 0) = aligned a := by
  unfold aligned
  rw [Bool.eq_iff_iff]
  simp only [beq_iff_eq, decide_eq_true_eq]
  rw [← Int.dvd_iff_tmod_eq_zero, ← Int.dvd_iff_emod_eq_zero]

set_option maxRecDepth 100000 in
theorem ali_any (a : Int) (w : World) : Calls Try.prog 58 #[.int .i64 a] w fun e w' => e = .returned (.bool (aligned a)) ∧ w = w' := by
  have h := tm4 a
  generalize aligned a = b at *
  go_enter Try.func58, Try.ntmps58
  go_wp2
  go_ret
  exact ⟨rfl, rfl⟩

set_option maxRecDepth 100000 in
theorem within_any (a n f t : Int) (w : World) (hf : 0 ≤ f) (ht : t ≤ 65536) : Calls Try.prog 64 #[.int .i64 a, .int .i64 n, .int .i64 f, .int .i64 t] w fun e w' => e = .returned (.bool (within a n f t)) ∧ w = w' := by
  unfold within
  by_cases h1 : f ≤ a
  · by_cases h2 : a < t
    · have s : IntKind.i64.wrap (t - a) = t - a := IntWalk.i64_in _ (by omega)
      by_cases h3 : 1 ≤ n
      · by_cases h4 : n ≤ t - a
        · rw [show decide (f ≤ a ∧ a < t ∧ 1 ≤ n ∧ n ≤ t - a) = true by simp [h1, h2, h3, h4]]
          go_enter Try.func64, Try.ntmps64
          go_wp2
          go_ret
          exact ⟨rfl, rfl⟩
        · rw [show decide (f ≤ a ∧ a < t ∧ 1 ≤ n ∧ n ≤ t - a) = false by simp; omega]
          go_enter Try.func64, Try.ntmps64
          go_wp2
          go_ret
          exact ⟨rfl, rfl⟩
      · rw [show decide (f ≤ a ∧ a < t ∧ 1 ≤ n ∧ n ≤ t - a) = false by simp; omega]
        go_enter Try.func64, Try.ntmps64
        go_wp2
        go_ret
        exact ⟨rfl, rfl⟩
    · rw [show decide (f ≤ a ∧ a < t ∧ 1 ≤ n ∧ n ≤ t - a) = false by simp; omega]
      go_enter Try.func64, Try.ntmps64
      go_wp2
      go_ret
      exact ⟨rfl, rfl⟩
  · rw [show decide (f ≤ a ∧ a < t ∧ 1 ≤ n ∧ n ≤ t - a) = false by simp; omega]
    go_enter Try.func64, Try.ntmps64
    go_wp2
    go_ret
    exact ⟨rfl, rfl⟩

set_option maxRecDepth 100000 in
theorem stack_any (a n : Int) (w : World) : Calls Try.prog 85 #[.int .i64 a, .int .i64 n] w fun e w' => e = .returned (.bool (within a n 16 272)) ∧ w = w' := by
  go_enter Try.func85, Try.ntmps85
  go_wp2_with fail
  refine (within_any a n 16 272 _ (by omega) (by omega)).mono ?_
  rintro e w' ⟨rfl, rfl⟩
  go_wp2_with fail
  go_ret
  exact ⟨rfl, rfl⟩

set_option maxRecDepth 100000 in
theorem zedge_any (a : Int) (w : World) : Calls Try.prog 36 #[.int .i64 a] w fun e w' => e = .returned (.bool (edge a)) ∧ w = w' := by
  by_cases h1 : 272 ≤ a
  · by_cases h2 : a ≤ 65536
    · have h : edge a = aligned a := by simp [edge, aligned, h1, h2]
      have HA := Lib.hid (fun w => ali_any a w)
      rw [h]
      clear h
      generalize aligned a = b at *
      go_enter Try.func36, Try.ntmps36
      go_wp2_with fail
      refine (HA.out _).mono ?_
      rintro e w' ⟨rfl, rfl⟩
      cases b <;> (go_wp2_with fail; go_ret; exact ⟨rfl, rfl⟩)
    · have h : edge a = false := by simp [edge]; omega
      rw [h]
      go_enter Try.func36, Try.ntmps36
      go_wp2_with fail
      go_ret
      exact ⟨rfl, rfl⟩
  · have h : edge a = false := by simp [edge]; omega
    rw [h]
    go_enter Try.func36, Try.ntmps36
    go_wp2_with fail
    go_ret
    exact ⟨rfl, rfl⟩

set_option maxRecDepth 100000 in
theorem block_any (x : ZR) (w : World) : Calls Try.prog 22 #[x.v] w fun e w' => e = .returned (.bool (blockZ x.z)) ∧ Below w.heap.size w w' := by
  obtain ⟨⟨b, d, r, e, P, Q⟩, p, q⟩ := x
  have E1 := Lib.hid (fun w => zedge_any b w)
  have E2 := Lib.hid (fun w => zedge_any d w)
  have E3 := Lib.hid (fun w => zedge_any r w)
  have E4 := Lib.hid (fun w => zedge_any e w)
  show Calls Try.prog 22 #[.agg #[.int .i64 b, .int .i64 d, .int .i64 r, .int .i64 e, p.v, q.v]] w fun e' w' => e' = .returned (.bool (decide (b ≤ d ∧ d ≤ r ∧ r ≤ e ∧ b < e) && edge b && edge d && edge r && edge e)) ∧ Below w.heap.size w w'
  generalize p.v = pv
  generalize q.v = qv
  by_cases h1 : b ≤ d
  · by_cases h2 : d ≤ r
    · by_cases h3 : r ≤ e
      · by_cases h4 : b < e
        · rw [show decide (b ≤ d ∧ d ≤ r ∧ r ≤ e ∧ b < e) = true by simp [h1, h2, h3, h4], Bool.true_and]
          generalize edge b = b1 at *
          generalize edge d = b2 at *
          generalize edge r = b3 at *
          generalize edge e = b4 at *
          cases b1
          · rw [Bool.false_and, Bool.false_and, Bool.false_and]
            go_enter Try.func22, Try.ntmps22
            go_wp2_with fail
            refine (E1.out _).mono ?_
            rintro e' w' ⟨rfl, rfl⟩
            go_wp2_with fail
            go_ret
            exact ⟨rfl, (Below.refl _ _).alloc (Nat.le_refl _) _⟩
          · rw [Bool.true_and]
            cases b2
            · rw [Bool.false_and, Bool.false_and]
              go_enter Try.func22, Try.ntmps22
              go_wp2_with fail
              refine (E1.out _).mono ?_
              rintro e' w' ⟨rfl, rfl⟩
              go_wp2_with fail
              refine (E2.out _).mono ?_
              rintro e' w' ⟨rfl, rfl⟩
              go_wp2_with fail
              go_ret
              exact ⟨rfl, (Below.refl _ _).alloc (Nat.le_refl _) _⟩
            · rw [Bool.true_and]
              cases b3
              · rw [Bool.false_and]
                go_enter Try.func22, Try.ntmps22
                go_wp2_with fail
                refine (E1.out _).mono ?_
                rintro e' w' ⟨rfl, rfl⟩
                go_wp2_with fail
                refine (E2.out _).mono ?_
                rintro e' w' ⟨rfl, rfl⟩
                go_wp2_with fail
                refine (E3.out _).mono ?_
                rintro e' w' ⟨rfl, rfl⟩
                go_wp2_with fail
                go_ret
                exact ⟨rfl, (Below.refl _ _).alloc (Nat.le_refl _) _⟩
              · rw [Bool.true_and]
                go_enter Try.func22, Try.ntmps22
                go_wp2_with fail
                refine (E1.out _).mono ?_
                rintro e' w' ⟨rfl, rfl⟩
                go_wp2_with fail
                refine (E2.out _).mono ?_
                rintro e' w' ⟨rfl, rfl⟩
                go_wp2_with fail
                refine (E3.out _).mono ?_
                rintro e' w' ⟨rfl, rfl⟩
                go_wp2_with fail
                refine (E4.out _).mono ?_
                rintro e' w' ⟨rfl, rfl⟩
                go_wp2_with fail
                go_ret
                exact ⟨rfl, (Below.refl _ _).alloc (Nat.le_refl _) _⟩
        · rw [show decide (b ≤ d ∧ d ≤ r ∧ r ≤ e ∧ b < e) = false by simp; omega, Bool.false_and, Bool.false_and, Bool.false_and, Bool.false_and]
          go_enter Try.func22, Try.ntmps22
          go_wp2_with fail
          go_ret
          exact ⟨rfl, (Below.refl _ _).alloc (Nat.le_refl _) _⟩
      · rw [show decide (b ≤ d ∧ d ≤ r ∧ r ≤ e ∧ b < e) = false by simp; omega, Bool.false_and, Bool.false_and, Bool.false_and, Bool.false_and]
        go_enter Try.func22, Try.ntmps22
        go_wp2_with fail
        go_ret
        exact ⟨rfl, (Below.refl _ _).alloc (Nat.le_refl _) _⟩
    · rw [show decide (b ≤ d ∧ d ≤ r ∧ r ≤ e ∧ b < e) = false by simp; omega, Bool.false_and, Bool.false_and, Bool.false_and, Bool.false_and]
      go_enter Try.func22, Try.ntmps22
      go_wp2_with fail
      go_ret
      exact ⟨rfl, (Below.refl _ _).alloc (Nat.le_refl _) _⟩
  · rw [show decide (b ≤ d ∧ d ≤ r ∧ r ≤ e ∧ b < e) = false by simp; omega, Bool.false_and, Bool.false_and, Bool.false_and, Bool.false_and]
    go_enter Try.func22, Try.ntmps22
    go_wp2_with fail
    go_ret
    exact ⟨rfl, (Below.refl _ _).alloc (Nat.le_refl _) _⟩

set_option maxRecDepth 100000 in
theorem meets_any (x y : ZR) (w : World) : Calls Try.prog 24 #[x.v, y.v] w fun e w' => e = .returned (.bool (meetsZ x.z y.z)) ∧ Below w.heap.size w w' := by
  obtain ⟨⟨b, d, r, e, P, Q⟩, p, q⟩ := x
  obtain ⟨⟨b', d', r', e', P', Q'⟩, p', q'⟩ := y
  show Calls Try.prog 24 #[.agg #[.int .i64 b, .int .i64 d, .int .i64 r, .int .i64 e, p.v, q.v], .agg #[.int .i64 b', .int .i64 d', .int .i64 r', .int .i64 e', p'.v, q'.v]] w fun e0 w' => e0 = .returned (.bool (decide (b < e' ∧ b' < e))) ∧ Below w.heap.size w w'
  generalize p.v = pv
  generalize q.v = qv
  generalize p'.v = pv'
  generalize q'.v = qv'
  have k2 : ∀ o o', Below w.heap.size w ((w.alloc o).alloc o') := fun o o' => ((Below.refl _ _).alloc (Nat.le_refl _) _).alloc (by simp) _
  by_cases h1 : b < e'
  · by_cases h2 : b' < e
    · rw [show decide (b < e' ∧ b' < e) = true by simp [h1, h2]]
      go_enter Try.func24, Try.ntmps24
      go_wp2_with fail
      go_ret
      exact ⟨rfl, k2 _ _⟩
    · rw [show decide (b < e' ∧ b' < e) = false by simp; omega]
      go_enter Try.func24, Try.ntmps24
      go_wp2_with fail
      go_ret
      exact ⟨rfl, k2 _ _⟩
  · rw [show decide (b < e' ∧ b' < e) = false by simp; omega]
    go_enter Try.func24, Try.ntmps24
    go_wp2_with fail
    go_ret
    exact ⟨rfl, k2 _ _⟩

set_option maxRecDepth 100000 in
theorem iscell_any (x : ZR) (a : Int) (w : World) (hf : 0 ≤ x.z.b) (ht : x.z.d ≤ 65536) : Calls Try.prog 59 #[x.v, .int .i64 a] w fun e w' => e = .returned (.bool (cellOk x.z a)) ∧ Below w.heap.size w w' := by
  obtain ⟨⟨b, d, r, e, P, Q⟩, p, q⟩ := x
  show Calls Try.prog 59 #[.agg #[.int .i64 b, .int .i64 d, .int .i64 r, .int .i64 e, p.v, q.v], .int .i64 a] w fun e0 w' => e0 = .returned (.bool (aligned a && within a 4 b d)) ∧ Below w.heap.size w w'
  simp only at hf ht
  generalize p.v = pv
  generalize q.v = qv
  have HA := Lib.hid (fun w => ali_any a w)
  generalize aligned a = b1 at *
  go_enter Try.func59, Try.ntmps59
  go_wp2_with fail
  refine (HA.out _).mono ?_
  rintro e' w' ⟨rfl, rfl⟩
  cases b1
  · go_wp2_with fail
    go_ret
    exact ⟨by simp, (Below.refl _ _).alloc (Nat.le_refl _) _⟩
  · go_wp2_with fail
    refine (within_any a 4 b d _ hf ht).mono ?_
    rintro e' w' ⟨rfl, rfl⟩
    go_wp2_with fail
    go_ret
    exact ⟨by simp, (Below.refl _ _).alloc (Nat.le_refl _) _⟩

end Go.Proofs.Ytlnjcaicagcinaa
