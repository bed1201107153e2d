/-
  Contracts of package heap (layer 5): New, has, isFreeInPart, shrink, Holes. No conditions beyond those that each theorem names.
-/
import Derived.Test.YtiloflgpflgjnaaHeapE
import Derived.Deep.RegionHeld3
namespace Go.Proofs.Ytiloflgpflgjnaa
open Go.ChangeShapes Go.WideShapes Go.ChangeAt Go.RowKit

theorem has_any (p : Nat) (f t a n : Int) (v : Value) (L : List (Int × Int)) (w : World) (h : HeapAt w p f t v L) (hn : 0 ≤ n ∧ n ≤ 70000) (b : Bool) (hb : decide (f ≤ a ∧ a ≤ t - n) = b) :
    Calls Try.prog 22 #[.pointer (some ⟨p, 0, none⟩), .agg #[.int .i64 a, .int .i64 n]] w fun e w' => e = .returned (.bool b) ∧ Below w.heap.size w w' := by
  have c0 := h.c0
  have c1 := h.c1
  have hp := h.head.lt
  have r := h.range
  have hne : p ≠ w.heap.size := by omega
  clear h
  have s1 : IntKind.i64.wrap (t - n) = t - n := IntWalk.i64_in _ (by omega)
  by_cases h1 : f ≤ a
  · have g1 : decide (f ≤ a) = true := by simpa using h1
    by_cases h2 : a ≤ t - n
    · obtain rfl : b = true := by rw [← hb]; simp [h1, h2]
      have g2 : decide (a ≤ t - n) = true := by simpa using h2
      clear hb
      go_enter Try.func22, Try.ntmps22
      go_wp2
      go_quiet (fail)
      go_wp2
      go_ret
      exact ⟨rfl, ((Below.refl _ _).alloc (Nat.le_refl _) _).trans ((Drawn.of_n _ _).below _)⟩
    · obtain rfl : b = false := by rw [← hb]; simp [h2]
      have g2 : decide (a ≤ t - n) = false := by simpa using h2
      clear hb
      go_enter Try.func22, Try.ntmps22
      go_wp2
      go_quiet (fail)
      go_wp2
      go_ret
      exact ⟨rfl, ((Below.refl _ _).alloc (Nat.le_refl _) _).trans ((Drawn.of_n _ _).below _)⟩
  · have g1 : decide (f ≤ a) = false := by simpa using h1
    obtain rfl : b = false := by rw [← hb]; simp [h1]
    clear hb
    go_enter Try.func22, Try.ntmps22
    go_wp2
    go_quiet (fail)
    go_wp2
    go_ret
    exact ⟨rfl, ((Below.refl _ _).alloc (Nat.le_refl _) _).trans ((Drawn.of_n _ _).below _)⟩

theorem contains_any (p : Int × Int → Bool) (g : Nat) (lb : Array Value) (eg : ∀ args w, (callFunc g args).run Try.prog w = .ok (.enter g args) w) (v : Value) (L : List (Int × Int)) (w : World) (h : SRow HT 2 w v L.length (pcs L)) (small : L.length ≤ 100000) (hp : Asks g lb p L w) :
    Calls Try.prog 29 #[v, .func (.func g) #[] lb] w fun e w' => e = .returned (.bool (L.any p)) ∧ Below w.heap.size w w' := by
  have HI := Lib.hid (index_any p g lb eg v L w h small hp)
  clear h hp eg small
  go_enter Try.func29, Try.ntmps29
  go_wp2_with fail
  refine HI.out.mono ?_
  rintro e w' ⟨⟨r, rfl, hr⟩, hb⟩
  have HR := Lib.hid hr
  clear hr
  go_wp2_with fail
  go_ret
  refine ⟨end_bool ?_, hb⟩
  rcases HR.out with ⟨rfl, h1⟩ | ⟨A, x, B, rfl, rfl, h1, h2⟩
  · symm
    simpa using h1
  · have : (A ++ x :: B).any p = true := by simp [h2]
    rw [this]
    simp

theorem end_below (x : Int × Int) (w : World) (h1 : -65536 ≤ x.1 ∧ x.1 ≤ 140000) (h2 : -65536 ≤ x.2 ∧ x.2 ≤ 140000) :
    Calls Try.prog 31 #[.agg #[.int .i64 x.1, .int .i64 x.2]] w fun e w' => e = .returned (.int .i64 (x.1 + x.2)) ∧ Below w.heap.size w w' :=
  (end_any x w h1 h2).mono fun _ _ ⟨he, hw⟩ => ⟨he, hw ▸ (Below.refl _ _).alloc (Nat.le_refl _) _⟩
/- cells that are held while memory is made -/
theorem held1 {w1 w2 : World} {a : Addr} {x : Value} (hb : Below w1.heap.size w1 w2) (h : w1.cell? a = some x) : w2.cell? a = some x := (hb.cell (cell_lt h)).trans h
theorem held2 {w1 w2 : World} {a b : Addr} {x y : Value} (hb : Below w1.heap.size w1 w2) (h : w1.cell? a = some x ∧ w1.cell? b = some y) : w2.cell? a = some x ∧ w2.cell? b = some y := ⟨held1 hb h.1, held1 hb h.2⟩
theorem held4 {w0 w1 w2 : World} {B : Nat} {a b c d : Addr} {x y z u : Value} (hb : Below w1.heap.size w1 w2) (h : (w1.cell? a = some x ∧ w1.cell? b = some y) ∧ (w1.cell? c = some z ∧ w1.cell? d = some u) ∧ Below B w0 w1 ∧ B ≤ w1.heap.size) :
    (w2.cell? a = some x ∧ w2.cell? b = some y) ∧ (w2.cell? c = some z ∧ w2.cell? d = some u) ∧ Below B w0 w2 ∧ B ≤ w2.heap.size := ⟨held2 hb h.1, held2 hb h.2.1, below_on h.2.2.1 hb h.2.2.2, Nat.le_trans h.2.2.2 hb.size⟩
theorem held_out {w0 w1 : World} {B : Nat} {x y z : Prop} (h : (x ∧ y) ∧ z ∧ Below B w0 w1 ∧ B ≤ w1.heap.size) : Below B w0 w1 := h.2.2.1

set_option maxHeartbeats 1000000 in
theorem ask_part (a n : Int) (B : Nat) (L : List (Int × Int)) (w : World) (hB : B < w.heap.size) (c0 : w.cell? ⟨B, 0, none⟩ = some (.int .i64 a)) (c1 : w.cell? ⟨B, 1, none⟩ = some (.int .i64 n)) (ha : 0 ≤ a ∧ a ≤ 65536) (hn : 0 ≤ n ∧ n ≤ 70000) (hL : ∀ x ∈ L, 0 ≤ x.1 ∧ 0 < x.2 ∧ x.1 + x.2 ≤ 65536) :
    Asks 30 #[.pointer (some ⟨B, 0, none⟩)] (fun x => decide (x.1 < a + n ∧ a < x.1 + x.2)) L w := fun W x hx hb => by
  have c0' : W.cell? ⟨B, 0, none⟩ = some (.int .i64 a) := (hb.cell (p := ⟨B, 0, none⟩) hB).trans c0
  have c1' : W.cell? ⟨B, 1, none⟩ = some (.int .i64 n) := (hb.cell (p := ⟨B, 1, none⟩) hB).trans c1
  have hBW : B < W.heap.size := Nat.lt_of_lt_of_le hB hb.size
  have hxx := hL x hx
  clear hL hx c0 c1
  obtain ⟨y, s⟩ := x
  simp only at hxx
  show Calls Try.prog 30 #[.agg #[.int .i64 y, .int .i64 s], .pointer (some ⟨B, 0, none⟩)] W _
  have k0 : Below W.heap.size W (W.alloc (.cells #[.int .i64 y, .int .i64 s] HT)) := (Below.refl _ _).alloc (Nat.le_refl _) _
  have HS : Hid (((W.alloc (.cells #[.int .i64 y, .int .i64 s] HT)).drew.cell? ⟨B, 0, none⟩ = some (.int .i64 a) ∧ (W.alloc (.cells #[.int .i64 y, .int .i64 s] HT)).drew.cell? ⟨B, 1, none⟩ = some (.int .i64 n)) ∧
      ((W.alloc (.cells #[.int .i64 y, .int .i64 s] HT)).drew.cell? ⟨W.heap.size, 0, none⟩ = some (.int .i64 y) ∧ (W.alloc (.cells #[.int .i64 y, .int .i64 s] HT)).drew.cell? ⟨W.heap.size, 1, none⟩ = some (.int .i64 s)) ∧
      Below w.heap.size w (W.alloc (.cells #[.int .i64 y, .int .i64 s] HT)).drew ∧ w.heap.size ≤ (W.alloc (.cells #[.int .i64 y, .int .i64 s] HT)).drew.heap.size) :=
    ⟨held2 (w2 := W.alloc (.cells #[.int .i64 y, .int .i64 s] HT)) k0 ⟨c0', c1'⟩, ⟨by simp, by simp⟩, (hb.alloc hb.size _).trans (Drawn.below ⟨1, rfl⟩ _), by have := hb.size; simp; omega⟩
  have HE : Hid (∀ (a n : Int) (w : World), 0 ≤ a ∧ a ≤ 65536 → 0 ≤ n ∧ n ≤ 70000 → Calls Try.prog 31 #[.agg #[.int .i64 a, .int .i64 n]] w fun e w' => e = .returned (.int .i64 (a + n)) ∧ Below w.heap.size w w') := fun a n w h1 h2 => end_below (a, n) w (by simp only; omega) (by simp only; omega)
  clear hb k0 c0' c1'
  by_cases h1 : y < a + n
  · have g1 : decide (y < a + n) = true := by simpa using h1
    by_cases h2 : a < y + s
    · have g2 : decide (a < y + s) = true := by simpa using h2
      have e0 : decide (y < a + n ∧ a < y + s) = true := by simp [h1, h2]
      simp only [e0]
      clear e0
      go_enter Try.func30, Try.ntmps30
      go_wp2_with fail
      go_region_held3 (fun w' => (w'.cell? ⟨B, 0, none⟩ = some (.int .i64 a) ∧ w'.cell? ⟨B, 1, none⟩ = some (.int .i64 n)) ∧ (w'.cell? ⟨W.heap.size, 0, none⟩ = some (.int .i64 y) ∧ w'.cell? ⟨W.heap.size, 1, none⟩ = some (.int .i64 s)) ∧ Below w.heap.size w w' ∧ w.heap.size ≤ w'.heap.size)
        (first | exact HS.out | exact held4 (by assumption) (by assumption)) (first | (go_at_call 31; refine (HE.out _ _ _ (by omega) (by omega)).mono ?_; rintro e w' ⟨rfl, hb⟩))
      go_wp2
      go_ret
      exact ⟨rfl, held_out (by assumption)⟩
    · have g2 : decide (a < y + s) = false := by simpa using h2
      have e0 : decide (y < a + n ∧ a < y + s) = false := by simp [h2]
      simp only [e0]
      clear e0
      go_enter Try.func30, Try.ntmps30
      go_wp2_with fail
      go_region_held3 (fun w' => (w'.cell? ⟨B, 0, none⟩ = some (.int .i64 a) ∧ w'.cell? ⟨B, 1, none⟩ = some (.int .i64 n)) ∧ (w'.cell? ⟨W.heap.size, 0, none⟩ = some (.int .i64 y) ∧ w'.cell? ⟨W.heap.size, 1, none⟩ = some (.int .i64 s)) ∧ Below w.heap.size w w' ∧ w.heap.size ≤ w'.heap.size)
        (first | exact HS.out | exact held4 (by assumption) (by assumption)) (first | (go_at_call 31; refine (HE.out _ _ _ (by omega) (by omega)).mono ?_; rintro e w' ⟨rfl, hb⟩))
      go_wp2
      go_ret
      exact ⟨rfl, held_out (by assumption)⟩
  · have g1 : decide (y < a + n) = false := by simpa using h1
    have e0 : decide (y < a + n ∧ a < y + s) = false := by simp [h1]
    simp only [e0]
    clear e0
    go_enter Try.func30, Try.ntmps30
    go_wp2_with fail
    refine wp_region_held_drew (S := fun w' => (w'.cell? ⟨B, 0, none⟩ = some (.int .i64 a) ∧ w'.cell? ⟨B, 1, none⟩ = some (.int .i64 n)) ∧ (w'.cell? ⟨W.heap.size, 0, none⟩ = some (.int .i64 y) ∧ w'.cell? ⟨W.heap.size, 1, none⟩ = some (.int .i64 s)) ∧ Below w.heap.size w w' ∧ w.heap.size ≤ w'.heap.size) (by kernel_rfl) ?_ (fun hHeld => ?_)
    · exact HS.out
    refine wpAnyH_take (i := 0) (v := ?_) rfl (by kernel_rfl) (by kernel_rfl) (by kernel_rfl) (fun _ _ _ h => h) (Or.inl ⟨by rfl, ?_⟩) (by assumption) ?_
    rotate_left
    · intro w hSw
      (try dsimp only at hSw)
      go_simp
      (try with_reducible rfl)
    try simp only [Act.put, List.getElem_toArray, List.getElem_cons_zero, List.setIfInBounds_toArray, List.set_cons_zero, List.set_cons_succ]
    refine wpAnyH_take (i := 1) (v := ?_) rfl (by kernel_rfl) (by kernel_rfl) (by kernel_rfl) (fun _ _ _ h => h) (Or.inl ⟨by rfl, ?_⟩) (by assumption) ?_
    rotate_left
    · intro w hSw
      (try dsimp only at hSw)
      go_simp
      (try with_reducible rfl)
    try simp only [Act.put, List.getElem_toArray, List.getElem_cons_zero, List.getElem_cons_succ, List.setIfInBounds_toArray, List.set_cons_zero, List.set_cons_succ]
    refine wpAnyH_take (i := 2) (v := ?_) rfl (by kernel_rfl) (by kernel_rfl) (by kernel_rfl) (fun _ _ _ h => h) (Or.inl ⟨by rfl, ?_⟩) (by assumption) ?_
    rotate_left
    · intro w hSw
      (try dsimp only at hSw)
      go_simp
      (try with_reducible rfl)
    try simp only [Act.put, List.getElem_toArray, List.getElem_cons_zero, List.getElem_cons_succ, List.setIfInBounds_toArray, List.set_cons_zero, List.set_cons_succ]
    refine wpAnyH_ready (rs := [3]) (by kernel_rfl) (by simp) ?_
    refine AllReadyH.cons rfl (fun K hK => ?_) AllReadyH.nil
    go_simp
    refine (HE.out _ _ _ (by omega) (by omega)).mono ?_
    rintro e w' ⟨rfl, hb⟩
    first | show K _ _ | go_wp2_with fail
    refine hK.out _ _ ?_ (fun hHeld1 => ?_)
    · exact held4 hb hHeld
    clear hK K
    try simp only [Act.put, List.getElem_toArray, List.getElem_cons_zero, List.getElem_cons_succ, List.setIfInBounds_toArray, List.set_cons_zero, List.set_cons_succ]
    refine wpAnyH_take (i := 4) (v := ?_) rfl (by kernel_rfl) (by kernel_rfl) (by kernel_rfl) (fun _ _ _ h => h) (Or.inl ⟨by rfl, ?_⟩) (by assumption) ?_
    rotate_left
    · intro w hSw
      (try dsimp only at hSw)
      go_simp
      (try with_reducible rfl)
    try simp only [Act.put, List.getElem_toArray, List.getElem_cons_zero, List.getElem_cons_succ, List.setIfInBounds_toArray, List.set_cons_zero, List.set_cons_succ]
    refine wpAnyH_take (i := 5) (v := ?_) rfl (by kernel_rfl) (by kernel_rfl) (by kernel_rfl) (fun _ _ _ h => h) (Or.inl ⟨by rfl, ?_⟩) (by assumption) ?_
    rotate_left
    · intro w hSw
      (try dsimp only at hSw)
      go_simp
      (try with_reducible rfl)
    try simp only [Act.put, List.getElem_toArray, List.getElem_cons_zero, List.getElem_cons_succ, List.setIfInBounds_toArray, List.set_cons_zero, List.set_cons_succ]
    refine wpAnyH_take (i := 6) (v := undef) rfl (by kernel_rfl) (by kernel_rfl) (by kernel_rfl) (fun _ _ _ h => h) (Or.inr ⟨by rfl, rfl⟩) (by assumption) ?_
    try simp only [Act.put, List.getElem_toArray, List.getElem_cons_zero, List.getElem_cons_succ, List.setIfInBounds_toArray, List.set_cons_zero, List.set_cons_succ]
    refine wpAnyH_take (i := 7) (v := undef) rfl (by kernel_rfl) (by kernel_rfl) (by kernel_rfl) (fun _ _ _ h => h) (Or.inr ⟨by rfl, rfl⟩) (by assumption) ?_
    try simp only [Act.put, List.getElem_toArray, List.getElem_cons_zero, List.getElem_cons_succ, List.setIfInBounds_toArray, List.set_cons_zero, List.set_cons_succ]
    refine wpAnyH_take (i := 8) (v := undef) rfl (by kernel_rfl) (by kernel_rfl) (by kernel_rfl) (fun _ _ _ h => h) (Or.inr ⟨by rfl, rfl⟩) (by assumption) ?_
    try simp only [Act.put, List.getElem_toArray, List.getElem_cons_zero, List.getElem_cons_succ, List.setIfInBounds_toArray, List.set_cons_zero, List.set_cons_succ]
    refine wpAnyH_take (i := 9) (v := undef) rfl (by kernel_rfl) (by kernel_rfl) (by kernel_rfl) (fun _ _ _ h => h) (Or.inr ⟨by rfl, rfl⟩) (by assumption) ?_
    try simp only [Act.put, List.getElem_toArray, List.getElem_cons_zero, List.getElem_cons_succ, List.setIfInBounds_toArray, List.set_cons_zero, List.set_cons_succ]
    refine wpAnyH_take (i := 10) (v := undef) rfl (by kernel_rfl) (by kernel_rfl) (by kernel_rfl) (fun _ _ _ h => h) (Or.inr ⟨by rfl, rfl⟩) (by assumption) ?_
    try simp only [Act.put, List.getElem_toArray, List.getElem_cons_zero, List.getElem_cons_succ, List.setIfInBounds_toArray, List.set_cons_zero, List.set_cons_succ]
    refine wpAnyH_take (i := 11) (v := ?_) rfl (by kernel_rfl) (by kernel_rfl) (by kernel_rfl) (fun _ _ _ h => h) (Or.inl ⟨by rfl, ?_⟩) (by assumption) ?_
    rotate_left
    · intro w hSw
      (try dsimp only at hSw)
      go_simp
      (try with_reducible rfl)
    try simp only [Act.put, List.getElem_toArray, List.getElem_cons_zero, List.getElem_cons_succ, List.setIfInBounds_toArray, List.set_cons_zero, List.set_cons_succ]
    refine wpAnyH_take (i := 12) (v := ?_) rfl (by kernel_rfl) (by kernel_rfl) (by kernel_rfl) (fun _ _ _ h => h) (Or.inl ⟨by rfl, ?_⟩) (by assumption) ?_
    rotate_left
    · intro w hSw
      (try dsimp only at hSw)
      go_simp
      (try with_reducible rfl)
    try simp only [Act.put, List.getElem_toArray, List.getElem_cons_zero, List.getElem_cons_succ, List.setIfInBounds_toArray, List.set_cons_zero, List.set_cons_succ]
    refine wpAnyH_done (by kernel_rfl) ?_ _
    go_wp2
    go_ret
    exact ⟨rfl, held_out (by assumption)⟩

theorem part_any (p : Nat) (f t a n : Int) (v : Value) (L : List (Int × Int)) (w : World) (h : HeapAt w p f t v L) (ha : 0 ≤ a ∧ a ≤ 65536) (hn : 0 ≤ n ∧ n ≤ 70000) (b : Bool) (hb : (L.any fun x => decide (x.1 < a + n ∧ a < x.1 + x.2)) = b) :
    Calls Try.prog 23 #[.pointer (some ⟨p, 0, none⟩), .agg #[.int .i64 a, .int .i64 n]] w fun e w' => e = .returned (.bool b) ∧ Below w.heap.size w w' := by
  have c2 := h.c2
  have hp := h.head.lt
  have hne : p ≠ w.heap.size := by omega
  have k0 : Below w.heap.size w (w.alloc (.cells #[.int .i64 a, .int .i64 n] HT)) := (Below.refl _ _).alloc (Nat.le_refl _) _
  have h1 := h.below k0
  have HC := Lib.hid (contains_any _ 30 #[.pointer (some ⟨w.heap.size, 0, none⟩)] (fun _ _ => by rfl) v L _ h1.row (by have := h.few; omega)
    (ask_part a n w.heap.size L (w.alloc (.cells #[.int .i64 a, .int .i64 n] HT)) (by simp) (by simp) (by simp) ha hn fun x hx => by have := h.tidy.each x hx; have := h.range; omega))
  rw [hb] at HC
  have K0 := Lib.hid k0
  clear h h1 k0 hb
  go_enter Try.func23, Try.ntmps23
  go_wp2_with fail
  refine HC.out.mono ?_
  rintro e w' ⟨rfl, hb⟩
  go_wp2_with fail
  go_ret
  exact ⟨rfl, below_on K0.out hb K0.out.size⟩

theorem holes_any (p : Nat) (f t : Int) (v : Value) (L : List (Int × Int)) (w : World) (h : HeapAt w p f t v L) :
    Calls Try.prog 16 #[.pointer (some ⟨p, 0, none⟩)] w fun e w' => ∃ v', e = .returned v' ∧ SRow HT 2 w' v' L.length (pcs L) ∧ Kept (fun _ => False) w w' ∧ ∀ j, own v' j → w.heap.size ≤ j := by
  have c2 := h.c2
  have HC := Lib.hid (clone_any v L w h.row (by have := h.few; omega))
  clear h
  go_enter Try.func16, Try.ntmps16
  go_wp2_with fail
  refine HC.out.mono ?_
  rintro e w' ⟨v', rfl, hres⟩
  go_wp2_with fail
  go_ret
  exact ⟨v', rfl, hres⟩

theorem heapNew_no (f t : Int) (w : World) (h : ¬ (0 ≤ f ∧ f ≤ t ∧ t ≤ 65536 ∧ f % 4 = 0 ∧ t % 4 = 0)) :
    Calls Try.prog 6 #[.int .i64 f, .int .i64 t] w fun e w' => e = .returned (.tuple #[.pointer none, .iface 29 (.int .i64 1)]) ∧ w = w' := by
  have HE := Lib.hid (fun a b w h => edge_any a b w h)
  by_cases h1 : 0 ≤ f ∧ f ≤ 65536 ∧ f % 4 = 0
  · have E1 : Hid (decide (0 ≤ f ∧ f ≤ 65536 ∧ f % 4 = 0) = true) := by show _ = _; simpa using h1
    by_cases h2 : 0 ≤ t ∧ t ≤ 65536 ∧ t % 4 = 0
    · have E2 : Hid (decide (0 ≤ t ∧ t ≤ 65536 ∧ t % 4 = 0) = true) := by show _ = _; simpa using h2
      have h3 : t < f := by omega
      clear h h1 h2
      go_enter Try.func6, Try.ntmps6
      go_wp2_with fail
      refine (HE.out f true _ E1.out).mono ?_
      rintro e w' ⟨rfl, rfl⟩
      go_wp2_with fail
      refine (HE.out t true _ E2.out).mono ?_
      rintro e w' ⟨rfl, rfl⟩
      go_wp2_with fail
      go_ret2
      exact ⟨rfl, rfl⟩
    · have E2 : Hid (decide (0 ≤ t ∧ t ≤ 65536 ∧ t % 4 = 0) = false) := by show _ = _; simpa using h2
      clear h h1 h2
      go_enter Try.func6, Try.ntmps6
      go_wp2_with fail
      refine (HE.out f true _ E1.out).mono ?_
      rintro e w' ⟨rfl, rfl⟩
      go_wp2_with fail
      refine (HE.out t false _ E2.out).mono ?_
      rintro e w' ⟨rfl, rfl⟩
      go_wp2_with fail
      go_ret2
      exact ⟨rfl, rfl⟩
  · have E1 : Hid (decide (0 ≤ f ∧ f ≤ 65536 ∧ f % 4 = 0) = false) := by show _ = _; simpa using h1
    clear h h1
    go_enter Try.func6, Try.ntmps6
    go_wp2_with fail
    refine (HE.out f false _ E1.out).mono ?_
    rintro e w' ⟨rfl, rfl⟩
    go_wp2_with fail
    go_ret2
    exact ⟨rfl, rfl⟩

/- all of a range, as one hole, if it is not empty -/
def whole (f t : Int) : List (Int × Int) := if f < t then [(f, t - f)] else []
theorem whole_tidy {f t : Int} (hf : f % 4 = 0) (ht : t % 4 = 0) : Tidy f t (whole f t) := by
  unfold whole
  split
  · exact Tidy.one (by assumption) hf ht
  · exact Tidy.nil _ _
theorem whole_covers {f t : Int} (p : Int) : Covers (whole f t) p ↔ f ≤ p ∧ p < t := by
  unfold whole
  split
  · rw [covers_cons]; simp only [covers_nil, or_false]; omega
  · simp only [covers_nil, false_iff]; omega

def Fresh (w w' : World) (e : Ending) (f t : Int) : Prop := ∃ p v, e = .returned (.tuple #[.pointer (some ⟨p, 0, none⟩), .nilIface]) ∧ HeapAt w' p f t v (whole f t) ∧ Kept (fun _ => False) w w' ∧ w.heap.size ≤ p ∧ ∀ j, own v j → w.heap.size ≤ j
theorem fresh_some (f t : Int) (w : World) (h1 : f < t) (r : 0 ≤ f ∧ f ≤ t ∧ t ≤ 65536) (hw : Tidy f t (whole f t)) (e : Ending) (he : e = .returned (.tuple #[.pointer (some ⟨w.heap.size, 0, none⟩), .nilIface])) :
    Fresh w ((w.alloc (.cells #[.int .i64 f, .int .i64 t, .slice (some ⟨w.heap.size + 1, 0, none⟩) 1 1] 52)).alloc (.cells #[.int .i64 f, .int .i64 (t - f)] HT)) e f t := by
  have h0 := (RowAt.new w 52 [.int .i64 f, .int .i64 t, .slice (some ⟨w.heap.size + 1, 0, none⟩) 1 1]).keep (S := fun _ => False) ((Kept.refl _ _).alloc (.cells #[.int .i64 f, .int .i64 (t - f)] HT)) (fun h => h)
  have h2 := RowAt.new (w.alloc (.cells #[.int .i64 f, .int .i64 t, .slice (some ⟨w.heap.size + 1, 0, none⟩) 1 1] 52)) HT (pcs [(f, t - f)])
  have e1 : whole f t = [(f, t - f)] := by unfold whole; rw [if_pos h1]
  refine ⟨w.heap.size, _, he, ⟨h0, ?_, by simp [own], r, hw⟩, ((Kept.refl _ _).alloc _).alloc _, Nat.le_refl _, fun j hj => by simp [own] at hj; omega⟩
  rw [e1]
  refine ⟨.inr ⟨w.heap.size + 1, 1, [], rfl, ?_, rfl, Nat.le_refl _, by simp [maxLen]⟩, rfl, pcs_ones _⟩
  rw [List.append_nil]
  rw [show (w.alloc (.cells #[.int .i64 f, .int .i64 t, .slice (some ⟨w.heap.size + 1, 0, none⟩) 1 1] 52)).heap.size = w.heap.size + 1 by simp] at h2
  exact h2
theorem fresh_none (f t : Int) (w : World) (h1 : t ≤ f) (r : 0 ≤ f ∧ f ≤ t ∧ t ≤ 65536) (hw : Tidy f t (whole f t)) (e : Ending) (he : e = .returned (.tuple #[.pointer (some ⟨w.heap.size, 0, none⟩), .nilIface])) :
    Fresh w (w.alloc (.cells #[.int .i64 f, .int .i64 t, .slice none 0 0] 52)) e f t := by
  have h0 := RowAt.new w 52 [.int .i64 f, .int .i64 t, .slice none 0 0]
  have e1 : whole f t = [] := by unfold whole; rw [if_neg (by omega)]
  refine ⟨w.heap.size, _, he, ⟨h0, ?_, by simp [own], r, hw⟩, (Kept.refl _ _).alloc _, Nat.le_refl _, fun j hj => by simp [own] at hj⟩
  rw [e1]
  exact SRow.nil _ _ _

theorem heapNew_yes (f t : Int) (w : World) (h : 0 ≤ f ∧ f ≤ t ∧ t ≤ 65536 ∧ f % 4 = 0 ∧ t % 4 = 0) :
    Calls Try.prog 6 #[.int .i64 f, .int .i64 t] w fun e w' => Fresh w w' e f t := by
  have HE := Lib.hid (fun a b w h => edge_any a b w h)
  have E1 : Hid (decide (0 ≤ f ∧ f ≤ 65536 ∧ f % 4 = 0) = true) := by show _ = _; simp; omega
  have E2 : Hid (decide (0 ≤ t ∧ t ≤ 65536 ∧ t % 4 = 0) = true) := by show _ = _; simp; omega
  have hw := Lib.hid (whole_tidy h.2.2.2.1 h.2.2.2.2)
  have r : 0 ≤ f ∧ f ≤ t ∧ t ≤ 65536 := by omega
  have s1 : IntKind.i64.wrap (t - f) = t - f := IntWalk.i64_in _ (by omega)
  clear h
  by_cases h1 : f < t
  · go_enter Try.func6, Try.ntmps6
    go_wp2_with fail
    refine (HE.out f true _ E1.out).mono ?_
    rintro e w' ⟨rfl, rfl⟩
    go_wp2_with fail
    refine (HE.out t true _ E2.out).mono ?_
    rintro e w' ⟨rfl, rfl⟩
    go_wp2_with fail
    go_ret2
    exact fresh_some f t w h1 r hw.out _ rfl
  · go_enter Try.func6, Try.ntmps6
    go_wp2_with fail
    refine (HE.out f true _ E1.out).mono ?_
    rintro e w' ⟨rfl, rfl⟩
    go_wp2_with fail
    refine (HE.out t true _ E2.out).mono ?_
    rintro e w' ⟨rfl, rfl⟩
    go_wp2_with fail
    go_ret2
    exact fresh_none f t w (by omega) r hw.out _ rfl
end Go.Proofs.Ytiloflgpflgjnaa
