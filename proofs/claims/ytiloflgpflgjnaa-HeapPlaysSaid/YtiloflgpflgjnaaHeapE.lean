/-
  Contracts of package heap (layer 5): the small functions. No conditions beyond those that each theorem names.
-/
import Derived.Test.YtiloflgpflgjnaaHeapD
import Derived.Test.YtiloflgpflgjnaaHoleM
import Derived.Test.YtiloflgpflgjnaaWide
namespace Go.Proofs.Ytiloflgpflgjnaa
open Go.ChangeShapes Go.WideShapes Go.ChangeAt Go.RowKit

theorem al_any (a : Int) (b : Bool) (w : World) (h : (a.tmod 4 == 0) = b) :
    Calls Try.prog 19 #[.int .i64 a] w fun e w' => e = .returned (.bool b) ∧ w = w' := by
  go_enter Try.func19, Try.ntmps19
  go_wp2
  go_ret
  exact ⟨rfl, rfl⟩

theorem sz_any (a : Int) (b : Bool) (w : World) (h : decide (1 ≤ a ∧ a ≤ 65536) = b) :
    Calls Try.prog 20 #[.int .i64 a] w fun e w' => e = .returned (.bool b) ∧ w = w' := by
  by_cases h1 : 1 ≤ a
  · by_cases h2 : a ≤ 65536
    · obtain rfl : b = true := by rw [← h]; simp [h1, h2]
      clear h
      go_enter Try.func20, Try.ntmps20
      go_wp2
      go_ret
      exact ⟨rfl, rfl⟩
    · obtain rfl : b = false := by rw [← h]; simp [h2]
      clear h
      go_enter Try.func20, Try.ntmps20
      go_wp2
      go_ret
      exact ⟨rfl, rfl⟩
  · obtain rfl : b = false := by rw [← h]; simp [h1]
    clear h
    go_enter Try.func20, Try.ntmps20
    go_wp2
    go_ret
    exact ⟨rfl, rfl⟩

theorem edge_any (a : Int) (b : Bool) (w : World) (h : decide (0 ≤ a ∧ a ≤ 65536 ∧ a % 4 = 0) = b) :
    Calls Try.prog 18 #[.int .i64 a] w fun e w' => e = .returned (.bool b) ∧ w = w' := by
  by_cases h1 : 0 ≤ a
  · by_cases h2 : a ≤ 65536
    · have H : Hid ((a.tmod 4 == 0) = b) := by show _ = _; rw [← h, Int.tmod_eq_emod_of_nonneg h1, Bool.eq_iff_iff]; simp [h1, h2]
      clear h
      go_enter Try.func18, Try.ntmps18
      go_wp2_with fail
      refine (al_any a b _ H.out).mono ?_
      rintro e w' ⟨rfl, rfl⟩
      cases b <;> (go_wp2_with fail; go_ret; exact ⟨rfl, rfl⟩)
    · obtain rfl : b = false := by rw [← h]; simp [h2]
      clear h
      go_enter Try.func18, Try.ntmps18
      go_wp2_with fail
      go_ret
      exact ⟨rfl, rfl⟩
  · obtain rfl : b = false := by rw [← h]; simp [h1]
    clear h
    go_enter Try.func18, Try.ntmps18
    go_wp2_with fail
    go_ret
    exact ⟨rfl, rfl⟩

def up4 (n : Int) : Int := (n + 3) / 4 * 4
theorem up4_range (n : Int) : n ≤ up4 n ∧ up4 n ≤ n + 3 ∧ up4 n % 4 = 0 := by unfold up4; omega
theorem round_any (n : Int) (w : World) (h1 : 1 ≤ n) (h2 : n ≤ 65536) :
    Calls Try.prog 21 #[.int .i64 n] w fun e w' => e = .returned (.int .i64 (up4 n)) ∧ w = w' := by
  have hq : up4 n = (n + 3).tdiv 4 * 4 := by unfold up4; rw [Int.tdiv_eq_ediv_of_nonneg (by omega)]
  have hr := up4_range n
  rw [hq] at hr ⊢
  have a1 : IntKind.i64.wrap (n + 4) = n + 4 := IntWalk.i64_in _ (by omega)
  have a2 : IntKind.i64.wrap (n + 4 - 1) = n + 3 := by rw [IntWalk.i64_in _ (by omega)]; omega
  have a3 : IntKind.i64.wrap ((n + 3).tdiv 4) = (n + 3).tdiv 4 := by rw [Int.tdiv_eq_ediv_of_nonneg (by omega)]; exact IntWalk.i64_in _ (by omega)
  have a4 : IntKind.i64.wrap ((n + 3).tdiv 4 * 4) = (n + 3).tdiv 4 * 4 := IntWalk.i64_in _ (by omega)
  clear hq
  go_enter Try.func21, Try.ntmps21
  go_wp2
  go_ret
  exact ⟨rfl, rfl⟩

theorem end_any (x : Int × Int) (w : World) (h1 : -65536 ≤ x.1 ∧ x.1 ≤ 140000) (h2 : -65536 ≤ x.2 ∧ x.2 ≤ 140000) :
    Calls Try.prog 31 #[.agg #[.int .i64 x.1, .int .i64 x.2]] w fun e w' => e = .returned (.int .i64 (x.1 + x.2)) ∧ w' = w.alloc (.cells #[.int .i64 x.1, .int .i64 x.2] HT) := by
  obtain ⟨a, b⟩ := x
  simp only at h1 h2 ⊢
  go_enter Try.func31, Try.ntmps31
  go_wp2
  go_ret
  exact ⟨rfl, rfl⟩

structure HeapAt (w : World) (p : Nat) (f t : Int) (v : Value) (L : List (Int × Int)) : Prop where
  head : RowAt w p 52 [.int .i64 f, .int .i64 t, v]
  row : SRow HT 2 w v L.length (pcs L)
  apart : ¬ own v p
  range : 0 ≤ f ∧ f ≤ t ∧ t ≤ 65536
  tidy : Tidy f t L
theorem HeapAt.few {w : World} {p : Nat} {f t : Int} {v : Value} {L : List (Int × Int)} (h : HeapAt w p f t v L) : L.length ≤ 20000 := by
  have := h.tidy.few (by have := h.range; omega)
  have := h.range
  omega

def foot (p : Nat) (v : Value) : Nat → Prop := fun j => j = p ∨ own v j
def Turned (w w' : World) (p : Nat) (f t : Int) (v : Value) (L' : List (Int × Int)) : Prop := ∃ v', HeapAt w' p f t v' L' ∧ Kept (foot p v) w w' ∧ ∀ j, own v' j → own v j ∨ w.heap.size ≤ j

theorem HeapAt.keep {S : Nat → Prop} {w w' : World} {p : Nat} {f t : Int} {v : Value} {L : List (Int × Int)} (h : HeapAt w p f t v L) (k : Kept S w w') (hS : ∀ j, foot p v j → ¬ S j) : HeapAt w' p f t v L :=
  ⟨h.head.keep k (hS p (.inl rfl)), h.row.keep k (fun j hj => hS j (.inr hj)), h.apart, h.range, h.tidy⟩
theorem HeapAt.foot_lt {w : World} {p : Nat} {f t : Int} {v : Value} {L : List (Int × Int)} (h : HeapAt w p f t v L) (j : Nat) (hj : foot p v j) : j < w.heap.size := by
  rcases hj with rfl | hj
  · exact h.head.lt
  · exact h.row.own_lt j hj
theorem HeapAt.c0 {w : World} {p : Nat} {f t : Int} {v : Value} {L : List (Int × Int)} (h : HeapAt w p f t v L) : w.cell? ⟨p, 0, none⟩ = some (.int .i64 f) := by rw [h.head.cell]; rfl
theorem HeapAt.c1 {w : World} {p : Nat} {f t : Int} {v : Value} {L : List (Int × Int)} (h : HeapAt w p f t v L) : w.cell? ⟨p, 1, none⟩ = some (.int .i64 t) := by rw [h.head.cell]; rfl
theorem HeapAt.c2 {w : World} {p : Nat} {f t : Int} {v : Value} {L : List (Int × Int)} (h : HeapAt w p f t v L) : w.cell? ⟨p, 2, none⟩ = some v := by rw [h.head.cell]; rfl

theorem HeapAt.drawn {w w' : World} {p : Nat} {f t : Int} {v : Value} {L : List (Int × Int)} (h : HeapAt w p f t v L) (hd : Drawn w w') : HeapAt w' p f t v L := h.keep (S := fun _ => False) (Kept.drawn hd) (fun _ _ h => h)
theorem HeapAt.below {w w' : World} {p : Nat} {f t : Int} {v : Value} {L : List (Int × Int)} (h : HeapAt w p f t v L) (hb : Below w.heap.size w w') : HeapAt w' p f t v L := h.keep (S := fun _ => False) (Kept.of_below hb) (fun _ _ h => h)
theorem Turned.after {w w1 w' : World} {p : Nat} {f t : Int} {v : Value} {L' : List (Int × Int)} (hb : Below w.heap.size w w1) (h : Turned w1 w' p f t v L') : Turned w w' p f t v L' := by
  obtain ⟨v', h1, h2, h3⟩ := h
  refine ⟨v', h1, (Kept.of_below (S := foot p v) hb).then h2 fun _ _ h => h, fun j hj => ?_⟩
  rcases h3 j hj with h4 | h4
  · exact .inl h4
  · have := hb.size; exact .inr (by omega)

end Go.Proofs.Ytiloflgpflgjnaa
