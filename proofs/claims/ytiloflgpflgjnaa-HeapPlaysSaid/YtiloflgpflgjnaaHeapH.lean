/-
  Contracts of package heap (layer 5): join, Give. No conditions beyond those that each theorem names.
-/
import Derived.Test.YtiloflgpflgjnaaHeapG
import Derived.Deep.DeepCutAuto
namespace Go.Proofs.Ytiloflgpflgjnaa
open Go.ChangeShapes Go.WideShapes Go.ChangeAt Go.RowKit

/- where a round of join stands: the heap, the block, one hole -/
theorem held5 {w0 w1 w2 : World} {B : Nat} {c0 c1 c2 c3 c4 : Addr} {x0 x1 x2 x3 x4 : Value} (hb : Below w1.heap.size w1 w2)
    (h : w1.cell? c0 = some x0 ∧ (w1.cell? c1 = some x1 ∧ w1.cell? c2 = some x2) ∧ (w1.cell? c3 = some x3 ∧ w1.cell? c4 = some x4) ∧ Below B w0 w1 ∧ B ≤ w1.heap.size) :
    w2.cell? c0 = some x0 ∧ (w2.cell? c1 = some x1 ∧ w2.cell? c2 = some x2) ∧ (w2.cell? c3 = some x3 ∧ w2.cell? c4 = some x4) ∧ Below B w0 w2 ∧ B ≤ w2.heap.size :=
  ⟨held1 hb h.1, held2 hb h.2.1, held2 hb h.2.2.1, below_on h.2.2.2.1 hb h.2.2.2.2, Nat.le_trans h.2.2.2.2 hb.size⟩
theorem held3 {w0 w1 w2 : World} {B : Nat} {c0 c1 c2 : Addr} {x0 x1 x2 : Value} (hb : Below w1.heap.size w1 w2)
    (h : w1.cell? c0 = some x0 ∧ (w1.cell? c1 = some x1 ∧ w1.cell? c2 = some x2) ∧ Below B w0 w1 ∧ B ≤ w1.heap.size) :
    w2.cell? c0 = some x0 ∧ (w2.cell? c1 = some x1 ∧ w2.cell? c2 = some x2) ∧ Below B w0 w2 ∧ B ≤ w2.heap.size :=
  ⟨held1 hb h.1, held2 hb h.2.1, below_on h.2.2.1 hb h.2.2.2, Nat.le_trans h.2.2.2 hb.size⟩
theorem drew_below (w : World) : Below w.heap.size w w.drew := Drawn.below ⟨1, rfl⟩ _

def JoinRel1 (w1 wr : World) (a : Int) (L : List (Int × Int)) (i : Value) : Prop := ∃ A R, L = A ++ R ∧ i = .int .i64 (A.length : Nat) ∧ (∀ y ∈ A, y.1 + y.2 < a) ∧ Below w1.heap.size w1 wr
def JoinRel2 (w1 wr : World) (a n : Int) (A R : List (Int × Int)) (i fr u : Value) : Prop := ∃ M B lo hi, R = M ++ B ∧ i = .int .i64 ((A.length + M.length : Nat) : Int) ∧ fr = .int .i64 lo ∧ u = .int .i64 hi ∧ Joined a n M lo hi ∧ Below w1.heap.size w1 wr

/- a hole's cells, in a world in which its heap is as it was -/
theorem HeapAt.hole {w : World} {p : Nat} {f t : Int} {av : Option Addr} {N cv : Nat} {A R : List (Int × Int)} {x : Int × Int} (h : HeapAt w p f t (.slice av N cv) (A ++ x :: R)) :
    ∃ b, av = some ⟨b, 0, none⟩ ∧ N = A.length + (R.length + 1) ∧ b < w.heap.size ∧ w.cell? ⟨b, A.length * 2, none⟩ = some (.int .i64 x.1) ∧ w.cell? ⟨b, A.length * 2 + 1, none⟩ = some (.int .i64 x.2) := by
  obtain ⟨b, cap, hv, h1, h2, h3, h4⟩ := h.row.cell (by simp <;> omega)
  have e0 : (A ++ x :: R).length = A.length + (R.length + 1) := by simp
  rw [e0] at h4 hv
  cases hv
  exact ⟨b, rfl, rfl, h1, by rw [h4 _ (by omega), pcs_fst]; simp, by rw [h4 _ (by omega), pcs_snd]; simp⟩
theorem HeapAt.count {w : World} {p : Nat} {f t : Int} {av : Option Addr} {N cv : Nat} {L : List (Int × Int)} (h : HeapAt w p f t (.slice av N cv) L) : N = L.length ∧ N ≤ cv ∧ cv ≤ 9223372036854775807 := by
  obtain ⟨a, c, hv, h1, h2⟩ := h.row.shape
  cases hv
  exact ⟨rfl, h1, h2⟩

def Joins (w w' : World) (p : Nat) (f t : Int) (v : Value) (a n : Int) (L : List (Int × Int)) : Prop := ∃ A M B lo hi, L = A ++ (M ++ B) ∧ Joined a n M lo hi ∧ Turned w w' p f t v (A ++ (lo, hi - lo) :: B)

theorem join_end (p : Nat) (f t a n lo hi : Int) (v v' : Value) (A M B : List (Int × Int)) (w w1 wr w2 : World) (K0 : Below w.heap.size w w1) (hb : Below w1.heap.size w1 wr) (h0 : HeapAt wr p f t v (A ++ (M ++ B))) (hw : ∀ j, foot p v j → j < w.heap.size) (hn : 0 < n) (ha : f ≤ a ∧ a + n ≤ t)
    (hA : ∀ y ∈ A, y.1 + y.2 < a) (hB : ∀ y ∈ B, a + n < y.1) (hj : Joined a n M lo hi) (hi2 : Inserted (wr.alloc (.cells #[.int .i64 lo, .int .i64 (hi - lo)] HT)) w2 v (.returned v') (A ++ (lo, hi - lo) :: B)) :
    Joins w (w2.setCell ⟨p, 2, none⟩ v') p f t v a n (A ++ (M ++ B)) ∧ RowAt w2 p 52 [.int .i64 f, .int .i64 t, v] := by
  obtain ⟨u, hu, hr, hk, ho⟩ := hi2
  cases hu
  have hT := h0.tidy.join hj hn ha.1 ha.2 hA hB
  have k1 : Kept (own v) wr w2 := ((Kept.refl (own v) wr).alloc _).trans hk
  have hpp : RowAt w2 p 52 [.int .i64 f, .int .i64 t, v] := h0.head.keep k1 h0.apart
  have hg := Nat.le_trans K0.size hb.size
  have ap : ¬ own v' p := fun e => by
    rcases ho p e with h1 | h1
    · exact h0.apart h1
    · have := hw p (.inl rfl)
      simp at h1
      omega
  refine ⟨⟨A, M, B, lo, hi, rfl, hj, v', HeapAt.store hpp hr ap h0.range hT, ?_, fun j hj => ?_⟩, hpp⟩
  · exact (((Kept.of_below (S := foot p v) K0).then (Kept.of_below (S := foot p v) hb) (fun _ _ h => h)).then k1 (fun _ _ h => .inr h)).then (kept_set w2 p 2 v') (fun _ _ h => .inl h)
  · rcases ho j hj with h1 | h1
    · exact .inl h1
    · simp at h1
      exact .inr (by omega)

set_option maxRecDepth 100000 in
set_option maxHeartbeats 4000000 in
theorem join_any (p : Nat) (f t a n : Int) (v : Value) (L : List (Int × Int)) (w : World) (h : HeapAt w p f t v L) (hn : 0 < n ∧ n % 4 = 0) (ha : f ≤ a ∧ a + n ≤ t ∧ a % 4 = 0) :
    Calls Try.prog 24 #[.pointer (some ⟨p, 0, none⟩), .agg #[.int .i64 a, .int .i64 n]] w fun e w' => e = .returned (.tuple #[]) ∧ Joins w w' p f t v a n L := by
  have HE : Hid (∀ (a n : Int) (w : World), 0 ≤ a ∧ a ≤ 65536 → 0 ≤ n ∧ n ≤ 70000 → Calls Try.prog 31 #[.agg #[.int .i64 a, .int .i64 n]] w fun e w' => e = .returned (.int .i64 (a + n)) ∧ Below w.heap.size w w') := fun a n w h1 h2 => end_below (a, n) w (by simp only; omega) (by simp only; omega)
  have few := h.few
  obtain ⟨av, cv, rfl, hcv1, hcv2⟩ := h.row.shape
  have hm' : cv ≤ 9223372036854775807 := hcv2
  generalize hN : L.length = N at *
  have HNN : Hid (∀ A R, L = A ++ R → N = A.length + R.length) := fun A R h => by rw [← hN, h, List.length_append]
  have HW := Lib.hid h.foot_lt
  clear hN hcv2
  have r := h.range
  have hp := h.head.lt
  have k0 : Below w.heap.size w (w.alloc (.cells #[.int .i64 a, .int .i64 n] HT)) := (Below.refl _ _).alloc (Nat.le_refl _) _
  obtain ⟨w1, hw1⟩ : ∃ w1, w1 = w.alloc (.cells #[.int .i64 a, .int .i64 n] HT) := ⟨_, rfl⟩
  rw [← hw1] at k0
  have H1 := Lib.hid (h.below k0)
  have S0 : Hid (w1.cell? ⟨w.heap.size, 0, none⟩ = some (.int .i64 a)) := by show _ = _; rw [hw1]; simp
  have S1 : Hid (w1.cell? ⟨w.heap.size, 1, none⟩ = some (.int .i64 n)) := by show _ = _; rw [hw1]; simp
  have SZ : Hid (w1.heap.size = w.heap.size + 1) := by show _ = _; rw [hw1]; simp
  have HW1 := Lib.hid hw1
  have K0 := Lib.hid k0
  clear h hw1 k0
  have hne : p ≠ w.heap.size := by omega
  go_enter Try.func24, Try.ntmps24
  go_wp2_with fail
  rw [← HW1.out]
  have K3 : Hid (∀ we : World, Below w1.heap.size w1 we → Hid (we.drew.cell? ⟨p, 2, none⟩ = some (.slice av N cv) ∧ (we.drew.cell? ⟨w.heap.size, 0, none⟩ = some (.int .i64 a) ∧ we.drew.cell? ⟨w.heap.size, 1, none⟩ = some (.int .i64 n)) ∧ Below w1.heap.size w1 we.drew ∧ w1.heap.size ≤ we.drew.heap.size)) := fun we hb => held3 (drew_below we) ⟨(H1.out.below hb).c2, held2 hb ⟨S0.out, S1.out⟩, hb, hb.size⟩
  have K2 : Hid (∀ we : World, Below w1.heap.size w1 we → (we.cell? ⟨w.heap.size, 0, none⟩ = some (.int .i64 a) ∧ we.cell? ⟨w.heap.size, 1, none⟩ = some (.int .i64 n))) := fun we hb => held2 hb ⟨S0.out, S1.out⟩
  go_loopw [4] (fun i wr => JoinRel1 w1 wr a L i) (fun i _ => N - (intOf i).toNat)
  case atStart => exact ⟨[], L, rfl, rfl, (fun y hy => by cases hy), Below.refl _ _⟩
  case round =>
    obtain ⟨A, R, hL, rfl, hA, hb⟩ := hrel
    have HNA := Lib.hid (HNN.out A R hL)
    have HL := Lib.hid hL
    have HA := Lib.hid hA
    have HB := Lib.hid hb
    have h0 : HeapAt wr p f t (.slice av N cv) (A ++ R) := hL ▸ H1.out.below hb
    have HH := Lib.hid h0
    have hbs := hb.size
    clear hL hA hb h0
    obtain ⟨c, hc⟩ : ∃ c : Bool, c = true ↔ ∃ x R', R = x :: R' ∧ x.1 + x.2 < a := by
      by_cases h : ∃ x R', R = x :: R' ∧ x.1 + x.2 < a
      · exact ⟨true, fun _ => h, fun _ => rfl⟩
      · exact ⟨false, (fun e => by cases e), fun e => absurd e h⟩
    have HC := Lib.hid hc
    clear hc
    have hkN : A.length ≤ N := by rw [HNA.out]; omega
    go_upto_region 2 with fail
    go_cut [27] (fun s27 wx => s27 = .bool c ∧ Below w1.heap.size w1 wx)
    case first =>
      as_aux_lemma =>
        cases R with
        | nil =>
          have hkk : decide (A.length < N) = false := by rw [HNA.out]; simp
          obtain rfl : c = false := by
            cases c with
            | false => rfl
            | true => obtain ⟨_, _, h, _⟩ := HC.out.1 rfl; cases h
          refine wp_region_held_drew (S := fun w' => w'.cell? ⟨p, 2, none⟩ = some (.slice av N cv) ∧ (w'.cell? ⟨w.heap.size, 0, none⟩ = some (.int .i64 a) ∧ w'.cell? ⟨w.heap.size, 1, none⟩ = some (.int .i64 n)) ∧ Below w1.heap.size w1 w' ∧ w1.heap.size ≤ w'.heap.size) (by kernel_rfl) ?_ (fun hHeld => ?_)
          · exact (K3.out wr HB.out).out
          refine wpAnyH_take (i := 0) (v := ?_) rfl (by kernel_rfl) (by kernel_rfl) (by kernel_rfl) (fun _ _ _ h => h) (Or.inl ⟨by rfl, ?_⟩) (by assumption) ?_
          rotate_left
          · intro w hSw
            (try dsimp only at hSw)
            go_simp
            (try with_reducible rfl)
          try simp only [Act.put, List.getElem_toArray, List.getElem_cons_zero, List.setIfInBounds_toArray, List.set_cons_zero, List.set_cons_succ]
          refine wpAnyH_take (i := 1) (v := ?_) rfl (by kernel_rfl) (by kernel_rfl) (by kernel_rfl) (fun _ _ _ h => h) (Or.inl ⟨by rfl, ?_⟩) (by assumption) ?_
          rotate_left
          · intro w hSw
            (try dsimp only at hSw)
            go_simp
            (try with_reducible rfl)
          try simp only [Act.put, List.getElem_toArray, List.getElem_cons_zero, List.getElem_cons_succ, List.setIfInBounds_toArray, List.set_cons_zero, List.set_cons_succ]
          refine wpAnyH_take (i := 2) (v := ?_) rfl (by kernel_rfl) (by kernel_rfl) (by kernel_rfl) (fun _ _ _ h => h) (Or.inl ⟨by rfl, ?_⟩) (by assumption) ?_
          rotate_left
          · intro w hSw
            (try dsimp only at hSw)
            go_simp
            (try with_reducible rfl)
          try simp only [Act.put, List.getElem_toArray, List.getElem_cons_zero, List.getElem_cons_succ, List.setIfInBounds_toArray, List.set_cons_zero, List.set_cons_succ]
          refine wpAnyH_take (i := 3) (v := ?_) rfl (by kernel_rfl) (by kernel_rfl) (by kernel_rfl) (fun _ _ _ h => h) (Or.inl ⟨by rfl, ?_⟩) (by assumption) ?_
          rotate_left
          · intro w hSw
            (try dsimp only at hSw)
            go_simp
            (try with_reducible rfl)
          try simp only [Act.put, List.getElem_toArray, List.getElem_cons_zero, List.getElem_cons_succ, List.setIfInBounds_toArray, List.set_cons_zero, List.set_cons_succ]
          refine wpAnyH_take (i := 4) (v := ?_) rfl (by kernel_rfl) (by kernel_rfl) (by kernel_rfl) (fun _ _ _ h => h) (Or.inl ⟨by rfl, ?_⟩) (by assumption) ?_
          rotate_left
          · intro w hSw
            (try dsimp only at hSw)
            go_simp
            (try with_reducible rfl)
          try simp only [Act.put, List.getElem_toArray, List.getElem_cons_zero, List.getElem_cons_succ, List.setIfInBounds_toArray, List.set_cons_zero, List.set_cons_succ]
          refine wpAnyH_take (i := 5) (v := ?_) rfl (by kernel_rfl) (by kernel_rfl) (by kernel_rfl) (fun _ _ _ h => h) (Or.inl ⟨by rfl, ?_⟩) (by assumption) ?_
          rotate_left
          · intro w hSw
            (try dsimp only at hSw)
            go_simp
            (try with_reducible rfl)
          try simp only [Act.put, List.getElem_toArray, List.getElem_cons_zero, List.getElem_cons_succ, List.setIfInBounds_toArray, List.set_cons_zero, List.set_cons_succ]
          refine wpAnyH_take (i := 6) (v := ?_) rfl (by kernel_rfl) (by kernel_rfl) (by kernel_rfl) (fun _ _ _ h => h) (Or.inl ⟨by rfl, ?_⟩) (by assumption) ?_
          rotate_left
          · intro w hSw
            (try dsimp only at hSw)
            go_simp
            (try with_reducible rfl)
          try simp only [Act.put, List.getElem_toArray, List.getElem_cons_zero, List.getElem_cons_succ, List.setIfInBounds_toArray, List.set_cons_zero, List.set_cons_succ]
          refine wpAnyH_take (i := 7) (v := ?_) rfl (by kernel_rfl) (by kernel_rfl) (by kernel_rfl) (fun _ _ _ h => h) (Or.inl ⟨by rfl, ?_⟩) (by assumption) ?_
          rotate_left
          · intro w hSw
            (try dsimp only at hSw)
            go_simp
            (try with_reducible rfl)
          try simp only [Act.put, List.getElem_toArray, List.getElem_cons_zero, List.getElem_cons_succ, List.setIfInBounds_toArray, List.set_cons_zero, List.set_cons_succ]
          refine wpAnyH_take (i := 8) (v := undef) rfl (by kernel_rfl) (by kernel_rfl) (by kernel_rfl) (fun _ _ _ h => h) (Or.inr ⟨by rfl, rfl⟩) (by assumption) ?_
          try simp only [Act.put, List.getElem_toArray, List.getElem_cons_zero, List.getElem_cons_succ, List.setIfInBounds_toArray, List.set_cons_zero, List.set_cons_succ]
          refine wpAnyH_take (i := 9) (v := undef) rfl (by kernel_rfl) (by kernel_rfl) (by kernel_rfl) (fun _ _ _ h => h) (Or.inr ⟨by rfl, rfl⟩) (by assumption) ?_
          try simp only [Act.put, List.getElem_toArray, List.getElem_cons_zero, List.getElem_cons_succ, List.setIfInBounds_toArray, List.set_cons_zero, List.set_cons_succ]
          refine wpAnyH_take (i := 10) (v := undef) rfl (by kernel_rfl) (by kernel_rfl) (by kernel_rfl) (fun _ _ _ h => h) (Or.inr ⟨by rfl, rfl⟩) (by assumption) ?_
          try simp only [Act.put, List.getElem_toArray, List.getElem_cons_zero, List.getElem_cons_succ, List.setIfInBounds_toArray, List.set_cons_zero, List.set_cons_succ]
          refine wpAnyH_take (i := 11) (v := undef) rfl (by kernel_rfl) (by kernel_rfl) (by kernel_rfl) (fun _ _ _ h => h) (Or.inr ⟨by rfl, rfl⟩) (by assumption) ?_
          try simp only [Act.put, List.getElem_toArray, List.getElem_cons_zero, List.getElem_cons_succ, List.setIfInBounds_toArray, List.set_cons_zero, List.set_cons_succ]
          refine wpAnyH_take (i := 12) (v := undef) rfl (by kernel_rfl) (by kernel_rfl) (by kernel_rfl) (fun _ _ _ h => h) (Or.inr ⟨by rfl, rfl⟩) (by assumption) ?_
          try simp only [Act.put, List.getElem_toArray, List.getElem_cons_zero, List.getElem_cons_succ, List.setIfInBounds_toArray, List.set_cons_zero, List.set_cons_succ]
          refine wpAnyH_take (i := 13) (v := undef) rfl (by kernel_rfl) (by kernel_rfl) (by kernel_rfl) (fun _ _ _ h => h) (Or.inr ⟨by rfl, rfl⟩) (by assumption) ?_
          try simp only [Act.put, List.getElem_toArray, List.getElem_cons_zero, List.getElem_cons_succ, List.setIfInBounds_toArray, List.set_cons_zero, List.set_cons_succ]
          refine wpAnyH_take (i := 14) (v := undef) rfl (by kernel_rfl) (by kernel_rfl) (by kernel_rfl) (fun _ _ _ h => h) (Or.inr ⟨by rfl, rfl⟩) (by assumption) ?_
          try simp only [Act.put, List.getElem_toArray, List.getElem_cons_zero, List.getElem_cons_succ, List.setIfInBounds_toArray, List.set_cons_zero, List.set_cons_succ]
          refine wpAnyH_take (i := 15) (v := undef) rfl (by kernel_rfl) (by kernel_rfl) (by kernel_rfl) (fun _ _ _ h => h) (Or.inr ⟨by rfl, rfl⟩) (by assumption) ?_
          try simp only [Act.put, List.getElem_toArray, List.getElem_cons_zero, List.getElem_cons_succ, List.setIfInBounds_toArray, List.set_cons_zero, List.set_cons_succ]
          refine wpAnyH_take (i := 16) (v := undef) rfl (by kernel_rfl) (by kernel_rfl) (by kernel_rfl) (fun _ _ _ h => h) (Or.inr ⟨by rfl, rfl⟩) (by assumption) ?_
          try simp only [Act.put, List.getElem_toArray, List.getElem_cons_zero, List.getElem_cons_succ, List.setIfInBounds_toArray, List.set_cons_zero, List.set_cons_succ]
          refine wpAnyH_take (i := 17) (v := undef) rfl (by kernel_rfl) (by kernel_rfl) (by kernel_rfl) (fun _ _ _ h => h) (Or.inr ⟨by rfl, rfl⟩) (by assumption) ?_
          try simp only [Act.put, List.getElem_toArray, List.getElem_cons_zero, List.getElem_cons_succ, List.setIfInBounds_toArray, List.set_cons_zero, List.set_cons_succ]
          refine wpAnyH_take (i := 18) (v := undef) rfl (by kernel_rfl) (by kernel_rfl) (by kernel_rfl) (fun _ _ _ h => h) (Or.inr ⟨by rfl, rfl⟩) (by assumption) ?_
          try simp only [Act.put, List.getElem_toArray, List.getElem_cons_zero, List.getElem_cons_succ, List.setIfInBounds_toArray, List.set_cons_zero, List.set_cons_succ]
          refine wpAnyH_take (i := 19) (v := ?_) rfl (by kernel_rfl) (by kernel_rfl) (by kernel_rfl) (fun _ _ _ h => h) (Or.inl ⟨by rfl, ?_⟩) (by assumption) ?_
          rotate_left
          · intro w hSw
            (try dsimp only at hSw)
            go_simp
            (try with_reducible rfl)
          try simp only [Act.put, List.getElem_toArray, List.getElem_cons_zero, List.getElem_cons_succ, List.setIfInBounds_toArray, List.set_cons_zero, List.set_cons_succ]
          refine wpAnyH_done (by kernel_rfl) ?_ _
          have HBE := Lib.hid hHeld.2.2.1
          clear hHeld
          go_wp2_with fail
          go_meet
          exact ⟨rfl, HBE.out⟩
        | cons x R' =>
          have h0 := HH.out
          obtain ⟨b, hav, -, hbl, ca, cb⟩ := h0.hole
          rw [hav] at h0
          have ex := h0.tidy.each x (by simp)
          have HS : Hid (wr.drew.cell? ⟨p, 2, none⟩ = some (.slice (some ⟨b, 0, none⟩) N cv) ∧ (wr.drew.cell? ⟨w.heap.size, 0, none⟩ = some (.int .i64 a) ∧ wr.drew.cell? ⟨w.heap.size, 1, none⟩ = some (.int .i64 n)) ∧ (wr.drew.cell? ⟨b, A.length * 2, none⟩ = some (.int .i64 x.1) ∧ wr.drew.cell? ⟨b, A.length * 2 + 1, none⟩ = some (.int .i64 x.2)) ∧ Below w1.heap.size w1 wr.drew ∧ w1.heap.size ≤ wr.drew.heap.size) :=
            held5 (drew_below wr) ⟨h0.c2, K2.out wr HB.out, ⟨ca, cb⟩, HB.out, hbs⟩
          have hkk : A.length < N := by rw [HNA.out]; simp
          have hex : decide (x.1 + x.2 < a) = c := by
            cases hcc : c with
            | true => obtain ⟨_, _, e, h⟩ := HC.out.1 hcc; cases e; simpa using h
            | false => simp only [decide_eq_false_iff_not]; exact fun h => by have := HC.out.2 ⟨x, R', rfl, h⟩; rw [hcc] at this; cases this
          subst hav
          clear h0 ca cb HC
          generalize x.1 = x1 at *
          generalize x.2 = x2 at *
          generalize A.length = k at *
          have e1 : (0 : Int) ≤ (k : Int) := by omega
          have e2 : (k : Int) < (N : Int) := by omega
          have hlt : decide (k < N) = true := by simpa using hkk
          refine wp_region_held_drew (S := fun w' => w'.cell? ⟨p, 2, none⟩ = some (.slice (some ⟨b, 0, none⟩) N cv) ∧ (w'.cell? ⟨w.heap.size, 0, none⟩ = some (.int .i64 a) ∧ w'.cell? ⟨w.heap.size, 1, none⟩ = some (.int .i64 n)) ∧ (w'.cell? ⟨b, k * 2, none⟩ = some (.int .i64 x1) ∧ w'.cell? ⟨b, k * 2 + 1, none⟩ = some (.int .i64 x2)) ∧ Below w1.heap.size w1 w' ∧ w1.heap.size ≤ w'.heap.size) (by kernel_rfl) ?_ (fun hHeld => ?_)
          · exact HS.out
          refine wpAnyH_take (i := 0) (v := ?_) rfl (by kernel_rfl) (by kernel_rfl) (by kernel_rfl) (fun _ _ _ h => h) (Or.inl ⟨by rfl, ?_⟩) (by assumption) ?_
          rotate_left
          · intro w hSw
            (try dsimp only at hSw)
            go_simp
            (try with_reducible rfl)
          try simp only [Act.put, List.getElem_toArray, List.getElem_cons_zero, List.setIfInBounds_toArray, List.set_cons_zero, List.set_cons_succ]
          refine wpAnyH_take (i := 1) (v := ?_) rfl (by kernel_rfl) (by kernel_rfl) (by kernel_rfl) (fun _ _ _ h => h) (Or.inl ⟨by rfl, ?_⟩) (by assumption) ?_
          rotate_left
          · intro w hSw
            (try dsimp only at hSw)
            go_simp
            (try with_reducible rfl)
          try simp only [Act.put, List.getElem_toArray, List.getElem_cons_zero, List.getElem_cons_succ, List.setIfInBounds_toArray, List.set_cons_zero, List.set_cons_succ]
          refine wpAnyH_take (i := 2) (v := ?_) rfl (by kernel_rfl) (by kernel_rfl) (by kernel_rfl) (fun _ _ _ h => h) (Or.inl ⟨by rfl, ?_⟩) (by assumption) ?_
          rotate_left
          · intro w hSw
            (try dsimp only at hSw)
            go_simp
            (try with_reducible rfl)
          try simp only [Act.put, List.getElem_toArray, List.getElem_cons_zero, List.getElem_cons_succ, List.setIfInBounds_toArray, List.set_cons_zero, List.set_cons_succ]
          refine wpAnyH_take (i := 3) (v := ?_) rfl (by kernel_rfl) (by kernel_rfl) (by kernel_rfl) (fun _ _ _ h => h) (Or.inl ⟨by rfl, ?_⟩) (by assumption) ?_
          rotate_left
          · intro w hSw
            (try dsimp only at hSw)
            go_simp
            (try with_reducible rfl)
          try simp only [Act.put, List.getElem_toArray, List.getElem_cons_zero, List.getElem_cons_succ, List.setIfInBounds_toArray, List.set_cons_zero, List.set_cons_succ]
          refine wpAnyH_take (i := 4) (v := ?_) rfl (by kernel_rfl) (by kernel_rfl) (by kernel_rfl) (fun _ _ _ h => h) (Or.inl ⟨by rfl, ?_⟩) (by assumption) ?_
          rotate_left
          · intro w hSw
            (try dsimp only at hSw)
            go_simp
            (try with_reducible rfl)
          try simp only [Act.put, List.getElem_toArray, List.getElem_cons_zero, List.getElem_cons_succ, List.setIfInBounds_toArray, List.set_cons_zero, List.set_cons_succ]
          refine wpAnyH_take (i := 5) (v := ?_) rfl (by kernel_rfl) (by kernel_rfl) (by kernel_rfl) (fun _ _ _ h => h) (Or.inl ⟨by rfl, ?_⟩) (by assumption) ?_
          rotate_left
          · intro w hSw
            (try dsimp only at hSw)
            go_simp
            (try with_reducible rfl)
          try simp only [Act.put, List.getElem_toArray, List.getElem_cons_zero, List.getElem_cons_succ, List.setIfInBounds_toArray, List.set_cons_zero, List.set_cons_succ]
          refine wpAnyH_take (i := 6) (v := ?_) rfl (by kernel_rfl) (by kernel_rfl) (by kernel_rfl) (fun _ _ _ h => h) (Or.inl ⟨by rfl, ?_⟩) (by assumption) ?_
          rotate_left
          · intro w hSw
            (try dsimp only at hSw)
            go_simp
            (try with_reducible rfl)
          try simp only [Act.put, List.getElem_toArray, List.getElem_cons_zero, List.getElem_cons_succ, List.setIfInBounds_toArray, List.set_cons_zero, List.set_cons_succ]
          refine wpAnyH_take (i := 7) (v := ?_) rfl (by kernel_rfl) (by kernel_rfl) (by kernel_rfl) (fun _ _ _ h => h) (Or.inl ⟨by rfl, ?_⟩) (by assumption) ?_
          rotate_left
          · intro w hSw
            (try dsimp only at hSw)
            go_simp
            (try with_reducible rfl)
          try simp only [Act.put, List.getElem_toArray, List.getElem_cons_zero, List.getElem_cons_succ, List.setIfInBounds_toArray, List.set_cons_zero, List.set_cons_succ]
          refine wpAnyH_take (i := 8) (v := ?_) rfl (by kernel_rfl) (by kernel_rfl) (by kernel_rfl) (fun _ _ _ h => h) (Or.inl ⟨by rfl, ?_⟩) (by assumption) ?_
          rotate_left
          · intro w hSw
            (try dsimp only at hSw)
            go_simp
            (try with_reducible rfl)
          try simp only [Act.put, List.getElem_toArray, List.getElem_cons_zero, List.getElem_cons_succ, List.setIfInBounds_toArray, List.set_cons_zero, List.set_cons_succ]
          refine wpAnyH_take (i := 9) (v := ?_) rfl (by kernel_rfl) (by kernel_rfl) (by kernel_rfl) (fun _ _ _ h => h) (Or.inl ⟨by rfl, ?_⟩) (by assumption) ?_
          rotate_left
          · intro w hSw
            (try dsimp only at hSw)
            go_simp
            (try with_reducible rfl)
          try simp only [Act.put, List.getElem_toArray, List.getElem_cons_zero, List.getElem_cons_succ, List.setIfInBounds_toArray, List.set_cons_zero, List.set_cons_succ]
          refine wpAnyH_take (i := 10) (v := ?_) rfl (by kernel_rfl) (by kernel_rfl) (by kernel_rfl) (fun _ _ _ h => h) (Or.inl ⟨by rfl, ?_⟩) (by assumption) ?_
          rotate_left
          · intro w hSw
            (try dsimp only at hSw)
            go_simp
            (try with_reducible rfl)
          try simp only [Act.put, List.getElem_toArray, List.getElem_cons_zero, List.getElem_cons_succ, List.setIfInBounds_toArray, List.set_cons_zero, List.set_cons_succ]
          refine wpAnyH_take (i := 11) (v := ?_) rfl (by kernel_rfl) (by kernel_rfl) (by kernel_rfl) (fun _ _ _ h => h) (Or.inl ⟨by rfl, ?_⟩) (by assumption) ?_
          rotate_left
          · intro w hSw
            (try dsimp only at hSw)
            go_simp
            (try with_reducible rfl)
          try simp only [Act.put, List.getElem_toArray, List.getElem_cons_zero, List.getElem_cons_succ, List.setIfInBounds_toArray, List.set_cons_zero, List.set_cons_succ]
          refine wpAnyH_take (i := 12) (v := ?_) rfl (by kernel_rfl) (by kernel_rfl) (by kernel_rfl) (fun _ _ _ h => h) (Or.inl ⟨by rfl, ?_⟩) (by assumption) ?_
          rotate_left
          · intro w hSw
            (try dsimp only at hSw)
            go_simp
            (try with_reducible rfl)
          try simp only [Act.put, List.getElem_toArray, List.getElem_cons_zero, List.getElem_cons_succ, List.setIfInBounds_toArray, List.set_cons_zero, List.set_cons_succ]
          refine wpAnyH_take (i := 13) (v := ?_) rfl (by kernel_rfl) (by kernel_rfl) (by kernel_rfl) (fun _ _ _ h => h) (Or.inl ⟨by rfl, ?_⟩) (by assumption) ?_
          rotate_left
          · intro w hSw
            (try dsimp only at hSw)
            go_simp
            (try with_reducible rfl)
          try simp only [Act.put, List.getElem_toArray, List.getElem_cons_zero, List.getElem_cons_succ, List.setIfInBounds_toArray, List.set_cons_zero, List.set_cons_succ]
          refine wpAnyH_take (i := 14) (v := ?_) rfl (by kernel_rfl) (by kernel_rfl) (by kernel_rfl) (fun _ _ _ h => h) (Or.inl ⟨by rfl, ?_⟩) (by assumption) ?_
          rotate_left
          · intro w hSw
            (try dsimp only at hSw)
            go_simp
            (try with_reducible rfl)
          try simp only [Act.put, List.getElem_toArray, List.getElem_cons_zero, List.getElem_cons_succ, List.setIfInBounds_toArray, List.set_cons_zero, List.set_cons_succ]
          refine wpAnyH_take (i := 16) (v := ?_) rfl (by kernel_rfl) (by kernel_rfl) (by kernel_rfl) (fun _ _ _ h => h) (Or.inl ⟨by rfl, ?_⟩) (by assumption) ?_
          rotate_left
          · intro w hSw
            (try dsimp only at hSw)
            go_simp
            (try with_reducible rfl)
          try simp only [Act.put, List.getElem_toArray, List.getElem_cons_zero, List.getElem_cons_succ, List.setIfInBounds_toArray, List.set_cons_zero, List.set_cons_succ]
          refine wpAnyH_take (i := 17) (v := ?_) rfl (by kernel_rfl) (by kernel_rfl) (by kernel_rfl) (fun _ _ _ h => h) (Or.inl ⟨by rfl, ?_⟩) (by assumption) ?_
          rotate_left
          · intro w hSw
            (try dsimp only at hSw)
            go_simp
            (try with_reducible rfl)
          try simp only [Act.put, List.getElem_toArray, List.getElem_cons_zero, List.getElem_cons_succ, List.setIfInBounds_toArray, List.set_cons_zero, List.set_cons_succ]
          refine wpAnyH_ready (rs := [15]) (by kernel_rfl) (by simp) ?_
          refine AllReadyH.cons rfl (fun K hK => ?_) AllReadyH.nil
          go_simp
          refine (HE.out _ _ _ (by omega) (by omega)).mono ?_
          rintro e we ⟨rfl, hb⟩
          first | show K _ _ | go_wp2_with fail
          refine hK.out _ _ ?_ (fun hHeld1 => ?_)
          · exact held5 hb hHeld
          clear hK K
          try simp only [Act.put, List.getElem_toArray, List.getElem_cons_zero, List.getElem_cons_succ, List.setIfInBounds_toArray, List.set_cons_zero, List.set_cons_succ]
          refine wpAnyH_take (i := 18) (v := ?_) rfl (by kernel_rfl) (by kernel_rfl) (by kernel_rfl) (fun _ _ _ h => h) (Or.inl ⟨by rfl, ?_⟩) (by assumption) ?_
          rotate_left
          · intro w hSw
            (try dsimp only at hSw)
            go_simp
            (try with_reducible rfl)
          try simp only [Act.put, List.getElem_toArray, List.getElem_cons_zero, List.getElem_cons_succ, List.setIfInBounds_toArray, List.set_cons_zero, List.set_cons_succ]
          refine wpAnyH_take (i := 19) (v := ?_) rfl (by kernel_rfl) (by kernel_rfl) (by kernel_rfl) (fun _ _ _ h => h) (Or.inl ⟨by rfl, ?_⟩) (by assumption) ?_
          rotate_left
          · intro w hSw
            (try dsimp only at hSw)
            go_simp
            (try with_reducible rfl)
          try simp only [Act.put, List.getElem_toArray, List.getElem_cons_zero, List.getElem_cons_succ, List.setIfInBounds_toArray, List.set_cons_zero, List.set_cons_succ]
          refine wpAnyH_done (by kernel_rfl) ?_ _
          have HBE := Lib.hid hHeld1.2.2.2.1
          clear hHeld1
          go_wp2_with fail
          go_meet
          exact ⟨rfl, HBE.out⟩
    case rest =>
      obtain ⟨rfl, hbe⟩ := hcut
      have HBE := Lib.hid hbe
      clear hbe
      cases c with
      | true =>
        obtain ⟨x, R', rfl, hx⟩ := HC.out.1 rfl
        have HNX : Hid (∀ wn : World, Below w1.heap.size w1 wn → JoinRel1 w1 wn a L (.int .i64 ((A.length : Nat) + 1))) := fun wn hb => ⟨A ++ [x], R', by rw [HL.out]; simp, by simp, fun y hy => by
          rcases List.mem_append.1 hy with hy | hy
          · exact HA.out y hy
          · simp at hy; subst hy; exact hx, hb⟩
        have hkk : A.length < N := by rw [HNA.out]; simp
        clear HL HA HNA HH HC
        go_wp2_with fail
        go_roundw
        case rel => exact HNX.out _ HBE.out
        case measure => simp [intOf]; omega
      | false =>
        have hR : ∀ y ∈ R, a ≤ y.1 + y.2 := HH.out.tidy.all_reach (fun y hy => by
          cases R with
          | nil => cases hy
          | cons x R' =>
            obtain rfl : x = y := by simpa using hy
            have : ¬ x.1 + x.2 < a := fun hx => by have := HC.out.2 ⟨x, R', rfl, hx⟩; cases this
            omega)
        have HR := Lib.hid hR
        clear hR HC HH HB hbs
        rename_i we
        go_wp2_with fail
        refine wp_region_held_drew (S := fun w' => w'.cell? ⟨p, 2, none⟩ = some (.slice av N cv) ∧ (w'.cell? ⟨w.heap.size, 0, none⟩ = some (.int .i64 a) ∧ w'.cell? ⟨w.heap.size, 1, none⟩ = some (.int .i64 n)) ∧ Below w1.heap.size w1 w' ∧ w1.heap.size ≤ w'.heap.size) (by kernel_rfl) ?_ (fun hHeld => ?_)
        · exact (K3.out _ HBE.out).out
        refine wpAnyH_take (i := 0) (v := ?_) rfl (by kernel_rfl) (by kernel_rfl) (by kernel_rfl) (fun _ _ _ h => h) (Or.inl ⟨by rfl, ?_⟩) (by assumption) ?_
        rotate_left
        · intro w hSw
          (try dsimp only at hSw)
          go_simp
          (try with_reducible rfl)
        try simp only [Act.put, List.getElem_toArray, List.getElem_cons_zero, List.setIfInBounds_toArray, List.set_cons_zero, List.set_cons_succ]
        refine wpAnyH_take (i := 1) (v := ?_) rfl (by kernel_rfl) (by kernel_rfl) (by kernel_rfl) (fun _ _ _ h => h) (Or.inl ⟨by rfl, ?_⟩) (by assumption) ?_
        rotate_left
        · intro w hSw
          (try dsimp only at hSw)
          go_simp
          (try with_reducible rfl)
        try simp only [Act.put, List.getElem_toArray, List.getElem_cons_zero, List.getElem_cons_succ, List.setIfInBounds_toArray, List.set_cons_zero, List.set_cons_succ]
        refine wpAnyH_take (i := 2) (v := ?_) rfl (by kernel_rfl) (by kernel_rfl) (by kernel_rfl) (fun _ _ _ h => h) (Or.inl ⟨by rfl, ?_⟩) (by assumption) ?_
        rotate_left
        · intro w hSw
          (try dsimp only at hSw)
          go_simp
          (try with_reducible rfl)
        try simp only [Act.put, List.getElem_toArray, List.getElem_cons_zero, List.getElem_cons_succ, List.setIfInBounds_toArray, List.set_cons_zero, List.set_cons_succ]
        refine wpAnyH_ready (rs := [3]) (by kernel_rfl) (by simp) ?_
        refine AllReadyH.cons rfl (fun K hK => ?_) AllReadyH.nil
        go_simp
        refine (HE.out _ _ _ (by omega) (by omega)).mono ?_
        rintro e we2 ⟨rfl, hb⟩
        first | show K _ _ | go_wp2_with fail
        refine hK.out _ _ ?_ (fun hHeld1 => ?_)
        · exact held3 hb hHeld
        clear hK K
        try simp only [Act.put, List.getElem_toArray, List.getElem_cons_zero, List.getElem_cons_succ, List.setIfInBounds_toArray, List.set_cons_zero, List.set_cons_succ]
        refine wpAnyH_take (i := 4) (v := ?_) rfl (by kernel_rfl) (by kernel_rfl) (by kernel_rfl) (fun _ _ _ h => h) (Or.inl ⟨by rfl, ?_⟩) (by assumption) ?_
        rotate_left
        · intro w hSw
          (try dsimp only at hSw)
          go_simp
          (try with_reducible rfl)
        try simp only [Act.put, List.getElem_toArray, List.getElem_cons_zero, List.getElem_cons_succ, List.setIfInBounds_toArray, List.set_cons_zero, List.set_cons_succ]
        refine wpAnyH_take (i := 5) (v := ?_) rfl (by kernel_rfl) (by kernel_rfl) (by kernel_rfl) (fun _ _ _ h => h) (Or.inl ⟨by rfl, ?_⟩) (by assumption) ?_
        rotate_left
        · intro w hSw
          (try dsimp only at hSw)
          go_simp
          (try with_reducible rfl)
        try simp only [Act.put, List.getElem_toArray, List.getElem_cons_zero, List.getElem_cons_succ, List.setIfInBounds_toArray, List.set_cons_zero, List.set_cons_succ]
        refine wpAnyH_done (by kernel_rfl) ?_ _
        have HB2 := Lib.hid hHeld1.2.2.1
        clear hHeld1 hHeld hb HBE
        go_wp2_with fail
        obtain ⟨wo, hwo⟩ : ∃ wo : World, wo = wr := ⟨_, rfl⟩
        clear hwo
        go_loopw [5, 6, 7] (fun i fr u wr => JoinRel2 w1 wr a n A R i fr u) (fun i _ _ _ => N - (intOf i).toNat)
        case atStart => exact ⟨[], R, a, a + n, rfl, by simp, rfl, rfl, Joined.start ha.2.2 hn.2, HB2.out⟩
        case round =>
          clear HB2
          obtain ⟨M, B, lo, hi, hR2, rfl, rfl, rfl, hj, hb⟩ := hrel
          have h0 : HeapAt wr p f t (.slice av N cv) ((A ++ M) ++ B) := by
            rw [List.append_assoc, ← hR2, ← HL.out]
            exact H1.out.below hb
          have HNB : Hid (N = (A ++ M).length + B.length) := HNN.out _ _ (by rw [HL.out, hR2, List.append_assoc])
          rw [← List.length_append]
          have HR2 := Lib.hid hR2
          have HJ := Lib.hid hj
          have HB := Lib.hid hb
          have HH := Lib.hid h0
          have hbs := hb.size
          clear hR2 hj hb h0
          obtain ⟨c, hc⟩ : ∃ c : Bool, c = true ↔ ∃ x B', B = x :: B' ∧ x.1 ≤ a + n := by
            by_cases h : ∃ x B', B = x :: B' ∧ x.1 ≤ a + n
            · exact ⟨true, fun _ => h, fun _ => rfl⟩
            · exact ⟨false, (fun e => by cases e), fun e => absurd e h⟩
          have HC := Lib.hid hc
          clear hc
          generalize hk : (A ++ M).length = k at *
          have HK := Lib.hid hk
          have hkN2 : k ≤ N := by rw [HNB.out]; omega
          clear hk
          go_upto_region 6 with fail
          go_cut [54] (fun s54 wx => s54 = .bool c ∧ Below w1.heap.size w1 wx)
          case first =>
            as_aux_lemma =>
              cases B with
              | nil =>
                have hkk : decide (k < N) = false := by rw [HNB.out]; simp
                obtain rfl : c = false := by
                  cases c with
                  | false => rfl
                  | true => obtain ⟨_, _, h, _⟩ := HC.out.1 rfl; cases h
                refine wp_region_held_drew (S := fun w' => w'.cell? ⟨p, 2, none⟩ = some (.slice av N cv) ∧ (w'.cell? ⟨w.heap.size, 0, none⟩ = some (.int .i64 a) ∧ w'.cell? ⟨w.heap.size, 1, none⟩ = some (.int .i64 n)) ∧ Below w1.heap.size w1 w' ∧ w1.heap.size ≤ w'.heap.size) (by kernel_rfl) ?_ (fun hHeld => ?_)
                · exact (K3.out wr HB.out).out
                refine wpAnyH_take (i := 0) (v := ?_) rfl (by kernel_rfl) (by kernel_rfl) (by kernel_rfl) (fun _ _ _ h => h) (Or.inl ⟨by rfl, ?_⟩) (by assumption) ?_
                rotate_left
                · intro w hSw
                  (try dsimp only at hSw)
                  go_simp
                  (try with_reducible rfl)
                try simp only [Act.put, List.getElem_toArray, List.getElem_cons_zero, List.setIfInBounds_toArray, List.set_cons_zero, List.set_cons_succ]
                refine wpAnyH_take (i := 1) (v := ?_) rfl (by kernel_rfl) (by kernel_rfl) (by kernel_rfl) (fun _ _ _ h => h) (Or.inl ⟨by rfl, ?_⟩) (by assumption) ?_
                rotate_left
                · intro w hSw
                  (try dsimp only at hSw)
                  go_simp
                  (try with_reducible rfl)
                try simp only [Act.put, List.getElem_toArray, List.getElem_cons_zero, List.getElem_cons_succ, List.setIfInBounds_toArray, List.set_cons_zero, List.set_cons_succ]
                refine wpAnyH_take (i := 2) (v := ?_) rfl (by kernel_rfl) (by kernel_rfl) (by kernel_rfl) (fun _ _ _ h => h) (Or.inl ⟨by rfl, ?_⟩) (by assumption) ?_
                rotate_left
                · intro w hSw
                  (try dsimp only at hSw)
                  go_simp
                  (try with_reducible rfl)
                try simp only [Act.put, List.getElem_toArray, List.getElem_cons_zero, List.getElem_cons_succ, List.setIfInBounds_toArray, List.set_cons_zero, List.set_cons_succ]
                refine wpAnyH_take (i := 3) (v := ?_) rfl (by kernel_rfl) (by kernel_rfl) (by kernel_rfl) (fun _ _ _ h => h) (Or.inl ⟨by rfl, ?_⟩) (by assumption) ?_
                rotate_left
                · intro w hSw
                  (try dsimp only at hSw)
                  go_simp
                  (try with_reducible rfl)
                try simp only [Act.put, List.getElem_toArray, List.getElem_cons_zero, List.getElem_cons_succ, List.setIfInBounds_toArray, List.set_cons_zero, List.set_cons_succ]
                refine wpAnyH_take (i := 4) (v := ?_) rfl (by kernel_rfl) (by kernel_rfl) (by kernel_rfl) (fun _ _ _ h => h) (Or.inl ⟨by rfl, ?_⟩) (by assumption) ?_
                rotate_left
                · intro w hSw
                  (try dsimp only at hSw)
                  go_simp
                  (try with_reducible rfl)
                try simp only [Act.put, List.getElem_toArray, List.getElem_cons_zero, List.getElem_cons_succ, List.setIfInBounds_toArray, List.set_cons_zero, List.set_cons_succ]
                refine wpAnyH_take (i := 5) (v := ?_) rfl (by kernel_rfl) (by kernel_rfl) (by kernel_rfl) (fun _ _ _ h => h) (Or.inl ⟨by rfl, ?_⟩) (by assumption) ?_
                rotate_left
                · intro w hSw
                  (try dsimp only at hSw)
                  go_simp
                  (try with_reducible rfl)
                try simp only [Act.put, List.getElem_toArray, List.getElem_cons_zero, List.getElem_cons_succ, List.setIfInBounds_toArray, List.set_cons_zero, List.set_cons_succ]
                refine wpAnyH_take (i := 6) (v := ?_) rfl (by kernel_rfl) (by kernel_rfl) (by kernel_rfl) (fun _ _ _ h => h) (Or.inl ⟨by rfl, ?_⟩) (by assumption) ?_
                rotate_left
                · intro w hSw
                  (try dsimp only at hSw)
                  go_simp
                  (try with_reducible rfl)
                try simp only [Act.put, List.getElem_toArray, List.getElem_cons_zero, List.getElem_cons_succ, List.setIfInBounds_toArray, List.set_cons_zero, List.set_cons_succ]
                refine wpAnyH_take (i := 7) (v := ?_) rfl (by kernel_rfl) (by kernel_rfl) (by kernel_rfl) (fun _ _ _ h => h) (Or.inl ⟨by rfl, ?_⟩) (by assumption) ?_
                rotate_left
                · intro w hSw
                  (try dsimp only at hSw)
                  go_simp
                  (try with_reducible rfl)
                try simp only [Act.put, List.getElem_toArray, List.getElem_cons_zero, List.getElem_cons_succ, List.setIfInBounds_toArray, List.set_cons_zero, List.set_cons_succ]
                refine wpAnyH_take (i := 8) (v := undef) rfl (by kernel_rfl) (by kernel_rfl) (by kernel_rfl) (fun _ _ _ h => h) (Or.inr ⟨by rfl, rfl⟩) (by assumption) ?_
                try simp only [Act.put, List.getElem_toArray, List.getElem_cons_zero, List.getElem_cons_succ, List.setIfInBounds_toArray, List.set_cons_zero, List.set_cons_succ]
                refine wpAnyH_take (i := 9) (v := undef) rfl (by kernel_rfl) (by kernel_rfl) (by kernel_rfl) (fun _ _ _ h => h) (Or.inr ⟨by rfl, rfl⟩) (by assumption) ?_
                try simp only [Act.put, List.getElem_toArray, List.getElem_cons_zero, List.getElem_cons_succ, List.setIfInBounds_toArray, List.set_cons_zero, List.set_cons_succ]
                refine wpAnyH_take (i := 10) (v := undef) rfl (by kernel_rfl) (by kernel_rfl) (by kernel_rfl) (fun _ _ _ h => h) (Or.inr ⟨by rfl, rfl⟩) (by assumption) ?_
                try simp only [Act.put, List.getElem_toArray, List.getElem_cons_zero, List.getElem_cons_succ, List.setIfInBounds_toArray, List.set_cons_zero, List.set_cons_succ]
                refine wpAnyH_take (i := 11) (v := undef) rfl (by kernel_rfl) (by kernel_rfl) (by kernel_rfl) (fun _ _ _ h => h) (Or.inr ⟨by rfl, rfl⟩) (by assumption) ?_
                try simp only [Act.put, List.getElem_toArray, List.getElem_cons_zero, List.getElem_cons_succ, List.setIfInBounds_toArray, List.set_cons_zero, List.set_cons_succ]
                refine wpAnyH_take (i := 12) (v := undef) rfl (by kernel_rfl) (by kernel_rfl) (by kernel_rfl) (fun _ _ _ h => h) (Or.inr ⟨by rfl, rfl⟩) (by assumption) ?_
                try simp only [Act.put, List.getElem_toArray, List.getElem_cons_zero, List.getElem_cons_succ, List.setIfInBounds_toArray, List.set_cons_zero, List.set_cons_succ]
                refine wpAnyH_take (i := 13) (v := undef) rfl (by kernel_rfl) (by kernel_rfl) (by kernel_rfl) (fun _ _ _ h => h) (Or.inr ⟨by rfl, rfl⟩) (by assumption) ?_
                try simp only [Act.put, List.getElem_toArray, List.getElem_cons_zero, List.getElem_cons_succ, List.setIfInBounds_toArray, List.set_cons_zero, List.set_cons_succ]
                refine wpAnyH_take (i := 14) (v := undef) rfl (by kernel_rfl) (by kernel_rfl) (by kernel_rfl) (fun _ _ _ h => h) (Or.inr ⟨by rfl, rfl⟩) (by assumption) ?_
                try simp only [Act.put, List.getElem_toArray, List.getElem_cons_zero, List.getElem_cons_succ, List.setIfInBounds_toArray, List.set_cons_zero, List.set_cons_succ]
                refine wpAnyH_take (i := 15) (v := undef) rfl (by kernel_rfl) (by kernel_rfl) (by kernel_rfl) (fun _ _ _ h => h) (Or.inr ⟨by rfl, rfl⟩) (by assumption) ?_
                try simp only [Act.put, List.getElem_toArray, List.getElem_cons_zero, List.getElem_cons_succ, List.setIfInBounds_toArray, List.set_cons_zero, List.set_cons_succ]
                refine wpAnyH_take (i := 16) (v := undef) rfl (by kernel_rfl) (by kernel_rfl) (by kernel_rfl) (fun _ _ _ h => h) (Or.inr ⟨by rfl, rfl⟩) (by assumption) ?_
                try simp only [Act.put, List.getElem_toArray, List.getElem_cons_zero, List.getElem_cons_succ, List.setIfInBounds_toArray, List.set_cons_zero, List.set_cons_succ]
                refine wpAnyH_take (i := 17) (v := undef) rfl (by kernel_rfl) (by kernel_rfl) (by kernel_rfl) (fun _ _ _ h => h) (Or.inr ⟨by rfl, rfl⟩) (by assumption) ?_
                try simp only [Act.put, List.getElem_toArray, List.getElem_cons_zero, List.getElem_cons_succ, List.setIfInBounds_toArray, List.set_cons_zero, List.set_cons_succ]
                refine wpAnyH_take (i := 18) (v := undef) rfl (by kernel_rfl) (by kernel_rfl) (by kernel_rfl) (fun _ _ _ h => h) (Or.inr ⟨by rfl, rfl⟩) (by assumption) ?_
                try simp only [Act.put, List.getElem_toArray, List.getElem_cons_zero, List.getElem_cons_succ, List.setIfInBounds_toArray, List.set_cons_zero, List.set_cons_succ]
                refine wpAnyH_take (i := 19) (v := ?_) rfl (by kernel_rfl) (by kernel_rfl) (by kernel_rfl) (fun _ _ _ h => h) (Or.inl ⟨by rfl, ?_⟩) (by assumption) ?_
                rotate_left
                · intro w hSw
                  (try dsimp only at hSw)
                  go_simp
                  (try with_reducible rfl)
                try simp only [Act.put, List.getElem_toArray, List.getElem_cons_zero, List.getElem_cons_succ, List.setIfInBounds_toArray, List.set_cons_zero, List.set_cons_succ]
                refine wpAnyH_done (by kernel_rfl) ?_ _
                have HBE := Lib.hid hHeld.2.2.1
                clear hHeld
                go_wp2_with fail
                go_meet
                exact ⟨rfl, HBE.out⟩
              | cons x B' =>
                have h0 := HH.out
                obtain ⟨b, hav, -, hbl, ca, cb⟩ := h0.hole
                rw [hav] at h0
                rw [HK.out] at ca cb
                have ex := h0.tidy.each x (by simp)
                have HS : Hid (wr.drew.cell? ⟨p, 2, none⟩ = some (.slice (some ⟨b, 0, none⟩) N cv) ∧ (wr.drew.cell? ⟨w.heap.size, 0, none⟩ = some (.int .i64 a) ∧ wr.drew.cell? ⟨w.heap.size, 1, none⟩ = some (.int .i64 n)) ∧ (wr.drew.cell? ⟨b, k * 2, none⟩ = some (.int .i64 x.1) ∧ wr.drew.cell? ⟨b, k * 2 + 1, none⟩ = some (.int .i64 x.2)) ∧ Below w1.heap.size w1 wr.drew ∧ w1.heap.size ≤ wr.drew.heap.size) :=
                  held5 (drew_below wr) ⟨h0.c2, K2.out wr HB.out, ⟨ca, cb⟩, HB.out, hbs⟩
                have hkk : k < N := by rw [HNB.out]; simp
                have hex : decide (x.1 ≤ a + n) = c := by
                  cases hcc : c with
                  | true => obtain ⟨_, _, e, h⟩ := HC.out.1 hcc; cases e; simpa using h
                  | false => simp only [decide_eq_false_iff_not]; exact fun h => by have := HC.out.2 ⟨x, B', rfl, h⟩; rw [hcc] at this; cases this
                subst hav
                clear h0 ca cb HC
                generalize x.1 = x1 at *
                generalize x.2 = x2 at *
                have e1 : (0 : Int) ≤ (k : Int) := by omega
                have e2 : (k : Int) < (N : Int) := by omega
                have hlt : decide (k < N) = true := by simpa using hkk
                refine wp_region_held_drew (S := fun w' => w'.cell? ⟨p, 2, none⟩ = some (.slice (some ⟨b, 0, none⟩) N cv) ∧ (w'.cell? ⟨w.heap.size, 0, none⟩ = some (.int .i64 a) ∧ w'.cell? ⟨w.heap.size, 1, none⟩ = some (.int .i64 n)) ∧ (w'.cell? ⟨b, k * 2, none⟩ = some (.int .i64 x1) ∧ w'.cell? ⟨b, k * 2 + 1, none⟩ = some (.int .i64 x2)) ∧ Below w1.heap.size w1 w' ∧ w1.heap.size ≤ w'.heap.size) (by kernel_rfl) ?_ (fun hHeld => ?_)
                · exact HS.out
                refine wpAnyH_take (i := 0) (v := ?_) rfl (by kernel_rfl) (by kernel_rfl) (by kernel_rfl) (fun _ _ _ h => h) (Or.inl ⟨by rfl, ?_⟩) (by assumption) ?_
                rotate_left
                · intro w hSw
                  (try dsimp only at hSw)
                  go_simp
                  (try with_reducible rfl)
                try simp only [Act.put, List.getElem_toArray, List.getElem_cons_zero, List.setIfInBounds_toArray, List.set_cons_zero, List.set_cons_succ]
                refine wpAnyH_take (i := 1) (v := ?_) rfl (by kernel_rfl) (by kernel_rfl) (by kernel_rfl) (fun _ _ _ h => h) (Or.inl ⟨by rfl, ?_⟩) (by assumption) ?_
                rotate_left
                · intro w hSw
                  (try dsimp only at hSw)
                  go_simp
                  (try with_reducible rfl)
                try simp only [Act.put, List.getElem_toArray, List.getElem_cons_zero, List.getElem_cons_succ, List.setIfInBounds_toArray, List.set_cons_zero, List.set_cons_succ]
                refine wpAnyH_take (i := 2) (v := ?_) rfl (by kernel_rfl) (by kernel_rfl) (by kernel_rfl) (fun _ _ _ h => h) (Or.inl ⟨by rfl, ?_⟩) (by assumption) ?_
                rotate_left
                · intro w hSw
                  (try dsimp only at hSw)
                  go_simp
                  (try with_reducible rfl)
                try simp only [Act.put, List.getElem_toArray, List.getElem_cons_zero, List.getElem_cons_succ, List.setIfInBounds_toArray, List.set_cons_zero, List.set_cons_succ]
                refine wpAnyH_take (i := 3) (v := ?_) rfl (by kernel_rfl) (by kernel_rfl) (by kernel_rfl) (fun _ _ _ h => h) (Or.inl ⟨by rfl, ?_⟩) (by assumption) ?_
                rotate_left
                · intro w hSw
                  (try dsimp only at hSw)
                  go_simp
                  (try with_reducible rfl)
                try simp only [Act.put, List.getElem_toArray, List.getElem_cons_zero, List.getElem_cons_succ, List.setIfInBounds_toArray, List.set_cons_zero, List.set_cons_succ]
                refine wpAnyH_take (i := 4) (v := ?_) rfl (by kernel_rfl) (by kernel_rfl) (by kernel_rfl) (fun _ _ _ h => h) (Or.inl ⟨by rfl, ?_⟩) (by assumption) ?_
                rotate_left
                · intro w hSw
                  (try dsimp only at hSw)
                  go_simp
                  (try with_reducible rfl)
                try simp only [Act.put, List.getElem_toArray, List.getElem_cons_zero, List.getElem_cons_succ, List.setIfInBounds_toArray, List.set_cons_zero, List.set_cons_succ]
                refine wpAnyH_take (i := 5) (v := ?_) rfl (by kernel_rfl) (by kernel_rfl) (by kernel_rfl) (fun _ _ _ h => h) (Or.inl ⟨by rfl, ?_⟩) (by assumption) ?_
                rotate_left
                · intro w hSw
                  (try dsimp only at hSw)
                  go_simp
                  (try with_reducible rfl)
                try simp only [Act.put, List.getElem_toArray, List.getElem_cons_zero, List.getElem_cons_succ, List.setIfInBounds_toArray, List.set_cons_zero, List.set_cons_succ]
                refine wpAnyH_take (i := 6) (v := ?_) rfl (by kernel_rfl) (by kernel_rfl) (by kernel_rfl) (fun _ _ _ h => h) (Or.inl ⟨by rfl, ?_⟩) (by assumption) ?_
                rotate_left
                · intro w hSw
                  (try dsimp only at hSw)
                  go_simp
                  (try with_reducible rfl)
                try simp only [Act.put, List.getElem_toArray, List.getElem_cons_zero, List.getElem_cons_succ, List.setIfInBounds_toArray, List.set_cons_zero, List.set_cons_succ]
                refine wpAnyH_take (i := 7) (v := ?_) rfl (by kernel_rfl) (by kernel_rfl) (by kernel_rfl) (fun _ _ _ h => h) (Or.inl ⟨by rfl, ?_⟩) (by assumption) ?_
                rotate_left
                · intro w hSw
                  (try dsimp only at hSw)
                  go_simp
                  (try with_reducible rfl)
                try simp only [Act.put, List.getElem_toArray, List.getElem_cons_zero, List.getElem_cons_succ, List.setIfInBounds_toArray, List.set_cons_zero, List.set_cons_succ]
                refine wpAnyH_take (i := 8) (v := ?_) rfl (by kernel_rfl) (by kernel_rfl) (by kernel_rfl) (fun _ _ _ h => h) (Or.inl ⟨by rfl, ?_⟩) (by assumption) ?_
                rotate_left
                · intro w hSw
                  (try dsimp only at hSw)
                  go_simp
                  (try with_reducible rfl)
                try simp only [Act.put, List.getElem_toArray, List.getElem_cons_zero, List.getElem_cons_succ, List.setIfInBounds_toArray, List.set_cons_zero, List.set_cons_succ]
                refine wpAnyH_take (i := 9) (v := ?_) rfl (by kernel_rfl) (by kernel_rfl) (by kernel_rfl) (fun _ _ _ h => h) (Or.inl ⟨by rfl, ?_⟩) (by assumption) ?_
                rotate_left
                · intro w hSw
                  (try dsimp only at hSw)
                  go_simp
                  (try with_reducible rfl)
                try simp only [Act.put, List.getElem_toArray, List.getElem_cons_zero, List.getElem_cons_succ, List.setIfInBounds_toArray, List.set_cons_zero, List.set_cons_succ]
                refine wpAnyH_take (i := 10) (v := ?_) rfl (by kernel_rfl) (by kernel_rfl) (by kernel_rfl) (fun _ _ _ h => h) (Or.inl ⟨by rfl, ?_⟩) (by assumption) ?_
                rotate_left
                · intro w hSw
                  (try dsimp only at hSw)
                  go_simp
                  (try with_reducible rfl)
                try simp only [Act.put, List.getElem_toArray, List.getElem_cons_zero, List.getElem_cons_succ, List.setIfInBounds_toArray, List.set_cons_zero, List.set_cons_succ]
                refine wpAnyH_take (i := 11) (v := ?_) rfl (by kernel_rfl) (by kernel_rfl) (by kernel_rfl) (fun _ _ _ h => h) (Or.inl ⟨by rfl, ?_⟩) (by assumption) ?_
                rotate_left
                · intro w hSw
                  (try dsimp only at hSw)
                  go_simp
                  (try with_reducible rfl)
                try simp only [Act.put, List.getElem_toArray, List.getElem_cons_zero, List.getElem_cons_succ, List.setIfInBounds_toArray, List.set_cons_zero, List.set_cons_succ]
                refine wpAnyH_take (i := 12) (v := ?_) rfl (by kernel_rfl) (by kernel_rfl) (by kernel_rfl) (fun _ _ _ h => h) (Or.inl ⟨by rfl, ?_⟩) (by assumption) ?_
                rotate_left
                · intro w hSw
                  (try dsimp only at hSw)
                  go_simp
                  (try with_reducible rfl)
                try simp only [Act.put, List.getElem_toArray, List.getElem_cons_zero, List.getElem_cons_succ, List.setIfInBounds_toArray, List.set_cons_zero, List.set_cons_succ]
                refine wpAnyH_take (i := 13) (v := ?_) rfl (by kernel_rfl) (by kernel_rfl) (by kernel_rfl) (fun _ _ _ h => h) (Or.inl ⟨by rfl, ?_⟩) (by assumption) ?_
                rotate_left
                · intro w hSw
                  (try dsimp only at hSw)
                  go_simp
                  (try with_reducible rfl)
                try simp only [Act.put, List.getElem_toArray, List.getElem_cons_zero, List.getElem_cons_succ, List.setIfInBounds_toArray, List.set_cons_zero, List.set_cons_succ]
                refine wpAnyH_take (i := 14) (v := ?_) rfl (by kernel_rfl) (by kernel_rfl) (by kernel_rfl) (fun _ _ _ h => h) (Or.inl ⟨by rfl, ?_⟩) (by assumption) ?_
                rotate_left
                · intro w hSw
                  (try dsimp only at hSw)
                  go_simp
                  (try with_reducible rfl)
                try simp only [Act.put, List.getElem_toArray, List.getElem_cons_zero, List.getElem_cons_succ, List.setIfInBounds_toArray, List.set_cons_zero, List.set_cons_succ]
                refine wpAnyH_take (i := 15) (v := ?_) rfl (by kernel_rfl) (by kernel_rfl) (by kernel_rfl) (fun _ _ _ h => h) (Or.inl ⟨by rfl, ?_⟩) (by assumption) ?_
                rotate_left
                · intro w hSw
                  (try dsimp only at hSw)
                  go_simp
                  (try with_reducible rfl)
                try simp only [Act.put, List.getElem_toArray, List.getElem_cons_zero, List.getElem_cons_succ, List.setIfInBounds_toArray, List.set_cons_zero, List.set_cons_succ]
                refine wpAnyH_take (i := 16) (v := ?_) rfl (by kernel_rfl) (by kernel_rfl) (by kernel_rfl) (fun _ _ _ h => h) (Or.inl ⟨by rfl, ?_⟩) (by assumption) ?_
                rotate_left
                · intro w hSw
                  (try dsimp only at hSw)
                  go_simp
                  (try with_reducible rfl)
                try simp only [Act.put, List.getElem_toArray, List.getElem_cons_zero, List.getElem_cons_succ, List.setIfInBounds_toArray, List.set_cons_zero, List.set_cons_succ]
                refine wpAnyH_ready (rs := [17]) (by kernel_rfl) (by simp) ?_
                refine AllReadyH.cons rfl (fun K hK => ?_) AllReadyH.nil
                go_simp
                refine (HE.out _ _ _ (by omega) (by omega)).mono ?_
                rintro e we ⟨rfl, hb⟩
                first | show K _ _ | go_wp2_with fail
                refine hK.out _ _ ?_ (fun hHeld1 => ?_)
                · exact held5 hb hHeld
                clear hK K
                try simp only [Act.put, List.getElem_toArray, List.getElem_cons_zero, List.getElem_cons_succ, List.setIfInBounds_toArray, List.set_cons_zero, List.set_cons_succ]
                refine wpAnyH_take (i := 18) (v := ?_) rfl (by kernel_rfl) (by kernel_rfl) (by kernel_rfl) (fun _ _ _ h => h) (Or.inl ⟨by rfl, ?_⟩) (by assumption) ?_
                rotate_left
                · intro w hSw
                  (try dsimp only at hSw)
                  go_simp
                  (try with_reducible rfl)
                try simp only [Act.put, List.getElem_toArray, List.getElem_cons_zero, List.getElem_cons_succ, List.setIfInBounds_toArray, List.set_cons_zero, List.set_cons_succ]
                refine wpAnyH_take (i := 19) (v := ?_) rfl (by kernel_rfl) (by kernel_rfl) (by kernel_rfl) (fun _ _ _ h => h) (Or.inl ⟨by rfl, ?_⟩) (by assumption) ?_
                rotate_left
                · intro w hSw
                  (try dsimp only at hSw)
                  go_simp
                  (try with_reducible rfl)
                try simp only [Act.put, List.getElem_toArray, List.getElem_cons_zero, List.getElem_cons_succ, List.setIfInBounds_toArray, List.set_cons_zero, List.set_cons_succ]
                refine wpAnyH_done (by kernel_rfl) ?_ _
                have HBE := Lib.hid hHeld1.2.2.2.1
                clear hHeld1
                go_wp2_with fail
                go_meet
                exact ⟨rfl, HBE.out⟩
          case rest =>
            obtain ⟨rfl, hbe⟩ := hcut
            have HBE := Lib.hid hbe
            clear hbe
            cases c with
            | true =>
              as_aux_lemma =>
                obtain ⟨x, B', rfl, hx⟩ := HC.out.1 rfl
                have h0 := HH.out
                obtain ⟨b, hav, -, hbl, ca, cb⟩ := h0.hole
                rw [HK.out] at ca cb
                have ex := h0.tidy.each x (by simp)
                have h1 : HeapAt wc p f t (.slice av N cv) (A ++ (M ++ x :: B')) := by
                  rw [← HR2.out, ← HL.out]
                  exact H1.out.below HBE.out
                rw [← List.append_assoc] at h1
                obtain ⟨b', hav', -, hbl', ca', cb'⟩ := h1.hole
                rw [HK.out] at ca' cb'
                rw [hav] at hav'
                cases hav'
                rw [hav] at h1
                have HS7 : Hid (wc.drew.cell? ⟨p, 2, none⟩ = some (.slice (some ⟨b, 0, none⟩) N cv) ∧ (wc.drew.cell? ⟨w.heap.size, 0, none⟩ = some (.int .i64 a) ∧ wc.drew.cell? ⟨w.heap.size, 1, none⟩ = some (.int .i64 n)) ∧ (wc.drew.cell? ⟨b, k * 2, none⟩ = some (.int .i64 x.1) ∧ wc.drew.cell? ⟨b, k * 2 + 1, none⟩ = some (.int .i64 x.2)) ∧ Below w1.heap.size w1 wc.drew ∧ w1.heap.size ≤ wc.drew.heap.size) :=
                  held5 (drew_below wc) ⟨h1.c2, K2.out wc HBE.out, ⟨ca', cb'⟩, HBE.out, HBE.out.size⟩
                have hkk : k < N := by rw [HNB.out]; simp
                have HNX : Hid (∀ (wn : World) (u1 u2 : Int), u1 = min lo x.1 → u2 = max hi (x.1 + x.2) → Below w1.heap.size w1 wn → JoinRel2 w1 wn a n A R (.int .i64 ((k : Nat) + 1)) (.int .i64 u1) (.int .i64 u2)) := fun wn u1 u2 e1 e2 hb => by
                  subst e1 e2
                  exact ⟨M ++ [x], B', _, _, by rw [HR2.out]; simp, by rw [← HK.out]; simp; omega, rfl, rfl, HJ.out.step hx (HR.out x (by rw [HR2.out]; simp)) ex.2.1 ex.2.2.2.1 ex.2.2.2.2, hb⟩
                subst hav
                clear h0 h1 ca cb ca' cb' HC HJ
                generalize x.1 = x1 at *
                generalize x.2 = x2 at *
                have e1 : (0 : Int) ≤ (k : Int) := by omega
                have e2 : (k : Int) < (N : Int) := by omega
                go_wp2_with fail
                refine wp_region_held_drew (S := fun w' => w'.cell? ⟨p, 2, none⟩ = some (.slice (some ⟨b, 0, none⟩) N cv) ∧ (w'.cell? ⟨w.heap.size, 0, none⟩ = some (.int .i64 a) ∧ w'.cell? ⟨w.heap.size, 1, none⟩ = some (.int .i64 n)) ∧ (w'.cell? ⟨b, k * 2, none⟩ = some (.int .i64 x1) ∧ w'.cell? ⟨b, k * 2 + 1, none⟩ = some (.int .i64 x2)) ∧ Below w1.heap.size w1 w' ∧ w1.heap.size ≤ w'.heap.size) (by kernel_rfl) ?_ (fun hHeld => ?_)
                · exact HS7.out
                refine wpAnyH_take (i := 0) (v := ?_) rfl (by kernel_rfl) (by kernel_rfl) (by kernel_rfl) (fun _ _ _ h => h) (Or.inl ⟨by rfl, ?_⟩) (by assumption) ?_
                rotate_left
                · intro w hSw
                  (try dsimp only at hSw)
                  go_simp
                  (try with_reducible rfl)
                try simp only [Act.put, List.getElem_toArray, List.getElem_cons_zero, List.setIfInBounds_toArray, List.set_cons_zero, List.set_cons_succ]
                refine wpAnyH_take (i := 1) (v := ?_) rfl (by kernel_rfl) (by kernel_rfl) (by kernel_rfl) (fun _ _ _ h => h) (Or.inl ⟨by rfl, ?_⟩) (by assumption) ?_
                rotate_left
                · intro w hSw
                  (try dsimp only at hSw)
                  go_simp
                  (try with_reducible rfl)
                try simp only [Act.put, List.getElem_toArray, List.getElem_cons_zero, List.getElem_cons_succ, List.setIfInBounds_toArray, List.set_cons_zero, List.set_cons_succ]
                refine wpAnyH_take (i := 2) (v := ?_) rfl (by kernel_rfl) (by kernel_rfl) (by kernel_rfl) (fun _ _ _ h => h) (Or.inl ⟨by rfl, ?_⟩) (by assumption) ?_
                rotate_left
                · intro w hSw
                  (try dsimp only at hSw)
                  go_simp
                  (try with_reducible rfl)
                try simp only [Act.put, List.getElem_toArray, List.getElem_cons_zero, List.getElem_cons_succ, List.setIfInBounds_toArray, List.set_cons_zero, List.set_cons_succ]
                refine wpAnyH_take (i := 3) (v := ?_) rfl (by kernel_rfl) (by kernel_rfl) (by kernel_rfl) (fun _ _ _ h => h) (Or.inl ⟨by rfl, ?_⟩) (by assumption) ?_
                rotate_left
                · intro w hSw
                  (try dsimp only at hSw)
                  go_simp
                  (try with_reducible rfl)
                try simp only [Act.put, List.getElem_toArray, List.getElem_cons_zero, List.getElem_cons_succ, List.setIfInBounds_toArray, List.set_cons_zero, List.set_cons_succ]
                refine wpAnyH_take (i := 4) (v := ?_) rfl (by kernel_rfl) (by kernel_rfl) (by kernel_rfl) (fun _ _ _ h => h) (Or.inl ⟨by rfl, ?_⟩) (by assumption) ?_
                rotate_left
                · intro w hSw
                  (try dsimp only at hSw)
                  go_simp
                  (try with_reducible rfl)
                try simp only [Act.put, List.getElem_toArray, List.getElem_cons_zero, List.getElem_cons_succ, List.setIfInBounds_toArray, List.set_cons_zero, List.set_cons_succ]
                refine wpAnyH_take (i := 5) (v := ?_) rfl (by kernel_rfl) (by kernel_rfl) (by kernel_rfl) (fun _ _ _ h => h) (Or.inl ⟨by rfl, ?_⟩) (by assumption) ?_
                rotate_left
                · intro w hSw
                  (try dsimp only at hSw)
                  go_simp
                  (try with_reducible rfl)
                try simp only [Act.put, List.getElem_toArray, List.getElem_cons_zero, List.getElem_cons_succ, List.setIfInBounds_toArray, List.set_cons_zero, List.set_cons_succ]
                refine wpAnyH_take (i := 6) (v := ?_) rfl (by kernel_rfl) (by kernel_rfl) (by kernel_rfl) (fun _ _ _ h => h) (Or.inl ⟨by rfl, ?_⟩) (by assumption) ?_
                rotate_left
                · intro w hSw
                  (try dsimp only at hSw)
                  go_simp
                  (try with_reducible rfl)
                try simp only [Act.put, List.getElem_toArray, List.getElem_cons_zero, List.getElem_cons_succ, List.setIfInBounds_toArray, List.set_cons_zero, List.set_cons_succ]
                refine wpAnyH_take (i := 7) (v := ?_) rfl (by kernel_rfl) (by kernel_rfl) (by kernel_rfl) (fun _ _ _ h => h) (Or.inl ⟨by rfl, ?_⟩) (by assumption) ?_
                rotate_left
                · intro w hSw
                  (try dsimp only at hSw)
                  go_simp
                  (try with_reducible rfl)
                try simp only [Act.put, List.getElem_toArray, List.getElem_cons_zero, List.getElem_cons_succ, List.setIfInBounds_toArray, List.set_cons_zero, List.set_cons_succ]
                refine wpAnyH_take (i := 8) (v := ?_) rfl (by kernel_rfl) (by kernel_rfl) (by kernel_rfl) (fun _ _ _ h => h) (Or.inl ⟨by rfl, ?_⟩) (by assumption) ?_
                rotate_left
                · intro w hSw
                  (try dsimp only at hSw)
                  go_simp
                  (try with_reducible rfl)
                try simp only [Act.put, List.getElem_toArray, List.getElem_cons_zero, List.getElem_cons_succ, List.setIfInBounds_toArray, List.set_cons_zero, List.set_cons_succ]
                refine wpAnyH_take (i := 9) (v := ?_) rfl (by kernel_rfl) (by kernel_rfl) (by kernel_rfl) (fun _ _ _ h => h) (Or.inl ⟨by rfl, ?_⟩) (by assumption) ?_
                rotate_left
                · intro w hSw
                  (try dsimp only at hSw)
                  go_simp
                  (try with_reducible rfl)
                try simp only [Act.put, List.getElem_toArray, List.getElem_cons_zero, List.getElem_cons_succ, List.setIfInBounds_toArray, List.set_cons_zero, List.set_cons_succ]
                refine wpAnyH_take (i := 10) (v := ?_) rfl (by kernel_rfl) (by kernel_rfl) (by kernel_rfl) (fun _ _ _ h => h) (Or.inl ⟨by rfl, ?_⟩) (by assumption) ?_
                rotate_left
                · intro w hSw
                  (try dsimp only at hSw)
                  go_simp
                  (try with_reducible rfl)
                try simp only [Act.put, List.getElem_toArray, List.getElem_cons_zero, List.getElem_cons_succ, List.setIfInBounds_toArray, List.set_cons_zero, List.set_cons_succ]
                refine wpAnyH_take (i := 11) (v := ?_) rfl (by kernel_rfl) (by kernel_rfl) (by kernel_rfl) (fun _ _ _ h => h) (Or.inl ⟨by rfl, ?_⟩) (by assumption) ?_
                rotate_left
                · intro w hSw
                  (try dsimp only at hSw)
                  go_simp
                  (try with_reducible rfl)
                try simp only [Act.put, List.getElem_toArray, List.getElem_cons_zero, List.getElem_cons_succ, List.setIfInBounds_toArray, List.set_cons_zero, List.set_cons_succ]
                refine wpAnyH_take (i := 12) (v := ?_) rfl (by kernel_rfl) (by kernel_rfl) (by kernel_rfl) (fun _ _ _ h => h) (Or.inl ⟨by rfl, ?_⟩) (by assumption) ?_
                rotate_left
                · intro w hSw
                  (try dsimp only at hSw)
                  go_simp
                  (try with_reducible rfl)
                try simp only [Act.put, List.getElem_toArray, List.getElem_cons_zero, List.getElem_cons_succ, List.setIfInBounds_toArray, List.set_cons_zero, List.set_cons_succ]
                refine wpAnyH_take (i := 13) (v := ?_) rfl (by kernel_rfl) (by kernel_rfl) (by kernel_rfl) (fun _ _ _ h => h) (Or.inl ⟨by rfl, ?_⟩) (by assumption) ?_
                rotate_left
                · intro w hSw
                  (try dsimp only at hSw)
                  go_simp
                  (try with_reducible rfl)
                try simp only [Act.put, List.getElem_toArray, List.getElem_cons_zero, List.getElem_cons_succ, List.setIfInBounds_toArray, List.set_cons_zero, List.set_cons_succ]
                refine wpAnyH_take (i := 14) (v := ?_) rfl (by kernel_rfl) (by kernel_rfl) (by kernel_rfl) (fun _ _ _ h => h) (Or.inl ⟨by rfl, ?_⟩) (by assumption) ?_
                rotate_left
                · intro w hSw
                  (try dsimp only at hSw)
                  go_simp
                  (try with_reducible rfl)
                try simp only [Act.put, List.getElem_toArray, List.getElem_cons_zero, List.getElem_cons_succ, List.setIfInBounds_toArray, List.set_cons_zero, List.set_cons_succ]
                refine wpAnyH_take (i := 15) (v := ?_) rfl (by kernel_rfl) (by kernel_rfl) (by kernel_rfl) (fun _ _ _ h => h) (Or.inl ⟨by rfl, ?_⟩) (by assumption) ?_
                rotate_left
                · intro w hSw
                  (try dsimp only at hSw)
                  go_simp
                  (try with_reducible rfl)
                try simp only [Act.put, List.getElem_toArray, List.getElem_cons_zero, List.getElem_cons_succ, List.setIfInBounds_toArray, List.set_cons_zero, List.set_cons_succ]
                refine wpAnyH_take (i := 16) (v := ?_) rfl (by kernel_rfl) (by kernel_rfl) (by kernel_rfl) (fun _ _ _ h => h) (Or.inl ⟨by rfl, ?_⟩) (by assumption) ?_
                rotate_left
                · intro w hSw
                  (try dsimp only at hSw)
                  go_simp
                  (try with_reducible rfl)
                try simp only [Act.put, List.getElem_toArray, List.getElem_cons_zero, List.getElem_cons_succ, List.setIfInBounds_toArray, List.set_cons_zero, List.set_cons_succ]
                refine wpAnyH_take (i := 17) (v := ?_) rfl (by kernel_rfl) (by kernel_rfl) (by kernel_rfl) (fun _ _ _ h => h) (Or.inl ⟨by rfl, ?_⟩) (by assumption) ?_
                rotate_left
                · intro w hSw
                  (try dsimp only at hSw)
                  go_simp
                  (try with_reducible rfl)
                try simp only [Act.put, List.getElem_toArray, List.getElem_cons_zero, List.getElem_cons_succ, List.setIfInBounds_toArray, List.set_cons_zero, List.set_cons_succ]
                refine wpAnyH_ready (rs := [18]) (by kernel_rfl) (by simp) ?_
                refine AllReadyH.cons rfl (fun K hK => ?_) AllReadyH.nil
                go_simp
                refine (HE.out _ _ _ (by omega) (by omega)).mono ?_
                rintro e we4 ⟨rfl, hb⟩
                first | show K _ _ | go_wp2_with fail
                refine hK.out _ _ ?_ (fun hHeld1 => ?_)
                · exact held5 hb hHeld
                clear hK K
                try simp only [Act.put, List.getElem_toArray, List.getElem_cons_zero, List.getElem_cons_succ, List.setIfInBounds_toArray, List.set_cons_zero, List.set_cons_succ]
                refine wpAnyH_take (i := 19) (v := ?_) rfl (by kernel_rfl) (by kernel_rfl) (by kernel_rfl) (fun _ _ _ h => h) (Or.inl ⟨by rfl, ?_⟩) (by assumption) ?_
                rotate_left
                · intro w hSw
                  (try dsimp only at hSw)
                  go_simp
                  (try with_reducible rfl)
                try simp only [Act.put, List.getElem_toArray, List.getElem_cons_zero, List.getElem_cons_succ, List.setIfInBounds_toArray, List.set_cons_zero, List.set_cons_succ]
                refine wpAnyH_take (i := 20) (v := ?_) rfl (by kernel_rfl) (by kernel_rfl) (by kernel_rfl) (fun _ _ _ h => h) (Or.inl ⟨by rfl, ?_⟩) (by assumption) ?_
                rotate_left
                · intro w hSw
                  (try dsimp only at hSw)
                  go_simp
                  (try with_reducible rfl)
                try simp only [Act.put, List.getElem_toArray, List.getElem_cons_zero, List.getElem_cons_succ, List.setIfInBounds_toArray, List.set_cons_zero, List.set_cons_succ]
                refine wpAnyH_take (i := 21) (v := ?_) rfl (by kernel_rfl) (by kernel_rfl) (by kernel_rfl) (fun _ _ _ h => h) (Or.inl ⟨by rfl, ?_⟩) (by assumption) ?_
                rotate_left
                · intro w hSw
                  (try dsimp only at hSw)
                  go_simp
                  (try with_reducible rfl)
                try simp only [Act.put, List.getElem_toArray, List.getElem_cons_zero, List.getElem_cons_succ, List.setIfInBounds_toArray, List.set_cons_zero, List.set_cons_succ]
                refine wpAnyH_done (by kernel_rfl) ?_ _
                all_goals
                  go_wp2_with fail
                  go_roundw
                  case rel => exact HNX.out _ _ _ (by first | omega | (split <;> omega)) (by first | omega | (split <;> omega)) hHeld1.2.2.2.1
                  case measure => simp [intOf]; omega
            | false =>
              have hBB : ∀ y ∈ B, a + n < y.1 := HH.out.tidy.all_behind (fun y hy => by
                cases B with
                | nil => cases hy
                | cons x B' =>
                  obtain rfl : x = y := by simpa using hy
                  have : ¬ x.1 ≤ a + n := fun hx => by have := HC.out.2 ⟨x, B', rfl, hx⟩; cases this
                  omega)
              have HBB := Lib.hid hBB
              clear hBB HC HH HB hbs
              obtain ⟨we, hwe⟩ : ∃ we, we = wc := ⟨_, rfl⟩
              rw [← hwe] at HBE ⊢
              clear hwe
              rw [← HK.out]
              have h0 : HeapAt we p f t (.slice av N cv) (A ++ (M ++ B)) := by
                rw [← HR2.out, ← HL.out]
                exact H1.out.below HBE.out
              have hT := h0.tidy.join HJ.out hn.1 ha.1 ha.2.1 HA.out HBB.out
              have et := hT.each (lo, hi - lo) (by simp)
              simp only at et
              have wr1 : IntKind.i64.wrap (hi - lo) = hi - lo := IntWalk.i64_in _ (by omega)
              have kA : Kept (fun _ => False) we (we.alloc (.cells #[.int .i64 lo, .int .i64 (hi - lo)] HT)) := (Kept.refl _ we).alloc _
              have hr := (h0.row.keep kA (fun _ _ h => h))
              rw [show (A ++ (M ++ B)).length = A.length + (M.length + B.length) by simp] at hr
              have HRP : Hid (∀ D : Int, D = ((A.length : Nat) : Int) + (M.length : Nat) → Calls Try.prog 32 #[.slice av N cv, .int .i64 (A.length : Nat), .int .i64 D, .slice (some ⟨we.heap.size, 0, none⟩) 1 1] (we.alloc (.cells #[.int .i64 lo, .int .i64 (hi - lo)] HT)) fun e w' => Inserted (we.alloc (.cells #[.int .i64 lo, .int .i64 (hi - lo)] HT)) w' (.slice av N cv) e (A ++ (lo, hi - lo) :: B)) := fun D hD => by
                rw [hD]
                exact replace_any _ A M B (lo, hi - lo) we.heap.size _ hr (RowAt.new we HT _) (fun h => by have := h0.row.own_lt _ h; omega) (by have := h0.few; simp at this; omega)
              have HFIN := Lib.hid (fun v' w2 (h : Inserted (we.alloc (.cells #[.int .i64 lo, .int .i64 (hi - lo)] HT)) w2 (.slice av N cv) (.returned v') (A ++ (lo, hi - lo) :: B)) => join_end p f t a n lo hi _ v' A M B w w1 we w2 K0.out HBE.out h0 HW.out hn.1 ⟨ha.1, ha.2.1⟩ HA.out HBB.out HJ.out h)
              have c2 := h0.c2
              have hpe := h0.head.lt
              have hpe2 : p ≠ we.heap.size := by omega
              have HLL : Hid (L = A ++ (M ++ B)) := by show _ = _; rw [HL.out, HR2.out]
              have hkm : (((A ++ M).length : Nat) : Int) = ((A.length : Nat) : Int) + (M.length : Nat) := by simp
              have HKM := Lib.hid hkm
              clear h0 hT kA hr hkm HR2 HL H1 HA HBB HBE HW
              generalize (A ++ M).length = km at *
              go_wp2_with fail
              refine (HRP.out _ HKM.out).mono ?_
              rintro e w2 hI
              obtain ⟨v', rfl, hI2⟩ : ∃ v', e = .returned v' ∧ Inserted (we.alloc (.cells #[.int .i64 lo, .int .i64 (hi - lo)] HT)) w2 (.slice av N cv) (.returned v') (A ++ (lo, hi - lo) :: B) := by
                obtain ⟨v', rfl, h2⟩ := hI
                exact ⟨v', rfl, v', rfl, h2⟩
              obtain ⟨av', nv', cv', rfl⟩ : ∃ a m c, v' = Value.slice a m c := by
                obtain ⟨_, h1, h2, _⟩ := hI2
                cases h1
                obtain ⟨a, c, h, _⟩ := h2.shape
                exact ⟨a, _, c, h⟩
              have hF := HFIN.out _ w2 hI2
              have c2' : w2.cell? ⟨p, 2, none⟩ = some (.slice av N cv) := by rw [hF.2.cell]; rfl
              have f2' := hF.2.free 2
              have HF1 := Lib.hid hF.1
              clear hI hI2 hF HFIN HRP
              go_wp2_with fail
              go_end0
              exact ⟨rfl, HLL.out ▸ HF1.out⟩
end Go.Proofs.Ytiloflgpflgjnaa
