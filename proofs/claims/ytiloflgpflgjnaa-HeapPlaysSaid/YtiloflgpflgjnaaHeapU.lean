/-
  A heap, and a slice of blocks that were taken, while a statement of layer 5 runs; the examples at the statements' head (up). No conditions.
-/
import Derived.Test.YtiloflgpflgjnaaHeapI
import Derived.Test.YtiloflgpflgjnaaErr
namespace Go.Proofs.Ytiloflgpflgjnaa
open Go.ChangeShapes Go.WideShapes Go.ChangeAt Go.RowKit

abbrev DT : TypeId := 33
/- the cells of blocks that were taken -/
def dcs (D : List (Int × Int)) : List Value := D.flatMap fun x => [.bool false, .bool false, .int .i64 x.1, .int .i64 x.2]
theorem dcs_nil : dcs [] = [] := rfl
theorem dcs_cons (x : Int × Int) (D : List (Int × Int)) : dcs (x :: D) = .bool false :: .bool false :: .int .i64 x.1 :: .int .i64 x.2 :: dcs D := rfl
theorem dcs_append (A B : List (Int × Int)) : dcs (A ++ B) = dcs A ++ dcs B := by simp [dcs]
theorem dcs_length (D : List (Int × Int)) : (dcs D).length = D.length * 4 := by
  induction D with
  | nil => rfl
  | cons x D ih => rw [dcs_cons]; simp only [List.length_cons, ih]; omega
theorem dcs_ones (D : List (Int × Int)) : Ones (dcs D) := by
  intro u hu
  simp [dcs] at hu
  obtain ⟨a, b, _, h⟩ := hu
  rcases h with rfl | rfl | rfl <;> rfl
theorem dcs_at (D : List (Int × Int)) (i : Nat) : (dcs D)[i * 4]? = (D[i]?.map fun _ => Value.bool false) ∧ (dcs D)[i * 4 + 1]? = (D[i]?.map fun _ => Value.bool false) ∧ (dcs D)[i * 4 + 2]? = (D[i]?.map fun x => Value.int .i64 x.1) ∧ (dcs D)[i * 4 + 3]? = (D[i]?.map fun x => Value.int .i64 x.2) := by
  induction D generalizing i with
  | nil => simp [dcs_nil]
  | cons x D ih =>
    cases i with
    | zero => simp [dcs_cons]
    | succ i =>
      have := ih i
      rw [dcs_cons, show (i + 1) * 4 = i * 4 + 1 + 1 + 1 + 1 by omega, show i * 4 + 1 + 1 + 1 + 1 + 1 = i * 4 + 1 + 1 + 1 + 1 + 1 by rfl]
      simpa using this

structure Back0 (w w' : World) (p : Nat) (f t : Int) (v tk : Value) (L D : List (Int × Int)) : Prop where
  heap : HeapAt w' p f t v L
  row : SRow DT 4 w' tk D.length (dcs D)
  apart : ∀ j, own tk j → ¬ foot p v j
  mine : ∀ j, foot p v j ∨ own tk j → w.heap.size ≤ j
  below : Below w.heap.size w w'

/- what a call does to a heap's blocks -/
def Moved (w1 w2 : World) (p : Nat) (v v' : Value) : Prop := Kept (foot p v) w1 w2 ∧ ∀ j, own v' j → own v j ∨ w1.heap.size ≤ j
theorem Moved.below {w1 w2 : World} (h : Below w1.heap.size w1 w2) (p : Nat) (v : Value) : Moved w1 w2 p v v := ⟨Kept.of_below h, fun _ hj => .inl hj⟩

theorem Back0.moved {w w1 w2 : World} {p : Nat} {f t : Int} {v v' tk : Value} {L L' D : List (Int × Int)} (h : Back0 w w1 p f t v tk L D) (hh : HeapAt w2 p f t v' L') (hm : Moved w1 w2 p v v') : Back0 w w2 p f t v' tk L' D :=
  ⟨hh, h.row.keep hm.1 h.apart, fun j hj hf => by
    rcases hf with hf | hf
    · exact h.apart j hj (.inl hf)
    · rcases hm.2 j hf with h1 | h1
      · exact h.apart j hj (.inr h1)
      · have := h.row.own_lt j hj; omega, fun j hj => by
    rcases hj with (hj | hj) | hj
    · exact h.mine j (.inl (.inl hj))
    · rcases hm.2 j hj with h1 | h1
      · exact h.mine j (.inl (.inr h1))
      · have := h.below.size; omega
    · exact h.mine j (.inr hj), hm.1.below h.below h.below.size fun j _ hj => h.mine j (.inl hj)⟩
theorem Back0.still {w w1 w2 : World} {p : Nat} {f t : Int} {v tk : Value} {L D : List (Int × Int)} (h : Back0 w w1 p f t v tk L D) (hb : Below w1.heap.size w1 w2) : Back0 w w2 p f t v tk L D := h.moved (h.heap.below hb) (Moved.below hb p v)
theorem Turned.moved {w1 w2 : World} {p : Nat} {f t : Int} {v : Value} {L' : List (Int × Int)} (h : Turned w1 w2 p f t v L') : ∃ v', HeapAt w2 p f t v' L' ∧ Moved w1 w2 p v v' := by
  obtain ⟨v', h1, h2, h3⟩ := h
  exact ⟨v', h1, h2, h3⟩
theorem Fresh.back {w w0 w1 : World} {e : Ending} {f t : Int} (h : Fresh w0 w1 e f t) (hb : Below w.heap.size w w0) : ∃ p v, e = .returned (.tuple #[.pointer (some ⟨p, 0, none⟩), .nilIface]) ∧ Back0 w w1 p f t v (.slice none 0 0) (whole f t) [] := by
  obtain ⟨p, v, he, hh, hk, hp, ho⟩ := h
  have := hb.size
  refine ⟨p, v, he, hh, SRow.nil _ _ _, fun j hj => by simp [own] at hj, fun j hj => ?_, below_on hb hk.none hb.size⟩
  rcases hj with (hj | hj) | hj
  · omega
  · have := ho j hj; omega
  · simp [own] at hj

theorem split_first (p : Int × Int → Bool) (L : List (Int × Int)) : (∀ y ∈ L, p y = false) ∨ ∃ A x B, L = A ++ x :: B ∧ (∀ y ∈ A, p y = false) ∧ p x = true := by
  induction L with
  | nil => exact .inl fun y hy => by cases hy
  | cons x L ih =>
    cases hx : p x with
    | true => exact .inr ⟨[], x, L, rfl, (fun y hy => by cases hy), hx⟩
    | false =>
      rcases ih with h | ⟨A, y, B, rfl, h1, h2⟩
      · left
        intro y hy
        rcases List.mem_cons.1 hy with rfl | hy
        · exact hx
        · exact h y hy
      · refine .inr ⟨x :: A, y, B, rfl, fun z hz => ?_, h2⟩
        rcases List.mem_cons.1 hz with rfl | hz
        · exact hx
        · exact h1 z hz

def errV (c : Nat) : Value := match c with
  | 0 => .nilIface
  | n + 1 => .iface 29 (.int .i64 ((n + 1 : Nat) : Int))

def TakeWay (L : List (Int × Int)) (size : Int) (c : Nat) (a : Int) (L' : List (Int × Int)) : Prop :=
  (c = 1 ∧ a = 0 ∧ L' = L ∧ ¬ (1 ≤ size ∧ size ≤ 65536)) ∨ (c = 9 ∧ a = 0 ∧ L' = L ∧ (1 ≤ size ∧ size ≤ 65536) ∧ ∀ y ∈ L, y.2 < up4 size) ∨
    (c = 0 ∧ (1 ≤ size ∧ size ≤ 65536) ∧ ∃ A B x, L = A ++ x :: B ∧ (∀ y ∈ A, y.2 < up4 size) ∧ up4 size ≤ x.2 ∧ a = x.1 ∧ L' = A ++ (rest_ x (up4 size) ++ B))
theorem heap_take (p : Nat) (f t size : Int) (v : Value) (L : List (Int × Int)) (w : World) (h : HeapAt w p f t v L) :
    Calls Try.prog 12 #[.pointer (some ⟨p, 0, none⟩), .int .i64 size] w fun e w' => ∃ c a v' L', e = .returned (.tuple #[.int .i64 a, errV c]) ∧ HeapAt w' p f t v' L' ∧ Moved w w' p v v' ∧ TakeWay L size c a L' := by
  by_cases hs : 1 ≤ size ∧ size ≤ 65536
  · rcases split_first (fun x => decide (up4 size ≤ x.2)) L with hL | ⟨A, x, B, rfl, hA, hx⟩
    · have hL' : ∀ y ∈ L, y.2 < up4 size := fun y hy => by have := hL y hy; simp at this; omega
      refine (take_none' p f t size v L w h hs hL').mono ?_
      rintro e w' ⟨rfl, hb⟩
      exact ⟨9, 0, v, L, rfl, h.below hb, Moved.below hb p v, .inr (.inl ⟨rfl, rfl, rfl, hs, hL'⟩)⟩
    · have hA' : ∀ y ∈ A, y.2 < up4 size := fun y hy => by have := hA y hy; simp at this; omega
      have hx' : up4 size ≤ x.2 := by simpa using hx
      refine (take_some p f t size v A B x w h hs hA' hx').mono ?_
      rintro e w' ⟨rfl, hT⟩
      obtain ⟨v', h1, h2⟩ := hT.moved
      exact ⟨0, x.1, v', _, rfl, h1, h2, .inr (.inr ⟨rfl, hs, A, B, x, rfl, hA', hx', rfl, rfl⟩)⟩
  · refine (take_bad p size w hs).mono ?_
    rintro e w' ⟨rfl, hb⟩
    exact ⟨1, 0, v, L, rfl, h.below hb, Moved.below hb p v, .inl ⟨rfl, rfl, rfl, hs⟩⟩

def GiveWay (f t : Int) (L : List (Int × Int)) (a s : Int) (c : Nat) (L' : List (Int × Int)) : Prop :=
  (c = 1 ∧ L' = L ∧ ¬ MayGive f t L a s) ∨ (c = 0 ∧ MayGive f t L a s ∧ ∃ A M B lo hi, L = A ++ (M ++ B) ∧ Joined a (up4 s) M lo hi ∧ L' = A ++ (lo, hi - lo) :: B)
theorem heap_give (p : Nat) (f t a s : Int) (v : Value) (L : List (Int × Int)) (w : World) (h : HeapAt w p f t v L) :
    Calls Try.prog 10 #[.pointer (some ⟨p, 0, none⟩), .int .i64 a, .int .i64 s] w fun e w' => ∃ c v' L', e = .returned (errV c) ∧ HeapAt w' p f t v' L' ∧ Moved w w' p v v' ∧ GiveWay f t L a s c L' := by
  by_cases hm : MayGive f t L a s
  · refine (give_yes p f t a s v L w h hm).mono ?_
    rintro e w' ⟨rfl, A, M, B, lo, hi, hL, hj, hT⟩
    obtain ⟨v', h1, h2⟩ := hT.moved
    exact ⟨0, v', _, rfl, h1, h2, .inr ⟨rfl, hm, A, M, B, lo, hi, hL, hj, rfl⟩⟩
  · refine (give_no p f t a s v L w h hm).mono ?_
    rintro e w' ⟨rfl, hb⟩
    exact ⟨1, v, L, rfl, h.below hb, Moved.below hb p v, .inl ⟨rfl, rfl, hm⟩⟩
theorem GiveWay.covers {f t a s : Int} {L L' : List (Int × Int)} (h : GiveWay f t L a s 0 L') (p : Int) : Covers L' p ↔ Covers L p ∨ (a ≤ p ∧ p < a + up4 s) := by
  rcases h with ⟨h, _⟩ | ⟨_, _, A, M, B, lo, hi, rfl, hj, rfl⟩
  · cases h
  · exact covers_join hj p

/- the heap of the examples, step by step -/
theorem up_t1 : Tidy 0 40 [(0, 8), (16, 24)] := ⟨fun x hx => by simp at hx; rcases hx with rfl | rfl <;> simp, by simp⟩
theorem up_covers (p : Int) : Covers [(0, 8), (16, 24)] p ↔ Covers [(16, 24)] p ∨ (0 ≤ p ∧ p < 0 + up4 8) := by
  rw [covers_cons, covers_cons]
  simp only [covers_nil, or_false, show up4 8 = 8 from rfl]
  omega

set_option maxHeartbeats 1000000 in
theorem up05 (w : World) :
    Calls Try.prog 5 #[] w fun e w' => e = .returned (.bool true) ∧ Below w.heap.size w w' := by
  have q := arg_eql
  go_enter Try.func5, Try.ntmps5
  go_wp2_with fail
  refine (heapNew_yes 0 40 _ (by omega)).mono ?_
  rintro e w1 h
  obtain ⟨p, v1, rfl, hB⟩ := h.back (Below.refl _ _)
  have B1 := Lib.hid hB
  clear h hB
  go_wp2_with fail
  refine (heapNew_no 1 40 _ (by omega)).mono ?_
  rintro e w' ⟨rfl, rfl⟩
  go_wp2_with fail
  refine (take_some p 0 40 8 v1 [] [] (0, 40) w1 B1.out.heap (by omega) (fun y hy => by cases hy) (by decide)).mono ?_
  rintro e w2 ⟨rfl, hT⟩
  obtain ⟨v2, h1, h2⟩ := hT.moved
  have B2 : Hid (Back0 w w2 p 0 40 v2 (.slice none 0 0) [(8, 32)] []) := B1.out.moved h1 h2
  clear hT h1 h2 B1
  go_wp2_with fail
  refine (take_some p 0 40 5 v2 [] [] (8, 32) w2 B2.out.heap (by omega) (fun y hy => by cases hy) (by decide)).mono ?_
  rintro e w3 ⟨rfl, hT⟩
  obtain ⟨v3, h1, h2⟩ := hT.moved
  have B3 : Hid (Back0 w w3 p 0 40 v3 (.slice none 0 0) [(16, 24)] []) := B2.out.moved h1 h2
  clear hT h1 h2 B2
  go_wp2_with fail
  refine (heap_give p 0 40 0 8 v3 _ w3 B3.out.heap).mono ?_
  rintro e w4 ⟨c, v4, L4, rfl, h1, h2, hG⟩
  have hc : c = 0 := by
    rcases hG with ⟨_, _, h⟩ | ⟨h, _⟩
    · exact absurd ⟨by decide, by decide, by decide, by decide, fun y hy => by simp at hy; subst hy; decide⟩ h
    · exact h
  subst hc
  have hL4 : L4 = [(0, 8), (16, 24)] := tidy_eq h1.tidy up_t1 fun x _ => by rw [hG.covers, up_covers]
  subst hL4
  have B4 : Hid (Back0 w w4 p 0 40 v4 (.slice none 0 0) [(0, 8), (16, 24)] []) := B3.out.moved h1 h2
  clear h1 h2 hG B3
  rw [show errV 0 = .nilIface from rfl]
  go_wp2_with fail
  refine (take_some p 0 40 9 v4 [(0, 8)] [] (16, 24) w4 B4.out.heap (by omega) (fun y hy => by simp at hy; subst hy; decide) (by decide)).mono ?_
  rintro e w5 ⟨rfl, hT⟩
  obtain ⟨v5, h1, h2⟩ := hT.moved
  have B5 : Hid (Back0 w w5 p 0 40 v5 (.slice none 0 0) [(0, 8), (28, 12)] []) := B4.out.moved h1 h2
  clear hT h1 h2 B4
  go_wp2_with fail
  refine (holes_any p 0 40 v5 _ w5 B5.out.heap).mono ?_
  rintro e w6 ⟨v6, rfl, hS, hk, -⟩
  obtain ⟨a6, c6, rfl, -⟩ := hS.shape
  have HB := Lib.hid (below_on B5.out.below hk.none B5.out.below.size)
  clear hS hk B5
  go_wp2_with fail
  go_ret
  exact ⟨rfl, HB.out⟩
end Go.Proofs.Ytiloflgpflgjnaa
