/-
  What a call does to a slice that it appends to; append of one element to a row of its own. Nothing of the program.
-/
import Derived.Test.YtkkjfbpflfknpaaElsA
namespace Go.Proofs.Ytkkjfbpflfknpaa
open Go.ChangeShapes Go.WideShapes Go.ChangeAt Go.RowKit

/- what a call does to a slice that it appends to -/
def Grew (w w' : World) (v v' : Value) : Prop := Kept (own v) w w' ∧ ∀ j, own v' j → own v j ∨ w.heap.size ≤ j
theorem Grew.refl (w : World) (v : Value) : Grew w w v v := ⟨Kept.refl _ _, fun _ h => .inl h⟩
theorem Grew.trans {a b c : World} {u v x : Value} (h : Grew a b u v) (g : Grew b c v x) : Grew a c u x := by
  refine ⟨h.1.then g.1 fun k hk hv => ?_, fun j hj => ?_⟩
  · rcases h.2 k hv with h1 | h1
    · exact h1
    · omega
  · rcases g.2 j hj with h1 | h1
    · exact h.2 j h1
    · exact .inr (Nat.le_trans h.1.more h1)
theorem Grew.drew {a b : World} {u v : Value} (h : Grew a b u v) : Grew a b.drew u v := ⟨h.1.drew, h.2⟩
/- append of one element -/
theorem more_el {α : Type} {T E : TypeId} {k by_ : Nat} {z : Value} {row : α → List Value} (hu : Try.prog.underlying T = some (.slice E)) (hi : (Try.prog.info? E).map (fun i => (i.zero, i.size, i.bytes)) = some (some z, k, by_)) (hz : z.cells.size = k) (hb : by_ ≤ 4096) (hk : ∀ x, (row x).length = k) (h1 : ∀ x, Ones (row x))
    {w : World} {v : Value} {L : List α} (h : SRow E k w v L.length (rows row L)) (x : α) (small : L.length ≤ 900000) :
    ∃ v' w', (Builtin.append_ #[T, T] T #[v, .slice (some ⟨w.heap.size, 0, none⟩) 1 1]).run Try.prog (w.alloc (.cells (row x).toArray E)) = .ok v' w' ∧ SRow E k w' v' (L ++ [x]).length (rows row (L ++ [x])) ∧ Grew w w' v v' := by
  have k1 : Kept (fun _ => False) w (w.alloc (.cells (row x).toArray E)) := (Kept.refl _ w).alloc _
  have hx : RowAt (w.alloc (.cells (row x).toArray E)) w.heap.size E (row x) := RowAt.new w E _
  have hs : Src Try.prog k T (.slice (some ⟨w.heap.size, 0, none⟩) 1 1) 1 (row x) (w.alloc (.cells (row x).toArray E)) :=
    Src.ofSlice _ hu _ _ _ _ (by rw [hk, Nat.one_mul]) (fun j u hj => by rw [Addr.add_lit, Nat.zero_add, hx.cell, hj]) (h1 x)
  obtain ⟨v', w2, q0, q1, q2, q3, _⟩ := (SRow.keep h k1 (fun _ _ h => h)).append (P := Try.prog) T T hu hi hz hb hs (.inl (by omega)) (by omega)
  refine ⟨v', w2, q0, ?_, (Kept.of_below k1.none).trans q2, fun j hj => ?_⟩
  · rw [List.length_append, rows_append]
    simpa [rows] using q1
  · rcases q3 j hj with h3 | h3
    · exact .inl h3
    · simp at h3; exact .inr (by omega)
/- append of all of a slice -/
theorem append_els {α : Type} {T E : TypeId} {k by_ : Nat} {z : Value} {row : α → List Value} (hu : Try.prog.underlying T = some (.slice E)) (hi : (Try.prog.info? E).map (fun i => (i.zero, i.size, i.bytes)) = some (some z, k, by_)) (hz : z.cells.size = k) (hb : by_ ≤ 4096) (hk : ∀ x, (row x).length = k) (h1 : ∀ x, Ones (row x)) (h0 : 0 < k)
    {w : World} {v u : Value} {L M : List α} (h : SRow E k w v L.length (rows row L)) (g : ElsAt k row w u M) (hv : v ≠ .slice none 0 0) (small : L.length + M.length ≤ 1000000) :
    ∃ v' w', (Builtin.append_ #[T, T] T #[v, u]).run Try.prog w = .ok v' w' ∧ SRow E k w' v' (L ++ M).length (rows row (L ++ M)) ∧ Grew w w' v v' ∧ v' ≠ .slice none 0 0 := by
  obtain ⟨v', w', q0, q1, q2, q3, q4⟩ := h.append (P := Try.prog) T T hu hi hz hb (g.src hu hk h1 h0) (.inr hv) small
  refine ⟨v', w', q0, ?_, ⟨q2, q3⟩, q4⟩
  rw [List.length_append, rows_append]
  exact q1
/- a row of no elements -/
theorem SRow.empty {α : Type} (E : TypeId) (k : Nat) (row : α → List Value) (w : World) : SRow E k (w.alloc (.cells #[] E)) (.slice (some ⟨w.heap.size, 0, none⟩) 0 0) ([] : List α).length (rows row ([] : List α)) :=
  ⟨.inr ⟨w.heap.size, 0, [], rfl, RowAt.new w E [], by simp, Nat.le_refl _, Nat.zero_le _⟩, by simp [rows], fun u hu => by cases hu⟩
/- append(append([]T{}, xs..), x) -/
theorem append_both {α : Type} {T E : TypeId} {k by_ : Nat} {z : Value} {row : α → List Value} (hu : Try.prog.underlying T = some (.slice E)) (hi : (Try.prog.info? E).map (fun i => (i.zero, i.size, i.bytes)) = some (some z, k, by_)) (hz : z.cells.size = k) (hb : by_ ≤ 4096) (hk : ∀ x, (row x).length = k) (h1 : ∀ x, Ones (row x)) (h0 : 0 < k)
    (wr : World) (v : Value) (L : List α) (x : α) (h : ElsAt k row wr v L) (hl : L.length ≤ 900000) :
    ∃ a1 c1 w1 v2 w2, (Builtin.append_ #[T, T] T #[.slice (some ⟨wr.heap.size, 0, none⟩) 0 0, v]).run Try.prog (wr.alloc (.cells #[] E)) = .ok (.slice a1 L.length c1) w1 ∧
      (Builtin.append_ #[T, T] T #[.slice a1 L.length c1, .slice (some ⟨w1.heap.size, 0, none⟩) 1 1]).run Try.prog (w1.alloc (.cells (row x).toArray E)) = .ok v2 w2 ∧ ElsAt k row w2 v2 (L ++ [x]) ∧ Below wr.heap.size wr w2 := by
  have hb0 : Below wr.heap.size wr (wr.alloc (.cells #[] E)) := (Below.refl _ _).alloc (Nat.le_refl _) _
  obtain ⟨v1, w1, q0, q1, q2, _⟩ := append_els (T := T) hu hi hz hb hk h1 h0 (SRow.empty E k row wr) (h.on hb0) (by simp) (by simp; omega)
  rw [List.nil_append] at q1
  obtain ⟨a1, c1, rfl, _⟩ := q1.shape
  have hb1 : Below wr.heap.size wr w1 := q2.1.below hb0 hb0.size fun j _ hj => by have e : j = wr.heap.size := hj; omega
  have hf : ∀ j, own (.slice a1 L.length c1) j → wr.heap.size ≤ j := fun j hj => by
    rcases q2.2 j hj with e | e
    · have e : j = wr.heap.size := e
      omega
    · exact Nat.le_trans hb0.size e
  obtain ⟨v2, w2, r0, r1, r2⟩ := more_el (T := T) hu hi hz hb hk h1 q1 x (by omega)
  exact ⟨a1, c1, w1, v2, w2, q0, r0, r1.els hk, r2.1.below hb1 hb1.size fun j _ hj => hf j hj⟩
/- likewise, where only these elements' cells are known to be one each -/
theorem more_one {α : Type} {T E : TypeId} {k by_ : Nat} {z : Value} {row : α → List Value} (hu : Try.prog.underlying T = some (.slice E)) (hi : (Try.prog.info? E).map (fun i => (i.zero, i.size, i.bytes)) = some (some z, k, by_)) (hz : z.cells.size = k) (hb : by_ ≤ 4096) (hk : ∀ x, (row x).length = k)
    {w : World} {v : Value} {L : List α} (h : SRow E k w v L.length (rows row L)) (x : α) (h1 : Ones (row x)) (small : L.length ≤ 900000) :
    ∃ v' w', (Builtin.append_ #[T, T] T #[v, .slice (some ⟨w.heap.size, 0, none⟩) 1 1]).run Try.prog (w.alloc (.cells (row x).toArray E)) = .ok v' w' ∧ SRow E k w' v' (L ++ [x]).length (rows row (L ++ [x])) ∧ Grew w w' v v' := by
  have k1 : Kept (fun _ => False) w (w.alloc (.cells (row x).toArray E)) := (Kept.refl _ w).alloc _
  have hx : RowAt (w.alloc (.cells (row x).toArray E)) w.heap.size E (row x) := RowAt.new w E _
  have hs : Src Try.prog k T (.slice (some ⟨w.heap.size, 0, none⟩) 1 1) 1 (row x) (w.alloc (.cells (row x).toArray E)) :=
    Src.ofSlice _ hu _ _ _ _ (by rw [hk, Nat.one_mul]) (fun j u hj => by rw [Addr.add_lit, Nat.zero_add, hx.cell, hj]) h1
  obtain ⟨v', w2, q0, q1, q2, q3, _⟩ := (SRow.keep h k1 (fun _ _ h => h)).append (P := Try.prog) T T hu hi hz hb hs (.inl (by omega)) (by omega)
  refine ⟨v', w2, q0, ?_, (Kept.of_below k1.none).trans q2, fun j hj => ?_⟩
  · rw [List.length_append, rows_append]
    simpa [rows] using q1
  · rcases q3 j hj with h3 | h3
    · exact .inl h3
    · simp at h3; exact .inr (by omega)
theorem append_all {α : Type} {T E : TypeId} {k by_ : Nat} {z : Value} {row : α → List Value} (hu : Try.prog.underlying T = some (.slice E)) (hi : (Try.prog.info? E).map (fun i => (i.zero, i.size, i.bytes)) = some (some z, k, by_)) (hz : z.cells.size = k) (hb : by_ ≤ 4096) (hk : ∀ x, (row x).length = k) (h0 : 0 < k)
    {w : World} {v u : Value} {L M : List α} (h : SRow E k w v L.length (rows row L)) (g : ElsAt k row w u M) (h1 : ∀ x ∈ M, Ones (row x)) (hv : v ≠ .slice none 0 0) (small : L.length + M.length ≤ 1000000) :
    ∃ v' w', (Builtin.append_ #[T, T] T #[v, u]).run Try.prog w = .ok v' w' ∧ SRow E k w' v' (L ++ M).length (rows row (L ++ M)) ∧ Grew w w' v v' ∧ v' ≠ .slice none 0 0 := by
  obtain ⟨v', w', q0, q1, q2, q3, q4⟩ := h.append (P := Try.prog) T T hu hi hz hb (g.srcL hu hk h1 h0) (.inr hv) small
  refine ⟨v', w', q0, ?_, ⟨q2, q3⟩, q4⟩
  rw [List.length_append, rows_append]
  exact q1
end Go.Proofs.Ytkkjfbpflfknpaa
