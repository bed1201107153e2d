/-
  What a call does to a slice that it appends to; append of one element to a row of its own. Nothing of the program.
-/
import Derived.Test.YtekcebmojjkoeaaElsA
namespace Go.Proofs.Ytekcebmojjkoeaa
open Go.ChangeShapes Go.WideShapes Go.ChangeAt Go.RowKit

/- what a call does to a slice that it appends to -/
def Grew (w w' : World) (v v' : Value) : Prop := Kept (own v) w w' ∧ ∀ j, own v' j → own v j ∨ w.heap.size ≤ j
theorem Grew.refl (w : World) (v : Value) : Grew w w v v := ⟨Kept.refl _ _, fun _ h => .inl h⟩
theorem Grew.trans {a b c : World} {u v x : Value} (h : Grew a b u v) (g : Grew b c v x) : Grew a c u x := by
  refine ⟨h.1.then g.1 fun k hk hv => ?_, fun j hj => ?_⟩
  · rcases h.2 k hv with h1 | h1
    · exact h1
    · omega
  · rcases g.2 j hj with h1 | h1
    · exact h.2 j h1
    · exact .inr (Nat.le_trans h.1.more h1)
theorem Grew.drew {a b : World} {u v : Value} (h : Grew a b u v) : Grew a b.drew u v := ⟨h.1.drew, h.2⟩
/- append of one element -/
theorem more_el {α : Type} {T E : TypeId} {k by_ : Nat} {z : Value} {row : α → List Value} (hu : Try.prog.underlying T = some (.slice E)) (hi : (Try.prog.info? E).map (fun i => (i.zero, i.size, i.bytes)) = some (some z, k, by_)) (hz : z.cells.size = k) (hb : by_ ≤ 128) (hk : ∀ x, (row x).length = k) (h1 : ∀ x, Ones (row x))
    {w : World} {v : Value} {L : List α} (h : SRow E k w v L.length (rows row L)) (x : α) (small : L.length ≤ 900000) :
    ∃ v' w', (Builtin.append_ #[T, T] T #[v, .slice (some ⟨w.heap.size, 0, none⟩) 1 1]).run Try.prog (w.alloc (.cells (row x).toArray E)) = .ok v' w' ∧ SRow E k w' v' (L ++ [x]).length (rows row (L ++ [x])) ∧ Grew w w' v v' := by
  have k1 : Kept (fun _ => False) w (w.alloc (.cells (row x).toArray E)) := (Kept.refl _ w).alloc _
  have hx : RowAt (w.alloc (.cells (row x).toArray E)) w.heap.size E (row x) := RowAt.new w E _
  have hs : Src Try.prog k T (.slice (some ⟨w.heap.size, 0, none⟩) 1 1) 1 (row x) (w.alloc (.cells (row x).toArray E)) :=
    Src.ofSlice _ hu _ _ _ _ (by rw [hk, Nat.one_mul]) (fun j u hj => by rw [Addr.add_lit, Nat.zero_add, hx.cell, hj]) (h1 x)
  obtain ⟨v', w2, q0, q1, q2, q3, _⟩ := (SRow.keep h k1 (fun _ _ h => h)).append (P := Try.prog) T T hu hi hz hb hs (.inl (by omega)) (by omega)
  refine ⟨v', w2, q0, ?_, (Kept.of_below k1.none).trans q2, fun j hj => ?_⟩
  · rw [List.length_append, rows_append]
    simpa [rows] using q1
  · rcases q3 j hj with h3 | h3
    · exact .inl h3
    · simp at h3; exact .inr (by omega)
end Go.Proofs.Ytekcebmojjkoeaa
