/-
  Rows of bytes that are known whole; pieces of them as strings. Nothing of the program but the numbers of the types uint8, []uint8 and string.
-/
import Derived.Test.YtkkjfbpflfknpaaBase
import Derived.Laws.BytesArg
namespace Go.Proofs.Ytkkjfbpflfknpaa
open Go.ChangeShapes Go.WideShapes Go.ChangeAt Go.RowKit

/- a row of bytes, a block of its own -/
def byteVals (l : List Nat) : List Value := l.map fun b : Nat => Value.int .u8 (b : Int)
def ByteRow (w : World) (g : Nat) (l : List Nat) : Prop := w.heap[g]? = some (.cells (byteVals l).toArray 5 (0, 0)) ∧ ∀ b ∈ l, b < 256

theorem byteVals_length (l : List Nat) : (byteVals l).length = l.length := by simp [byteVals]
theorem byteVals_at (l : List Nat) (i : Nat) (hi : i < l.length) : (byteVals l)[i]? = some (.int .u8 ((l.getD i 0 : Nat) : Int)) := by
  simp [byteVals, List.getD, hi]
theorem byteVals_one (l : List Nat) : ∀ v ∈ byteVals l, v.oneCell' = true := by
  intro v hv
  obtain ⟨b, _, rfl⟩ := List.mem_map.1 hv
  rfl
theorem byteVals_splice (l cs : List Nat) (o : Nat) : splice (byteVals l) o (byteVals cs) = byteVals (splice l o cs) := by
  simp [splice, byteVals, List.map_take, List.map_drop]
theorem byteVals_set (l : List Nat) (i b : Nat) : (byteVals l).set i (.int .u8 (b : Int)) = byteVals (l.set i b) := by
  simp [byteVals, List.map_set]

theorem ByteRow.lt {w : World} {g : Nat} {l : List Nat} (h : ByteRow w g l) : g < w.heap.size := (Array.getElem?_eq_some_iff.1 h.1).1
theorem ByteRow.at_ {w : World} {g : Nat} {l : List Nat} (h : ByteRow w g l) (i : Nat) (hi : i < l.length) : w.cell? ⟨g, i, none⟩ = some (.int .u8 ((l.getD i 0 : Nat) : Int)) := by
  rw [cell_of_row w g i _ _ _ h.1]
  simpa using byteVals_at l i hi
theorem ByteRow.free {w : World} {g : Nat} {l : List Nat} (h : ByteRow w g l) (i : Nat) : w.frozen? ⟨g, i, none⟩ = false := by
  have := h.1
  simp [World.frozen?, this]
theorem ByteRow.keep {S : Nat → Prop} {w w' : World} {g : Nat} {l : List Nat} (h : ByteRow w g l) (k : Kept S w w') (hS : ¬ S g) : ByteRow w' g l := ⟨k.block h.1 hS, h.2⟩
theorem ByteRow.new (w : World) (l : List Nat) (h : ∀ b ∈ l, b < 256) : ByteRow (w.alloc (.cells (byteVals l).toArray 5)) w.heap.size l := ⟨heap_alloc_new w _, h⟩
theorem ByteRow.drew {w : World} {g : Nat} {l : List Nat} (h : ByteRow w g l) : ByteRow w.drew g l := h
theorem ByteRow.setRow {w : World} {g : Nat} {l l' : List Nat} (h : ByteRow w g l) (h' : ∀ b ∈ l', b < 256) : ByteRow (w.setRow g (byteVals l').toArray) g l' := ⟨setRow_heap w g _ _ _ _ h.1, h'⟩
theorem ByteRow.setCell {w : World} {g : Nat} {l : List Nat} (h : ByteRow w g l) (i b : Nat) (hb : b < 256) : ByteRow (w.setCell ⟨g, i, none⟩ (.int .u8 (b : Int))) g (l.set i b) := by
  refine ⟨?_, fun c hc => ?_⟩
  · rw [setCell_eq_setRow w g i _ _ _ _ h.1, setRow_heap w g _ _ _ _ h.1]
    simp [byteVals, List.map_set]
  · rcases List.mem_or_eq_of_mem_set hc with hc | rfl
    · exact h.2 c hc
    · exact hb

/- a piece of a row, as a string -/
def strOf (l : List Nat) : ByteArray := strOfNums (l.map fun b : Nat => (b : Int))
def piece (l : List Nat) (a b : Nat) : List Nat := (l.drop a).take (b - a)
theorem piece_length (l : List Nat) (a b : Nat) (hb : b ≤ l.length) : (piece l a b).length = b - a := by
  simp [piece]
  omega
theorem piece_getD (l : List Nat) (a b i : Nat) (hi : i < b - a) : (piece l a b).getD i 0 = l.getD (a + i) 0 := by
  simp [piece, List.getD, hi]
theorem piece_all (l : List Nat) : piece l 0 l.length = l := by simp [piece]
theorem piece_lt {l : List Nat} (h : ∀ b ∈ l, b < 256) (a b : Nat) : ∀ c ∈ piece l a b, c < 256 := fun c hc => h c (List.mem_of_mem_drop (List.mem_of_mem_take hc))
theorem splice_low (l s : List Nat) (i j : Nat) (hj : j ≤ i) (hi : i ≤ l.length) : piece (splice l i s) 0 j = piece l 0 j := by
  simp only [piece, splice, List.drop_zero, Nat.sub_zero]
  rw [List.take_append_of_le_length (by rw [List.length_take]; omega), List.take_take, Nat.min_eq_left hj]
theorem splice_high (l s : List Nat) (i j e : Nat) (hj : i + s.length ≤ j) (hi : i ≤ l.length) : piece (splice l i s) j e = piece l j e := by
  simp only [piece, splice]
  have h1 : (l.take i).length = i := by rw [List.length_take]; omega
  rw [List.drop_append, h1, List.drop_of_length_le (by omega), List.nil_append, List.drop_append, List.drop_of_length_le (by omega), List.nil_append, List.drop_drop]
  congr 2
  omega
theorem splice_same (l s : List Nat) (i : Nat) (hi : i ≤ l.length) : piece (splice l i s) i (i + s.length) = s := by
  simp only [piece, splice]
  have h1 : (l.take i).length = i := by rw [List.length_take]; omega
  rw [List.drop_append, h1, List.drop_of_length_le (by omega), List.nil_append, Nat.sub_self, List.drop_zero, Nat.add_sub_cancel_left, List.take_left]
end Go.Proofs.Ytkkjfbpflfknpaa
