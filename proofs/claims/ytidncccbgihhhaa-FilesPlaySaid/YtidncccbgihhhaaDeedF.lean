/-
  Layer 10's deeds, as they came in. No conditions.
-/
import Derived.Test.YtidncccbgihhhaaByteS
namespace Go.Proofs.Ytidncccbgihhhaa
open Go.ChangeShapes Go.WideShapes Go.ChangeAt Go.RowKit

/- a cell that reads as a slice of bytes -/
theorem bytes_cell {H : Type} {enc : TypeId × Value → H} {w : World} {base : Nat} {sp : Nat → Bool} {held : Bool} {fuel : Nat} {c : Value} {x : DataW H × List MemPlace}
    (h : DataW.trod enc Try.prog w base sp held fuel BS [c] = some x) : ∃ l, BytesAt w c l := by
  have hT : ∀ a len cap, c = .slice a len cap → ∃ l, BytesAt w c l := by
    rintro a len cap rfl
    obtain ⟨l, hl, _⟩ := bytes_of (d := x.1) (p := x.2) (show DataW.Trod enc Try.prog w base sp held BS (.slice a len cap) x.1 x.2 from ⟨fuel, h⟩)
    exact ⟨l, hl⟩
  rcases Go.Deep.open_slice Try.underlying30 h with ⟨hcs, _⟩ | ⟨ad, l, k, m, n, D, Pl, hcs, _⟩
  · exact hT _ _ _ (by simpa using hcs)
  · exact hT _ _ _ (by simpa using hcs)

structure DeedsF (w : World) (a : Option Addr) (n : Nat) (X : Nat → Int) (S : Nat → ByteArray) (V : Nat → Value) (B : Nat → List Nat) : Prop where
  cells : n = 0 ∨ ∃ b off, a = some ⟨b, off, none⟩ ∧ b < w.heap.size ∧ ∀ i, i < n → w.cell? ⟨b, off + i * 3, none⟩ = some (.int .i64 (X i)) ∧ w.cell? ⟨b, off + i * 3 + 1, none⟩ = some (.string (S i)) ∧ w.cell? ⟨b, off + i * 3 + 2, none⟩ = some (V i)
  xs : ∀ i, i < n → -9223372036854775808 ≤ X i ∧ X i ≤ 9223372036854775807
  ss : ∀ i, i < n → (S i).size ≤ maxLen
  bs : ∀ i, i < n → BytesAt w (V i) (B i)

theorem DeedsF.on {w w' : World} {a : Option Addr} {n : Nat} {X : Nat → Int} {S : Nat → ByteArray} {V : Nat → Value} {B : Nat → List Nat} (h : DeedsF w a n X S V B) (hb : Below w.heap.size w w') : DeedsF w' a n X S V B := by
  refine ⟨?_, h.xs, h.ss, fun i hi => (h.bs i hi).on hb⟩
  rcases h.cells with h0 | ⟨b, off, e, hl, hc⟩
  · exact .inl h0
  · exact .inr ⟨b, off, e, Nat.lt_of_lt_of_le hl hb.size, fun i hi => ⟨(hb.cell (p := ⟨b, off + i * 3, none⟩) hl).trans (hc i hi).1, (hb.cell (p := ⟨b, off + i * 3 + 1, none⟩) hl).trans (hc i hi).2.1, (hb.cell (p := ⟨b, off + i * 3 + 2, none⟩) hl).trans (hc i hi).2.2⟩⟩

theorem deedsF_of {H : Type} {enc : TypeId × Value → H} {w : World} {base : Nat} {sp : Nat → Bool} {held : Bool} {a : Option Addr} {len cap : Nat} {d : DataW H} {p : List MemPlace}
    (h : DataW.Trod enc Try.prog w base sp held 22 (.slice a len cap) d p) : ∃ X S V B, DeedsF w a len X S V B := by
  obtain ⟨_, _, h⟩ := elems_of Try.underlying22 (c := 3) (by kernel_rfl) (by decide) h
  rcases h with rfl | ⟨b, off, rfl, hb, hi⟩
  · exact ⟨fun _ => 0, fun _ => ⟨#[]⟩, fun _ => .nilIface, fun _ => [], .inl rfl, fun i hi => by omega, fun i hi => by omega, fun i hi => by omega⟩
  · have key : ∀ i, i < len → ∃ x : Int × ByteArray × Value × List Nat, (w.cell? ⟨b, off + i * 3, none⟩ = some (.int .i64 x.1) ∧ w.cell? ⟨b, off + i * 3 + 1, none⟩ = some (.string x.2.1) ∧ w.cell? ⟨b, off + i * 3 + 2, none⟩ = some x.2.2.1) ∧ (-9223372036854775808 ≤ x.1 ∧ x.1 ≤ 9223372036854775807) ∧ x.2.1.size ≤ maxLen ∧ BytesAt w x.2.2.1 x.2.2.2 := by
      intro i hil
      obtain ⟨cs, n, x, hl, hc, ht⟩ := hi i hil
      match cs, hl with
      | [c0, c1, c2], _ =>
        obtain ⟨xs, n', _, _, _, hxl, hf⟩ := DataW.trod_struct Try.underlying32 ht
        match xs, hxl with
        | [y0, y1, y2], _ =>
          have k0 : Try.prog.cellsOf 3 = 1 := by kernel_rfl
          have k1 : Try.prog.cellsOf 9 = 1 := by kernel_rfl
          have k2 : Try.prog.cellsOf 30 = 1 := by kernel_rfl
          obtain ⟨z0, e0, _, w0⟩ := DataW.trod_int Try.underlying3 (hf 0 _ rfl)
          obtain ⟨z1, e1, _, w1⟩ := DataW.trod_string Try.underlying9 (hf 1 _ rfl)
          have h2 : DataW.trod enc Try.prog w base sp held n' BS [c2] = some y2 := by
            have h2 := hf 2 _ rfl
            simp [k2] at h2
            exact h2
          obtain ⟨l, hl2⟩ := bytes_cell (c := c2) h2
          simp [k0] at e0
          simp [k1] at e1
          subst e0 e1
          exact ⟨(z0, z1, c2, l), ⟨hc 0 (by decide), hc 1 (by decide), hc 2 (by decide)⟩, bounds_i64 w0, w1, hl2⟩
    obtain ⟨f, hf⟩ := Go.Deep.choose_lt key
    exact ⟨fun i => (f i).1, fun i => (f i).2.1, fun i => (f i).2.2.1, fun i => (f i).2.2.2, .inr ⟨b, off, rfl, hb, fun i h => (hf i h).1⟩, fun i h => (hf i h).2.1, fun i h => (hf i h).2.2.1, fun i h => (hf i h).2.2.2⟩
end Go.Proofs.Ytidncccbgihhhaa
