/-
  How arguments are read: a slice of elements of several cells. Nothing of the program.
-/
import Derived.Test.YtkkjfbpflfknpaaBase
import Derived.Deep.Slices
import Derived.ChangeSame
namespace Go.Proofs.Ytkkjfbpflfknpaa
open Go.ChangeShapes Go.WideShapes Go.ChangeAt Go.RowKit

/- a slice's elements, c cells each, and what each of them reads as -/
theorem elems_of {H : Type} {enc : TypeId × Value → H} {P : Program} {w : World} {base : Nat} {sp : Nat → Bool} {held : Bool} {t e : TypeId} {c : Nat} {a : Option Addr} {len cap : Nat} {d : DataW H} {p : List MemPlace}
    (ht : P.underlying t = some (.slice e)) (hc : P.cellsOf e = c) (h0 : 0 < c) (h : DataW.Trod enc P w base sp held t (.slice a len cap) d p) :
    len ≤ cap ∧ cap ≤ maxLen ∧ (len = 0 ∨ ∃ b off, a = some ⟨b, off, none⟩ ∧ b < w.heap.size ∧
      ∀ i, i < len → ∃ cs n x, cs.length = c ∧ (∀ j, j < c → w.cell? ⟨b, off + (i * c + j), none⟩ = cs[j]?) ∧ DataW.trod enc P w base sp held n e cs = some x) := by
  obtain ⟨fuel, hf⟩ := h
  subst hc
  rcases Go.Deep.open_slice ht hf with ⟨hcs, _⟩ | ⟨ad, l, k, m, n, D, Pl, hcs, _, hl, hm, hmm, _, hi⟩
  · simp [Value.cells] at hcs
    obtain ⟨rfl, rfl, rfl⟩ := hcs
    exact ⟨Nat.le_refl _, Nat.zero_le _, .inl rfl⟩
  · simp [Value.cells] at hcs
    obtain ⟨rfl, rfl, rfl⟩ := hcs
    refine ⟨hl, hm, ?_⟩
    have hlm : len ≤ m := by rw [hmm]; split <;> omega
    rcases Nat.eq_zero_or_pos len with h1 | h1
    · exact .inl h1
    · right
      obtain ⟨cs, hc0, ht0⟩ := hi 0 (by omega)
      obtain ⟨_, hl0, hat⟩ := World.cells?_some hc0
      have h00 := hat 0 h0
      rw [Go.Deep.add_add, Nat.zero_mul, Nat.add_zero, List.getElem?_eq_getElem (by omega)] at h00
      obtain ⟨b, off, spot⟩ := ad
      have hs : spot = none := by simpa [Addr.add] using World.cell?_spot h00
      subst hs
      refine ⟨b, off, rfl, by simpa [Addr.add] using cell_lt h00, fun i hil => ?_⟩
      obtain ⟨cs, hc1, ht1⟩ := hi i (by omega)
      obtain ⟨_, hl1, hat1⟩ := World.cells?_some hc1
      exact ⟨cs, n, _, hl1, fun j hj => by rw [← hat1 j hj, Go.Deep.add_add, add_plain], ht1⟩
end Go.Proofs.Ytkkjfbpflfknpaa
