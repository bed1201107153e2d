/-
  How laws read slices of ints. No conditions.
-/
import Derived.Test.YtlnjcaicagcinaaZoneT
import Derived.Test.YtlnjcaicagcinaaArgs
import Derived.Deep.Slices
namespace Go.Proofs.Ytlnjcaicagcinaa
open Go.ChangeShapes Go.WideShapes Go.ChangeAt Go.RowKit

theorem range_at {α : Type} (n j : Nat) (f : Nat → α) (x : α) (h : ((List.range n).map f)[j]? = some x) : j < n ∧ f j = x := by
  obtain ⟨hj, hx⟩ := List.getElem?_eq_some_iff.1 h
  simp at hj hx
  exact ⟨hj, hx⟩

set_option maxRecDepth 100000 in
theorem ints_of {H : Type} {enc : TypeId × Value → H} {w : World} {base : Nat} {sp : Nat → Bool} {held : Bool} {n : Nat} {c : Value} {y : DataW H × List MemPlace}
    (h : DataW.trod enc Try.prog w base sp held n 36 [c] = some y) : ∃ (s : Sl) (xs : List Int), c = s.v ∧ IntsAt w s xs := by
  have shape : ∃ a l k, c = .slice a l k ∧ (a = none → k = 0) := by
    rcases Go.Deep.open_slice Try.underlying36 h with ⟨hcs, _⟩ | ⟨ad, l, k, m, n', D, Pl, hcs, _⟩
    · simp at hcs
      exact ⟨none, 0, 0, hcs, fun _ => rfl⟩
    · simp at hcs
      exact ⟨some ad, l, k, hcs, fun h => by simp at h⟩
  obtain ⟨a, l, k, rfl, h0⟩ := shape
  have ht : DataW.Trod enc Try.prog w base sp held 36 (.slice a l k) y.1 y.2 := ⟨n, by simpa [Value.cells] using h⟩
  obtain ⟨h1, h2, h3⟩ := elems_of Try.underlying36 (c := 1) (by kernel_rfl) (by decide) ht
  rcases h3 with rfl | ⟨b, off, rfl, hb, hi⟩
  · exact ⟨⟨a, 0, k⟩, [], rfl, rfl, ⟨h1, h2⟩, h0, .inl rfl, by simp⟩
  · have key : ∀ i, i < l → ∃ x : Int, w.cell? ⟨b, off + i, none⟩ = some (.int .i64 x) ∧ (Lit.int .i64 x).wf = true := by
      intro i hil
      obtain ⟨cs, n', x, hl, hc, hx⟩ := hi i hil
      match cs, hl with
      | [c0], _ =>
        obtain ⟨z0, e0, _, w0⟩ := DataW.trod_int Try.underlying3 hx
        simp at e0
        subst e0
        have := hc 0 (by decide)
        simp at this
        exact ⟨z0, this, w0⟩
    obtain ⟨f, hf⟩ := Go.Deep.choose_lt key
    refine ⟨⟨some ⟨b, off, none⟩, l, k⟩, (List.range l).map f, rfl, by simp, ⟨h1, h2⟩, fun h => by simp at h, .inr ⟨b, off, rfl, hb, fun j x hj => ?_⟩, fun x hx => ?_⟩
    · obtain ⟨hjl, rfl⟩ := range_at _ _ _ _ hj
      exact (hf _ hjl).1
    · simp at hx
      obtain ⟨i, hil, rfl⟩ := hx
      exact (hf i hil).2
end Go.Proofs.Ytlnjcaicagcinaa
