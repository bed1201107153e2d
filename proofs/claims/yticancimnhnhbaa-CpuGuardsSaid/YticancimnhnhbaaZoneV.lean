/-
  How layer 6's laws read their deeds: a flag, and a zone with its two slices. No conditions.
-/
import Derived.Test.YticancimnhnhbaaZoneT
import Derived.Test.YticancimnhnhbaaArgs
import Derived.Deep.Slices
namespace Go.Proofs.Yticancimnhnhbaa
open Go.ChangeShapes Go.WideShapes Go.ChangeAt Go.RowKit

structure Deed6 where
  gone : Bool
  x : ZR
instance : Inhabited Deed6 := ⟨⟨false, ZR0⟩⟩
theorem range_at {α : Type} (n j : Nat) (f : Nat → α) (x : α) (h : ((List.range n).map f)[j]? = some x) : j < n ∧ f j = x := by
  obtain ⟨hj, hx⟩ := List.getElem?_eq_some_iff.1 h
  simp at hj hx
  exact ⟨hj, hx⟩
structure Deeds6 (w : World) (a : Option Addr) (n : Nat) (D : List Deed6) : Prop where
  len : D.length = n
  cells : n = 0 ∨ ∃ b off, a = some ⟨b, off, none⟩ ∧ b < w.heap.size ∧ ∀ i d, D[i]? = some d → w.cell? ⟨b, off + i * 7, none⟩ = some (.bool d.gone) ∧ Six w b (off + i * 7 + 1) d.x
  ints : ∀ d ∈ D, IntsAt w d.x.p d.x.z.P ∧ IntsAt w d.x.q d.x.z.Q

set_option maxRecDepth 100000 in
theorem ints_of {H : Type} {enc : TypeId × Value → H} {w : World} {base : Nat} {sp : Nat → Bool} {held : Bool} {n : Nat} {c : Value} {y : DataW H × List MemPlace}
    (h : DataW.trod enc Try.prog w base sp held n 28 [c] = some y) : ∃ (s : Sl) (xs : List Int), c = s.v ∧ IntsAt w s xs := by
  have shape : ∃ a l k, c = .slice a l k ∧ (a = none → k = 0) := by
    rcases Go.Deep.open_slice Try.underlying28 h with ⟨hcs, _⟩ | ⟨ad, l, k, m, n', D, Pl, hcs, _⟩
    · simp at hcs
      exact ⟨none, 0, 0, hcs, fun _ => rfl⟩
    · simp at hcs
      exact ⟨some ad, l, k, hcs, fun h => by simp at h⟩
  obtain ⟨a, l, k, rfl, h0⟩ := shape
  have ht : DataW.Trod enc Try.prog w base sp held 28 (.slice a l k) y.1 y.2 := ⟨n, by simpa [Value.cells] using h⟩
  obtain ⟨h1, h2, h3⟩ := elems_of Try.underlying28 (c := 1) (by kernel_rfl) (by decide) ht
  rcases h3 with rfl | ⟨b, off, rfl, hb, hi⟩
  · exact ⟨⟨a, 0, k⟩, [], rfl, rfl, ⟨h1, h2⟩, h0, .inl rfl, by simp⟩
  · have key : ∀ i, i < l → ∃ x : Int, w.cell? ⟨b, off + i, none⟩ = some (.int .i64 x) ∧ (Lit.int .i64 x).wf = true := by
      intro i hil
      obtain ⟨cs, n', x, hl, hc, hx⟩ := hi i hil
      match cs, hl with
      | [c0], _ =>
        obtain ⟨z0, e0, _, w0⟩ := DataW.trod_int Try.underlying3 hx
        simp at e0
        subst e0
        have := hc 0 (by decide)
        simp at this
        exact ⟨z0, this, w0⟩
    obtain ⟨f, hf⟩ := Go.Deep.choose_lt key
    refine ⟨⟨some ⟨b, off, none⟩, l, k⟩, (List.range l).map f, rfl, by simp, ⟨h1, h2⟩, fun h => by simp at h, .inr ⟨b, off, rfl, hb, fun j x hj => ?_⟩, fun x hx => ?_⟩
    · obtain ⟨hjl, rfl⟩ := range_at _ _ _ _ hj
      exact (hf _ hjl).1
    · simp at hx
      obtain ⟨i, hil, rfl⟩ := hx
      exact (hf i hil).2

set_option maxRecDepth 100000 in
theorem deeds6_of {H : Type} {enc : TypeId × Value → H} {w : World} {base : Nat} {sp : Nat → Bool} {held : Bool} {a : Option Addr} {len cap : Nat} {d : DataW H} {p : List MemPlace}
    (h : DataW.Trod enc Try.prog w base sp held 22 (.slice a len cap) d p) : ∃ D, Deeds6 w a len D := by
  obtain ⟨_, _, h⟩ := elems_of Try.underlying22 (c := 7) (by kernel_rfl) (by decide) h
  rcases h with rfl | ⟨b, off, rfl, hb, hi⟩
  · exact ⟨[], rfl, .inl rfl, by simp⟩
  · have key : ∀ i, i < len → ∃ d : Deed6, (w.cell? ⟨b, off + i * 7, none⟩ = some (.bool d.gone) ∧ Six w b (off + i * 7 + 1) d.x) ∧ IntsAt w d.x.p d.x.z.P ∧ IntsAt w d.x.q d.x.z.Q := by
      intro i hil
      obtain ⟨cs, n, x, hl, hc, ht⟩ := hi i hil
      match cs, hl with
      | [c0, c1, c2, c3, c4, c5, c6], _ =>
        obtain ⟨xs, n', _, _, _, hxl, hf⟩ := DataW.trod_struct Try.underlying32 ht
        match xs, hxl with
        | [y0, y1], _ =>
          have k4 : Try.prog.cellsOf 4 = 1 := by kernel_rfl
          have k3 : Try.prog.cellsOf 3 = 1 := by kernel_rfl
          have k28 : Try.prog.cellsOf 28 = 1 := by kernel_rfl
          have k30 : Try.prog.cellsOf 30 = 6 := by kernel_rfl
          obtain ⟨z0, e0, _⟩ := DataW.trod_bool Try.underlying4 (hf 0 _ rfl)
          have h1 := hf 1 _ rfl
          simp [k30] at h1
          obtain ⟨xs', n2, _, _, _, hxl', hf'⟩ := DataW.trod_struct Try.underlying30 h1
          match xs', hxl' with
          | [u0, u1, u2, u3, u4, u5], _ =>
            obtain ⟨z1, e1, _, _⟩ := DataW.trod_int Try.underlying3 (hf' 0 _ rfl)
            obtain ⟨z2, e2, _, _⟩ := DataW.trod_int Try.underlying3 (hf' 1 _ rfl)
            obtain ⟨z3, e3, _, _⟩ := DataW.trod_int Try.underlying3 (hf' 2 _ rfl)
            obtain ⟨z4, e4, _, _⟩ := DataW.trod_int Try.underlying3 (hf' 3 _ rfl)
            have h5 := hf' 4 _ rfl
            have h6 := hf' 5 _ rfl
            simp [k28] at h5 h6
            simp [k4] at e0
            simp [k3] at e1 e2 e3 e4
            obtain ⟨sp', xp, rfl, hp⟩ := ints_of h5
            obtain ⟨sq', xq, rfl, hq⟩ := ints_of h6
            subst e0 e1 e2 e3 e4
            exact ⟨⟨z0, ⟨⟨z1, z2, z3, z4, xp, xq⟩, sp', sq'⟩⟩, ⟨hc 0 (by decide), ⟨hc 1 (by decide), hc 2 (by decide), hc 3 (by decide), hc 4 (by decide), hc 5 (by decide), hc 6 (by decide)⟩⟩, hp, hq⟩
    obtain ⟨f, hf⟩ := Go.Deep.choose_lt key
    refine ⟨(List.range len).map f, by simp, .inr ⟨b, off, rfl, hb, fun i d hd => ?_⟩, fun d hd => ?_⟩
    · obtain ⟨hil, rfl⟩ := range_at _ _ _ _ hd
      exact (hf _ hil).1
    · simp at hd
      obtain ⟨i, hil, rfl⟩ := hd
      exact (hf i hil).2
end Go.Proofs.Yticancimnhnhbaa
