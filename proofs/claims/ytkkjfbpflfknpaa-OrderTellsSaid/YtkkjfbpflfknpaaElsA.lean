/-
  Slices of elements of k cells each, as they are read: arguments and new rows alike. Nothing of the program.
-/
import Derived.Test.YtkkjfbpflfknpaaSeq
import Derived.Test.YtkkjfbpflfknpaaArgs
namespace Go.Proofs.Ytkkjfbpflfknpaa
open Go.ChangeShapes Go.WideShapes Go.ChangeAt Go.RowKit

/- the cells of a row of elements -/
def rows {α : Type} (row : α → List Value) (L : List α) : List Value := L.flatMap row
theorem rows_cons {α : Type} (row : α → List Value) (x : α) (L : List α) : rows row (x :: L) = row x ++ rows row L := rfl
theorem rows_append {α : Type} (row : α → List Value) (A B : List α) : rows row (A ++ B) = rows row A ++ rows row B := by simp [rows]
theorem rows_length {α : Type} (k : Nat) {row : α → List Value} (hk : ∀ x, (row x).length = k) (L : List α) : (rows row L).length = L.length * k := by
  induction L with
  | nil => simp [rows]
  | cons x L ih => rw [rows_cons, List.length_append, ih, hk, List.length_cons, Nat.add_mul, Nat.one_mul, Nat.add_comm]
theorem rows_at {α : Type} (k : Nat) {row : α → List Value} (hk : ∀ x, (row x).length = k) : ∀ (L : List α) (i : Nat) (x : α) (j : Nat), L[i]? = some x → j < k → (rows row L)[i * k + j]? = (row x)[j]?
  | [], i, x, j, h, _ => by simp at h
  | y :: L, 0, x, j, h, hj => by
    obtain rfl : y = x := by simpa using h
    rw [rows_cons, Nat.zero_mul, Nat.zero_add, List.getElem?_append_left (by rw [hk]; exact hj)]
  | y :: L, i + 1, x, j, h, hj => by
    rw [rows_cons, List.getElem?_append_right (by rw [hk, Nat.add_mul]; omega), hk, show (i + 1) * k + j - k = i * k + j by rw [Nat.add_mul]; omega]
    exact rows_at k hk L i x j (by simpa using h) hj

structure ElsAt {α : Type} (k : Nat) (row : α → List Value) (w : World) (v : Value) (L : List α) : Prop where
  is : ∃ a n cap, v = .slice a n cap ∧ n = L.length ∧ n ≤ cap ∧ cap ≤ maxLen ∧ (a = none → cap = 0) ∧ (n = 0 ∨ ∃ b off, a = some ⟨b, off, none⟩ ∧ b < w.heap.size ∧ ∀ i x j, L[i]? = some x → j < k → w.cell? ⟨b, off + (i * k + j), none⟩ = (row x)[j]?)
theorem ElsAt.on {α : Type} {k : Nat} {row : α → List Value} {w w' : World} {v : Value} {L : List α} (h : ElsAt k row w v L) (hb : Below w.heap.size w w') : ElsAt k row w' v L := by
  obtain ⟨a, n, cap, rfl, h1, h2, h3, h4, h5⟩ := h.is
  refine ⟨a, n, cap, rfl, h1, h2, h3, h4, ?_⟩
  rcases h5 with h5 | ⟨b, off, e, hl, hc⟩
  · exact .inl h5
  · exact .inr ⟨b, off, e, Nat.lt_of_lt_of_le hl hb.size, fun i x j hx hj => (hb.cell (p := ⟨b, off + (i * k + j), none⟩) hl).trans (hc i x j hx hj)⟩
theorem ElsAt.shape {α : Type} {k : Nat} {row : α → List Value} {w : World} {v : Value} {L : List α} (h : ElsAt k row w v L) : ∃ a cap, v = .slice a L.length cap ∧ L.length ≤ cap ∧ cap ≤ maxLen ∧ (a = none → cap = 0) := by
  obtain ⟨a, n, cap, rfl, rfl, h2, h3, h4, _⟩ := h.is
  exact ⟨a, cap, rfl, h2, h3, h4⟩
theorem ElsAt.cell {α : Type} {k : Nat} {row : α → List Value} {w : World} {v : Value} {L : List α} (h : ElsAt k row w v L) {i : Nat} {x : α} (hx : L[i]? = some x) :
    ∃ b off cap, v = .slice (some ⟨b, off, none⟩) L.length cap ∧ b < w.heap.size ∧ ∀ j, j < k → w.cell? ⟨b, off + (i * k + j), none⟩ = (row x)[j]? := by
  obtain ⟨a, n, cap, rfl, rfl, h2, h3, h4, h5⟩ := h.is
  have hi := (List.getElem?_eq_some_iff.1 hx).1
  rcases h5 with h5 | ⟨b, off, rfl, hl, hc⟩
  · omega
  · exact ⟨b, off, cap, rfl, hl, fun j hj => hc i x j hx hj⟩
theorem ElsAt.cell1 {α : Type} {row : α → List Value} {w : World} {v : Value} {L : List α} (h : ElsAt 1 row w v L) {i : Nat} {x : α} (hx : L[i]? = some x) {c0 : Value} (hr : row x = [c0]) :
    ∃ b off cap, v = .slice (some ⟨b, off, none⟩) L.length cap ∧ b < w.heap.size ∧ w.cell? ⟨b, off + i, none⟩ = some c0 := by
  obtain ⟨b, off, cap, e, hl, hc⟩ := h.cell hx
  have := hc 0 (by decide)
  rw [hr, Nat.mul_one, Nat.add_zero] at this
  exact ⟨b, off, cap, e, hl, this⟩
theorem ElsAt.cell2 {α : Type} {row : α → List Value} {w : World} {v : Value} {L : List α} (h : ElsAt 2 row w v L) {i : Nat} {x : α} (hx : L[i]? = some x) {c0 c1 : Value} (hr : row x = [c0, c1]) :
    ∃ b off cap, v = .slice (some ⟨b, off, none⟩) L.length cap ∧ b < w.heap.size ∧ w.cell? ⟨b, off + i * 2, none⟩ = some c0 ∧ w.cell? ⟨b, off + i * 2 + 1, none⟩ = some c1 := by
  obtain ⟨b, off, cap, e, hl, hc⟩ := h.cell hx
  have h0 := hc 0 (by decide)
  have h1 := hc 1 (by decide)
  rw [hr] at h0 h1
  exact ⟨b, off, cap, e, hl, h0, h1⟩
theorem ElsAt.cell3 {α : Type} {row : α → List Value} {w : World} {v : Value} {L : List α} (h : ElsAt 3 row w v L) {i : Nat} {x : α} (hx : L[i]? = some x) {c0 c1 c2 : Value} (hr : row x = [c0, c1, c2]) :
    ∃ b off cap, v = .slice (some ⟨b, off, none⟩) L.length cap ∧ b < w.heap.size ∧ w.cell? ⟨b, off + i * 3, none⟩ = some c0 ∧ w.cell? ⟨b, off + i * 3 + 1, none⟩ = some c1 ∧ w.cell? ⟨b, off + i * 3 + 2, none⟩ = some c2 := by
  obtain ⟨b, off, cap, e, hl, hc⟩ := h.cell hx
  have h0 := hc 0 (by decide)
  have h1 := hc 1 (by decide)
  have h2 := hc 2 (by decide)
  rw [hr] at h0 h1 h2
  exact ⟨b, off, cap, e, hl, h0, h1, h2⟩
/- a row of a block of its own is one -/
theorem SRow.els {α : Type} {t : TypeId} {k : Nat} {row : α → List Value} {w : World} {v : Value} {L : List α} (h : SRow t k w v L.length (rows row L)) (hk : ∀ x, (row x).length = k) : ElsAt k row w v L := by
  rcases h.is with ⟨rfl, h0⟩ | ⟨b, cap, rest, rfl, hr, _, h1, h2⟩
  · exact ⟨none, 0, 0, rfl, h0.symm, Nat.le_refl _, Nat.zero_le _, fun _ => rfl, .inl rfl⟩
  · refine ⟨_, L.length, cap, rfl, rfl, h1, h2, (fun h => by cases h), .inr ⟨b, 0, rfl, hr.lt, fun i x j hx hj => ?_⟩⟩
    have hi := (List.getElem?_eq_some_iff.1 hx).1
    have hlt : i * k + j < L.length * k := by
      have := Nat.mul_le_mul_right k (Nat.succ_le_of_lt hi)
      rw [Nat.succ_mul] at this
      omega
    rw [Nat.zero_add, hr.cell, List.getElem?_append_left (by rw [rows_length k hk]; exact hlt), rows_at k hk L i x j hx hj]
theorem ElsAt.src {P : Program} {α : Type} {tx e' : TypeId} {k : Nat} {row : α → List Value} {w : World} {v : Value} {L : List α} (h : ElsAt k row w v L) (hu : P.underlying tx = some (.slice e')) (hk : ∀ x, (row x).length = k) (h1 : ∀ x, Ones (row x)) (h0 : 0 < k) : Src P k tx v L.length (rows row L) w := by
  obtain ⟨a, n, cap, rfl, rfl, h2, h3, h4, h5⟩ := h.is
  have hone : Ones (rows row L) := fun u hu => by
    obtain ⟨x, _, hx⟩ := List.mem_flatMap.1 hu
    exact h1 x u hx
  rcases h5 with h5 | ⟨b, off, rfl, hl, hc⟩
  · have : L = [] := List.eq_nil_of_length_eq_zero h5
    subst this
    cases a with
    | none => exact Src.ofNil w hu cap
    | some a => exact Src.ofSlice w hu a 0 cap [] (by simp) (fun j u hu => by simp at hu) (fun u hu => by cases hu)
  · refine Src.ofSlice w hu _ L.length cap (rows row L) (rows_length k hk L) (fun j u hj => ?_) hone
    have hjl := (List.getElem?_eq_some_iff.1 hj).1
    rw [rows_length k hk] at hjl
    have hd : j = j / k * k + j % k := by rw [Nat.mul_comm]; exact (Nat.div_add_mod j k).symm
    have hq : j / k < L.length := Nat.div_lt_of_lt_mul (by rw [Nat.mul_comm]; exact hjl)
    have hx := List.getElem?_eq_getElem hq
    have hm := Nat.mod_lt j h0
    rw [Addr.add_lit]
    have := hc (j / k) _ (j % k) hx hm
    rw [← hd] at this
    rw [this, ← rows_at k hk L (j / k) _ (j % k) hx hm, ← hd, hj]
/- likewise, where only these elements' cells are known to be one each -/
theorem ElsAt.srcL {P : Program} {α : Type} {tx e' : TypeId} {k : Nat} {row : α → List Value} {w : World} {v : Value} {L : List α} (h : ElsAt k row w v L) (hu : P.underlying tx = some (.slice e')) (hk : ∀ x, (row x).length = k) (h1 : ∀ x ∈ L, Ones (row x)) (h0 : 0 < k) : Src P k tx v L.length (rows row L) w := by
  obtain ⟨a, n, cap, rfl, rfl, h2, h3, h4, h5⟩ := h.is
  have hone : Ones (rows row L) := fun u hu => by
    obtain ⟨x, hm, hx⟩ := List.mem_flatMap.1 hu
    exact h1 x hm u hx
  rcases h5 with h5 | ⟨b, off, rfl, hl, hc⟩
  · have : L = [] := List.eq_nil_of_length_eq_zero h5
    subst this
    cases a with
    | none => exact Src.ofNil w hu cap
    | some a => exact Src.ofSlice w hu a 0 cap [] (by simp) (fun j u hu => by simp at hu) (fun u hu => by cases hu)
  · refine Src.ofSlice w hu _ L.length cap (rows row L) (rows_length k hk L) (fun j u hj => ?_) hone
    have hjl := (List.getElem?_eq_some_iff.1 hj).1
    rw [rows_length k hk] at hjl
    have hd : j = j / k * k + j % k := by rw [Nat.mul_comm]; exact (Nat.div_add_mod j k).symm
    have hq : j / k < L.length := Nat.div_lt_of_lt_mul (by rw [Nat.mul_comm]; exact hjl)
    have hx := List.getElem?_eq_getElem hq
    have hm := Nat.mod_lt j h0
    rw [Addr.add_lit]
    have := hc (j / k) _ (j % k) hx hm
    rw [← hd] at this
    rw [this, ← rows_at k hk L (j / k) _ (j % k) hx hm, ← hd, hj]
/- elements that came in -/
theorem els_of {H : Type} {α : Type} {enc : TypeId × Value → H} {P : Program} {w : World} {base : Nat} {sp : Nat → Bool} {held : Bool} {fuel : Nat} {t e : TypeId} {k : Nat} {c : Value} {x : DataW H × List MemPlace} (row : α → List Value) (Q : α → Prop) (dflt : α)
    (ht : P.underlying t = some (.slice e)) (hc : P.cellsOf e = k) (h0 : 0 < k)
    (hrow : ∀ n cs x, cs.length = k → DataW.trod enc P w base sp held n e cs = some x → ∃ y, cs = row y ∧ Q y) (h : DataW.trod enc P w base sp held fuel t [c] = some x) : ∃ L : List α, ElsAt k row w c L ∧ ∀ y ∈ L, Q y := by
  have key0 : ∀ a len cap, c = .slice a len cap → (a = none → cap = 0) → ∃ L : List α, ElsAt k row w c L ∧ ∀ y ∈ L, Q y := by
    rintro a len cap rfl hn
    obtain ⟨h1, h2, h3⟩ := elems_of ht hc h0 (d := x.1) (p := x.2) (show DataW.Trod enc P w base sp held t (.slice a len cap) x.1 x.2 from ⟨fuel, h⟩)
    rcases h3 with rfl | ⟨b, off, rfl, hb, hi⟩
    · exact ⟨[], ⟨a, 0, cap, rfl, rfl, h1, h2, hn, .inl rfl⟩, fun y hy => by cases hy⟩
    · have key : ∀ i, i < len → ∃ y : α, (∀ j, j < k → w.cell? ⟨b, off + (i * k + j), none⟩ = (row y)[j]?) ∧ Q y := by
        intro i hil
        obtain ⟨cs, n, z, hl, hcs, hz⟩ := hi i hil
        obtain ⟨y, rfl, hq⟩ := hrow n cs z hl hz
        exact ⟨y, hcs, hq⟩
      have : ∀ i : Nat, ∃ y : α, i < len → (∀ j, j < k → w.cell? ⟨b, off + (i * k + j), none⟩ = (row y)[j]?) ∧ Q y := fun i => by
        by_cases hil : i < len
        · obtain ⟨y, hy⟩ := key i hil
          exact ⟨y, fun _ => hy⟩
        · exact ⟨dflt, fun h => absurd h hil⟩
      obtain ⟨f, hf⟩ := Classical.axiomOfChoice this
      refine ⟨(List.range len).map f, ⟨_, len, cap, rfl, by simp, h1, h2, hn, .inr ⟨b, off, rfl, hb, fun i y j hy hj => ?_⟩⟩, fun y hy => ?_⟩
      · have hil : i < len := by have := (List.getElem?_eq_some_iff.1 hy).1; simpa using this
        have he : y = f i := by
          simp [hil] at hy
          exact hy.symm
        rw [he]
        exact (hf i hil).1 j hj
      · obtain ⟨i, hi', rfl⟩ := List.mem_map.1 hy
        exact (hf i (List.mem_range.1 hi')).2
  rcases Go.Deep.open_slice ht h with ⟨hcs, _⟩ | ⟨ad, l, k', m, n, D, Pl, hcs, _⟩
  · exact key0 _ _ _ (by simpa using hcs) (fun _ => rfl)
  · exact key0 _ _ _ (by simpa using hcs) (fun h => by cases h)
end Go.Proofs.Ytkkjfbpflfknpaa
