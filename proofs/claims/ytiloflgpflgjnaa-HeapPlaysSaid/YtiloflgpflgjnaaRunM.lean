/-
  Plain mathematics: the first row of n free words, sought word by word. Nothing of the program.
-/
import Derived.Test.YtiloflgpflgjnaaHoleM
namespace Go.Proofs.Ytiloflgpflgjnaa

/- i words have been looked at; the last r of them, and no more, are free; there has been no row of n -/
structure Sought (F : List Bool) (n i r : Nat) : Prop where
  le : r ≤ i
  lt : r < n
  free : ∀ j, i - r ≤ j → j < i → F[j]? = some true
  stop : i = r ∨ F[i - r - 1]? ≠ some true
  none : ∀ s, s + n ≤ i → ¬ Window F s n
theorem Sought.start (F : List Bool) (n : Nat) (h : 0 < n) : Sought F n 0 0 := ⟨Nat.le_refl _, h, fun j h1 h2 => by omega, .inl rfl, fun s h1 => by omega⟩
theorem Sought.reset {F : List Bool} {n i r : Nat} (h : Sought F n i r) (hi : F[i]? ≠ some true) : Sought F n (i + 1) 0 := by
  refine ⟨by omega, by have := h.lt; omega, fun j h1 h2 => by omega, .inr (by simpa using hi), fun s hs hw => ?_⟩
  by_cases he : s + n ≤ i
  · exact h.none s he hw
  · exact hi (hw i (by have := h.lt; omega) (by omega))
theorem Sought.grow {F : List Bool} {n i r : Nat} (h : Sought F n i r) (hi : F[i]? = some true) (hr : r + 1 < n) : Sought F n (i + 1) (r + 1) := by
  have hle := h.le
  refine ⟨by omega, hr, fun j h1 h2 => ?_, ?_, fun s hs hw => ?_⟩
  · by_cases hj : j = i
    · subst hj; exact hi
    · exact h.free j (by omega) (by omega)
  · rcases h.stop with h1 | h1
    · exact .inl (by omega)
    · exact .inr (by rwa [show i + 1 - (r + 1) - 1 = i - r - 1 by omega])
  · by_cases he : s + n ≤ i
    · exact h.none s he hw
    · rcases h.stop with h1 | h1
      · omega
      · exact h1 (hw (i - r - 1) (by omega) (by omega))
theorem Sought.hit {F : List Bool} {n i r : Nat} (h : Sought F n i r) (hi : F[i]? = some true) (hr : r + 1 = n) : ∃ s : Nat, s + n = i + 1 ∧ FirstWindow F s n := by
  have hle := h.le
  refine ⟨i - r, by omega, fun j h1 h2 => ?_, fun s hs => h.none s (by omega)⟩
  by_cases hj : j = i
  · subst hj; exact hi
  · exact h.free j (by omega) (by omega)
theorem Sought.over {F : List Bool} {n r : Nat} (h : Sought F n F.length r) (s : Nat) : ¬ Window F s n := fun hw => by
  by_cases he : s + n ≤ F.length
  · exact h.none s he hw
  · have := hw (s + n - 1) (by have := h.lt; omega) (by have := h.lt; omega)
    have := (List.getElem?_eq_some_iff.1 this).1
    omega
theorem window_fits {F : List Bool} {s n : Nat} (h : Window F s n) (hn : 0 < n) : s + n ≤ F.length := by
  have := (List.getElem?_eq_some_iff.1 (h (s + n - 1) (by omega) (by omega))).1
  omega
end Go.Proofs.Ytiloflgpflgjnaa
