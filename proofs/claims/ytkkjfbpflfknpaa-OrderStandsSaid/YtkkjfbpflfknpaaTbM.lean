/-
  Layer 18's tables as plain data: where a name stands in a list, how many lists hold it, what Add says, what Remove leaves. Nothing of the program.
-/
import Derived.Test.YtkkjfbpflfknpaaBase
namespace Go.Proofs.Ytkkjfbpflfknpaa

/- the first place of a name; -1: it isn't there -/
def posV : List ByteArray → ByteArray → Int
  | [], _ => -1
  | x :: L, s => if x = s then 0 else if posV L s < 0 then -1 else posV L s + 1
theorem posV_none : ∀ {N : List ByteArray} {s : ByteArray}, s ∉ N → posV N s = -1
  | [], _, _ => rfl
  | x :: L, s, h => by
    have h1 : ¬ x = s := fun e => h (by rw [e]; exact List.mem_cons_self ..)
    have h2 := posV_none (N := L) (s := s) fun hm => h (List.mem_cons_of_mem _ hm)
    rw [posV, if_neg h1, h2]
    rfl
theorem posV_at : ∀ {N : List ByteArray} {s : ByteArray} {k : Nat}, N[k]? = some s → s ∉ N.take k → posV N s = (k : Int)
  | [], _, _, h, _ => by simp at h
  | x :: L, s, 0, h, _ => by
    obtain rfl : x = s := by simpa using h
    rw [posV, if_pos rfl]
    rfl
  | x :: L, s, k + 1, h, hn => by
    rw [List.take_succ_cons] at hn
    have h1 : ¬ x = s := fun e => hn (by rw [e]; exact List.mem_cons_self ..)
    have h2 := posV_at (N := L) (s := s) (k := k) (by simpa using h) fun hm => hn (List.mem_cons_of_mem _ hm)
    rw [posV, if_neg h1, h2, if_neg (by omega)]
    omega
theorem first_at : ∀ {N : List ByteArray} {s : ByteArray}, s ∈ N → ∃ k, N[k]? = some s ∧ s ∉ N.take k
  | [], _, h => by cases h
  | x :: L, s, h => by
    by_cases e : x = s
    · subst e
      exact ⟨0, rfl, fun hm => by cases hm⟩
    · have hm : s ∈ L := by
        rcases List.mem_cons.1 h with h1 | h1
        · exact absurd h1.symm e
        · exact h1
      obtain ⟨k, h1, h2⟩ := first_at hm
      refine ⟨k + 1, by simpa using h1, fun hm => ?_⟩
      rw [List.take_succ_cons] at hm
      rcases List.mem_cons.1 hm with h3 | h3
      · exact e h3.symm
      · exact h2 h3
theorem posV_some {N : List ByteArray} {s : ByteArray} (h : s ∈ N) : ∃ k : Nat, posV N s = k ∧ N[k]? = some s ∧ k < N.length := by
  obtain ⟨k, h1, h2⟩ := first_at h
  exact ⟨k, posV_at h1 h2, h1, (List.getElem?_eq_some_iff.1 h1).1⟩
theorem posV_neg {N : List ByteArray} {s : ByteArray} : posV N s < 0 ↔ s ∉ N := by
  refine ⟨fun h hm => ?_, fun h => by rw [posV_none h]; decide⟩
  obtain ⟨k, h1, _⟩ := posV_some hm
  omega
theorem posV_le (N : List ByteArray) (s : ByteArray) : -1 ≤ posV N s ∧ posV N s ≤ N.length := by
  by_cases h : s ∈ N
  · obtain ⟨k, h1, _, h2⟩ := posV_some h
    omega
  · rw [posV_none h]
    omega
theorem posV_nodup {N : List ByteArray} {s : ByteArray} {k : Nat} (hd : N.Nodup) (h : N[k]? = some s) : posV N s = (k : Int) := by
  refine posV_at h fun hm => ?_
  obtain ⟨j, hj, e⟩ := List.mem_iff_getElem.1 hm
  rw [List.length_take] at hj
  rw [List.getElem_take] at e
  obtain ⟨hk, e2⟩ := List.getElem?_eq_some_iff.1 h
  have := (List.getElem_inj hd).1 (e.trans e2.symm)
  omega
/- a name that isn't among the first m, and isn't the next one -/
theorem not_next {N : List ByteArray} {s x : ByteArray} {m : Nat} (h : s ∉ N.take m) (hx : N[m]? = some x) (hn : ¬ x = s) : s ∉ N.take (m + 1) := by
  rw [List.take_add_one, hx]
  intro hm
  rcases List.mem_append.1 hm with h1 | h1
  · exact h h1
  · simp at h1
    exact hn h1.symm
theorem not_all {N : List ByteArray} {s : ByteArray} {m : Nat} (h : s ∉ N.take m) (hm : N.length ≤ m) : s ∉ N := by
  rw [List.take_of_length_le hm] at h
  exact h
/- how many of the lists hold a name -/
open Classical in
noncomputable def refsT (I : List (List ByteArray)) (s : ByteArray) : Nat := (I.filter fun l => decide (s ∈ l)).length
theorem refsT_le (I : List (List ByteArray)) (s : ByteArray) : refsT I s ≤ I.length := List.length_filter_le _ _
theorem refsT_yes {I : List (List ByteArray)} {s : ByteArray} {m : Nat} {l : List ByteArray} (hx : I[m]? = some l) (h : s ∈ l) : refsT (I.take (m + 1)) s = refsT (I.take m) s + 1 := by
  unfold refsT
  rw [List.take_add_one, hx, List.filter_append, List.length_append]
  simp [h]
theorem refsT_no {I : List (List ByteArray)} {s : ByteArray} {m : Nat} {l : List ByteArray} (hx : I[m]? = some l) (h : s ∉ l) : refsT (I.take (m + 1)) s = refsT (I.take m) s := by
  unfold refsT
  rw [List.take_add_one, hx, List.filter_append, List.length_append]
  simp [h]
theorem refsT_all {I : List (List ByteArray)} {s : ByteArray} {m : Nat} (hm : I.length ≤ m) : refsT (I.take m) s = refsT I s := by
  rw [List.take_of_length_le hm]
theorem refsT_zero {I : List (List ByteArray)} {s : ByteArray} (h : refsT I s = 0) : ∀ l ∈ I, s ∉ l := by
  intro l hl hm
  unfold refsT at h
  have h0 := List.eq_nil_of_length_eq_zero h
  rw [List.filter_eq_nil_iff] at h0
  exact h0 l hl (by simpa using hm)
/- what Add says -/
open Classical in
noncomputable def addC (room : Nat) (N : List ByteArray) (s : ByteArray) (I : List ByteArray) : Nat :=
  if room ≤ N.length then 8 else if s ∈ N then 1 else if ∀ i ∈ I, i ∈ N then 0 else 3
theorem addC_full {room : Nat} {N : List ByteArray} {s : ByteArray} {I : List ByteArray} (h : room ≤ N.length) : addC room N s I = 8 := by rw [addC, if_pos h]
theorem addC_there {room : Nat} {N : List ByteArray} {s : ByteArray} {I : List ByteArray} (h : ¬ room ≤ N.length) (hs : s ∈ N) : addC room N s I = 1 := by rw [addC, if_neg h, if_pos hs]
theorem addC_none {room : Nat} {N : List ByteArray} {s : ByteArray} {I : List ByteArray} (h : ¬ room ≤ N.length) (hs : s ∉ N) (hi : ¬ ∀ i ∈ I, i ∈ N) : addC room N s I = 3 := by rw [addC, if_neg h, if_neg hs, if_neg hi]
theorem addC_on {room : Nat} {N : List ByteArray} {s : ByteArray} {I : List ByteArray} (h : ¬ room ≤ N.length) (hs : s ∉ N) (hi : ∀ i ∈ I, i ∈ N) : addC room N s I = 0 := by rw [addC, if_neg h, if_neg hs, if_pos hi]
theorem addC_zero {room : Nat} {N : List ByteArray} {s : ByteArray} {I : List ByteArray} (h : addC room N s I = 0) : N.length < room ∧ s ∉ N ∧ ∀ i ∈ I, i ∈ N := by
  unfold addC at h
  split at h
  · omega
  · split at h
    · omega
    · split at h
      · exact ⟨by omega, by assumption, by assumption⟩
      · omega
theorem addC_le (room : Nat) (N : List ByteArray) (s : ByteArray) (I : List ByteArray) : addC room N s I ≤ 13 := by
  unfold addC
  split
  · decide
  · split
    · decide
    · split <;> decide
/- what an import that isn't there makes of it, import by import -/
open Classical in
noncomputable def lackC (N : List ByteArray) (I : List ByteArray) : Nat := if ∀ i ∈ I, i ∈ N then 0 else 3
theorem lackC_nil (N : List ByteArray) : lackC N [] = 0 := by rw [lackC, if_pos fun i hi => by cases hi]
theorem lackC_no {N I : List ByteArray} {s : ByteArray} {m : Nat} (hx : I[m]? = some s) (h : s ∉ N) : lackC N (I.take (m + 1)) = 3 := by
  rw [lackC, if_neg]
  intro hall
  refine h (hall s ?_)
  rw [List.take_add_one, hx]
  simp
theorem lackC_yes {N I : List ByteArray} {s : ByteArray} {m : Nat} (hx : I[m]? = some s) (h : s ∈ N) : lackC N (I.take (m + 1)) = lackC N (I.take m) := by
  have : (∀ i ∈ I.take (m + 1), i ∈ N) ↔ ∀ i ∈ I.take m, i ∈ N := by
    rw [List.take_add_one, hx]
    refine ⟨fun h1 i hi => h1 i (by simp [hi]), fun h1 i hi => ?_⟩
    rcases List.mem_append.1 hi with h2 | h2
    · exact h1 i h2
    · simp at h2
      rw [h2]
      exact h
  unfold lackC
  by_cases h0 : ∀ i ∈ I.take m, i ∈ N
  · rw [if_pos h0, if_pos (this.2 h0)]
  · rw [if_neg h0, if_neg fun h1 => h0 (this.1 h1)]
theorem lackC_all {N I : List ByteArray} {m : Nat} (hm : I.length ≤ m) : lackC N (I.take m) = lackC N I := by rw [List.take_of_length_le hm]
theorem lackC_cases (N I : List ByteArray) : lackC N I = 0 ∨ lackC N I = 3 := by
  unfold lackC
  split
  · exact .inl rfl
  · exact .inr rfl
theorem addC_last {room : Nat} {N : List ByteArray} {s : ByteArray} {I : List ByteArray} (h : ¬ room ≤ N.length) (hs : s ∉ N) : addC room N s I = lackC N I := by rw [addC, if_neg h, if_neg hs, lackC]
end Go.Proofs.Ytkkjfbpflfknpaa
