/-
  Files as plain data (layer 10): names, each with what it holds; what a put, and a deletion, comes to. Nothing of the program.
-/
import Derived.Test.YtidncccbgihhhaaNameM
namespace Go.Proofs.Ytidncccbgihhhaa

instance (s : ByteArray) (i : Nat) : Decidable (goodI s i) := inferInstanceAs (Decidable (_ ∨ _))
instance (s : ByteArray) : Decidable (NameP s) := inferInstanceAs (Decidable (_ ∧ _ ∧ _))
section
variable {α β : Type}
def nms (L : List (ByteArray × α)) : List ByteArray := L.map Prod.fst
instance (L : List (ByteArray × α)) (s : ByteArray) : Decidable (s ∈ nms L) := decidable_of_iff ((nms L).any (fun x => decide (x = s)) = true) (by simp)
def setF (L : List (ByteArray × α)) (s : ByteArray) (b : α) : List (ByteArray × α) := L.map fun p => if p.1 = s then (s, b) else p
def putF (L : List (ByteArray × α)) (s : ByteArray) (b : α) : List (ByteArray × α) := if s ∈ nms L then setF L s b else L ++ [(s, b)]
def delF (L : List (ByteArray × α)) (s : ByteArray) : List (ByteArray × α) := L.filter fun p => decide (p.1 ≠ s)

theorem nms_length (L : List (ByteArray × α)) : (nms L).length = L.length := by simp [nms]
theorem mem_nms {L : List (ByteArray × α)} {s : ByteArray} : s ∈ nms L ↔ ∃ p ∈ L, p.1 = s := by simp [nms]
theorem nms_set (L : List (ByteArray × α)) (s : ByteArray) (b : α) : nms (setF L s b) = nms L := by
  simp only [nms, setF, List.map_map]
  refine List.map_congr_left fun p _ => ?_
  by_cases h : p.1 = s <;> simp [h]
theorem nms_put (L : List (ByteArray × α)) (s : ByteArray) (b : α) : nms (putF L s b) = if s ∈ nms L then nms L else nms L ++ [s] := by
  unfold putF
  split
  · exact nms_set L s b
  · simp [nms]
theorem mem_nms_put {L : List (ByteArray × α)} {s : ByteArray} {b : α} {y : ByteArray} : y ∈ nms (putF L s b) ↔ y = s ∨ y ∈ nms L := by
  rw [nms_put]
  split
  · rename_i h
    constructor
    · exact .inr
    · rintro (rfl | h')
      · exact h
      · exact h'
  · simp [or_comm]
theorem nodup_put {L : List (ByteArray × α)} (h : (nms L).Nodup) (s : ByteArray) (b : α) : (nms (putF L s b)).Nodup := by
  rw [nms_put]
  split
  · exact h
  · rename_i hs
    refine List.nodup_append.2 ⟨h, by simp, fun a ha c hc e => hs ?_⟩
    obtain rfl : c = s := by simpa using hc
    rw [← e]; exact ha
theorem mem_put {L : List (ByteArray × α)} {s : ByteArray} {b : α} {p : ByteArray × α} (h : p ∈ putF L s b) : p = (s, b) ∨ (p ∈ L ∧ p.1 ≠ s) := by
  unfold putF at h
  split at h
  · obtain ⟨q, hq, rfl⟩ := List.mem_map.1 h
    by_cases e : q.1 = s
    · exact .inl (by simp [e])
    · exact .inr (by simp [e, hq])
  · rename_i hs
    rcases List.mem_append.1 h with h | h
    · exact .inr ⟨h, fun e => hs (mem_nms.2 ⟨p, h, e⟩)⟩
    · exact .inl (by simpa using h)
theorem put_mem (L : List (ByteArray × α)) (s : ByteArray) (b : α) : (s, b) ∈ putF L s b := by
  unfold putF
  split
  · rename_i h
    obtain ⟨p, hp, rfl⟩ := mem_nms.1 h
    exact List.mem_map.2 ⟨p, hp, by simp⟩
  · simp
theorem put_other {L : List (ByteArray × α)} {s : ByteArray} {b : α} {p : ByteArray × α} (h : p ∈ L) (hp : p.1 ≠ s) : p ∈ putF L s b := by
  unfold putF
  split
  · exact List.mem_map.2 ⟨p, h, by simp [hp]⟩
  · exact List.mem_append_left _ h
theorem length_put (L : List (ByteArray × α)) (s : ByteArray) (b : α) : (putF L s b).length = if s ∈ nms L then L.length else L.length + 1 := by
  unfold putF
  split <;> simp [setF]
theorem mem_del {L : List (ByteArray × α)} {s : ByteArray} {p : ByteArray × α} : p ∈ delF L s ↔ p ∈ L ∧ p.1 ≠ s := by simp [delF]
theorem mem_nms_del {L : List (ByteArray × α)} {s y : ByteArray} : y ∈ nms (delF L s) ↔ y ≠ s ∧ y ∈ nms L := by
  rw [mem_nms, mem_nms]
  constructor
  · rintro ⟨p, hp, rfl⟩
    have := mem_del.1 hp
    exact ⟨this.2, p, this.1, rfl⟩
  · rintro ⟨h, p, hp, rfl⟩
    exact ⟨p, mem_del.2 ⟨hp, h⟩, rfl⟩
theorem nodup_del {L : List (ByteArray × α)} (h : (nms L).Nodup) (s : ByteArray) : (nms (delF L s)).Nodup :=
  (List.Sublist.map Prod.fst (List.filter_sublist (p := fun p : ByteArray × α => decide (p.1 ≠ s)))).nodup h

/- where a name stands -/
theorem split_at {L : List (ByteArray × α)} {s : ByteArray} (h : s ∈ nms L) : ∃ A b B, L = A ++ (s, b) :: B ∧ s ∉ nms A := by
  induction L with
  | nil => simp [nms] at h
  | cons p L ih =>
    by_cases e : p.1 = s
    · exact ⟨[], p.2, L, by rw [← e]; rfl, by simp [nms]⟩
    · obtain ⟨A, b, B, rfl, hA⟩ := ih (by simpa [nms, Ne.symm e] using h)
      refine ⟨p :: A, b, B, rfl, ?_⟩
      simp only [nms, List.map_cons, List.mem_cons, not_or]
      exact ⟨fun e' => e e'.symm, hA⟩
theorem set_none {L : List (ByteArray × α)} {s : ByteArray} (h : s ∉ nms L) (b : α) : setF L s b = L := by
  unfold setF
  conv => rhs; rw [← List.map_id L]
  refine List.map_congr_left fun p hp => ?_
  rw [if_neg fun e => h (mem_nms.2 ⟨p, hp, e⟩)]
  rfl
theorem del_none {L : List (ByteArray × α)} {s : ByteArray} (h : s ∉ nms L) : delF L s = L := by
  refine List.filter_eq_self.2 fun p hp => ?_
  simpa using fun e => h (mem_nms.2 ⟨p, hp, e⟩)
theorem nodup_parts {A B : List (ByteArray × α)} {s : ByteArray} {b : α} (h : (nms (A ++ (s, b) :: B)).Nodup) : s ∉ nms A ∧ s ∉ nms B := by
  simp only [nms, List.map_append, List.map_cons] at h
  have h1 := List.nodup_append.1 h
  refine ⟨fun ha => ?_, fun hb => ?_⟩
  · exact h1.2.2 s ha s (by simp) rfl
  · exact (List.nodup_cons.1 h1.2.1).1 hb
theorem set_split {A B : List (ByteArray × α)} {s : ByteArray} {b0 : α} (h : (nms (A ++ (s, b0) :: B)).Nodup) (b : α) : putF (A ++ (s, b0) :: B) s b = A ++ (s, b) :: B := by
  obtain ⟨hA, hB⟩ := nodup_parts h
  have hs : s ∈ nms (A ++ (s, b0) :: B) := mem_nms.2 ⟨(s, b0), by simp, rfl⟩
  unfold putF
  rw [if_pos hs]
  have e1 := set_none hA b
  have e2 := set_none hB b
  unfold setF at *
  simp [e1, e2]
theorem del_split {A B : List (ByteArray × α)} {s : ByteArray} {b0 : α} (h : (nms (A ++ (s, b0) :: B)).Nodup) : delF (A ++ (s, b0) :: B) s = A ++ B := by
  obtain ⟨hA, hB⟩ := nodup_parts h
  have e1 := del_none hA
  have e2 := del_none hB
  unfold delF at *
  simp only [List.filter_append, e1, List.filter_cons, e2]
  simp
theorem length_del {L : List (ByteArray × α)} (h : (nms L).Nodup) {s : ByteArray} (hs : s ∈ nms L) : (delF L s).length + 1 = L.length := by
  obtain ⟨A, b, B, rfl, _⟩ := split_at hs
  rw [del_split h]
  simp only [List.length_append, List.length_cons]
  omega

/- what lies below -/
def low (g : α → β) (L : List (ByteArray × α)) : List (ByteArray × β) := L.map fun p => (p.1, g p.2)
theorem nms_low (g : α → β) (L : List (ByteArray × α)) : nms (low g L) = nms L := by simp [nms, low]
theorem length_low (g : α → β) (L : List (ByteArray × α)) : (low g L).length = L.length := by simp [low]
theorem low_put (g : α → β) (L : List (ByteArray × α)) (s : ByteArray) (b : α) : low g (putF L s b) = putF (low g L) s (g b) := by
  by_cases hs : s ∈ nms L
  · rw [putF, if_pos hs, putF, if_pos (by rw [nms_low]; exact hs)]
    simp only [low, setF, List.map_map]
    refine List.map_congr_left fun p _ => ?_
    by_cases e : p.1 = s <;> simp [e]
  · rw [putF, if_neg hs, putF, if_neg (by rw [nms_low]; exact hs)]
    simp [low]
theorem low_del (g : α → β) (L : List (ByteArray × α)) (s : ByteArray) : low g (delF L s) = delF (low g L) s := by
  unfold low delF
  rw [List.filter_map]
  rfl
theorem mem_low {g : α → β} {L : List (ByteArray × α)} {s : ByteArray} {b : β} : (s, b) ∈ low g L ↔ ∃ a, (s, a) ∈ L ∧ g a = b := by
  simp only [low, List.mem_map, Prod.mk.injEq]
  constructor
  · rintro ⟨p, hp, rfl, rfl⟩
    exact ⟨p.2, hp, rfl⟩
  · rintro ⟨a, ha, rfl⟩
    exact ⟨(s, a), ha, rfl, rfl⟩
theorem mem_one {L : List (ByteArray × α)} (h : (nms L).Nodup) {s : ByteArray} {a b : α} (ha : (s, a) ∈ L) (hb : (s, b) ∈ L) : a = b := by
  induction L with
  | nil => cases ha
  | cons p L ih =>
    simp only [nms, List.map_cons, List.nodup_cons] at h
    rcases List.mem_cons.1 ha with ha | ha <;> rcases List.mem_cons.1 hb with hb | hb
    · rw [← ha] at hb; cases hb; rfl
    · exact absurd (List.mem_map.2 ⟨_, hb, by rw [← ha]⟩) h.1
    · exact absurd (List.mem_map.2 ⟨_, ha, by rw [← hb]⟩) h.1
    · exact ih h.2 ha hb
end

abbrev FL := List (ByteArray × List Nat)
/- why there is no file of a name: an error's number -/
def missC {α : Type} (L : List (ByteArray × α)) (s : ByteArray) : Nat := if NameP s then (if s ∈ nms L then 0 else 3) else 2
/- what a put answers: an error's number -/
def putC {α : Type} (L : List (ByteArray × α)) (s : ByteArray) (n : Nat) : Nat := if NameP s then (if 4000 < n then 13 else if s ∉ nms L ∧ 32 ≤ L.length then 8 else 0) else 2
def putN {α : Type} (L : List (ByteArray × α)) (s : ByteArray) (n : Nat) (b : α) : List (ByteArray × α) := if putC L s n = 0 then putF L s b else L
def delN {α : Type} (L : List (ByteArray × α)) (s : ByteArray) : List (ByteArray × α) := if missC L s = 0 then delF L s else L

theorem putC_low {α β : Type} (g : α → β) (L : List (ByteArray × α)) (s : ByteArray) (n : Nat) : putC (low g L) s n = putC L s n := by simp only [putC, nms_low, length_low]
theorem missC_low {α β : Type} (g : α → β) (L : List (ByteArray × α)) (s : ByteArray) : missC (low g L) s = missC L s := by simp only [missC, nms_low]
theorem low_putN {α β : Type} (g : α → β) (L : List (ByteArray × α)) (s : ByteArray) (n : Nat) (b : α) : low g (putN L s n b) = putN (low g L) s n (g b) := by
  unfold putN
  rw [putC_low]
  split
  · exact low_put g L s b
  · rfl
theorem low_delN {α β : Type} (g : α → β) (L : List (ByteArray × α)) (s : ByteArray) : low g (delN L s) = delN (low g L) s := by
  unfold delN
  rw [missC_low]
  split
  · exact low_del g L s
  · rfl
theorem missC_yes {α : Type} {L : List (ByteArray × α)} {s : ByteArray} (h : NameP s) (hs : s ∈ nms L) : missC L s = 0 := by simp [missC, h, hs]
theorem missC_none {α : Type} {L : List (ByteArray × α)} {s : ByteArray} (h : NameP s) (hs : s ∉ nms L) : missC L s = 3 := by simp [missC, h, hs]
theorem missC_bad {α : Type} {L : List (ByteArray × α)} {s : ByteArray} (h : ¬ NameP s) : missC L s = 2 := by simp [missC, h]
theorem missC_zero {α : Type} {L : List (ByteArray × α)} {s : ByteArray} (h : missC L s = 0) : NameP s ∧ s ∈ nms L := by
  unfold missC at h
  split at h
  · split at h
    · exact ⟨by assumption, by assumption⟩
    · cases h
  · cases h
theorem putC_zero {α : Type} {L : List (ByteArray × α)} {s : ByteArray} {n : Nat} (h : putC L s n = 0) : NameP s ∧ n ≤ 4000 ∧ (s ∈ nms L ∨ L.length < 32) := by
  unfold putC at h
  split at h
  · split at h
    · cases h
    · split at h
      · cases h
      · rename_i h1 h2 h3
        refine ⟨h1, by omega, ?_⟩
        by_cases hs : s ∈ nms L
        · exact .inl hs
        · exact .inr (Nat.lt_of_not_le fun h => h3 ⟨hs, h⟩)
  · cases h
theorem length_putN {α : Type} {L : List (ByteArray × α)} (hL : L.length ≤ 32) (s : ByteArray) (n : Nat) (b : α) : (putN L s n b).length ≤ 32 := by
  unfold putN
  split
  · rename_i h
    rw [length_put]
    rcases (putC_zero h).2.2 with h | h
    · rw [if_pos h]; exact hL
    · split <;> omega
  · exact hL
theorem nodup_putN {α : Type} {L : List (ByteArray × α)} (h : (nms L).Nodup) (s : ByteArray) (n : Nat) (b : α) : (nms (putN L s n b)).Nodup := by
  unfold putN
  split
  · exact nodup_put h s b
  · exact h
theorem nodup_delN {α : Type} {L : List (ByteArray × α)} (h : (nms L).Nodup) (s : ByteArray) : (nms (delN L s)).Nodup := by
  unfold delN
  split
  · exact nodup_del h s
  · exact h
theorem length_delF {α : Type} (L : List (ByteArray × α)) (s : ByteArray) : (delF L s).length ≤ L.length := List.length_filter_le _ _
end Go.Proofs.Ytidncccbgihhhaa
