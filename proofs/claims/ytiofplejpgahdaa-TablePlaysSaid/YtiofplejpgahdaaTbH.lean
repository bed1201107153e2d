/-
  Layer 18's table by its data alone: what each call tells, and what it makes of the data. Conditions: at most 16 modules, lists of at most 1000.
-/
import Derived.Test.YtiofplejpgahdaaTbG
namespace Go.Proofs.Ytiofplejpgahdaa
open Go.ChangeShapes Go.WideShapes Go.ChangeAt Go.RowKit

abbrev nmsD (D : List ModD) : List ByteArray := D.map ModD.name
abbrev impD (D : List ModD) : List (List ByteArray) := D.map ModD.imps
def TabD (B lo : Nat) (w : World) (tb room : Nat) (D : List ModD) : Prop := ∃ v L, Tab B lo w tb room v L ∧ L.map ModX.d = D
theorem TabD.on {B lo : Nat} {w w' : World} {tb room : Nat} {D : List ModD} (h : TabD B lo w tb room D) (hb : Below w.heap.size w w') : TabD B lo w' tb room D := by
  obtain ⟨v, L, ht, hd⟩ := h
  exact ⟨v, L, ht.on hb, hd⟩
theorem TabD.len {B lo : Nat} {w : World} {tb room : Nat} {D : List ModD} (h : TabD B lo w tb room D) : D.length ≤ room ∧ D.length ≤ 16 := by
  obtain ⟨v, L, ht, rfl⟩ := h
  rw [List.length_map]
  exact ⟨ht.few, ht.len⟩
theorem nms_eq (L : List ModX) : namesT L = nmsD (L.map ModX.d) := by simp [List.map_map, Function.comp_def]
theorem imp_eq (L : List ModX) : impsT L = impD (L.map ModX.d) := by simp [List.map_map, Function.comp_def]
/- what an Add makes of it -/
noncomputable def addD (room : Nat) (D : List ModD) (x : ModD) : List ModD := if addC room (nmsD D) x.name x.imps = 0 then D ++ [x] else D
theorem add_told {B lo : Nat} {tb room : Nat} {D : List ModD} (x : ModX) (w : World) (h : TabD B lo w tb room D) (g : ModAt w x) (f : ModFew x) (hB : B ≤ w.heap.size) (hlo : lo ≤ w.heap.size) :
    Calls Try.prog 10 #[.pointer (some ⟨tb, 0, none⟩), .agg (mrow x).toArray] w fun e w' => e = .returned (errV (addC room (nmsD D) x.d.name x.d.imps)) ∧ TabD B lo w' tb room (addD room D x.d) ∧ Off B w w' := by
  obtain ⟨v, L, ht, hd⟩ := h
  have hn : nmsD D = namesT L := by rw [nms_eq, hd]
  have hl : (namesT L).length = L.length := List.length_map ..
  unfold addD
  rw [hn]
  have same : ∀ c : Nat, addC room (namesT L) x.d.name x.d.imps = c + 1 → (Calls Try.prog 10 #[.pointer (some ⟨tb, 0, none⟩), .agg (mrow x).toArray] w fun e w' => e = .returned (errV (c + 1)) ∧ Below w.heap.size w w') →
      Calls Try.prog 10 #[.pointer (some ⟨tb, 0, none⟩), .agg (mrow x).toArray] w fun e w' => e = .returned (errV (addC room (namesT L) x.d.name x.d.imps)) ∧ TabD B lo w' tb room (if addC room (namesT L) x.d.name x.d.imps = 0 then D ++ [x.d] else D) ∧ Off B w w' := fun c hc hcall => by
    rw [hc, if_neg (by omega)]
    exact hcall.mono fun _ _ ⟨he, hb⟩ => ⟨he, ⟨v, L, ht.on hb, hd⟩, .of_below hb hB⟩
  by_cases h1 : room ≤ L.length
  · exact same 7 (addC_full (by rw [hl]; exact h1)) (add_full x w ht g f h1)
  · by_cases h2 : x.d.name ∈ namesT L
    · exact same 0 (addC_there (by rw [hl]; exact h1) h2) (add_there x w ht g f h1 h2)
    · by_cases h3 : ∀ i ∈ x.d.imps, i ∈ namesT L
      · rw [addC_on (by rw [hl]; exact h1) h2 h3, if_pos rfl]
        refine (add_on x w ht g f h1 h2 h3 hB hlo).mono ?_
        rintro e w' ⟨he, v', y, ht', hy, ho⟩
        exact ⟨he, ⟨v', L ++ [y], ht', by rw [List.map_append, hd, List.map_singleton, hy]⟩, ho⟩
      · exact same 2 (addC_none (by rw [hl]; exact h1) h2 h3) (add_none x w ht g f h1 h2 h3)
/- what a Remove makes of it -/
open Classical in
noncomputable def remB (N : List ByteArray) (I : List (List ByteArray)) (s : ByteArray) : Bool := decide (s ∈ N ∧ refsT I s = 0)
noncomputable def remL {α : Type} (N : List ByteArray) (I : List (List ByteArray)) (s : ByteArray) (D : List α) : List α := if remB N I s = true then D.take (posV N s).toNat ++ D.drop ((posV N s).toNat + 1) else D
open Classical in
theorem remB_yes {N : List ByteArray} {I : List (List ByteArray)} {s : ByteArray} (h : s ∈ N) (h0 : refsT I s = 0) : remB N I s = true := by
  unfold remB
  exact decide_eq_true ⟨h, h0⟩
open Classical in
theorem remB_no {N : List ByteArray} {I : List (List ByteArray)} {s : ByteArray} (h : s ∉ N) : remB N I s = false := by
  unfold remB
  exact decide_eq_false fun g => h g.1
open Classical in
theorem remB_held {N : List ByteArray} {I : List (List ByteArray)} {s : ByteArray} (h : refsT I s ≠ 0) : remB N I s = false := by
  unfold remB
  exact decide_eq_false fun g => h g.2
theorem remL_no {α : Type} {N : List ByteArray} {I : List (List ByteArray)} {s : ByteArray} {D : List α} (h : remB N I s = false) : remL N I s D = D := if_neg (by rw [h]; decide)
theorem remL_yes {α : Type} {N : List ByteArray} {I : List (List ByteArray)} {s : ByteArray} {D : List α} {k : Nat} (h : remB N I s = true) (hk : posV N s = (k : Int)) : remL N I s D = D.take k ++ D.drop (k + 1) := by rw [remL, if_pos h, hk]; rfl
theorem remL_map {α β : Type} (f : α → β) (N : List ByteArray) (I : List (List ByteArray)) (s : ByteArray) (D : List α) : (remL N I s D).map f = remL N I s (D.map f) := by
  unfold remL
  split
  · rw [List.map_append, List.map_take, List.map_drop]
  · rfl
theorem part_at {α : Type} {L : List α} {k : Nat} {x : α} (h : L[k]? = some x) : L = L.take k ++ x :: L.drop (k + 1) ∧ (L.take k).length = k := by
  obtain ⟨hk, e⟩ := List.getElem?_eq_some_iff.1 h
  refine ⟨?_, by rw [List.length_take]; omega⟩
  rw [← e, ← List.drop_eq_getElem_cons hk, List.take_append_drop]
theorem remove_told {B lo : Nat} {tb room : Nat} {D : List ModD} (s : ByteArray) (w : World) (h : TabD B lo w tb room D) (hB : B ≤ w.heap.size) :
    Calls Try.prog 9 #[.pointer (some ⟨tb, 0, none⟩), .string s] w fun e w' => e = .returned (.bool (remB (nmsD D) (impD D) s)) ∧ TabD B lo w' tb room (remL (nmsD D) (impD D) s D) ∧ Off B w w' := by
  obtain ⟨v, L, ht, hd⟩ := h
  have hn : nmsD D = namesT L := by rw [nms_eq, hd]
  have hi : impD D = impsT L := by rw [imp_eq, hd]
  rw [hn, hi]
  have same : remB (namesT L) (impsT L) s = false → (Calls Try.prog 9 #[.pointer (some ⟨tb, 0, none⟩), .string s] w fun e w' => e = .returned (.bool false) ∧ Below w.heap.size w w') →
      Calls Try.prog 9 #[.pointer (some ⟨tb, 0, none⟩), .string s] w fun e w' => e = .returned (.bool (remB (namesT L) (impsT L) s)) ∧ TabD B lo w' tb room (remL (namesT L) (impsT L) s D) ∧ Off B w w' := fun hc hcall => by
    rw [remL_no hc, hc]
    exact hcall.mono fun _ _ ⟨he, hb⟩ => ⟨he, ⟨v, L, ht.on hb, hd⟩, .of_below hb hB⟩
  by_cases h1 : s ∈ namesT L
  · obtain ⟨k, hk, hx, hkl⟩ := posV_some h1
    by_cases h2 : refsT (impsT L) s = 0
    · rw [remL_yes (remB_yes h1 h2) hk, remB_yes h1 h2]
      obtain ⟨x, hx'⟩ : ∃ x, L[k]? = some x := ⟨_, List.getElem?_eq_getElem (by rw [List.length_map] at hkl; exact hkl)⟩
      obtain ⟨e1, e2⟩ := part_at hx'
      rw [e1] at ht hk h2
      refine (remove_on s w ht (by rw [e2]; exact hk) h2 hB).mono ?_
      rintro e w' ⟨he, v', ht', ho⟩
      exact ⟨he, ⟨v', _, ht', by rw [List.map_append, List.map_take, List.map_drop, hd]⟩, ho⟩
    · exact same (remB_held h2) (remove_held s k w ht hk h2)
  · exact same (remB_no h1) (remove_no s w ht h1)
theorem refs_told {B lo : Nat} {tb room : Nat} {D : List ModD} (s : ByteArray) (w : World) (h : TabD B lo w tb room D) :
    Calls Try.prog 14 #[.pointer (some ⟨tb, 0, none⟩), .string s] w fun e w' => e = .returned (.int .i64 (refsT (impD D) s : Nat)) ∧ Below w.heap.size w w' := by
  obtain ⟨v, L, ht, hd⟩ := h
  rw [show impD D = impsT L by rw [imp_eq, hd]]
  exact refs_any s w ht
theorem room_told {B lo : Nat} {tb room : Nat} {D : List ModD} (w : World) (h : TabD B lo w tb room D) :
    Calls Try.prog 13 #[.pointer (some ⟨tb, 0, none⟩)] w fun e w' => e = .returned (.int .i64 ((room : Int) - (D.length : Int))) ∧ Below w.heap.size w w' := by
  obtain ⟨v, L, ht, hd⟩ := h
  rw [show D.length = L.length by rw [← hd, List.length_map]]
  exact room_any w ht
theorem names_told {B lo : Nat} {tb room : Nat} {D : List ModD} (w : World) (h : TabD B lo w tb room D) :
    Calls Try.prog 12 #[.pointer (some ⟨tb, 0, none⟩)] w fun e w' => ∃ nb, e = .returned (.slice (some ⟨nb, 0, none⟩) D.length D.length) ∧ ElsAt 1 sRow w' (.slice (some ⟨nb, 0, none⟩) D.length D.length) (nmsD D) ∧ Below w.heap.size w w' := by
  obtain ⟨v, L, ht, hd⟩ := h
  rw [show D.length = L.length by rw [← hd, List.length_map], show nmsD D = namesT L by rw [nms_eq, hd]]
  exact names_any w ht
theorem find_told_no {B lo : Nat} {tb room : Nat} {D : List ModD} (s : ByteArray) (w : World) (h : TabD B lo w tb room D) (hn : s ∉ nmsD D) :
    Calls Try.prog 15 #[.pointer (some ⟨tb, 0, none⟩), .string s] w fun e w' => e = .returned (.tuple #[.agg noRow.toArray, .bool false]) ∧ Below w.heap.size w w' := by
  obtain ⟨v, L, ht, hd⟩ := h
  exact find_no s w ht (by rw [nms_eq, hd]; exact hn)
theorem find_told_yes {B lo : Nat} {tb room : Nat} {D : List ModD} (s : ByteArray) (k : Nat) (d : ModD) (w : World) (h : TabD B lo w tb room D) (hk : posV (nmsD D) s = (k : Int)) (hx : D[k]? = some d) :
    Calls Try.prog 15 #[.pointer (some ⟨tb, 0, none⟩), .string s] w fun e w' => ∃ y : ModX, e = .returned (.tuple #[.agg (mrow y).toArray, .bool true]) ∧ y.d = d ∧ ModIn w.heap.size w' y ∧ Below w.heap.size w w' := by
  obtain ⟨v, L, ht, hd⟩ := h
  obtain ⟨x, hx', e⟩ : ∃ x, L[k]? = some x ∧ x.d = d := by
    rw [← hd, List.getElem?_map] at hx
    cases hl : L[k]? with
    | none =>
      rw [hl] at hx
      cases hx
    | some x =>
      rw [hl] at hx
      cases hx
      exact ⟨x, rfl, rfl⟩
  rw [← e]
  exact find_yes s k x w ht (by rw [nms_eq, hd]; exact hk) hx'
theorem new_told (B lo : Nat) (most : Int) (room : Nat) (w : World) (hB : B ≤ w.heap.size) (hr : (room : Int) = min (max most 0) 16) :
    Calls Try.prog 6 #[.int .i64 most] w fun e w' => ∃ tb, e = .returned (.pointer (some ⟨tb, 0, none⟩)) ∧ TabD B lo w' tb room [] ∧ Below w.heap.size w w' :=
  (new18_any B lo most room w hB hr).mono fun _ _ ⟨he, ht, hb⟩ => ⟨_, he, ⟨_, _, ht, rfl⟩, hb⟩
end Go.Proofs.Ytiofplejpgahdaa
