/-
  What a module's chains mean, as plain data (layer 14, rule 7): in the document's order. Nothing of the program.
-/
import Derived.Test.YtkkjfbpflfknpaaChkM
import Derived.Test.YtkkjfbpflfknpaaChM
namespace Go.Proofs.Ytkkjfbpflfknpaa
open Go.RowKit

/- the references of a walk lie in code -/
def InCode (code : List Nat) (r : RefD) : Prop := (0 ≤ r.at_ ∧ r.at_ < code.length) ∧ r.mod < 16 ∧ r.ent < 64
theorem refOf_in (code : List Nat) {k : Nat} (hk : k < code.length) (x : Nat) : InCode code (refOf k x) := by
  refine ⟨⟨by simp [refOf], by simp [refOf]; exact hk⟩, ?_, ?_⟩
  · have := getN_lt x 6 4
    simpa [refOf] using this
  · have := getN_lt x 0 6
    simpa [refOf] using this
theorem walkG_in (code : List Nat) (op : Int) : ∀ (n : Nat) (p : Int) (acc l : List RefD), (p + 1).toNat ≤ n → walkG code op p acc = some l → (∀ r ∈ acc, InCode code r) → ∀ r ∈ l, InCode code r := by
  intro n
  induction n with
  | zero =>
    intro p acc l hn h ha
    rw [walk_out (.inl (by omega))] at h
    cases h
  | succ n ih =>
    intro p acc l hn h ha
    by_cases hp : 0 ≤ p ∧ p < code.length
    · obtain ⟨k, rfl⟩ := Int.eq_ofNat_of_zero_le hp.1
      have hk : k < code.length := by omega
      have hx := List.getElem?_eq_getElem hk
      have hall : ∀ r ∈ acc ++ [refOf k code[k]], InCode code r := by
        intro r hr
        rcases List.mem_append.1 hr with h1 | h1
        · exact ha r h1
        · rw [List.mem_singleton.1 h1]
          exact refOf_in code hk _
      by_cases hf : Refers code[k] op
      · by_cases hd : downN code[k] = 0
        · rw [walk_last hx hf hd] at h
          cases h
          exact hall
        · rw [walk_on hx hf hd] at h
          exact ih _ _ _ (by omega) h hall
      · rw [walk_bad hx hf] at h
        cases h
    · rw [walk_out (by omega)] at h
      cases h
theorem walkV_in {code : List Nat} {head op : Int} {l : List RefD} (h : walkV code head op = some l) : ∀ r ∈ l, InCode code r := by
  unfold walkV at h
  split at h
  · cases h
    intro r hr
    cases hr
  · split at h
    · cases h
    · exact walkG_in code op _ _ _ _ (Nat.le_refl _) h (fun r hr => by cases hr)
theorem walkG_len (code : List Nat) (op : Int) : ∀ (n : Nat) (p : Int) (acc l : List RefD), (p + 1).toNat ≤ n → walkG code op p acc = some l → (acc.length : Int) + p < code.length ∨ acc = [] → l.length ≤ code.length := by
  intro n
  induction n with
  | zero =>
    intro p acc l hn h ha
    rw [walk_out (.inl (by omega))] at h
    cases h
  | succ n ih =>
    intro p acc l hn h ha
    by_cases hp : 0 ≤ p ∧ p < code.length
    · obtain ⟨k, rfl⟩ := Int.eq_ofNat_of_zero_le hp.1
      have hk : k < code.length := by omega
      have hx := List.getElem?_eq_getElem hk
      have hs : acc.length + k < code.length := by
        rcases ha with h1 | h1
        · omega
        · rw [h1]; simp; omega
      by_cases hf : Refers code[k] op
      · by_cases hd : downN code[k] = 0
        · rw [walk_last hx hf hd] at h
          cases h
          simp
          omega
        · rw [walk_on hx hf hd] at h
          exact ih _ _ _ (by omega) h (.inl (by simp; omega))
      · rw [walk_bad hx hf] at h
        cases h
    · rw [walk_out (by omega)] at h
      cases h
theorem walkV_len {code : List Nat} {head op : Int} {l : List RefD} (h : walkV code head op = some l) : l.length ≤ code.length := by
  unfold walkV at h
  split at h
  · cases h
    simp
  · split at h
    · cases h
    · exact walkG_len code op _ _ _ _ (Nat.le_refl _) h (.inr rfl)

/- one reference of a chain -/
def RefOk (o : ObjD) (a : Nat) (r : RefD) : Prop :=
  (r.mod = 15 ∧ a = 1 ∧ r.ent ≤ o.text.size) ∨ (r.mod ≠ 15 ∧ r.mod ≤ o.imps.length ∧ (r.mod = 0 → ∃ x, o.exps[r.ent]? = some x ∧ FitsP a x.1))
open Classical in
/- the references of a chain, one behind the other; P: the places that were met -/
noncomputable def scan (o : ObjD) (a : Nat) : List RefD → List Int → Option (List Int)
  | [], P => some P
  | r :: l, P => if r.at_ ∈ P then none else if RefOk o a r then scan o a l (r.at_ :: P) else none
def fixO (o : ObjD) (a : Nat) : Int := if a = 0 then o.f0 else if a = 1 then o.f1 else o.f2
def opK (a : Nat) : Int := if a = 0 then 20 else 1
noncomputable def refsG (o : ObjD) : List Nat → List (List RefD) → List Int → Option (List (List RefD))
  | [], acc, _ => some acc
  | a :: ks, acc, P => match walkV o.code (fixO o a) (opK a) with
    | none => none
    | some l => (scan o a l P).bind fun P' => refsG o ks (acc ++ [l]) P'
open Classical in
noncomputable def refsV (o : ObjD) : Option (List (List RefD)) := if NamesP o ∧ PartsP o then refsG o [0, 1, 2] [] [] else none

theorem refsG_none {o : ObjD} {a : Nat} {ks : List Nat} {acc : List (List RefD)} {P : List Int} (h : walkV o.code (fixO o a) (opK a) = none) : refsG o (a :: ks) acc P = none := by
  rw [refsG, h]
theorem refsG_some {o : ObjD} {a : Nat} {ks : List Nat} {acc : List (List RefD)} {P : List Int} {l : List RefD} (h : walkV o.code (fixO o a) (opK a) = some l) : refsG o (a :: ks) acc P = (scan o a l P).bind fun P' => refsG o ks (acc ++ [l]) P' := by
  rw [refsG, h]
theorem scan_met {o : ObjD} {a : Nat} {r : RefD} {l : List RefD} {P : List Int} (h : r.at_ ∈ P) : scan o a (r :: l) P = none := by rw [scan, if_pos h]
theorem scan_bad {o : ObjD} {a : Nat} {r : RefD} {l : List RefD} {P : List Int} (h : ¬ RefOk o a r) : scan o a (r :: l) P = none := by
  rw [scan, if_neg h]
  split <;> rfl
theorem scan_on {o : ObjD} {a : Nat} {r : RefD} {l : List RefD} {P : List Int} (h : r.at_ ∉ P) (hr : RefOk o a r) : scan o a (r :: l) P = scan o a l (r.at_ :: P) := by rw [scan, if_neg h, if_pos hr]
/- which words were met, n of them -/
def metN (n : Nat) (f : Nat → Bool) : List Value := (List.range n).map fun k => Value.bool (f k)
theorem metN_at {n : Nat} (f : Nat → Bool) {k : Nat} (hk : k < n) : (metN n f)[k]? = some (.bool (f k)) := by simp [metN, hk]
theorem metN_set {n : Nat} (f : Nat → Bool) {k : Nat} (hk : k < n) : (metN n f).set k (.bool true) = metN n (fun j => if j = k then true else f j) := by
  apply List.ext_getElem?
  intro i
  by_cases hi : i < n
  · by_cases hik : i = k
    · subst hik
      simp [metN, hi]
    · have hki : ¬ k = i := fun e => hik e.symm
      simp [metN, hi, hik, hki]
  · rw [List.getElem?_eq_none (by simp [metN]; omega), List.getElem?_eq_none (by simp [metN]; omega)]
def MetP (P : List Int) (f : Nat → Bool) : Prop := ∀ k : Nat, f k = true ↔ (k : Int) ∈ P
theorem MetP.start : MetP [] (fun _ => false) := fun k => by simp
theorem MetP.next {P : List Int} {f : Nat → Bool} (h : MetP P f) (k : Nat) : MetP ((k : Int) :: P) (fun j => if j = k then true else f j) := by
  intro j
  by_cases hj : j = k
  · subst hj
    simp
  · simp only [if_neg hj, List.mem_cons]
    rw [h j]
    constructor
    · exact .inr
    · rintro (e | e)
      · omega
      · exact e
end Go.Proofs.Ytkkjfbpflfknpaa
