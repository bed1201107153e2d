/-
  What is to be loaded, and in which order (layer 19), as plain data: the document's answer. Nothing of the program.
-/
import Derived.Test.YtkkjfbpflfknpaaCkMa
namespace Go.Proofs.Ytkkjfbpflfknpaa
open Go.RowKit

structure OSt where
  out : List ObjD
  way : List ByteArray
inductive ORes
  | bad (k : Nat)
  | good (st : OSt)
open Classical in
noncomputable def findF : List (ByteArray × ObjD) → ByteArray → Option ObjD
  | [], _ => none
  | f :: l, s => if f.1 = s then some f.2 else findF l s
open Classical in
noncomputable def keyV : List ObjD → ByteArray → Nat → Nat
  | [], _, k => k
  | o :: l, s, k => keyV l s (if o.name = s then o.key else k)
def Known (ld : List ByteArray) (st : OSt) (s : ByteArray) : Prop := (∃ o ∈ st.out, o.name = s) ∨ s ∈ ld
open Classical in
noncomputable def impsN (f : OSt → ByteArray → ORes) : List (ByteArray × Nat) → OSt → ORes
  | [], st => .good st
  | x :: t, st => match f st x.1 with
    | .bad k => .bad k
    | .good st' => if keyV st'.out x.1 1 = x.2 then impsN f t st' else .bad 5
def endN (o : ObjD) : ORes → ORes
  | .bad k => .bad k
  | .good st => .good ⟨st.out ++ [o], st.way⟩
open Classical in
noncomputable def resN (l : List (ByteArray × ObjD)) (ld : List ByteArray) : Nat → OSt → ByteArray → ORes
  | 0 => fun st s => if Known ld st s then .good st else if s ∈ st.way then .bad 6 else .bad 7
  | n + 1 => fun st s => if Known ld st s then .good st else if s ∈ st.way then .bad 6 else match findF l s with
    | none => .bad 3
    | some o => if o.name = s ∧ (refsV o).isSome = true then endN o (impsN (resN l ld n) o.imps ⟨st.out, st.way ++ [s]⟩) else .bad 4
section
variable {l : List (ByteArray × ObjD)} {ld : List ByteArray} {n : Nat} {st : OSt} {s : ByteArray}
theorem res_known (h : Known ld st s) : resN l ld n st s = .good st := by
  cases n <;> (unfold resN; rw [if_pos h])
theorem res_cycle (h : ¬ Known ld st s) (hw : s ∈ st.way) : resN l ld n st s = .bad 6 := by
  cases n <;> (unfold resN; rw [if_neg h, if_pos hw])
theorem res_deep (h : ¬ Known ld st s) (hw : s ∉ st.way) : resN l ld 0 st s = .bad 7 := by
  unfold resN
  rw [if_neg h, if_neg hw]
theorem res_none (h : ¬ Known ld st s) (hw : s ∉ st.way) (hf : findF l s = none) : resN l ld (n + 1) st s = .bad 3 := by
  rw [resN]
  simp only [if_neg h, if_neg hw, hf]
theorem res_form {o : ObjD} (h : ¬ Known ld st s) (hw : s ∉ st.way) (hf : findF l s = some o) (ho : ¬ (o.name = s ∧ (refsV o).isSome = true)) : resN l ld (n + 1) st s = .bad 4 := by
  rw [resN]
  simp only [if_neg h, if_neg hw, hf, if_neg ho]
theorem res_go {o : ObjD} (h : ¬ Known ld st s) (hw : s ∉ st.way) (hf : findF l s = some o) (ho : o.name = s ∧ (refsV o).isSome = true) : resN l ld (n + 1) st s = endN o (impsN (resN l ld n) o.imps ⟨st.out, st.way ++ [s]⟩) := by
  rw [resN]
  simp only [if_neg h, if_neg hw, hf, if_pos ho]
theorem imps_bad {f : OSt → ByteArray → ORes} {x : ByteArray × Nat} {t : List (ByteArray × Nat)} {k : Nat} (h : f st x.1 = .bad k) : impsN f (x :: t) st = .bad k := by
  rw [impsN, h]
theorem imps_key {f : OSt → ByteArray → ORes} {x : ByteArray × Nat} {t : List (ByteArray × Nat)} {st' : OSt} (h : f st x.1 = .good st') (hk : keyV st'.out x.1 1 ≠ x.2) : impsN f (x :: t) st = .bad 5 := by
  rw [impsN, h]
  simp only [if_neg hk]
theorem imps_on {f : OSt → ByteArray → ORes} {x : ByteArray × Nat} {t : List (ByteArray × Nat)} {st' : OSt} (h : f st x.1 = .good st') (hk : keyV st'.out x.1 1 = x.2) : impsN f (x :: t) st = impsN f t st' := by
  rw [impsN, h]
  simp only [if_pos hk]
end
theorem keyV_append (A : List ObjD) (o : ObjD) (s : ByteArray) (k : Nat) : keyV (A ++ [o]) s k = open Classical in (if o.name = s then o.key else keyV A s k) := by
  induction A generalizing k with
  | nil => rfl
  | cons a A ih => rw [List.cons_append, keyV, ih, keyV]
theorem keyV_lt {A : List ObjD} {s : ByteArray} {k : Nat} (hk : k < 4294967296) (h : ∀ o ∈ A, o.key < 4294967296) : keyV A s k < 4294967296 := by
  induction A generalizing k with
  | nil => exact hk
  | cons a A ih =>
    rw [keyV]
    refine ih ?_ (fun o ho => h o (List.mem_cons_of_mem _ ho))
    split
    · exact h a List.mem_cons_self
    · exact hk
theorem find_some {l : List (ByteArray × ObjD)} {s : ByteArray} {i : Nat} {f : ByteArray × ObjD} (h : l[i]? = some f) (he : f.1 = s) (hn : ∀ (j : Nat) (g : ByteArray × ObjD), j < i → l[j]? = some g → g.1 ≠ s) : findF l s = some f.2 := by
  induction l generalizing i with
  | nil => simp at h
  | cons a l ih =>
    cases i with
    | zero =>
      simp at h
      subst h
      rw [findF, if_pos he]
    | succ i =>
      rw [findF, if_neg (hn 0 a (by omega) rfl)]
      exact ih (by simpa using h) (fun j g hj hg => hn (j + 1) g (by omega) (by simpa using hg))
theorem find_none {l : List (ByteArray × ObjD)} {s : ByteArray} (hn : ∀ (j : Nat) (g : ByteArray × ObjD), l[j]? = some g → g.1 ≠ s) : findF l s = none := by
  induction l with
  | nil => rfl
  | cons a l ih =>
    rw [findF, if_neg (hn 0 a rfl)]
    exact ih (fun j g hg => hn (j + 1) g (by simpa using hg))
theorem find_mem {l : List (ByteArray × ObjD)} {s : ByteArray} {o : ObjD} (h : findF l s = some o) : s ∈ l.map (·.1) ∧ ∃ f ∈ l, f.2 = o := by
  induction l with
  | nil => simp [findF] at h
  | cons a l ih =>
    rw [findF] at h
    split at h
    · rename_i he
      cases h
      exact ⟨by simp [he], a, List.mem_cons_self, rfl⟩
    · obtain ⟨h1, f, h2, h3⟩ := ih h
      exact ⟨by rw [List.map_cons]; exact List.mem_cons_of_mem _ h1, f, List.mem_cons_of_mem _ h2, h3⟩
/- no more are under way than there are files -/
theorem nodup_le {α : Type} : ∀ (A L : List α), A.Nodup → (∀ x ∈ A, x ∈ L) → A.length ≤ L.length
  | [], _, _, _ => Nat.zero_le _
  | a :: A, L, h, hs => by
    obtain ⟨L1, L2, rfl⟩ := List.mem_iff_append.1 (hs a List.mem_cons_self)
    have hn := List.nodup_cons.1 h
    have := nodup_le A (L1 ++ L2) hn.2 fun x hx => by
      have := hs x (List.mem_cons_of_mem _ hx)
      rcases List.mem_append.1 this with h1 | h1
      · exact List.mem_append_left _ h1
      · rcases List.mem_cons.1 h1 with h2 | h2
        · subst h2
          exact absurd hx hn.1
        · exact List.mem_append_right _ h2
    simp at this ⊢
    omega
structure OInv (l : List (ByteArray × ObjD)) (st : OSt) : Prop where
  nodup : st.way.Nodup
  from_ : ∀ x ∈ st.way, x ∈ l.map (·.1)
  few : st.out.length ≤ st.way.length
  objs : ∀ o ∈ st.out, ∃ f ∈ l, f.2 = o
theorem OInv.way {l : List (ByteArray × ObjD)} {st : OSt} (h : OInv l st) : st.way.length ≤ l.length := by
  have := nodup_le _ _ h.nodup h.from_
  rw [List.length_map] at this
  exact this
theorem OInv.start (l : List (ByteArray × ObjD)) : OInv l ⟨[], []⟩ := ⟨List.nodup_nil, (fun x hx => by cases hx), Nat.le_refl _, (fun o ho => by cases ho)⟩
theorem OInv.into {l : List (ByteArray × ObjD)} {st : OSt} {s : ByteArray} (h : OInv l st) (hw : s ∉ st.way) (hs : s ∈ l.map (·.1)) : OInv l ⟨st.out, st.way ++ [s]⟩ := by
  refine ⟨?_, fun x hx => ?_, ?_, h.objs⟩
  · rw [List.nodup_append]
    refine ⟨h.nodup, by simp, fun a ha b hb e => ?_⟩
    rw [List.mem_singleton.1 hb] at e
    subst e
    exact hw ha
  · rcases List.mem_append.1 hx with h1 | h1
    · exact h.from_ x h1
    · rw [List.mem_singleton.1 h1]
      exact hs
  · have := h.few
    simp
    omega
/- good answers keep all that, and have one more under way than done, once one is done -/
theorem imps_inv {l : List (ByteArray × ObjD)} {f : OSt → ByteArray → ORes} (hf : ∀ (st : OSt) (s : ByteArray) (st' : OSt), OInv l st → f st s = .good st' → OInv l st' ∧ st'.way.length - st'.out.length ≥ st.way.length - st.out.length) :
    ∀ (t : List (ByteArray × Nat)) (st st' : OSt), OInv l st → impsN f t st = .good st' → OInv l st' ∧ st'.way.length - st'.out.length ≥ st.way.length - st.out.length
  | [], st, st', h, he => by
    rw [impsN] at he
    cases he
    exact ⟨h, Nat.le_refl _⟩
  | x :: t, st, st', h, he => by
    cases hx : f st x.1 with
    | bad k => rw [imps_bad hx] at he; cases he
    | good st1 =>
      by_cases hk : keyV st1.out x.1 1 = x.2
      · rw [imps_on hx hk] at he
        have h1 := hf st x.1 st1 h hx
        have h2 := imps_inv hf t st1 st' h1.1 he
        exact ⟨h2.1, Nat.le_trans h1.2 h2.2⟩
      · rw [imps_key hx hk] at he
        cases he
theorem res_inv {l : List (ByteArray × ObjD)} {ld : List ByteArray} : ∀ (n : Nat) (st : OSt) (s : ByteArray) (st' : OSt), OInv l st → resN l ld n st s = .good st' → OInv l st' ∧ st'.way.length - st'.out.length ≥ st.way.length - st.out.length := by
  intro n
  induction n with
  | zero =>
    intro st s st' h he
    by_cases hk : Known ld st s
    · rw [res_known hk] at he
      cases he
      exact ⟨h, Nat.le_refl _⟩
    · by_cases hw : s ∈ st.way
      · rw [res_cycle hk hw] at he
        cases he
      · rw [res_deep hk hw] at he
        cases he
  | succ n ih =>
    intro st s st' h he
    by_cases hk : Known ld st s
    · rw [res_known hk] at he
      cases he
      exact ⟨h, Nat.le_refl _⟩
    · by_cases hw : s ∈ st.way
      · rw [res_cycle hk hw] at he
        cases he
      · cases hf : findF l s with
        | none => rw [res_none hk hw hf] at he; cases he
        | some o =>
          by_cases ho : o.name = s ∧ (refsV o).isSome = true
          · rw [res_go hk hw hf ho] at he
            have hm := find_mem hf
            cases hi : impsN (resN l ld n) o.imps ⟨st.out, st.way ++ [s]⟩ with
            | bad k => rw [hi] at he; cases he
            | good st1 =>
              rw [hi] at he
              cases he
              have h1 := imps_inv ih o.imps _ st1 (h.into hw hm.1) hi
              have h2 := h1.2
              have h3 := h1.1.few
              have h4 := h.few
              simp at h2
              refine ⟨⟨h1.1.nodup, h1.1.from_, by simp; omega, fun p hp => ?_⟩, by simp; omega⟩
              rcases List.mem_append.1 hp with h5 | h5
              · exact h1.1.objs p h5
              · rw [List.mem_singleton.1 h5]
                exact hm.2
          · rw [res_form hk hw hf ho] at he
            cases he
end Go.Proofs.Ytkkjfbpflfknpaa
