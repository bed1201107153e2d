/-
  What the program's resolver keeps, and what the document's state has, side by side, as plain data (layer 19). Nothing of the program.
-/
import Derived.Test.YtkkjfbpflfknpaaOrM
import Derived.Test.YtkkjfbpflfknpaaTbM
namespace Go.Proofs.Ytkkjfbpflfknpaa
open Go.RowKit

theorem keyV_none {A : List ObjD} {s : ByteArray} {k : Nat} (h : ∀ o ∈ A, o.name ≠ s) : keyV A s k = k := by
  induction A generalizing k with
  | nil => rfl
  | cons a A ih =>
    rw [keyV, if_neg (h a List.mem_cons_self)]
    exact ih fun o ho => h o (List.mem_cons_of_mem _ ho)
/- the keys of what was resolved -/
open Classical in
noncomputable def keysF (out : List ObjD) (s : ByteArray) : Option Int := if ∃ o ∈ out, o.name = s then some ((keyV out s 1 : Nat) : Int) else none
theorem keysF_yes {out : List ObjD} {s : ByteArray} (h : ∃ o ∈ out, o.name = s) : keysF out s = some ((keyV out s 1 : Nat) : Int) := by
  unfold keysF
  exact if_pos h
theorem keysF_no {out : List ObjD} {s : ByteArray} (h : ¬ ∃ o ∈ out, o.name = s) : keysF out s = none := by
  unfold keysF
  exact if_neg h
open Classical in
theorem keysF_more (out : List ObjD) (o : ObjD) (s : ByteArray) : keysF (out ++ [o]) s = if s = o.name then some ((o.key : Nat) : Int) else keysF out s := by
  by_cases h : s = o.name
  · rw [if_pos h, keysF_yes ⟨o, by simp, h.symm⟩, keyV_append, if_pos h.symm]
  · rw [if_neg h]
    by_cases g : ∃ p ∈ out, p.name = s
    · obtain ⟨p, hp, he⟩ := g
      rw [keysF_yes ⟨p, hp, he⟩, keysF_yes ⟨p, List.mem_append_left _ hp, he⟩, keyV_append, if_neg (fun e => h e.symm)]
    · rw [keysF_no g, keysF_no]
      rintro ⟨p, hp, he⟩
      rcases List.mem_append.1 hp with h1 | h1
      · exact g ⟨p, h1, he⟩
      · rw [List.mem_singleton.1 h1] at he
        exact h he.symm

/- the names that are under way with the program, pw, and the document's state -/
structure Link (ld : List ByteArray) (st : OSt) (pw : List ByteArray) : Prop where
  sub : ∀ x ∈ pw, x ∈ st.way
  sup : ∀ x ∈ st.way, x ∈ pw ∨ ∃ o ∈ st.out, o.name = x
  fresh : ∀ o ∈ st.out, o.name ∉ ld
  keys : ∀ o ∈ st.out, o.key < 4294967296
section
variable {ld : List ByteArray} {st : OSt} {pw : List ByteArray} {s : ByteArray}
theorem Link.start (ld : List ByteArray) : Link ld ⟨[], []⟩ [] := ⟨(fun x hx => by cases hx), (fun x hx => by cases hx), (fun o ho => by cases ho), (fun o ho => by cases ho)⟩
theorem Link.way (h : Link ld st pw) (hk : ¬ Known ld st s) : s ∈ st.way ↔ s ∈ pw :=
  ⟨fun hm => (h.sup s hm).elim (fun e => e) fun e => absurd (.inl e) hk, h.sub s⟩
theorem Link.into (h : Link ld st pw) (s : ByteArray) : Link ld ⟨st.out, st.way ++ [s]⟩ (pw ++ [s]) :=
  ⟨fun x hx => (List.mem_append.1 hx).elim (fun e => List.mem_append_left _ (h.sub x e)) fun e => List.mem_append_right _ e,
    fun x hx => (List.mem_append.1 hx).elim (fun e => (h.sup x e).elim (fun g => .inl (List.mem_append_left _ g)) .inr) fun e => .inl (List.mem_append_right _ e), h.fresh, h.keys⟩
theorem Link.done {o : ObjD} (h : Link ld st (pw ++ [s])) (ho : o.name = s) (hl : s ∉ ld) (hk : o.key < 4294967296) : Link ld ⟨st.out ++ [o], st.way⟩ pw :=
  ⟨fun x hx => h.sub x (List.mem_append_left _ hx),
    fun x hx => by
      rcases h.sup x hx with e | ⟨p, hp, e⟩
      · rcases List.mem_append.1 e with g | g
        · exact .inl g
        · exact .inr ⟨o, by simp, by rw [List.mem_singleton.1 g]; exact ho⟩
      · exact .inr ⟨p, List.mem_append_left _ hp, e⟩,
    fun p hp => by
      rcases List.mem_append.1 hp with g | g
      · exact h.fresh p g
      · rw [List.mem_singleton.1 g, ho]; exact hl,
    fun p hp => by
      rcases List.mem_append.1 hp with g | g
      · exact h.keys p g
      · rw [List.mem_singleton.1 g]; exact hk⟩
theorem Link.lt (h : Link ld st pw) (s : ByteArray) : keyV st.out s 1 < 4294967296 := keyV_lt (by decide) h.keys
/- the key of what is loaded -/
theorem Link.loaded (h : Link ld st pw) (hs : s ∈ ld) : keyV st.out s 1 = 1 := keyV_none fun o ho e => h.fresh o ho (by rw [e]; exact hs)
end
theorem known_not {ld : List ByteArray} {st : OSt} {s : ByteArray} (hk : ¬ Known ld st s) : s ∉ ld ∧ ¬ ∃ o ∈ st.out, o.name = s := ⟨fun h => hk (.inr h), fun h => hk (.inl h)⟩

/- what the program gets of a name -/
inductive FRes
  | bad (k : Nat)
  | good (o : ObjD)
open Classical in
noncomputable def fetN (l : List (ByteArray × ObjD)) (pw : List ByteArray) (s : ByteArray) : FRes :=
  if s ∈ pw then .bad 6 else if 8 < pw.length then .bad 7 else match findF l s with
  | none => .bad 3
  | some o => if o.name = s ∧ (refsV o).isSome = true then .good o else .bad 4
section
variable {l : List (ByteArray × ObjD)} {ld : List ByteArray} {pw : List ByteArray} {s : ByteArray} {st : OSt} {n : Nat}
theorem fet_cycle (h : s ∈ pw) : fetN l pw s = .bad 6 := by unfold fetN; rw [if_pos h]
theorem fet_deep (h : s ∉ pw) (h8 : 8 < pw.length) : fetN l pw s = .bad 7 := by unfold fetN; rw [if_neg h, if_pos h8]
theorem fet_none (h : s ∉ pw) (h8 : ¬ 8 < pw.length) (hf : findF l s = none) : fetN l pw s = .bad 3 := by
  unfold fetN
  simp only [if_neg h, if_neg h8, hf]
theorem fet_form {o : ObjD} (h : s ∉ pw) (h8 : ¬ 8 < pw.length) (hf : findF l s = some o) (ho : ¬ (o.name = s ∧ (refsV o).isSome = true)) : fetN l pw s = .bad 4 := by
  unfold fetN
  simp only [if_neg h, if_neg h8, hf, if_neg ho]
theorem fet_good {o : ObjD} (h : s ∉ pw) (h8 : ¬ 8 < pw.length) (hf : findF l s = some o) (ho : o.name = s ∧ (refsV o).isSome = true) : fetN l pw s = .good o := by
  unfold fetN
  simp only [if_neg h, if_neg h8, hf, if_pos ho]
theorem fet_at {o : ObjD} (h : fetN l pw s = .good o) : findF l s = some o ∧ o.name = s ∧ (refsV o).isSome = true ∧ pw.length ≤ 8 := by
  unfold fetN at h
  split at h
  · cases h
  · split at h
    · cases h
    · rename_i h8
      cases hf : findF l s with
      | none => rw [hf] at h; cases h
      | some p =>
        rw [hf] at h
        simp only at h
        split at h
        · rename_i ho
          cases h
          exact ⟨rfl, ho.1, ho.2, by omega⟩
        · cases h
/- what is resolved is what the program gets, and then its imports -/
theorem res_fet_bad {k : Nat} (hl : Link ld st pw) (hk : ¬ Known ld st s) (hn : pw.length + n = 9) (h : fetN l pw s = .bad k) : resN l ld n st s = .bad k := by
  have hw := hl.way hk
  by_cases h1 : s ∈ pw
  · rw [fet_cycle h1] at h
    cases h
    exact res_cycle hk (hw.2 h1)
  · have h1' : s ∉ st.way := fun e => h1 (hw.1 e)
    by_cases h8 : 8 < pw.length
    · rw [fet_deep h1 h8] at h
      cases h
      obtain rfl : n = 0 := by omega
      exact res_deep hk h1'
    · obtain ⟨m, rfl⟩ : ∃ m, n = m + 1 := ⟨n - 1, by omega⟩
      cases hf : findF l s with
      | none =>
        rw [fet_none h1 h8 hf] at h
        cases h
        exact res_none hk h1' hf
      | some o =>
        by_cases ho : o.name = s ∧ (refsV o).isSome = true
        · rw [fet_good h1 h8 hf ho] at h
          cases h
        · rw [fet_form h1 h8 hf ho] at h
          cases h
          exact res_form hk h1' hf ho
theorem res_fet_good {o : ObjD} (hl : Link ld st pw) (hk : ¬ Known ld st s) (hn : pw.length + n = 9) (h : fetN l pw s = .good o) :
    ∃ m, n = m + 1 ∧ s ∉ st.way ∧ s ∈ l.map (·.1) ∧ resN l ld n st s = endN o (impsN (resN l ld m) o.imps ⟨st.out, st.way ++ [s]⟩) := by
  obtain ⟨hf, ho, hv, h8⟩ := fet_at h
  have h1 : s ∉ pw := fun e => by rw [fet_cycle e] at h; cases h
  have h1' : s ∉ st.way := fun e => h1 ((hl.way hk).1 e)
  obtain ⟨m, rfl⟩ : ∃ m, n = m + 1 := ⟨n - 1, by omega⟩
  exact ⟨m, rfl, h1', (find_mem hf).1, res_go hk h1' hf ⟨ho, hv⟩⟩
end
/- an answer that is good keeps the link -/
theorem imps_link {ld : List ByteArray} {pw : List ByteArray} {f : OSt → ByteArray → ORes} (hf : ∀ (st : OSt) (s : ByteArray) (st' : OSt), Link ld st pw → f st s = .good st' → Link ld st' pw) :
    ∀ (t : List (ByteArray × Nat)) (st st' : OSt), Link ld st pw → impsN f t st = .good st' → Link ld st' pw
  | [], st, st', h, he => by
    rw [impsN] at he
    cases he
    exact h
  | x :: t, st, st', h, he => by
    cases hx : f st x.1 with
    | bad k => rw [imps_bad hx] at he; cases he
    | good st1 =>
      by_cases hk : keyV st1.out x.1 1 = x.2
      · rw [imps_on hx hk] at he
        exact imps_link hf t st1 st' (hf st x.1 st1 h hx) he
      · rw [imps_key hx hk] at he
        cases he
theorem res_link {l : List (ByteArray × ObjD)} {ld : List ByteArray} (hkey : ∀ f ∈ l, f.2.key < 4294967296) : ∀ (n : Nat) (pw : List ByteArray) (st : OSt) (s : ByteArray) (st' : OSt), Link ld st pw → resN l ld n st s = .good st' → Link ld st' pw := by
  intro n
  induction n with
  | zero =>
    intro pw st s st' h he
    by_cases hk : Known ld st s
    · rw [res_known hk] at he
      cases he
      exact h
    · by_cases hw : s ∈ st.way
      · rw [res_cycle hk hw] at he
        cases he
      · rw [res_deep hk hw] at he
        cases he
  | succ n ih =>
    intro pw st s st' h he
    by_cases hk : Known ld st s
    · rw [res_known hk] at he
      cases he
      exact h
    · by_cases hw : s ∈ st.way
      · rw [res_cycle hk hw] at he
        cases he
      · cases hf : findF l s with
        | none => rw [res_none hk hw hf] at he; cases he
        | some o =>
          by_cases ho : o.name = s ∧ (refsV o).isSome = true
          · rw [res_go hk hw hf ho] at he
            obtain ⟨f, hm, e⟩ := (find_mem hf).2
            cases hi : impsN (resN l ld n) o.imps ⟨st.out, st.way ++ [s]⟩ with
            | bad k => rw [hi] at he; cases he
            | good st1 =>
              rw [hi] at he
              cases he
              exact (imps_link (ih (pw ++ [s])) o.imps _ st1 (h.into s) hi).done ho.1 (known_not hk).1 (by rw [← e]; exact hkey f hm)
          · rw [res_form hk hw hf ho] at he
            cases he
/- errors' numbers -/
theorem imps_num {f : OSt → ByteArray → ORes} (hf : ∀ (st : OSt) (s : ByteArray) (k : Nat), f st s = .bad k → 3 ≤ k ∧ k ≤ 7) : ∀ (t : List (ByteArray × Nat)) (st : OSt) (k : Nat), impsN f t st = .bad k → 3 ≤ k ∧ k ≤ 7
  | [], st, k, he => by rw [impsN] at he; cases he
  | x :: t, st, k, he => by
    cases hx : f st x.1 with
    | bad j =>
      rw [imps_bad hx] at he
      cases he
      exact hf st x.1 k hx
    | good st1 =>
      by_cases hk : keyV st1.out x.1 1 = x.2
      · rw [imps_on hx hk] at he
        exact imps_num hf t st1 k he
      · rw [imps_key hx hk] at he
        cases he
        decide
theorem res_num {l : List (ByteArray × ObjD)} {ld : List ByteArray} : ∀ (n : Nat) (st : OSt) (s : ByteArray) (k : Nat), resN l ld n st s = .bad k → 3 ≤ k ∧ k ≤ 7 := by
  intro n
  induction n with
  | zero =>
    intro st s k he
    by_cases hk : Known ld st s
    · rw [res_known hk] at he
      cases he
    · by_cases hw : s ∈ st.way
      · rw [res_cycle hk hw] at he
        cases he
        decide
      · rw [res_deep hk hw] at he
        cases he
        decide
  | succ n ih =>
    intro st s k he
    by_cases hk : Known ld st s
    · rw [res_known hk] at he
      cases he
    · by_cases hw : s ∈ st.way
      · rw [res_cycle hk hw] at he
        cases he
        decide
      · cases hf : findF l s with
        | none => rw [res_none hk hw hf] at he; cases he; decide
        | some o =>
          by_cases ho : o.name = s ∧ (refsV o).isSome = true
          · rw [res_go hk hw hf ho] at he
            cases hi : impsN (resN l ld n) o.imps ⟨st.out, st.way ++ [s]⟩ with
            | bad j =>
              rw [hi] at he
              cases he
              exact imps_num ih o.imps _ k hi
            | good st1 => rw [hi] at he; cases he
          · rw [res_form hk hw hf ho] at he
            cases he
            decide
end Go.Proofs.Ytkkjfbpflfknpaa
