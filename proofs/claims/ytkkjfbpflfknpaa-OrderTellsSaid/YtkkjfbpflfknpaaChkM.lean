/-
  What may be a module, as plain data (layer 14). Nothing of the program.
-/
import Derived.Test.YtkkjfbpflfknpaaObjA
import Derived.Test.YtkkjfbpflfknpaaNameM
namespace Go.Proofs.Ytkkjfbpflfknpaa
open Go.RowKit

/- names -/
def ImpOk (o : ObjD) (i : Nat) (x : ByteArray × Nat) : Prop := NameP x.1 ∧ x.1 ≠ o.name ∧ ∀ (k : Nat) (y : ByteArray × Nat), k < i → o.imps[k]? = some y → y.1 ≠ x.1
def CmdOk (o : ObjD) (i : Nat) (x : ByteArray × Int) : Prop := NameP x.1 ∧ (0 ≤ x.2 ∧ x.2 < o.code.length) ∧ ∀ (k : Nat) (y : ByteArray × Int), k < i → o.cmds[k]? = some y → y.1 ≠ x.1
structure NamesP (o : ObjD) : Prop where
  name : NameP o.name
  few : o.imps.length ≤ 8
  fewc : o.cmds.length ≤ 8
  imp : ∀ (i : Nat) (x : ByteArray × Nat), o.imps[i]? = some x → ImpOk o i x
  cmd : ∀ (i : Nat) (x : ByteArray × Int), o.cmds[i]? = some x → CmdOk o i x
theorem bool_not {r : Bool} {P : Prop} (h : r = true ↔ P) (hn : ¬ P) : r = false := by
  cases r with
  | false => rfl
  | true => exact absurd (h.1 rfl) hn
/- all of a list's elements up to one more -/
theorem all_next {α : Type} {L : List α} {m : Nat} {x : α} {Q : Nat → α → Prop} (h : ∀ (j : Nat) (y : α), j < m → L[j]? = some y → Q j y) (hx : L[m]? = some x) (hq : Q m x) : ∀ (j : Nat) (y : α), j < m + 1 → L[j]? = some y → Q j y := by
  intro j y hj hy
  rcases Nat.lt_or_ge j m with h1 | h1
  · exact h j y h1 hy
  · obtain rfl : j = m := by omega
    have e := hx.symm.trans hy
    cases e
    exact hq
theorem all_done {α : Type} {L : List α} {m : Nat} {Q : Nat → α → Prop} (h : ∀ (j : Nat) (y : α), j < m → L[j]? = some y → Q j y) (hm : L.length ≤ m) : ∀ (j : Nat) (y : α), L[j]? = some y → Q j y :=
  fun j y hy => h j y (Nat.lt_of_lt_of_le (List.getElem?_eq_some_iff.1 hy).1 hm) hy
/- parts -/
def TypeOk (o : ObjD) (i : Nat) (x : Int × Int × Int) : Prop :=
  (0 ≤ x.1 ∧ x.1 ≤ 256 ∧ x.1 % 4 = 0) ∧ (0 ≤ x.2.1 ∧ x.2.1 ≤ o.imps.length) ∧ x.2.2 ≤ 63 ∧ ((x.2.1 = 0 ∧ -1 ≤ x.2.2 ∧ x.2.2 < i) ∨ (0 < x.2.1 ∧ 0 ≤ x.2.2))
def ExpOk (o : ObjD) (x : Int × Int) : Prop := 0 ≤ x.2 ∧ ((x.1 = 0 ∧ x.2 < o.code.length) ∨ (x.1 = 1 ∧ x.2 < o.data) ∨ (x.1 = 2 ∧ x.2 < o.types.length))
/- data words that are declared: which one was met last, within its list -/
def cellsO (o : ObjD) : List Int := o.ptrs ++ o.procs
def lastRaw (o : ObjD) (j : Nat) : Int := if j = 0 then -1 else (cellsO o).getD (j - 1) 0
def lastAt (o : ObjD) (j : Nat) : Int := if j = o.ptrs.length then -1 else lastRaw o j
def CellOk (o : ObjD) (j : Nat) (n : Int) : Prop := 0 ≤ n ∧ lastAt o j < n ∧ n < o.data ∧ ∀ (k : Nat) (y : Int), k < j → (cellsO o)[k]? = some y → y ≠ n
structure PartsP (o : ObjD) : Prop where
  data : 0 ≤ o.data ∧ o.data ≤ 64
  text : o.text.size ≤ 60
  code : 1 ≤ o.code.length ∧ o.code.length ≤ 256
  body : 0 ≤ o.body ∧ o.body ≤ o.code.length
  types : o.types.length ≤ 8
  exps : o.exps.length ≤ 64
  ptrs : o.ptrs.length ≤ 16
  procs : o.procs.length ≤ 16
  type : ∀ (i : Nat) (x : Int × Int × Int), o.types[i]? = some x → TypeOk o i x
  exp : ∀ (i : Nat) (x : Int × Int), o.exps[i]? = some x → ExpOk o x
  cell : ∀ (i : Nat) (x : Int), (cellsO o)[i]? = some x → CellOk o i x
theorem cells_len (o : ObjD) : (cellsO o).length = o.ptrs.length + o.procs.length := List.length_append
theorem cells_low {o : ObjD} {m : Nat} (h : m < o.ptrs.length) : (cellsO o)[m]? = o.ptrs[m]? := List.getElem?_append_left h
theorem cells_high {o : ObjD} {m : Nat} (h : o.ptrs.length ≤ m) : (cellsO o)[m]? = o.procs[m - o.ptrs.length]? := List.getElem?_append_right h
theorem last_next {o : ObjD} {m : Nat} {x : Int} (h : (cellsO o)[m]? = some x) : lastRaw o (m + 1) = x := by
  simp [lastRaw, List.getD, h]
/- what was met, word by word -/
def metV (f : Nat → Bool) : List Value := (List.range 65).map fun k => Value.bool (f k)
theorem metV_at (f : Nat → Bool) (k : Nat) (hk : k < 65) : (metV f)[k]? = some (.bool (f k)) := by simp [metV, hk]
theorem metV_set (f : Nat → Bool) (k : Nat) (hk : k < 65) : (metV f).set k (.bool true) = metV (fun j => if j = k then true else f j) := by
  apply List.ext_getElem?
  intro i
  by_cases hi : i < 65
  · by_cases hik : i = k
    · subst hik
      simp [metV, hi]
    · have hki : ¬ k = i := fun e => hik e.symm
      simp [metV, hi, hik, hki]
  · rw [List.getElem?_eq_none (by simp [metV]; omega), List.getElem?_eq_none (by simp [metV]; omega)]
def Met (o : ObjD) (m : Nat) (f : Nat → Bool) : Prop := ∀ k : Nat, f k = true ↔ ∃ j, j < m ∧ (cellsO o)[j]? = some (k : Int)
theorem Met.start (o : ObjD) : Met o 0 (fun _ => false) := fun k => by simp
theorem Met.next {o : ObjD} {m : Nat} {f : Nat → Bool} (h : Met o m f) {k : Nat} (hx : (cellsO o)[m]? = some (k : Int)) : Met o (m + 1) (fun j => if j = k then true else f j) := by
  intro j
  by_cases hj : j = k
  · subst hj
    simp only [if_pos, true_iff]
    exact ⟨m, by omega, hx⟩
  · simp only [if_neg hj]
    rw [h j]
    constructor
    · rintro ⟨i, hi, e⟩
      exact ⟨i, by omega, e⟩
    · rintro ⟨i, hi, e⟩
      refine ⟨i, ?_, e⟩
      rcases Nat.lt_or_ge i m with h1 | h1
      · exact h1
      · obtain rfl : i = m := by omega
        rw [hx] at e
        cases e
        exact absurd rfl hj
/- which chain's references may mean which kind -/
def FitsP (a k : Int) : Prop := (a = 0 ∧ k = 0) ∨ (a = 1 ∧ (k = 0 ∨ k = 1)) ∨ (a = 2 ∧ k = 2)
end Go.Proofs.Ytkkjfbpflfknpaa
