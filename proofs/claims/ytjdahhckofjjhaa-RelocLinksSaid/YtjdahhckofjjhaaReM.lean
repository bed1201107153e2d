/-
  Code that is linked (layer 17), as plain data. Nothing of the program.
-/
import Derived.Test.YtjdahhckofjjhaaInsA
import Derived.Test.YtjdahhckofjjhaaMathB
import Derived.Test.YtjdahhckofjjhaaElsA
namespace Go.Proofs.Ytjdahhckofjjhaa
open Go.RowKit

/- a word that is an instruction -/
def InsP (x : Nat) : Prop := MayP (getN x 26 6 : Nat) (getN x 22 4 : Nat) (getN x 18 4 : Nat) (signI (getN x 0 18) 18)
/- the N that a fix tells -/
def relN (op : Nat) (from_ at_ target : Int) : Option Int := if op = 20 then some ((target - from_ - 4 * at_ - 4).tdiv 4) else if op = 1 then some target else none
def newW (x : Nat) (n : Int) : Nat := insN (getN x 26 6) (getN x 22 4) (getN x 18 4) (lowN n)
open Classical in
noncomputable def fixV (from_ : Int) (code : List Nat) (f : Int × Int) : Option (List Nat) :=
  if 0 ≤ f.1 ∧ f.1 < code.length then
    if InsP (code.getD f.1.toNat 0) then
      match relN (getN (code.getD f.1.toNat 0) 26 6) from_ f.1 f.2 with
      | none => none
      | some n => if MayP (getN (code.getD f.1.toNat 0) 26 6 : Nat) (getN (code.getD f.1.toNat 0) 22 4 : Nat) (getN (code.getD f.1.toNat 0) 18 4 : Nat) n then some (code.set f.1.toNat (newW (code.getD f.1.toNat 0) n)) else none
    else none
  else none
noncomputable def linkV (from_ : Int) : List Nat → List (Int × Int) → Option (List Nat)
  | code, [] => some code
  | code, f :: l => (fixV from_ code f).bind fun c => linkV from_ c l
section
variable {from_ : Int} {code : List Nat} {l : List (Int × Int)} {at_ tg : Int}
theorem link_out (h : at_ < 0 ∨ (code.length : Int) ≤ at_) : linkV from_ code ((at_, tg) :: l) = none := by
  rw [linkV, fixV, if_neg (by simp only; omega)]
  rfl
theorem fix_in {k x : Nat} (hx : code[k]? = some x) : (0 ≤ ((k : Nat) : Int) ∧ ((k : Nat) : Int) < code.length) ∧ code.getD ((k : Nat) : Int).toNat 0 = x := by
  have hk := (List.getElem?_eq_some_iff.1 hx).1
  refine ⟨by omega, ?_⟩
  simp [List.getD, hx]
theorem link_bad {k x : Nat} (hx : code[k]? = some x) (h : ¬ InsP x) : linkV from_ code (((k : Nat), tg) :: l) = none := by
  obtain ⟨h1, h2⟩ := fix_in hx
  rw [linkV, fixV]
  simp only
  rw [if_pos h1, h2, if_neg h]
  rfl
theorem link_other {k x : Nat} (hx : code[k]? = some x) (h : InsP x) (h20 : getN x 26 6 ≠ 20) (h1' : getN x 26 6 ≠ 1) : linkV from_ code (((k : Nat), tg) :: l) = none := by
  obtain ⟨h1, h2⟩ := fix_in hx
  rw [linkV, fixV]
  simp only
  rw [if_pos h1, h2, if_pos h]
  have : relN (getN x 26 6) from_ ((k : Nat) : Int) tg = none := by unfold relN; rw [if_neg h20, if_neg h1']
  rw [this]
  rfl
theorem link_wide {k x : Nat} {n : Int} (hx : code[k]? = some x) (h : InsP x) (hr : relN (getN x 26 6) from_ ((k : Nat) : Int) tg = some n) (hn : ¬ MayP (getN x 26 6 : Nat) (getN x 22 4 : Nat) (getN x 18 4 : Nat) n) : linkV from_ code (((k : Nat), tg) :: l) = none := by
  obtain ⟨h1, h2⟩ := fix_in hx
  rw [linkV, fixV]
  simp only
  rw [if_pos h1, h2, if_pos h, hr]
  simp only
  rw [if_neg hn]
  rfl
theorem link_on {k x : Nat} {n : Int} (hx : code[k]? = some x) (h : InsP x) (hr : relN (getN x 26 6) from_ ((k : Nat) : Int) tg = some n) (hn : MayP (getN x 26 6 : Nat) (getN x 22 4 : Nat) (getN x 18 4 : Nat) n) : linkV from_ code (((k : Nat), tg) :: l) = linkV from_ (code.set k (newW x n)) l := by
  obtain ⟨h1, h2⟩ := fix_in hx
  rw [linkV, fixV]
  simp only
  rw [if_pos h1, h2, if_pos h, hr]
  simp only
  rw [if_pos hn]
  rfl
end
def fixRow (x : Int × Int) : List Value := [.int .i64 x.1, .int .i64 x.2]
theorem fixRow_len (x : Int × Int) : (fixRow x).length = 2 := rfl
theorem fixRow_one (x : Int × Int) : Ones (fixRow x) := by intro u hu; simp only [fixRow, List.mem_cons, List.not_mem_nil, or_false] at hu; rcases hu with rfl | rfl <;> rfl
/- one cell of a row of one-cell elements is set -/
theorem SRow.set1 {t : TypeId} {w : World} {b n cap k : Nat} {cs : List Value} (h : SRow t 1 w (.slice (some ⟨b, 0, none⟩) n cap) n cs) (hk : k < n) (u : Value) (hu : u.oneCell' = true) : SRow t 1 (w.setCell ⟨b, k, none⟩ u) (.slice (some ⟨b, 0, none⟩) n cap) n (cs.set k u) := by
  rcases h.is with ⟨e, _⟩ | ⟨b', cap', rest, e, hr, h1, h2, h3⟩
  · cases e
  · obtain ⟨rfl, rfl⟩ : b' = b ∧ cap' = cap := by cases e; exact ⟨rfl, rfl⟩
    have hl := h.len
    refine ⟨.inr ⟨b', cap', rest, rfl, ?_, h1, h2, h3⟩, by rw [List.length_set]; exact h.len, fun v hv => ?_⟩
    · have := hr.setCell k u
      rw [List.set_append_left _ _ (by omega)] at this
      exact this
    · rcases List.mem_or_eq_of_mem_set hv with e2 | e2
      · exact h.one v e2
      · subst e2
        exact hu
end Go.Proofs.Ytjdahhckofjjhaa
