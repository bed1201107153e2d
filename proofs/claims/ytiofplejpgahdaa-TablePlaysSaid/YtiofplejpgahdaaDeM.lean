/-
  Lines and descriptors of types (layer 16), as plain data. Nothing of the program.
-/
import Derived.Test.YtiofplejpgahdaaObjA
namespace Go.Proofs.Ytiofplejpgahdaa
open Go.RowKit

/- a number's lowest 32 bits -/
def lowU (z : Int) : Nat := (z % 4294967296).toNat
theorem lowU_int (z : Int) : (lowU z : Int) = z % 4294967296 := by unfold lowU; omega
theorem lowU_lt (z : Int) : lowU z < 4294967296 := by unfold lowU; omega
theorem lowU_same {z : Int} (h0 : 0 ≤ z) (h1 : z < 4294967296) : (lowU z : Int) = z := by rw [lowU_int]; omega
/- the word at a place behind the first of a descriptor -/
def ancV (line : List Int) (j : Nat) : Nat := if j + 1 < line.length then lowU (line.getD j 0) else 0
def descW (size : Int) (line : List Int) : List Nat := [lowU size, ancV line 0, ancV line 1, ancV line 2]
theorem descW_len (size : Int) (line : List Int) : (descW size line).length = 4 := rfl
theorem descW_at (size : Int) (line : List Int) : ∀ j : Nat, j < 3 → (descW size line)[j + 1]? = some (ancV line j)
  | 0, _ => rfl
  | 1, _ => rfl
  | 2, _ => rfl
  | j + 3, h => by omega
theorem descW_fit (size : Int) (line : List Int) : ∀ x ∈ descW size line, x < 4294967296 := by
  intro x hx
  have h : ∀ j, ancV line j < 4294967296 := fun j => by unfold ancV; split; exact lowU_lt _; decide
  simp only [descW, List.mem_cons, List.not_mem_nil, or_false] at hx
  rcases hx with rfl | rfl | rfl | rfl
  · exact lowU_lt _
  · exact h 0
  · exact h 1
  · exact h 2
theorem ancV_some {line : List Int} {j : Nat} {x : Int} (h : line[j]? = some x) (hj : j + 1 < line.length) : ancV line j = lowU x := by
  unfold ancV
  rw [if_pos hj, List.getD, h]
  rfl
theorem ancV_none {line : List Int} {j : Nat} (hj : line.length ≤ j + 1) : ancV line j = 0 := by
  unfold ancV
  rw [if_neg (by omega)]
/- whether one of the words behind the first is at that place -/
def ExtP (words : List Nat) (at_ : Int) : Prop := 1 ≤ at_ ∧ ∃ (i : Nat) (x : Nat), 1 ≤ i ∧ words[i]? = some x ∧ (x : Int) = at_
end Go.Proofs.Ytiofplejpgahdaa
