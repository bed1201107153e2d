/-
  What lies where in a block (layer 15), as plain data. Nothing of the program.
-/
import Derived.Test.YtpckcjhffpokeaaCkMa
namespace Go.Proofs.Ytpckcjhffpokeaa
open Go.RowKit

def planT (o : ObjD) : Int := 4 * (if 0 ≤ o.data then o.data else 0)
def planX (o : ObjD) : Int := planT o + 16 * (o.types.length : Nat)
def planC (o : ObjD) : Int := planX o + (((o.text.size : Nat) : Int) + 3) / 4 * 4
def planS (o : ObjD) : Int := planC o + 4 * (o.code.length : Nat)
/- where an export is, of a Kind that there is -/
def exportV (o : ObjD) (x : Int × Int) : Int := if x.1 = 0 then planC o + 4 * x.2 else if x.1 = 1 then 4 * x.2 else planT o + 16 * x.2
/- four numbers, one behind the other, at multiples of 4 -/
structure PlanP (T X C S n : Int) : Prop where
  t : 0 ≤ T ∧ T ≤ 400000 ∧ T % 4 = 0
  x : T ≤ X ∧ X ≤ 500000 ∧ X % 4 = 0
  c : X ≤ C ∧ C ≤ 600000 ∧ C % 4 = 0
  s : C ≤ S ∧ S ≤ 700000 ∧ S % 4 = 0
  n : 0 ≤ n ∧ n ≤ C - X ∧ C - X ≤ n + 3
theorem plan_ok {o : ObjD} (hd : o.data ≤ 100000) (ht : o.types.length ≤ 5000) (hx : o.text.size ≤ 90000) (hc : o.code.length ≤ 20000) : PlanP (planT o) (planX o) (planC o) (planS o) ((o.text.size : Nat) : Int) := by
  have h1 : 0 ≤ planT o ∧ planT o ≤ 400000 ∧ planT o % 4 = 0 := by unfold planT; split <;> omega
  have h2 : planX o = planT o + 16 * (o.types.length : Nat) := rfl
  have h3 : planC o = planX o + (((o.text.size : Nat) : Int) + 3) / 4 * 4 := rfl
  have h4 : planS o = planC o + 4 * (o.code.length : Nat) := rfl
  constructor <;> omega
/- exports of what may be a module lie in the part of their Kind -/
def PartP (o : ObjD) (k at_ : Int) : Prop := (k = 0 ∧ planC o ≤ at_ ∧ at_ < planS o) ∨ (k = 1 ∧ 0 ≤ at_ ∧ at_ < planT o) ∨ (k = 2 ∧ planT o ≤ at_ ∧ at_ < planX o)
theorem export_in {o : ObjD} {x : Int × Int} (h : ExpOk o x) (hd : 0 ≤ o.data) : PartP o x.1 (exportV o x) ∧ exportV o x % 4 = 0 := by
  have h1 : planT o = 4 * o.data := by unfold planT; rw [if_pos hd]
  have h2 : planX o = planT o + 16 * (o.types.length : Nat) := rfl
  have h3 : planC o = planX o + (((o.text.size : Nat) : Int) + 3) / 4 * 4 := rfl
  have h4 : planS o = planC o + 4 * (o.code.length : Nat) := rfl
  unfold ExpOk at h
  unfold PartP exportV
  rcases h with ⟨h0, ⟨hk, ha⟩ | ⟨hk, ha⟩ | ⟨hk, ha⟩⟩
  · rw [if_pos hk]
    exact ⟨.inl ⟨hk, by omega, by omega⟩, by omega⟩
  · rw [if_neg (by omega), if_pos hk]
    exact ⟨.inr (.inl ⟨hk, by omega, by omega⟩), by omega⟩
  · rw [if_neg (by omega), if_neg (by omega)]
    exact ⟨.inr (.inr ⟨hk, by omega, by omega⟩), by omega⟩
end Go.Proofs.Ytpckcjhffpokeaa
