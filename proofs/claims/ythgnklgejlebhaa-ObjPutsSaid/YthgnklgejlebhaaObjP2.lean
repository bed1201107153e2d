/-
  The program's Same (layer 12), part 3 of three. No conditions beyond those that each theorem names. (Written by wip/tools/obj-ps.py.)
-/
import Derived.Test.YthgnklgejlebhaaObjP1
namespace Go.Proofs.Ythgnklgejlebhaa
open Go.ChangeShapes Go.WideShapes Go.ChangeAt Go.RowKit

theorem psame_any (Va Vb : ObjV) (a b : ObjD) (r : Bool) (w : World) (ha : ObjAt w Va a) (hb : ObjAt w Vb b) (hr : r = true ↔ a = b) :
    Calls Try.prog 12 #[.agg (ocells Va a).toArray, .agg (ocells Vb b).toArray] w fun e w' => e = .returned (.bool r) ∧ Below w.heap.size w w' := by
  have no : ∀ p : Prop, ¬ p → (a = b → p) → r = false := fun p hp h => by
    cases r with
    | false => rfl
    | true => exact absurd (h (hr.1 rfl)) hp
  by_cases e0 : a.name = b.name
  rotate_left
  · rw [no _ e0 (fun e => by rw [e])]
    exact psame_way0 Va Vb a b w  e0
  by_cases e1 : a.key = b.key
  rotate_left
  · rw [no _ e1 (fun e => by rw [e])]
    exact psame_way1 Va Vb a b w e0 e1
  by_cases e2 : a.data = b.data
  rotate_left
  · rw [no _ e2 (fun e => by rw [e])]
    exact psame_way2 Va Vb a b w e0 e1 e2
  by_cases e3 : a.text = b.text
  rotate_left
  · rw [no _ e3 (fun e => by rw [e])]
    exact psame_way3 Va Vb a b w e0 e1 e2 e3
  by_cases e4 : a.f0 = b.f0 ∧ a.f1 = b.f1 ∧ a.f2 = b.f2
  rotate_left
  · rw [no _ e4 (fun e => by rw [e]; exact ⟨rfl, rfl, rfl⟩)]
    exact psame_way4 Va Vb a b w e0 e1 e2 e3 e4
  by_cases e5 : a.body = b.body
  rotate_left
  · rw [no _ e5 (fun e => by rw [e])]
    exact psame_way5 Va Vb a b w e0 e1 e2 e3 e4 e5
  exact psame_main Va Vb a b r w ha hb hr e0 e1 e2 e3 e4 e5
end Go.Proofs.Ythgnklgejlebhaa
