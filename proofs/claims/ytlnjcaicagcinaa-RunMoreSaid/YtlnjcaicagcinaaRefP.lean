/-
  The document's zones (dowelref05): what can be done at a place. No conditions beyond those that each theorem names.
-/
import Derived.Test.YtlnjcaicagcinaaZoneT
namespace Go.Proofs.Ytlnjcaicagcinaa
open Go.ChangeShapes Go.WideShapes Go.ChangeAt Go.RowKit

abbrev RZT : TypeId := 58
/- the document's list -/
structure RefAt (w : World) (v : Value) (M : List ZR) : Prop where
  row : SRow RZT 6 w v M.length (zcs M)
  ints : ∀ x ∈ M, IntsAt w x.p x.z.P ∧ IntsAt w x.q x.z.Q
theorem RefAt.keep {w w' : World} {v : Value} {M : List ZR} (h : RefAt w v M) (k : Kept No w w') : RefAt w' v M :=
  ⟨h.row.keep k (fun _ _ h => h), fun x hx => ⟨(h.ints x hx).1.on k.none, (h.ints x hx).2.on k.none⟩⟩

theorem any_take_succ {α : Type} (p : α → Bool) (L : List α) (k : Nat) (x : α) (h : L[k]? = some x) : (L.take (k + 1)).any p = ((L.take k).any p || p x) := by
  rw [List.take_add_one, h]
  simp
theorem zone_edges {M : List ZR} (g : Good (M.map ZR.z)) {x : ZR} (hx : x ∈ M) : (272 ≤ x.z.b ∧ x.z.b ≤ x.z.d ∧ x.z.d ≤ x.z.r ∧ x.z.r ≤ x.z.e ∧ x.z.e ≤ 65536) ∧ x.z.r % 4 = 0 ∧ x.z.e % 4 = 0 := by
  have := (blockZ_iff x.z).1 (g.block x.z (List.mem_map.2 ⟨x, hx, rfl⟩))
  omega

end Go.Proofs.Ytlnjcaicagcinaa
