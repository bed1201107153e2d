/-
  TableKeeps (layer 18), at any arguments as they are read. No conditions.
-/
import Derived.Test.YtiofplejpgahdaaTbK
namespace Go.Proofs.Ytiofplejpgahdaa
open Go.ChangeShapes Go.WideShapes Go.ChangeAt Go.RowKit

theorem ints_in {H : Type} {enc : TypeId × Value → H} {w : World} {base : Nat} {sp : Nat → Bool} {held : Bool} {a : Option Addr} {len cap : Nat} {d : DataW H} {p : List MemPlace} (h : DataW.Trod enc Try.prog w base sp held 35 (.slice a len cap) d p) : ∃ L : List Int, ElsAt 1 intRow w (.slice a len cap) L ∧ ∀ y ∈ L, I64 y := by
  obtain ⟨_, h⟩ := h
  exact nums_of h
theorem tableKeeps_read (a : Option Addr) (n cap : Nat) (a' : Option Addr) (n' cap' : Nat) (w : World) (h : ∃ L, DeedsT w (.slice a n cap) L ∧ ∀ x ∈ L, I64 x.base) (g : ∃ L : List Int, ElsAt 1 intRow w (.slice a' n' cap') L ∧ ∀ y ∈ L, I64 y) :
    Calls Try.prog 4 #[.slice a n cap, .slice a' n' cap'] w fun e w' => e = .returned (.bool true) ∧ Below w.heap.size w w' := by
  obtain ⟨L, h, _⟩ := h
  obtain ⟨l, g, _⟩ := g
  exact tableKeeps_any _ _ L l w h g
end Go.Proofs.Ytiofplejpgahdaa
