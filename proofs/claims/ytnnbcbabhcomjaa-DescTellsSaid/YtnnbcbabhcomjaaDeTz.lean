/-
  DescTells (layer 16), at any arguments as they are read. No conditions.
-/
import Derived.Test.YtnnbcbabhcomjaaDeT
namespace Go.Proofs.Ytnnbcbabhcomjaa
open Go.ChangeShapes Go.WideShapes Go.ChangeAt Go.RowKit

theorem nums_in {H : Type} {enc : TypeId × Value → H} {w : World} {base : Nat} {sp : Nat → Bool} {held : Bool} {a : Option Addr} {len cap : Nat} {d : DataW H} {p : List MemPlace} (h : DataW.Trod enc Try.prog w base sp held 22 (.slice a len cap) d p) : ∃ L : List Int, ElsAt 1 intRow w (.slice a len cap) L ∧ ∀ y ∈ L, I64 y := by
  obtain ⟨_, h⟩ := h
  exact nums_of h
theorem descTells_read (a : Option Addr) (n cap : Nat) (at_ size : Int) (a' : Option Addr) (n' cap' : Nat) (w : World) (h : ∃ L : List Int, ElsAt 1 intRow w (.slice a n cap) L ∧ ∀ y ∈ L, I64 y) (_ : (Lit.int .i64 at_).wf = true) (_ : (Lit.int .i64 size).wf = true) (g : ∃ L : List Int, ElsAt 1 intRow w (.slice a' n' cap') L ∧ ∀ y ∈ L, I64 y) :
    Calls Try.prog 3 #[.slice a n cap, .int .i64 at_, .int .i64 size, .slice a' n' cap'] w fun e w' => e = .returned (.bool true) ∧ Below w.heap.size w w' := by
  obtain ⟨base, h, _⟩ := h
  obtain ⟨line, g, _⟩ := g
  exact descTells_all _ _ base line at_ size w h g
end Go.Proofs.Ytnnbcbabhcomjaa
