/-
  DescExtends (layer 16), at any arguments as they are read. No conditions.
-/
import Derived.Test.YtnnbcbabhcomjaaDeX
namespace Go.Proofs.Ytnnbcbabhcomjaa
open Go.ChangeShapes Go.WideShapes Go.ChangeAt Go.RowKit

theorem nums_in {H : Type} {enc : TypeId × Value → H} {w : World} {base : Nat} {sp : Nat → Bool} {held : Bool} {a : Option Addr} {len cap : Nat} {d : DataW H} {p : List MemPlace} (h : DataW.Trod enc Try.prog w base sp held 22 (.slice a len cap) d p) : ∃ L : List Int, ElsAt 1 intRow w (.slice a len cap) L ∧ ∀ y ∈ L, I64 y := by
  obtain ⟨_, h⟩ := h
  exact nums_of h
theorem code_in {H : Type} {enc : TypeId × Value → H} {w : World} {base : Nat} {sp : Nat → Bool} {held : Bool} {a : Option Addr} {len cap : Nat} {d : DataW H} {p : List MemPlace} (h : DataW.Trod enc Try.prog w base sp held 30 (.slice a len cap) d p) : ∃ L : List Nat, ElsAt 1 wordRow w (.slice a len cap) L ∧ ∀ y ∈ L, y < 4294967296 := by
  obtain ⟨_, h⟩ := h
  exact code_of h
theorem descExtends_read (a : Option Addr) (n cap : Nat) (a' : Option Addr) (n' cap' : Nat) (at_ other : Int) (w : World) (h : ∃ L : List Nat, ElsAt 1 wordRow w (.slice a n cap) L ∧ ∀ y ∈ L, y < 4294967296) (g : ∃ L : List Int, ElsAt 1 intRow w (.slice a' n' cap') L ∧ ∀ y ∈ L, I64 y) (_ : (Lit.int .i64 at_).wf = true) (_ : (Lit.int .i64 other).wf = true) :
    Calls Try.prog 4 #[.slice a n cap, .slice a' n' cap', .int .i64 at_, .int .i64 other] w fun e w' => e = .returned (.bool true) ∧ Below w.heap.size w w' := by
  obtain ⟨words, h, hf⟩ := h
  obtain ⟨base, g, _⟩ := g
  exact descExtends_all _ _ words base at_ other w h hf g
end Go.Proofs.Ytnnbcbabhcomjaa
