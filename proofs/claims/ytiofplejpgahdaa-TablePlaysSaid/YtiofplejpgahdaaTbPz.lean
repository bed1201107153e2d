/-
  TablePlays (layer 18), at any arguments as they are read. No conditions.
-/
import Derived.Test.YtiofplejpgahdaaTbP
namespace Go.Proofs.Ytiofplejpgahdaa
open Go.ChangeShapes Go.WideShapes Go.ChangeAt Go.RowKit

theorem tablePlays_read (most : Int) (a : Option Addr) (n cap : Nat) (s : ByteArray) (w : World) (_ : (Lit.int .i64 most).wf = true) (h : ∃ L, DeedsT w (.slice a n cap) L ∧ ∀ x ∈ L, I64 x.base) (_ : s.size ≤ maxLen) :
    Calls Try.prog 3 #[.int .i64 most, .slice a n cap, .string s] w fun e w' => e = .returned (.bool true) ∧ Below w.heap.size w w' := by
  obtain ⟨L, h, _⟩ := h
  exact tablePlays_any most _ L s w h
end Go.Proofs.Ytiofplejpgahdaa
