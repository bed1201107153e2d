/-
  RelocLinks (layer 17), at any arguments as they are read. No conditions.
-/
import Derived.Test.YtjdahhckofjjhaaReT
namespace Go.Proofs.Ytjdahhckofjjhaa
open Go.ChangeShapes Go.WideShapes Go.ChangeAt Go.RowKit

theorem code_in {H : Type} {enc : TypeId × Value → H} {w : World} {base : Nat} {sp : Nat → Bool} {held : Bool} {a : Option Addr} {len cap : Nat} {d : DataW H} {p : List MemPlace} (h : DataW.Trod enc Try.prog w base sp held 22 (.slice a len cap) d p) : ∃ L : List Nat, ElsAt 1 wordRow w (.slice a len cap) L ∧ ∀ y ∈ L, y < 4294967296 := by
  obtain ⟨_, h⟩ := h
  exact code_of h
theorem fixes_of {H : Type} {enc : TypeId × Value → H} {w : World} {base : Nat} {sp : Nat → Bool} {held : Bool} {fuel : Nat} {c : Value} {x : DataW H × List MemPlace} (h : DataW.trod enc Try.prog w base sp held fuel 23 [c] = some x) : ∃ L : List (Int × Int), ElsAt 2 fixRow w c L ∧ ∀ y ∈ L, I64 y.1 ∧ I64 y.2 := by
  refine els_of (k := 2) fixRow _ (0, 0) Try.underlying23 (by kernel_rfl) (by decide) (fun n cs z hl hz => ?_) h
  match cs, hl with
  | [c0, c1], _ =>
    obtain ⟨xs, n', _, _, _, hxl, hf⟩ := DataW.trod_struct Try.underlying27 hz
    match xs, hxl with
    | [y0, y1], _ =>
      obtain ⟨z0, e0, _, w0⟩ := DataW.trod_int Try.underlying3 (hf 0 _ rfl)
      obtain ⟨z1, e1, _, w1⟩ := DataW.trod_int Try.underlying3 (hf 1 _ rfl)
      simp [one_int] at e0 e1
      subst e0 e1
      exact ⟨(z0, z1), rfl, bounds_i64 w0, bounds_i64 w1⟩
theorem fixes_in {H : Type} {enc : TypeId × Value → H} {w : World} {base : Nat} {sp : Nat → Bool} {held : Bool} {a : Option Addr} {len cap : Nat} {d : DataW H} {p : List MemPlace} (h : DataW.Trod enc Try.prog w base sp held 23 (.slice a len cap) d p) : ∃ L : List (Int × Int), ElsAt 2 fixRow w (.slice a len cap) L ∧ ∀ y ∈ L, I64 y.1 ∧ I64 y.2 := by
  obtain ⟨_, h⟩ := h
  exact fixes_of h
theorem relocLinks_read (a : Option Addr) (n cap : Nat) (from_ : Int) (a' : Option Addr) (n' cap' : Nat) (w : World) (h : ∃ L : List Nat, ElsAt 1 wordRow w (.slice a n cap) L ∧ ∀ y ∈ L, y < 4294967296) (_ : (Lit.int .i64 from_).wf = true) (g : ∃ L : List (Int × Int), ElsAt 2 fixRow w (.slice a' n' cap') L ∧ ∀ y ∈ L, I64 y.1 ∧ I64 y.2) :
    Calls Try.prog 3 #[.slice a n cap, .int .i64 from_, .slice a' n' cap'] w fun e w' => e = .returned (.bool true) ∧ Below w.heap.size w w' := by
  obtain ⟨code, h, hf⟩ := h
  obtain ⟨fixes, g, _⟩ := g
  exact relocLinks_all _ _ code from_ fixes w h hf g
end Go.Proofs.Ytjdahhckofjjhaa
