/-
  How the arguments of layer 13's statement are read: words, an instruction. Nothing of the program but the numbers of types.
-/
import Derived.Test.YtfpifpmndioefaaChB
import Derived.Test.YtfpifpmndioefaaChC
namespace Go.Proofs.Ytfpifpmndioefaa
open Go.ChangeShapes Go.WideShapes Go.ChangeAt Go.RowKit

theorem words_of {H : Type} {enc : TypeId × Value → H} {w : World} {base : Nat} {sp : Nat → Bool} {held : Bool} {a : Option Addr} {len cap : Nat} {d : DataW H} {p : List MemPlace}
    (h : DataW.Trod enc Try.prog w base sp held 22 (.slice a len cap) d p) : ∃ code, WordsAt w (.slice a len cap) code := by
  obtain ⟨fuel, h⟩ := h
  obtain ⟨L, h1, h2⟩ := els_of (k := 1) wRow (fun x => x < 4294967296) 0 Try.underlying22 (by kernel_rfl) (by decide) (fun n cs z hl hz => by
    match cs, hl with
    | [c0], _ =>
      obtain ⟨z0, e0, _, w0⟩ := DataW.trod_int Try.underlying40 hz
      simp at e0
      subst e0
      obtain ⟨m, rfl, hm⟩ := u32_nat w0
      exact ⟨m, rfl, hm⟩) h
  exact ⟨L, h1, h2⟩
/- an instruction as data -/
structure InsD where
  o : Int
  a : Int
  b : Int
  n : Int
theorem int_one : Try.prog.cellsOf 3 = 1 := by kernel_rfl
theorem ins_of {H : Type} {enc : TypeId × Value → H} {w : World} {base : Nat} {sp : Nat → Bool} {held : Bool} {cs : Array Value} (hc : cs.size = 4) {d : DataW H} {p : List MemPlace}
    (h : DataW.Trod enc Try.prog w base sp held IT (.agg cs) d p) : ∃ (_ : Unit) (x : InsD), cs = (insRow x.o x.a x.b x.n).toArray ∧ (Lit.int .i64 x.n).wf = true := by
  obtain ⟨fuel, h⟩ := h
  obtain ⟨l⟩ := cs
  match l, hc with
  | [c0, c1, c2, c3], _ =>
    have h' : DataW.trod enc Try.prog w base sp held fuel IT [c0, c1, c2, c3] = some (d, p) := h
    obtain ⟨xs, n', _, _, _, hxl, hf⟩ := DataW.trod_struct Try.underlying24 h'
    match xs, hxl with
    | [y0, y1, y2, y3], _ =>
      obtain ⟨z0, e0, _, w0⟩ := DataW.trod_int Try.underlying3 (hf 0 _ rfl)
      obtain ⟨z1, e1, _, w1⟩ := DataW.trod_int Try.underlying3 (hf 1 _ rfl)
      obtain ⟨z2, e2, _, w2⟩ := DataW.trod_int Try.underlying3 (hf 2 _ rfl)
      obtain ⟨z3, e3, _, w3⟩ := DataW.trod_int Try.underlying3 (hf 3 _ rfl)
      simp [int_one] at e0 e1 e2 e3
      subst e0 e1 e2 e3
      exact ⟨(), ⟨z0, z1, z2, z3⟩, rfl, w3⟩
end Go.Proofs.Ytfpifpmndioefaa
