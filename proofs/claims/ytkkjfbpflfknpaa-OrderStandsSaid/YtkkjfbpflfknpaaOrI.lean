/-
  Files and names as they come in (layer 19). No conditions.
-/
import Derived.Test.YtkkjfbpflfknpaaOrA
namespace Go.Proofs.Ytkkjfbpflfknpaa
open Go.ChangeShapes Go.WideShapes Go.ChangeAt Go.RowKit

theorem files_in {H : Type} {enc : TypeId × Value → H} {w : World} {base : Nat} {sp : Nat → Bool} {held : Bool} {a : Option Addr} {len cap : Nat} {d : DataW H} {p : List MemPlace}
    (h : DataW.Trod enc Try.prog w base sp held 22 (.slice a len cap) d p) : ∃ L, FilesIn w (.slice a len cap) L ∧ ∀ x ∈ L, x.1.size ≤ maxLen := by
  obtain ⟨fuel, h⟩ := h
  have h : DataW.trod enc Try.prog w base sp held fuel 22 [.slice a len cap] = some (d, p) := h
  obtain ⟨L, h1, h2⟩ := els_of (k := 16) fileRow (fun x => x.1.size ≤ maxLen ∧ ObjAt w x.2.1 x.2.2) ⟨⟨#[]⟩, nilO, noObj⟩ Try.underlying22 (by kernel_rfl) (by decide) (fun n cs z hl hz => by
    match cs, hl with
    | [c0, c1, c2, c3, c4, c5, c6, c7, c8, c9, c10, c11, c12, c13, c14, c15], _ =>
      obtain ⟨xs, n', _, _, _, hxl, hf⟩ := DataW.trod_struct Try.underlying50 hz
      match xs, hxl with
      | [y0, y1], _ =>
        have k1 : Try.prog.cellsOf OT = 15 := by kernel_rfl
        obtain ⟨z0, e0, _, w0⟩ := DataW.trod_string Try.underlying9 (hf 0 _ rfl)
        have h1 := hf 1 _ rfl
        simp [one_str] at e0
        simp [k1] at h1
        obtain ⟨V, o, e, ho⟩ := obj_of (H := H) (enc := enc) (w := w) (base := base) (sp := sp) (held := held) (cs := #[c1, c2, c3, c4, c5, c6, c7, c8, c9, c10, c11, c12, c13, c14, c15]) rfl (d := y1.1) (p := y1.2) ⟨n', h1⟩
        have e := congrArg Array.toList e
        simp only [] at e
        refine ⟨⟨z0, V, o⟩, ?_, w0, ho⟩
        show _ = Value.string z0 :: ocells V o
        rw [e0]
        exact congrArg (Value.string z0 :: ·) e) h
  exact ⟨L, ⟨h1, fun x hx => (h2 x hx).2⟩, fun x hx => (h2 x hx).1⟩
end Go.Proofs.Ytkkjfbpflfknpaa
