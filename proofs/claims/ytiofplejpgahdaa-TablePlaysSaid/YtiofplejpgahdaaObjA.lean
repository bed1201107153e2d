/-
  Objects as they lie in memory (layer 12): read, and as arguments. No conditions beyond those that each theorem names.
-/
import Derived.Test.YtiofplejpgahdaaElsA
import Derived.Test.YtiofplejpgahdaaObjM
import Derived.Laws.IdiomArrays
namespace Go.Proofs.Ytiofplejpgahdaa
open Go.ChangeShapes Go.WideShapes Go.ChangeAt Go.RowKit

def impRow (x : ByteArray × Nat) : List Value := [.string x.1, .int .u32 (x.2 : Nat)]
def typeRow (x : Int × Int × Int) : List Value := [.int .i64 x.1, .int .i64 x.2.1, .int .i64 x.2.2]
def wordRow (x : Nat) : List Value := [.int .u32 (x : Nat)]
def cmdRow (x : ByteArray × Int) : List Value := [.string x.1, .int .i64 x.2]
def expRow (x : Int × Int) : List Value := [.int .i64 x.1, .int .i64 x.2]
def intRow (x : Int) : List Value := [.int .i64 x]
structure ObjV where
  i : Value
  t : Value
  c : Value
  m : Value
  e : Value
  p : Value
  q : Value
def ocells (V : ObjV) (o : ObjD) : List Value :=
  [.string o.name, .int .u32 (o.key : Nat), V.i, V.t, .int .i64 o.data, .string o.text, V.c, V.m, V.e, V.p, V.q, .int .i64 o.f0, .int .i64 o.f1, .int .i64 o.f2, .int .i64 o.body]
abbrev I64 (x : Int) : Prop := -9223372036854775808 ≤ x ∧ x ≤ 9223372036854775807
structure ObjFit (o : ObjD) : Prop where
  name : o.name.size ≤ maxLen
  key : o.key < 4294967296
  imps : ∀ x ∈ o.imps, x.1.size ≤ maxLen ∧ x.2 < 4294967296
  types : ∀ x ∈ o.types, I64 x.1 ∧ I64 x.2.1 ∧ I64 x.2.2
  data : I64 o.data
  text : o.text.size ≤ maxLen
  code : ∀ x ∈ o.code, x < 4294967296
  cmds : ∀ x ∈ o.cmds, x.1.size ≤ maxLen ∧ I64 x.2
  exps : ∀ x ∈ o.exps, I64 x.1 ∧ I64 x.2
  ptrs : ∀ x ∈ o.ptrs, I64 x
  procs : ∀ x ∈ o.procs, I64 x
  f0 : I64 o.f0
  f1 : I64 o.f1
  f2 : I64 o.f2
  body : I64 o.body
structure ObjAt (w : World) (V : ObjV) (o : ObjD) : Prop where
  imps : ElsAt 2 impRow w V.i o.imps
  types : ElsAt 3 typeRow w V.t o.types
  code : ElsAt 1 wordRow w V.c o.code
  cmds : ElsAt 2 cmdRow w V.m o.cmds
  exps : ElsAt 2 expRow w V.e o.exps
  ptrs : ElsAt 1 intRow w V.p o.ptrs
  procs : ElsAt 1 intRow w V.q o.procs
  fit : ObjFit o
theorem ObjAt.on {w w' : World} {V : ObjV} {o : ObjD} (h : ObjAt w V o) (hb : Below w.heap.size w w') : ObjAt w' V o :=
  ⟨h.imps.on hb, h.types.on hb, h.code.on hb, h.cmds.on hb, h.exps.on hb, h.ptrs.on hb, h.procs.on hb, h.fit⟩

section
variable {H : Type} {enc : TypeId × Value → H} {w : World} {base : Nat} {sp : Nat → Bool} {held : Bool} {fuel : Nat} {c : Value} {x : DataW H × List MemPlace}
theorem one_int : Try.prog.cellsOf 3 = 1 := by kernel_rfl
theorem one_u32 : Try.prog.cellsOf 34 = 1 := by kernel_rfl
theorem one_str : Try.prog.cellsOf 9 = 1 := by kernel_rfl
theorem cmds_of (h : DataW.trod enc Try.prog w base sp held fuel 39 [c] = some x) : ∃ L : List (ByteArray × Int), ElsAt 2 cmdRow w c L ∧ ∀ y ∈ L, y.1.size ≤ maxLen ∧ I64 y.2 := by
  refine els_of (k := 2) cmdRow _ (⟨#[]⟩, 0) Try.underlying39 (by kernel_rfl) (by decide) (fun n cs z hl hz => ?_) h
  match cs, hl with
  | [c0, c1], _ =>
    obtain ⟨xs, n', _, _, _, hxl, hf⟩ := DataW.trod_struct Try.underlying67 hz
    match xs, hxl with
    | [y0, y1], _ =>
      obtain ⟨z0, e0, _, w0⟩ := DataW.trod_string Try.underlying9 (hf 0 _ rfl)
      obtain ⟨z1, e1, _, w1⟩ := DataW.trod_int Try.underlying3 (hf 1 _ rfl)
      simp [one_str] at e0
      simp [one_int] at e1
      subst e0 e1
      exact ⟨(z0, z1), rfl, w0, bounds_i64 w1⟩
theorem nums_of (h : DataW.trod enc Try.prog w base sp held fuel 35 [c] = some x) : ∃ L : List Int, ElsAt 1 intRow w c L ∧ ∀ y ∈ L, I64 y := by
  refine els_of (k := 1) intRow _ 0 Try.underlying35 (by kernel_rfl) (by decide) (fun n cs z hl hz => ?_) h
  match cs, hl with
  | [c0], _ =>
    obtain ⟨z0, e0, _, w0⟩ := DataW.trod_int Try.underlying3 hz
    simp at e0
    subst e0
    exact ⟨z0, rfl, bounds_i64 w0⟩
end

end Go.Proofs.Ytiofplejpgahdaa
