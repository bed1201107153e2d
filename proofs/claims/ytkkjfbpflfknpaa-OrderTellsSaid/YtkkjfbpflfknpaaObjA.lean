/-
  Objects as they lie in memory (layer 12): read, and as arguments. No conditions beyond those that each theorem names.
-/
import Derived.Test.YtkkjfbpflfknpaaElsA
import Derived.Test.YtkkjfbpflfknpaaObjM
import Derived.Laws.IdiomArrays
namespace Go.Proofs.Ytkkjfbpflfknpaa
open Go.ChangeShapes Go.WideShapes Go.ChangeAt Go.RowKit

abbrev OT : TypeId := 48
def impRow (x : ByteArray × Nat) : List Value := [.string x.1, .int .u32 (x.2 : Nat)]
def typeRow (x : Int × Int × Int) : List Value := [.int .i64 x.1, .int .i64 x.2.1, .int .i64 x.2.2]
def wordRow (x : Nat) : List Value := [.int .u32 (x : Nat)]
def cmdRow (x : ByteArray × Int) : List Value := [.string x.1, .int .i64 x.2]
def expRow (x : Int × Int) : List Value := [.int .i64 x.1, .int .i64 x.2]
def intRow (x : Int) : List Value := [.int .i64 x]
structure ObjV where
  i : Value
  t : Value
  c : Value
  m : Value
  e : Value
  p : Value
  q : Value
def ocells (V : ObjV) (o : ObjD) : List Value :=
  [.string o.name, .int .u32 (o.key : Nat), V.i, V.t, .int .i64 o.data, .string o.text, V.c, V.m, V.e, V.p, V.q, .int .i64 o.f0, .int .i64 o.f1, .int .i64 o.f2, .int .i64 o.body]
abbrev I64 (x : Int) : Prop := -9223372036854775808 ≤ x ∧ x ≤ 9223372036854775807
structure ObjFit (o : ObjD) : Prop where
  name : o.name.size ≤ maxLen
  key : o.key < 4294967296
  imps : ∀ x ∈ o.imps, x.1.size ≤ maxLen ∧ x.2 < 4294967296
  types : ∀ x ∈ o.types, I64 x.1 ∧ I64 x.2.1 ∧ I64 x.2.2
  data : I64 o.data
  text : o.text.size ≤ maxLen
  code : ∀ x ∈ o.code, x < 4294967296
  cmds : ∀ x ∈ o.cmds, x.1.size ≤ maxLen ∧ I64 x.2
  exps : ∀ x ∈ o.exps, I64 x.1 ∧ I64 x.2
  ptrs : ∀ x ∈ o.ptrs, I64 x
  procs : ∀ x ∈ o.procs, I64 x
  f0 : I64 o.f0
  f1 : I64 o.f1
  f2 : I64 o.f2
  body : I64 o.body
structure ObjAt (w : World) (V : ObjV) (o : ObjD) : Prop where
  imps : ElsAt 2 impRow w V.i o.imps
  types : ElsAt 3 typeRow w V.t o.types
  code : ElsAt 1 wordRow w V.c o.code
  cmds : ElsAt 2 cmdRow w V.m o.cmds
  exps : ElsAt 2 expRow w V.e o.exps
  ptrs : ElsAt 1 intRow w V.p o.ptrs
  procs : ElsAt 1 intRow w V.q o.procs
  fit : ObjFit o
theorem ObjAt.on {w w' : World} {V : ObjV} {o : ObjD} (h : ObjAt w V o) (hb : Below w.heap.size w w') : ObjAt w' V o :=
  ⟨h.imps.on hb, h.types.on hb, h.code.on hb, h.cmds.on hb, h.exps.on hb, h.ptrs.on hb, h.procs.on hb, h.fit⟩

section
variable {H : Type} {enc : TypeId × Value → H} {w : World} {base : Nat} {sp : Nat → Bool} {held : Bool} {fuel : Nat} {c : Value} {x : DataW H × List MemPlace}
theorem one_int : Try.prog.cellsOf 3 = 1 := by kernel_rfl
theorem one_u32 : Try.prog.cellsOf 26 = 1 := by kernel_rfl
theorem one_str : Try.prog.cellsOf 9 = 1 := by kernel_rfl
theorem imps_of (h : DataW.trod enc Try.prog w base sp held fuel 40 [c] = some x) : ∃ L : List (ByteArray × Nat), ElsAt 2 impRow w c L ∧ ∀ y ∈ L, y.1.size ≤ maxLen ∧ y.2 < 4294967296 := by
  refine els_of (k := 2) impRow _ (⟨#[]⟩, 0) Try.underlying40 (by kernel_rfl) (by decide) (fun n cs z hl hz => ?_) h
  match cs, hl with
  | [c0, c1], _ =>
    obtain ⟨xs, n', _, _, _, hxl, hf⟩ := DataW.trod_struct Try.underlying54 hz
    match xs, hxl with
    | [y0, y1], _ =>
      obtain ⟨z0, e0, _, w0⟩ := DataW.trod_string Try.underlying9 (hf 0 _ rfl)
      obtain ⟨z1, e1, _, w1⟩ := DataW.trod_int Try.underlying26 (hf 1 _ rfl)
      simp [one_str] at e0
      simp [one_u32] at e1
      subst e0 e1
      obtain ⟨m, rfl, hm⟩ := u32_nat w1
      exact ⟨(z0, m), rfl, w0, hm⟩
theorem types_of (h : DataW.trod enc Try.prog w base sp held fuel 41 [c] = some x) : ∃ L : List (Int × Int × Int), ElsAt 3 typeRow w c L ∧ ∀ y ∈ L, I64 y.1 ∧ I64 y.2.1 ∧ I64 y.2.2 := by
  refine els_of (k := 3) typeRow _ (0, 0, 0) Try.underlying41 (by kernel_rfl) (by decide) (fun n cs z hl hz => ?_) h
  match cs, hl with
  | [c0, c1, c2], _ =>
    obtain ⟨xs, n', _, _, _, hxl, hf⟩ := DataW.trod_struct Try.underlying69 hz
    match xs, hxl with
    | [y0, y1, y2], _ =>
      obtain ⟨z0, e0, _, w0⟩ := DataW.trod_int Try.underlying3 (hf 0 _ rfl)
      obtain ⟨z1, e1, _, w1⟩ := DataW.trod_int Try.underlying3 (hf 1 _ rfl)
      obtain ⟨z2, e2, _, w2⟩ := DataW.trod_int Try.underlying3 (hf 2 _ rfl)
      simp [one_int] at e0 e1 e2
      subst e0 e1 e2
      exact ⟨(z0, z1, z2), rfl, bounds_i64 w0, bounds_i64 w1, bounds_i64 w2⟩
theorem code_of (h : DataW.trod enc Try.prog w base sp held fuel 42 [c] = some x) : ∃ L : List Nat, ElsAt 1 wordRow w c L ∧ ∀ y ∈ L, y < 4294967296 := by
  refine els_of (k := 1) wordRow _ 0 Try.underlying42 (by kernel_rfl) (by decide) (fun n cs z hl hz => ?_) h
  match cs, hl with
  | [c0], _ =>
    obtain ⟨z0, e0, _, w0⟩ := DataW.trod_int Try.underlying26 hz
    simp at e0
    subst e0
    obtain ⟨m, rfl, hm⟩ := u32_nat w0
    exact ⟨m, rfl, hm⟩
theorem cmds_of (h : DataW.trod enc Try.prog w base sp held fuel 43 [c] = some x) : ∃ L : List (ByteArray × Int), ElsAt 2 cmdRow w c L ∧ ∀ y ∈ L, y.1.size ≤ maxLen ∧ I64 y.2 := by
  refine els_of (k := 2) cmdRow _ (⟨#[]⟩, 0) Try.underlying43 (by kernel_rfl) (by decide) (fun n cs z hl hz => ?_) h
  match cs, hl with
  | [c0, c1], _ =>
    obtain ⟨xs, n', _, _, _, hxl, hf⟩ := DataW.trod_struct Try.underlying71 hz
    match xs, hxl with
    | [y0, y1], _ =>
      obtain ⟨z0, e0, _, w0⟩ := DataW.trod_string Try.underlying9 (hf 0 _ rfl)
      obtain ⟨z1, e1, _, w1⟩ := DataW.trod_int Try.underlying3 (hf 1 _ rfl)
      simp [one_str] at e0
      simp [one_int] at e1
      subst e0 e1
      exact ⟨(z0, z1), rfl, w0, bounds_i64 w1⟩
theorem exps_of (h : DataW.trod enc Try.prog w base sp held fuel 44 [c] = some x) : ∃ L : List (Int × Int), ElsAt 2 expRow w c L ∧ ∀ y ∈ L, I64 y.1 ∧ I64 y.2 := by
  refine els_of (k := 2) expRow _ (0, 0) Try.underlying44 (by kernel_rfl) (by decide) (fun n cs z hl hz => ?_) h
  match cs, hl with
  | [c0, c1], _ =>
    obtain ⟨xs, n', _, _, _, hxl, hf⟩ := DataW.trod_struct Try.underlying73 hz
    match xs, hxl with
    | [y0, y1], _ =>
      obtain ⟨z0, e0, _, w0⟩ := DataW.trod_int Try.underlying3 (hf 0 _ rfl)
      obtain ⟨z1, e1, _, w1⟩ := DataW.trod_int Try.underlying3 (hf 1 _ rfl)
      simp [one_int] at e0 e1
      subst e0 e1
      exact ⟨(z0, z1), rfl, bounds_i64 w0, bounds_i64 w1⟩
theorem nums_of (h : DataW.trod enc Try.prog w base sp held fuel 45 [c] = some x) : ∃ L : List Int, ElsAt 1 intRow w c L ∧ ∀ y ∈ L, I64 y := by
  refine els_of (k := 1) intRow _ 0 Try.underlying45 (by kernel_rfl) (by decide) (fun n cs z hl hz => ?_) h
  match cs, hl with
  | [c0], _ =>
    obtain ⟨z0, e0, _, w0⟩ := DataW.trod_int Try.underlying3 hz
    simp at e0
    subst e0
    exact ⟨z0, rfl, bounds_i64 w0⟩
end

/- an object that came in -/
theorem obj_of {H : Type} {enc : TypeId × Value → H} {w : World} {base : Nat} {sp : Nat → Bool} {held : Bool} {cs : Array Value} (hc : cs.size = 15) {d : DataW H} {p : List MemPlace}
    (h : DataW.Trod enc Try.prog w base sp held OT (.agg cs) d p) : ∃ V o, cs = (ocells V o).toArray ∧ ObjAt w V o := by
  obtain ⟨fuel, h⟩ := h
  obtain ⟨l⟩ := cs
  match l, hc with
  | [c0, c1, c2, c3, c4, c5, c6, c7, c8, c9, c10, c11, c12, c13, c14], _ =>
    have h' : DataW.trod enc Try.prog w base sp held fuel OT [c0, c1, c2, c3, c4, c5, c6, c7, c8, c9, c10, c11, c12, c13, c14] = some (d, p) := h
    obtain ⟨xs, n', _, _, _, hxl, hf⟩ := DataW.trod_struct Try.underlying48 h'
    match xs, hxl with
    | [y0, y1, y2, y3, y4, y5, y6, y7, y8, y9, y10, y11, y12], _ =>
      have n1 : Try.prog.cellsOf 40 = 1 := by kernel_rfl
      have n2 : Try.prog.cellsOf 41 = 1 := by kernel_rfl
      have n3 : Try.prog.cellsOf 42 = 1 := by kernel_rfl
      have n4 : Try.prog.cellsOf 43 = 1 := by kernel_rfl
      have n5 : Try.prog.cellsOf 44 = 1 := by kernel_rfl
      have n6 : Try.prog.cellsOf 45 = 1 := by kernel_rfl
      have n7 : Try.prog.cellsOf 46 = 3 := by kernel_rfl
      obtain ⟨s0, e0, _, w0⟩ := DataW.trod_string Try.underlying9 (hf 0 _ rfl)
      obtain ⟨z1, e1, _, w1⟩ := DataW.trod_int Try.underlying26 (hf 1 _ rfl)
      have k2 := hf 2 _ rfl
      have k3 := hf 3 _ rfl
      obtain ⟨z4, e4, _, w4⟩ := DataW.trod_int Try.underlying3 (hf 4 _ rfl)
      obtain ⟨s5, e5, _, w5⟩ := DataW.trod_string Try.underlying9 (hf 5 _ rfl)
      have k6 := hf 6 _ rfl
      have k7 := hf 7 _ rfl
      have k8 := hf 8 _ rfl
      have k9 := hf 9 _ rfl
      have k10 := hf 10 _ rfl
      have k11 := hf 11 _ rfl
      obtain ⟨z12, e12, _, w12⟩ := DataW.trod_int Try.underlying3 (hf 12 _ rfl)
      simp [one_str] at e0 e5
      simp [one_u32] at e1
      simp [one_int] at e4 e12
      simp [n1] at k2
      simp [n2] at k3
      simp [n3] at k6
      simp [n4] at k7
      simp [n5] at k8
      simp [n6] at k9 k10
      simp [n7] at k11
      obtain ⟨L2, h2, q2⟩ := imps_of k2
      obtain ⟨L3, h3, q3⟩ := types_of k3
      obtain ⟨L6, h6, q6⟩ := code_of k6
      obtain ⟨L7, h7, q7⟩ := cmds_of k7
      obtain ⟨L8, h8, q8⟩ := exps_of k8
      obtain ⟨L9, h9, q9⟩ := nums_of k9
      obtain ⟨L10, h10, q10⟩ := nums_of k10
      obtain ⟨u0, u1, u2, _, _, g0, g1, g2⟩ := trod_array3 Try.underlying46 one_int k11
      obtain ⟨f0, r0, _, v0⟩ := DataW.trod_int Try.underlying3 g0
      obtain ⟨f1, r1, _, v1⟩ := DataW.trod_int Try.underlying3 g1
      obtain ⟨f2, r2, _, v2⟩ := DataW.trod_int Try.underlying3 g2
      simp at r0 r1 r2
      subst e0 e1 e4 e5 e12 r0 r1 r2
      obtain ⟨m, rfl, hm⟩ := u32_nat w1
      exact ⟨⟨c2, c3, c6, c7, c8, c9, c10⟩, ⟨s0, m, L2, L3, z4, s5, L6, L7, L8, L9, L10, f0, f1, f2, z12⟩, rfl, ⟨h2, h3, h6, h7, h8, h9, h10,
        ⟨w0, hm, q2, q3, bounds_i64 w4, w5, q6, q7, q8, q9, q10, bounds_i64 v0, bounds_i64 v1, bounds_i64 v2, bounds_i64 w12⟩⟩⟩
end Go.Proofs.Ytkkjfbpflfknpaa
