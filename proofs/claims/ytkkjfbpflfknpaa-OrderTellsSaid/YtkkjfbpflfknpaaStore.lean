/-
  Stores of whole elements into rows, at the operation; results that are structs. Nothing of the program.
-/
import Derived.Test.YtkkjfbpflfknpaaEl
namespace Go.Proofs.Ytkkjfbpflfknpaa
open Go.ChangeShapes Go.WideShapes Go.ChangeAt Go.RowKit

/- a store whose run is known, at the operation -/
theorem wpList_store_run {P : Program} (w : World) {ops : Array Oper} {rest : List Oper} {o : Oper} {a : Act} {Q : Exit → Act → World → Prop} (hg : o.guard = none) (t : TypeId) (x v : Operand) (hop : o.op = Op.store t x v)
    (vx vv : Value) (hx : a.eval x = vx) (hv : a.eval v = vv) {w' : World} (hr : (Instr.storeAt t vx vv).run P w = .ok () w') (hK : wpList P ops Q rest (a.put o.dst undef) w') : wpList P ops Q (o :: rest) a w := by
  refine wpList_plain hg fun K' hK' => ?_
  unfold Oper.wp
  simp [execOp, hop, hx, hv, hr, Result.andThen]
  exact hK' _ _ hK
/- a whole element, stored into a row -/
theorem store_el {P : Program} {k : Nat} {w : World} {b : Nat} {t : TypeId} {cs : List Value} (h : RowAt w b t cs) (o : Nat) (x : El k) (ty : TypeId) (hs : (P.info? ty).map (·.size) = some k) (v : Value) (hv : v.cells.toList = x.cs) (hl : o + k ≤ cs.length) :
    (Instr.storeAt ty (.pointer (some ⟨b, o, none⟩)) v).run P w = .ok () (w.setRow b (splice cs o x.cs).toArray) := by
  have hst := store_row (P := P) h o x.cs (by rw [x.len]; exact hl) x.one
  have hc : v.cells.size = k := by rw [← x.len, ← hv, Array.length_toList]
  cases hq : P.info? ty with
  | none => simp [hq] at hs
  | some i =>
    have hi : i.size = k := by simpa [hq] using hs
    simp [Instr.storeAt, storeVar, Instr.sureAddr, sizeOf, typeInfo, hq, hc, hi, hv, hst]
/- all of a row of one element -/
theorem splice_all (cs xs : List Value) (h : cs.length = xs.length) : splice cs 0 xs = xs := by
  simp [splice, h]
end Go.Proofs.Ytkkjfbpflfknpaa
