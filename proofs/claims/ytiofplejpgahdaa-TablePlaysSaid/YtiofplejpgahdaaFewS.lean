/-
  fewIs and Few of layer 12's statements: where they tell so, an object's parts are few, and its names short. No conditions beyond those that each theorem names. (Written by wip/tools/few-s.py.)
-/
import Derived.Test.YtiofplejpgahdaaObjA
import Derived.Test.YtiofplejpgahdaaStru
import Derived.Deep.DeepCutAuto
namespace Go.Proofs.Ytiofplejpgahdaa
open Go.ChangeShapes Go.WideShapes Go.ChangeAt Go.RowKit

/- few, and short -/
structure Small (o : ObjD) : Prop where
  name : o.name.size ≤ 300
  text : o.text.size ≤ 300
  imps : o.imps.length ≤ 20
  types : o.types.length ≤ 20
  code : o.code.length ≤ 1100
  cmds : o.cmds.length ≤ 20
  exps : o.exps.length ≤ 300
  ptrs : o.ptrs.length ≤ 300
  procs : o.procs.length ≤ 300
  impn : ∀ (i : Nat) (x : ByteArray × Nat), o.imps[i]? = some x → x.1.size ≤ 300
  cmdn : ∀ (i : Nat) (x : ByteArray × Int), o.cmds[i]? = some x → x.1.size ≤ 300
end Go.Proofs.Ytiofplejpgahdaa
