/-
  Structs that lie in blocks of their own: stored whole, loaded whole, told as results. Nothing of the program.
-/
import Derived.Test.YtkkjfbpflfknpaaStore
import Derived.Laws.Rows
namespace Go.Proofs.Ytkkjfbpflfknpaa
open Go.ChangeShapes Go.WideShapes Go.ChangeAt Go.RowKit

/- a whole element stored into a block of its own -/
theorem told_row {w : World} {b k : Nat} {t : TypeId} {cs xs : List Value} (h : RowAt w b t cs) (hc : cs.length = k) (hx : xs.length = k) (h1 : Ones xs) (hs : (Try.prog.info? t).map (·.size) = some k) :
    (Instr.storeAt t (.pointer (some ⟨b, 0, none⟩)) (.agg xs.toArray)).run Try.prog w = .ok () (w.setRow b xs.toArray) ∧ RowAt (w.setRow b xs.toArray) b t xs ∧ Kept (· = b) w (w.setRow b xs.toArray) := by
  have hr := store_el (P := Try.prog) h 0 (⟨xs, hx, h1⟩ : El k) t hs (.agg xs.toArray) (by simp [Value.cells]) (by omega)
  rw [splice_all cs xs (by omega)] at hr
  exact ⟨hr, h.set xs, kept_row w b _⟩
/- a result that is a struct, and one behind it -/
theorem results_two {P : Program} {fn : Func} {p q : Tmp} {ty : TypeId} (h : fn.results = #[.cell p ty, .tmp q]) (tmps : Array Value) (w : World) (g : Nat) (t : TypeId) (cs : Array Value) (fr : Nat × Nat) (d : TypeDesc) (v : Value)
    (hp : tmps.getD p undef = .pointer (some ⟨g, 0, none⟩)) (hq : tmps.getD q undef = v) (hg : w.heap[g]? = some (.cells cs t fr))
    (hu : P.underlying ty = some d) (hd : (match d with | .struct _ | .array _ _ => true | _ => false) = true) (hi : (P.info? ty).map (·.size) = some cs.size) :
    (results fn tmps).run P w = .ok (.tuple #[.agg cs, v]) w := by
  have hp' : tmps[p]?.getD undef = .pointer (some ⟨g, 0, none⟩) := by simpa using hp
  have hq' : tmps[q]?.getD undef = v := by simpa using hq
  simp [results, h, hp', hq', asAddr, run_loadVar_row w g t ty cs fr d hg hu hd hi]
/- a load of all of a row, at an operation that is wanted -/
theorem load_row_on {P : Program} {ops : Array Oper} {rest : List Oper} {o : Oper} {a : Act} {w : World} {Q : Exit → Act → World → Prop} (hw : Region.wanted o (yielded ops a.tmps) = true) (ty : TypeId) (x : Operand) (ho : o.op = .load ty x)
    (g : Nat) (hx : a.eval x = .pointer (some ⟨g, 0, none⟩)) (t : TypeId) (cs : Array Value) (fr : Nat × Nat) (d : TypeDesc) (hg : w.heap[g]? = some (.cells cs t fr))
    (hu : P.underlying ty = some d) (hd : (match d with | .struct _ | .array _ _ => true | _ => false) = true) (hi : (P.info? ty).map (·.size) = some cs.size)
    (h : wpList P ops Q rest (a.put o.dst (.agg cs)) w) : wpList P ops Q (o :: rest) a w :=
  wpList_step fun _ hK => by
    rw [if_pos hw]
    exact wp_load_row ty x ho g hx t cs fr d hg hu hd hi (hK _ _ h)
end Go.Proofs.Ytkkjfbpflfknpaa
