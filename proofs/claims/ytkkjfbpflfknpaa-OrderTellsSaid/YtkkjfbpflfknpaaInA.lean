/-
  Rows of one or two cells as elements, slices of blocks of their own from some block on, a slice told in three parts, a struct told. No conditions beyond those that each theorem names.
-/
import Derived.Test.YtkkjfbpflfknpaaGrow
import Derived.Test.YtkkjfbpflfknpaaObjA
import Derived.Test.YtkkjfbpflfknpaaStru
import Derived.Laws.MakeOwn
namespace Go.Proofs.Ytkkjfbpflfknpaa
open Go.ChangeShapes Go.WideShapes Go.ChangeAt Go.RowKit

abbrev nilS : Value := .slice none 0 0
theorem impRow_len (x : ByteArray × Nat) : (impRow x).length = 2 := rfl
theorem typeRow_len (x : Int × Int × Int) : (typeRow x).length = 3 := rfl
theorem cmdRow_len (x : ByteArray × Int) : (cmdRow x).length = 2 := rfl
theorem expRow_len (x : Int × Int) : (expRow x).length = 2 := rfl
theorem intRow_len (x : Int) : (intRow x).length = 1 := rfl
theorem intRow_one (x : Int) : Ones (intRow x) := by intro u hu; simp only [intRow, List.mem_singleton] at hu; subst hu; rfl
abbrev InT : TypeId := 3
theorem info_in : (Try.prog.info? InT).map (fun i => (i.zero, i.size, i.bytes)) = some (some (.int .i64 0), 1, 8) := by kernel_rfl
abbrev WdT : TypeId := 26
theorem info_wd : (Try.prog.info? WdT).map (fun i => (i.zero, i.size, i.bytes)) = some (some (.int .u32 0), 1, 4) := by kernel_rfl
theorem wordRow_len (x : Nat) : (wordRow x).length = 1 := rfl
theorem wordRow_one (x : Nat) : Ones (wordRow x) := by intro u hu; simp only [wordRow, List.mem_singleton] at hu; subst hu; rfl
theorem rows_words (cur : List Nat) : rows wordRow cur = cur.map fun x => Value.int .u32 ((x : Nat) : Int) := by
  induction cur with
  | nil => rfl
  | cons x cur ih => rw [rows_cons, ih]; rfl
abbrev ImT : TypeId := 54
theorem size_im : (Try.prog.info? ImT).map (·.size) = some 2 := by kernel_rfl
theorem ones_imp (x : ByteArray × Nat) : Ones (impRow x) := by intro u hu; simp only [impRow, List.mem_cons, List.not_mem_nil, or_false] at hu; rcases hu with rfl | rfl <;> rfl
theorem results_one {P : Program} {fn : Func} {p : Tmp} {ty : TypeId} (h : fn.results = #[.cell p ty]) (tmps : Array Value) (w : World) (g : Nat) (t : TypeId) (cs : Array Value) (fr : Nat × Nat) (d : TypeDesc)
    (hp : tmps.getD p undef = .pointer (some ⟨g, 0, none⟩)) (hg : w.heap[g]? = some (.cells cs t fr))
    (hu : P.underlying ty = some d) (hd : (match d with | .struct _ | .array _ _ => true | _ => false) = true) (hi : (P.info? ty).map (·.size) = some cs.size) :
    (results fn tmps).run P w = .ok (.agg cs) w := by
  have hp' : tmps[p]?.getD undef = .pointer (some ⟨g, 0, none⟩) := by simpa using hp
  simp [results, h, hp', asAddr, run_loadVar_row w g t ty cs fr d hg hu hd hi]
/- a slice's value is one cell -/
theorem ElsAt.one {α : Type} {k : Nat} {row : α → List Value} {w : World} {v : Value} {L : List α} (h : ElsAt k row w v L) : v.oneCell' = true := by
  obtain ⟨a, c, rfl, _⟩ := h.shape
  rfl
/- a slice of a block of its own, from lo on -/
structure In {α : Type} (lo : Nat) (t : TypeId) (k : Nat) (row : α → List Value) (w : World) (v : Value) (L : List α) : Prop where
  row : SRow t k w v L.length (rows row L)
  low : ∀ j, own v j → lo ≤ j
theorem In.keep {α : Type} {S : Nat → Prop} {lo : Nat} {t : TypeId} {k : Nat} {row : α → List Value} {w w' : World} {v : Value} {L : List α} (h : In lo t k row w v L) (kp : Kept S w w') (hS : ∀ j, own v j → ¬ S j) : In lo t k row w' v L := ⟨h.row.keep kp hS, h.low⟩
theorem In.on {α : Type} {lo : Nat} {t : TypeId} {k : Nat} {row : α → List Value} {w w' : World} {v : Value} {L : List α} (h : In lo t k row w v L) (hb : Below w.heap.size w w') : In lo t k row w' v L := h.keep (Kept.of_below (S := fun _ => False) hb) fun _ _ e => e
theorem In.nil {α : Type} (lo : Nat) (t : TypeId) (k : Nat) (row : α → List Value) (w : World) : In lo t k row w nilS ([] : List α) := ⟨SRow.nil _ _ _, fun _ h => h.elim⟩
theorem In.one {α : Type} {lo : Nat} {t : TypeId} {k : Nat} {row : α → List Value} {w : World} {v : Value} {L : List α} (h : In lo t k row w v L) : v.oneCell' = true := by
  obtain ⟨a, c, rfl, _⟩ := h.row.shape
  rfl
/- a row of another type is another block's -/
theorem SRow.off {t t' : TypeId} {k : Nat} {w : World} {v : Value} {n : Nat} {cs ds : List Value} {b : Nat} (h : SRow t k w v n cs) (g : RowAt w b t' ds) (hne : t ≠ t') : ¬ own v b := by
  rcases h.is with ⟨rfl, _⟩ | ⟨b', cap, rest, rfl, hr, _⟩
  · exact fun e => e
  · intro e
    have e : b = b' := e
    subst e
    unfold RowAt at hr g
    rw [hr] at g
    injection g with g
    injection g with g1 g2
    exact hne g2
theorem In.lower {α : Type} {lo lo' : Nat} {t : TypeId} {k : Nat} {row : α → List Value} {w : World} {v : Value} {L : List α} (h : In lo t k row w v L) (hl : lo' ≤ lo) : In lo' t k row w v L := ⟨h.row, fun j hj => Nat.le_trans hl (h.low j hj)⟩
/- a slice that is told, in three parts -/
def Sli (e : Ending) (P : Value → Prop) : Prop := ∃ a n c, e = .returned (.slice a n c) ∧ P (.slice a n c)
theorem In.sli {α : Type} {lo lo' : Nat} {t : TypeId} {k : Nat} {row : α → List Value} {w : World} {v : Value} {L : List α} {e : Ending} {P : Prop} (he : e = .returned v) (h : In lo t k row w v L) (hl : lo' ≤ lo) (hp : P) : Sli e fun v => In lo' t k row w v L ∧ P := by
  obtain ⟨a, c, rfl, _⟩ := h.row.shape
  exact ⟨a, _, c, he, h.lower hl, hp⟩
end Go.Proofs.Ytkkjfbpflfknpaa
