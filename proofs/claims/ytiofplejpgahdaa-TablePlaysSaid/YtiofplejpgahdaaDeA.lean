/-
  The program's Line, Words, Extends (layer 16). Conditions: those that each theorem names.
-/
import Derived.Test.YtiofplejpgahdaaDeM
import Derived.Test.YtiofplejpgahdaaGrow
import Derived.Test.YtiofplejpgahdaaErr
import Derived.Deep.DeepCutAuto
import Derived.Lib.AppendZeros
import Derived.Laws.MakeOwn
namespace Go.Proofs.Ytiofplejpgahdaa
open Go.ChangeShapes Go.WideShapes Go.ChangeAt Go.RowKit

theorem intRow_len (x : Int) : (intRow x).length = 1 := rfl
theorem intRow_one (x : Int) : Ones (intRow x) := by intro u hu; simp only [intRow, List.mem_singleton] at hu; subst hu; rfl
abbrev InT : TypeId := 3
/- an append, at an operation that is wanted -/
theorem append_on {P : Program} {w : World} {ops : Array Oper} {rest : List Oper} {o : Oper} {a : Act} {Q : Exit → Act → World → Prop} (hw : Region.wanted o (yielded ops a.tmps) = true) (s x : Operand) (t tn : TypeId)
    (ho : o.op = .call { callee := .builtin .append, args := #[s, x], argTypes := #[t, tn] }) (vs vx : Value) (hs : a.eval s = vs) (hx : a.eval x = vx)
    (v' : Value) (w' : World) (hr : (Builtin.append_ #[t, tn] o.type #[vs, vx]).run P w = .ok v' w') (h : wpList P ops Q rest (a.put o.dst v') w') : wpList P ops Q (o :: rest) a w :=
  wpList_step fun _ hK => by
    rw [if_pos hw]
    exact Lib.wp_append_run w s x t tn ho vs vx hs hx v' w' hr (hK _ _ h)
theorem info_in : (Try.prog.info? InT).map (fun i => (i.zero, i.size, i.bytes)) = some (some (.int .i64 0), 1, 8) := by kernel_rfl
abbrev WdT : TypeId := 34
theorem info_wd : (Try.prog.info? WdT).map (fun i => (i.zero, i.size, i.bytes)) = some (some (.int .u32 0), 1, 4) := by kernel_rfl
theorem wordRow_len (x : Nat) : (wordRow x).length = 1 := rfl
theorem wordRow_one (x : Nat) : Ones (wordRow x) := by intro u hu; simp only [wordRow, List.mem_singleton] at hu; subst hu; rfl
theorem rows_words (cur : List Nat) : rows wordRow cur = cur.map fun x => Value.int .u32 ((x : Nat) : Int) := by
  induction cur with
  | nil => rfl
  | cons x cur ih => rw [rows_cons, ih]; rfl
/- make([]int, 0, m) -/
theorem make_line (m : Nat) (hm : m ≤ 4) (w : World) : (Instr.makeSlice 35 (.int .i64 0) (.int .i64 m)).run Try.prog w = .ok (.slice (some ⟨w.heap.size, 0, none⟩) 0 m) (w.alloc (.cells (madeCells #[.int .i64 0] m) InT)) := by
  obtain ⟨i, hi, hzz⟩ := Option.map_eq_some_iff.1 info_in
  simp only [Prod.mk.injEq] at hzz
  obtain ⟨hz, hs, hb⟩ := hzz
  have h := run_make (P := Try.prog) w 35 InT i _ Try.underlying35 hi hz .i64 .i64 0 (m : Int) (by omega) (by omega) (by rw [hb]; omega) (by omega)
  simp only [hs, Nat.mul_one, Int.toNat_zero, Int.toNat_natCast] at h
  exact h
/- append(append(make([]int, 0, n + 1), base..), at) -/
theorem line_run (wr : World) (v : Value) (base : List Int) (m : Nat) (at_ : Int) (h : ElsAt 1 intRow wr v base) (hm : base.length < m) (h4 : m ≤ 4) :
    ∃ a1 c1 w1 v2 w2, (Builtin.append_ #[35, 35] 35 #[.slice (some ⟨wr.heap.size, 0, none⟩) 0 m, v]).run Try.prog (wr.alloc (.cells (madeCells #[.int .i64 0] m) InT)) = .ok (.slice a1 base.length c1) w1 ∧
      (Builtin.append_ #[35, 35] 35 #[.slice a1 base.length c1, .slice (some ⟨w1.heap.size, 0, none⟩) 1 1]).run Try.prog (w1.alloc (.cells #[.int .i64 at_] InT)) = .ok v2 w2 ∧ ElsAt 1 intRow w2 v2 (base ++ [at_]) ∧ Below wr.heap.size wr w2 := by
  have hb0 : Below wr.heap.size wr (wr.alloc (.cells (madeCells #[.int .i64 0] m) InT)) := (Below.refl _ _).alloc (Nat.le_refl _) _
  have hr : RowAt (wr.alloc (.cells (madeCells #[.int .i64 0] m) InT)) wr.heap.size InT (madeCells #[.int .i64 0] m).toList := by
    have := RowAt.new wr InT (madeCells #[.int .i64 0] m).toList
    simpa using this
  have hs : SRow InT 1 (wr.alloc (.cells (madeCells #[.int .i64 0] m) InT)) (.slice (some ⟨wr.heap.size, 0, none⟩) 0 m) ([] : List Int).length (rows intRow ([] : List Int)) :=
    ⟨.inr ⟨_, m, (madeCells #[.int .i64 0] m).toList, rfl, hr, by simp [madeCells], Nat.zero_le _, Nat.le_trans h4 (by decide)⟩, by simp [rows], fun u hu => by cases hu⟩
  obtain ⟨v1, w1, q0, q1, q2, _⟩ := append_els (T := 35) Try.underlying35 info_in rfl (by decide) intRow_len intRow_one (by decide) hs (h.on hb0) (by simp) (by simp; omega)
  rw [List.nil_append] at q1
  obtain ⟨a1, c1, rfl, _⟩ := q1.shape
  have hb1 : Below wr.heap.size wr w1 := q2.1.below hb0 hb0.size fun j _ hj => by have e : j = wr.heap.size := hj; omega
  have hf : ∀ j, own (.slice a1 base.length c1) j → wr.heap.size ≤ j := fun j hj => by
    rcases q2.2 j hj with e | e
    · have e : j = wr.heap.size := e
      omega
    · exact Nat.le_trans hb0.size e
  obtain ⟨v2, w2, r0, r1, r2⟩ := more_el (T := 35) Try.underlying35 info_in rfl (by decide) intRow_len intRow_one q1 at_ (by omega)
  exact ⟨a1, c1, w1, v2, w2, q0, r0, r1.els intRow_len, r2.1.below hb1 hb1.size fun j _ hj => hf j hj⟩
/- a descriptor while its places are told -/
def partW (size : Int) (line : List Int) (m : Nat) : List Nat := [lowU size, if 0 < m then ancV line 0 else 0, if 1 < m then ancV line 1 else 0, if 2 < m then ancV line 2 else 0]
theorem partW_step (size : Int) (line : List Int) : ∀ m : Nat, m < 3 → (partW size line m).set (m + 1) (ancV line m) = partW size line (m + 1)
  | 0, _ => rfl
  | 1, _ => rfl
  | 2, _ => rfl
  | m + 3, h => by omega
theorem partW_at (size : Int) (line : List Int) : ∀ m : Nat, m < 3 → (partW size line m)[m + 1]? = some 0
  | 0, _ => rfl
  | 1, _ => rfl
  | 2, _ => rfl
  | m + 3, h => by omega
theorem partW_row0 (size : Int) (line : List Int) : rows wordRow (partW size line 0) = [.int .u32 (size % 4294967296), .int .u32 0, .int .u32 0, .int .u32 0] := by
  rw [← lowU_int]
  rfl
theorem partW_cell (size : Int) (line : List Int) {m : Nat} (h : m < 3) : (rows wordRow (partW size line m))[m + 1]? = some (.int .u32 0) := by
  rw [rows_words, List.getElem?_map, partW_at size line m h]
  rfl
theorem partW_set (size : Int) (line : List Int) {m : Nat} {x : Int} (h : m < 3) (hx : line[m]? = some x) (hm : m + 1 < line.length) : (rows wordRow (partW size line m)).set (m + 1) (.int .u32 (x % 4294967296)) = rows wordRow (partW size line (m + 1)) := by
  rw [← partW_step size line m h, rows_words, rows_words, List.map_set, ancV_some hx hm, lowU_int]
theorem partW_end (size : Int) (line : List Int) (k : Nat) (hk : line.length = k + 1) : partW size line k = descW size line := by
  have e : ∀ j : Nat, (if j < k then ancV line j else 0) = ancV line j := fun j => by
    split
    · rfl
    · exact (ancV_none (by omega)).symm
  unfold partW descW
  rw [e, e, e]
theorem desc_els {w : World} {b : Nat} {L : List Nat} (h : RowAt w b WdT (rows wordRow L)) (hl : L.length = 4) : ElsAt 1 wordRow w (.slice (some ⟨b, 0, none⟩) 4 4) L := by
  have hs : SRow WdT 1 w (.slice (some ⟨b, 0, none⟩) L.length 4) L.length (rows wordRow L) :=
    ⟨.inr ⟨_, 4, [], rfl, by rw [List.append_nil]; exact h, by simp [hl], by omega, by decide⟩, by rw [rows_length 1 wordRow_len], fun u hu => by obtain ⟨x, _, hx⟩ := List.mem_flatMap.1 hu; exact wordRow_one x u hx⟩
  rw [hl] at hs
  have := (hl ▸ hs : SRow WdT 1 w (.slice (some ⟨b, 0, none⟩) L.length 4) L.length (rows wordRow L)).els wordRow_len
  rw [hl] at this
  exact this
end Go.Proofs.Ytiofplejpgahdaa
