/-
  Objects in variables of their own, structs copied into new variables; what small facts walks over objects want. Nothing of the program but the numbers of types.
-/
import Derived.Test.YtkkjfbpflfknpaaFewS
import Derived.Test.YtkkjfbpflfknpaaStru
import Derived.Deep.MidRow
namespace Go.Proofs.Ytkkjfbpflfknpaa
open Go.ChangeShapes Go.WideShapes Go.ChangeAt Go.RowKit

abbrev TyT : TypeId := 69
abbrev CmT : TypeId := 71
abbrev ExT : TypeId := 73
theorem Looks.on3 {w wr w' : World} {ob : Nat} {V : ObjV} {o : ObjD} (h : Looks w wr ob V o) (hb : Below wr.heap.size wr w') : Looks w w' ob V o :=
  ⟨h.row.keep (Kept.of_below (S := fun _ => False) hb) (fun e => e), below_on h.below hb h.below.size⟩
theorem RowAt.rangeC {w : World} {b : Nat} {t : TypeId} {cs : List Value} (h : RowAt w b t cs) : w.rangeAt b 0 cs := by
  intro j u hj
  rw [Nat.zero_add, h.cell, hj]
/- a whole element, copied into a new variable -/
theorem box_el (wr : World) (t : TypeId) (k : Nat) (zs xs : List Value) (hz : zs.length = k) (hx : xs.length = k) (h1 : Ones xs) (hs : (Try.prog.info? t).map (·.size) = some k) :
    (Instr.storeAt t (.pointer (some ⟨wr.heap.size, 0, none⟩)) (.agg xs.toArray)).run Try.prog (wr.alloc (.cells zs.toArray t)) = .ok () (wr.alloc (.cells xs.toArray t)) := by
  obtain ⟨r1, _, _⟩ := told_row (RowAt.new wr t zs) (xs := xs) (k := k) hz hx h1 hs
  rw [setRow_alloc] at r1
  exact r1
theorem ones_cmd (x : ByteArray × Int) : Ones (cmdRow x) := by intro u hu; simp only [cmdRow, List.mem_cons, List.not_mem_nil, or_false] at hu; rcases hu with rfl | rfl <;> rfl
theorem ones_exp (x : Int × Int) : Ones (expRow x) := by intro u hu; simp only [expRow, List.mem_cons, List.not_mem_nil, or_false] at hu; rcases hu with rfl | rfl <;> rfl
theorem ones_type (x : Int × Int × Int) : Ones (typeRow x) := by intro u hu; simp only [typeRow, List.mem_cons, List.not_mem_nil, or_false] at hu; rcases hu with rfl | rfl | rfl <;> rfl
theorem size_cm : (Try.prog.info? CmT).map (·.size) = some 2 := by kernel_rfl
theorem size_ex : (Try.prog.info? ExT).map (·.size) = some 2 := by kernel_rfl
theorem size_ty : (Try.prog.info? TyT).map (·.size) = some 3 := by kernel_rfl
/- an object in a variable of its own -/
theorem looks_new (w : World) (V : ObjV) (o : ObjD) : Looks w (w.alloc (.cells (ocells V o).toArray OT)) w.heap.size V o := ⟨RowAt.new w _ _, (Below.refl _ _).alloc (Nat.le_refl _) _⟩
theorem some_bool (P : Prop) : ∃ r : Bool, r = true ↔ P := by
  by_cases h : P
  · exact ⟨true, fun _ => h, fun _ => rfl⟩
  · exact ⟨false, (fun e => by cases e), fun e => absurd e h⟩
theorem str_ne {s t : ByteArray} (h : s ≠ t) : (s.toList == t.toList) = false := by
  rw [ByteArray.toList_eq, ByteArray.toList_eq, beq_eq_false_iff_ne]
  exact fun e => h (WideShapes.bytes_inj e)
theorem str_nq {s t : ByteArray} (h : s ≠ t) : ¬ s.toList = t.toList := by
  rw [ByteArray.toList_eq, ByteArray.toList_eq]
  exact fun e => h (WideShapes.bytes_inj e)
/- an object of nothing, and one of an instruction -/
def nilO : ObjV := ⟨.slice none 0 0, .slice none 0 0, .slice none 0 0, .slice none 0 0, .slice none 0 0, .slice none 0 0, .slice none 0 0⟩
theorem els_none {α : Type} (k : Nat) (row : α → List Value) (w : World) : ElsAt k row w (.slice none 0 0) [] := ⟨none, 0, 0, rfl, rfl, Nat.le_refl _, Nat.zero_le _, fun _ => rfl, .inl rfl⟩
theorem i64_0 : I64 0 := ⟨by decide, by decide⟩
theorem fit_none : ObjFit noObj := ⟨by decide, by decide, (fun x hx => by cases hx), (fun x hx => by cases hx), i64_0, by decide, (fun x hx => by cases hx), (fun x hx => by cases hx), (fun x hx => by cases hx), (fun x hx => by cases hx), (fun x hx => by cases hx), i64_0, i64_0, i64_0, i64_0⟩
theorem obj_none (w : World) : ObjAt w nilO noObj := ⟨els_none _ _ _, els_none _ _ _, els_none _ _ _, els_none _ _ _, els_none _ _ _, els_none _ _ _, els_none _ _ _, fit_none⟩
theorem ones_obj14 (V : ObjV) (o : ObjD) (w : World) (h : ObjAt w V o) : Ones (ocells V o) := by
  obtain ⟨_, _, h1, _⟩ := h.imps.shape
  obtain ⟨_, _, h2, _⟩ := h.types.shape
  obtain ⟨_, _, h3, _⟩ := h.code.shape
  obtain ⟨_, _, h4, _⟩ := h.cmds.shape
  obtain ⟨_, _, h5, _⟩ := h.exps.shape
  obtain ⟨_, _, h6, _⟩ := h.ptrs.shape
  obtain ⟨_, _, h7, _⟩ := h.procs.shape
  intro u hu
  simp only [ocells, List.mem_cons, List.not_mem_nil, or_false] at hu
  rcases hu with rfl | rfl | rfl | rfl | rfl | rfl | rfl | rfl | rfl | rfl | rfl | rfl | rfl | rfl | rfl <;> first | rfl | (rw [h1]; rfl) | (rw [h2]; rfl) | (rw [h3]; rfl) | (rw [h4]; rfl) | (rw [h5]; rfl) | (rw [h6]; rfl) | (rw [h7]; rfl)
/- an object, copied into a variable of its own -/
theorem box_obj (wr : World) (n : Nat) (hn : n = wr.heap.size) (V : ObjV) (o : ObjD) (h1 : Ones (ocells V o)) :
    (Instr.storeAt OT (.pointer (some ⟨n, 0, none⟩)) (.agg (ocells V o).toArray)).run Try.prog (wr.alloc (.cells (ocells nilO noObj).toArray OT)) = .ok () (wr.alloc (.cells (ocells V o).toArray OT)) := by
  subst hn
  exact box_el wr OT 15 (ocells nilO noObj) (ocells V o) rfl rfl h1 size_ob
/- texts, as elements -/
abbrev StT : TypeId := 9
abbrev SlT : TypeId := 23
def sRow (s : ByteArray) : List Value := [.string s]
theorem sRow_len (s : ByteArray) : (sRow s).length = 1 := rfl
theorem sRow_one (s : ByteArray) : Ones (sRow s) := by intro u hu; simp only [sRow, List.mem_singleton] at hu; subst hu; rfl
theorem info_st : (Try.prog.info? StT).map (fun i => (i.zero, i.size, i.bytes)) = some (some (.string ⟨#[]⟩), 1, 16) := by kernel_rfl
theorem take_next {α : Type} {L : List α} {m : Nat} {x : α} (h : L[m]? = some x) : L.take m ++ [x] = L.take (m + 1) := by
  rw [List.take_add_one, h]
  rfl
end Go.Proofs.Ytkkjfbpflfknpaa
