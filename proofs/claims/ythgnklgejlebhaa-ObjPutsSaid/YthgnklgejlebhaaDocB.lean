/-
  While the document's Object goes on (layer 12): what is held, and what each step leaves of it. No conditions beyond those that each theorem names. (Written by wip/tools/obj-doc.py.)
-/
import Derived.Test.YthgnklgejlebhaaDocA
namespace Go.Proofs.Ythgnklgejlebhaa
open Go.ChangeShapes Go.WideShapes Go.ChangeAt Go.RowKit

/- the blocks of an object's lists -/
def owns (V : ObjV) (j : Nat) : Prop := own V.i j ∨ own V.t j ∨ own V.c j ∨ own V.m j ∨ own V.e j ∨ own V.p j ∨ own V.q j
theorem Lists.keep {S : Nat → Prop} {w w' : World} {V : ObjV} {o : ObjD} (h : Lists w V o) (k : Kept S w w') (hS : ∀ j, owns V j → ¬ S j) : Lists w' V o :=
  ⟨h.imps.keep k (fun j hj => hS j (.inl (hj))), h.types.keep k (fun j hj => hS j (.inr (.inl (hj)))), h.code.keep k (fun j hj => hS j (.inr (.inr (.inl (hj))))), h.cmds.keep k (fun j hj => hS j (.inr (.inr (.inr (.inl (hj)))))), h.exps.keep k (fun j hj => hS j (.inr (.inr (.inr (.inr (.inl (hj))))))), h.ptrs.keep k (fun j hj => hS j (.inr (.inr (.inr (.inr (.inr (.inl (hj)))))))), h.procs.keep k (fun j hj => hS j (.inr (.inr (.inr (.inr (.inr (.inr (hj))))))))⟩
theorem Lists.lt {w : World} {V : ObjV} {o : ObjD} (h : Lists w V o) : ∀ j, owns V j → j < w.heap.size := by
  intro j hj
  rcases hj with hj | hj | hj | hj | hj | hj | hj
  · exact h.imps.own_lt j hj
  · exact h.types.own_lt j hj
  · exact h.code.own_lt j hj
  · exact h.cmds.own_lt j hj
  · exact h.exps.own_lt j hj
  · exact h.ptrs.own_lt j hj
  · exact h.procs.own_lt j hj
theorem Lists.off {w : World} {V : ObjV} {o : ObjD} (h : Lists w V o) {b : Nat} {t : TypeId} {ds : List Value} (hr : RowAt w b t ds) (ht : 53 ≠ t ∧ 55 ≠ t ∧ 22 ≠ t ∧ 57 ≠ t ∧ 59 ≠ t ∧ 3 ≠ t) : ∀ j, owns V j → ¬ j = b := by
  intro j hj
  rcases hj with hj | hj | hj | hj | hj | hj | hj
  · exact h.imps.off hr ht.1 j hj
  · exact h.types.off hr ht.2.1 j hj
  · exact h.code.off hr ht.2.2.1 j hj
  · exact h.cmds.off hr ht.2.2.2.1 j hj
  · exact h.exps.off hr ht.2.2.2.2.1 j hj
  · exact h.ptrs.off hr ht.2.2.2.2.2 j hj
  · exact h.procs.off hr ht.2.2.2.2.2 j hj
theorem SRow.apart {t t' : TypeId} {k k' : Nat} {w : World} {v v' : Value} {n n' : Nat} {cs cs' : List Value} (h : SRow t k w v n cs) (g : SRow t' k' w v' n' cs') (ht : t ≠ t') : ∀ j, own v j → ¬ own v' j := by
  intro j hj hj'
  rcases g.is with ⟨rfl, _⟩ | ⟨b, cap, rest, rfl, hr, _⟩
  · exact hj'
  · exact h.off hr ht j hj hj'
structure Ob (w : World) (rb b5 b2 : Nat) (v0 : Value) (l : List Nat) (wr : World) (V : ObjV) (o : ObjD) (s : Ps) : Prop where
  rd : RdP wr rb w.heap.size v0 l s
  row : RowAt wr b5 OT (ocells V o)
  res : RowAt wr b2 OT (ocells nilV noObj)
  lists : Lists wr V o
  kept : Kept (fun j => w.heap.size ≤ j) w wr
  lo : w.heap.size ≤ rb ∧ w.heap.size ≤ b5 ∧ w.heap.size ≤ b2
  ne : rb ≠ b5 ∧ rb ≠ b2 ∧ b5 ≠ b2
  new : ∀ j, owns V j → w.heap.size ≤ j
section
variable {w : World} {rb b5 b2 : Nat} {v0 : Value} {l : List Nat} {wr w' : World} {V : ObjV} {o : ObjD} {s s' : Ps}
theorem Ob.read (h : Ob w rb b5 b2 v0 l wr V o s) (hr : RdP w' rb w.heap.size v0 l s') (k : Kept (· = rb) wr w') : Ob w rb b5 b2 v0 l w' V o s' := by
  obtain ⟨ds, hd⟩ := h.rd.head
  exact ⟨hr, h.row.keep k (fun e => h.ne.1 e.symm), h.res.keep k (fun e => h.ne.2.1 e.symm), h.lists.keep k (h.lists.off hd (by decide)), h.kept.then k (fun j _ e => by rw [e]; exact h.lo.1), h.lo, h.ne, h.new⟩
theorem Ob.on (h : Ob w rb b5 b2 v0 l wr V o s) (k : Kept (fun _ => False) wr w') : Ob w rb b5 b2 v0 l w' V o s :=
  ⟨h.rd.keep k (fun h => h) (fun _ h => h.elim), h.row.keep k (fun h => h), h.res.keep k (fun h => h), h.lists.keep k (fun _ _ h => h), h.kept.then k (fun _ _ h => h.elim), h.lo, h.ne, h.new⟩
/- a variable of its own, made behind all that -/
structure Fresh (w : World) (rb b5 b2 : Nat) (V : ObjV) (xb : Nat) : Prop where
  lo : w.heap.size ≤ xb
  ne : xb ≠ rb ∧ xb ≠ b5 ∧ xb ≠ b2
  off : ¬ owns V xb
theorem Ob.fresh (h : Ob w rb b5 b2 v0 l wr V o s) : Fresh w rb b5 b2 V wr.heap.size :=
  ⟨h.kept.more, ⟨fun e => by have := h.rd.lt; omega, fun e => by have := h.row.lt; omega, fun e => by have := h.res.lt; omega⟩, fun e => by have := h.lists.lt _ e; omega⟩
theorem Ob.var (h : Ob w rb b5 b2 v0 l wr V o s) {xb : Nat} (f : Fresh w rb b5 b2 V xb) (k : Kept (· = xb) wr w') : Ob w rb b5 b2 v0 l w' V o s :=
  ⟨h.rd.keep k (fun e => f.ne.1 e.symm) (fun j e => by rw [e]; exact f.lo), h.row.keep k (fun e => f.ne.2.1 e.symm), h.res.keep k (fun e => f.ne.2.2 e.symm), h.lists.keep k (fun j hj e => f.off (e ▸ hj)), h.kept.then k (fun j _ e => by rw [e]; exact f.lo), h.lo, h.ne, h.new⟩
/- a number or a text, stored -/
theorem Ob.set (h : Ob w rb b5 b2 v0 l wr V o s) (i : Nat) (u : Value) (o' : ObjD) (ho : (ocells V o).set i u = ocells V o') (hl : Lists wr V o') : Ob w rb b5 b2 v0 l (wr.setCell ⟨b5, i, none⟩ u) V o' s := by
  have k := kept_set wr b5 i u
  have r := h.row.setCell i u
  rw [ho] at r
  exact ⟨h.rd.keep k (fun e => h.ne.1 e) (fun j e => by rw [e]; exact h.lo.2.1), r, h.res.keep k (fun e => h.ne.2.2 e.symm), hl.keep k (hl.off h.row (by decide)), h.kept.then k (fun j _ e => by rw [e]; exact h.lo.2.1), h.lo, h.ne, h.new⟩
/- a list in a row of its own, stored in another's place -/
theorem Ob.put (h : Ob w rb b5 b2 v0 l wr V o s) (i : Nat) (u : Value) (V' : ObjV) (o' : ObjD) (ho : (ocells V o).set i u = ocells V' o') (hl : Lists wr V' o') (hn : ∀ j, owns V' j → w.heap.size ≤ j) : Ob w rb b5 b2 v0 l (wr.setCell ⟨b5, i, none⟩ u) V' o' s := by
  have k := kept_set wr b5 i u
  have r := h.row.setCell i u
  rw [ho] at r
  exact ⟨h.rd.keep k (fun e => h.ne.1 e) (fun j e => by rw [e]; exact h.lo.2.1), r, h.res.keep k (fun e => h.ne.2.2 e.symm), hl.keep k (hl.off h.row (by decide)), h.kept.then k (fun j _ e => by rw [e]; exact h.lo.2.1), h.lo, h.ne, hn⟩
/- one more of them -/
theorem Ob.grow_imps (h : Ob w rb b5 b2 v0 l wr V o s) (x : ByteArray × Nat) (small : o.imps.length ≤ 900000) :
    ∃ v' w', (Builtin.append_ #[23, 23] 23 #[V.i, .slice (some ⟨wr.heap.size, 0, none⟩) 1 1]).run Try.prog (wr.alloc (.cells (impRow x).toArray 53)) = .ok v' w' ∧ RowAt w' b5 OT (ocells V o) ∧
      Ob w rb b5 b2 v0 l (w'.setCell ⟨b5, 2, none⟩ v') { V with i := v' } { o with imps := o.imps ++ [x] } s := by
  obtain ⟨v', w', q0, q1, q2⟩ := more_el (T := 23) Try.underlying23 info_imps rfl (by decide) (fun _ => rfl) ones_imp h.lists.imps x small
  have k := q2.1
  have hown : ∀ j, own V.i j → w.heap.size ≤ j := fun j hj => h.new j (.inl (hj))
  obtain ⟨ds, hd⟩ := h.rd.head
  have n5 := h.lists.imps.off h.row (by decide)
  have nr := h.lists.imps.off hd (by decide)
  have n2 := h.lists.imps.off h.res (by decide)
  have hl : Lists w' { V with i := v' } { o with imps := o.imps ++ [x] } := ⟨q1, h.lists.types.keep k (h.lists.types.apart h.lists.imps (by decide)), h.lists.code.keep k (h.lists.code.apart h.lists.imps (by decide)), h.lists.cmds.keep k (h.lists.cmds.apart h.lists.imps (by decide)), h.lists.exps.keep k (h.lists.exps.apart h.lists.imps (by decide)), h.lists.ptrs.keep k (h.lists.ptrs.apart h.lists.imps (by decide)), h.lists.procs.keep k (h.lists.procs.apart h.lists.imps (by decide))⟩
  have r5 : RowAt w' b5 OT (ocells V o) := h.row.keep k (fun e => n5 _ e rfl)
  refine ⟨v', w', q0, r5, ?_⟩
  have kk := kept_set w' b5 2 v'
  have rr := r5.setCell 2 v'
  have rd2 : RdP w' rb w.heap.size v0 l s := h.rd.keep k (fun e => nr _ e rfl) (fun j e => hown j e)
  have rs2 : RowAt w' b2 OT (ocells nilV noObj) := h.res.keep k (fun e => n2 _ e rfl)
  refine ⟨rd2.keep kk (fun e => h.ne.1 e) (fun j e => by rw [e]; exact h.lo.2.1), rr, rs2.keep kk (fun e => h.ne.2.2 e.symm), hl.keep kk (hl.off r5 (by decide)), (h.kept.then k (fun j _ e => hown j e)).then kk (fun j _ e => by rw [e]; exact h.lo.2.1), h.lo, h.ne, fun j hj => ?_⟩
  have hv : ∀ j, own v' j → w.heap.size ≤ j := fun j hj => by
    rcases q2.2 j hj with e | e
    · exact hown j e
    · exact Nat.le_trans h.kept.more e
  rcases hj with hj | hj | hj | hj | hj | hj | hj
  · exact hv j hj
  · exact h.new j (.inr (.inl (hj)))
  · exact h.new j (.inr (.inr (.inl (hj))))
  · exact h.new j (.inr (.inr (.inr (.inl (hj)))))
  · exact h.new j (.inr (.inr (.inr (.inr (.inl (hj))))))
  · exact h.new j (.inr (.inr (.inr (.inr (.inr (.inl (hj)))))))
  · exact h.new j (.inr (.inr (.inr (.inr (.inr (.inr (hj)))))))
/- one more of them -/
theorem Ob.grow_types (h : Ob w rb b5 b2 v0 l wr V o s) (x : Int × Int × Int) (small : o.types.length ≤ 900000) :
    ∃ v' w', (Builtin.append_ #[24, 24] 24 #[V.t, .slice (some ⟨wr.heap.size, 0, none⟩) 1 1]).run Try.prog (wr.alloc (.cells (typeRow x).toArray 55)) = .ok v' w' ∧ RowAt w' b5 OT (ocells V o) ∧
      Ob w rb b5 b2 v0 l (w'.setCell ⟨b5, 3, none⟩ v') { V with t := v' } { o with types := o.types ++ [x] } s := by
  obtain ⟨v', w', q0, q1, q2⟩ := more_el (T := 24) Try.underlying24 info_types rfl (by decide) (fun _ => rfl) ones_type h.lists.types x small
  have k := q2.1
  have hown : ∀ j, own V.t j → w.heap.size ≤ j := fun j hj => h.new j (.inr (.inl (hj)))
  obtain ⟨ds, hd⟩ := h.rd.head
  have n5 := h.lists.types.off h.row (by decide)
  have nr := h.lists.types.off hd (by decide)
  have n2 := h.lists.types.off h.res (by decide)
  have hl : Lists w' { V with t := v' } { o with types := o.types ++ [x] } := ⟨h.lists.imps.keep k (h.lists.imps.apart h.lists.types (by decide)), q1, h.lists.code.keep k (h.lists.code.apart h.lists.types (by decide)), h.lists.cmds.keep k (h.lists.cmds.apart h.lists.types (by decide)), h.lists.exps.keep k (h.lists.exps.apart h.lists.types (by decide)), h.lists.ptrs.keep k (h.lists.ptrs.apart h.lists.types (by decide)), h.lists.procs.keep k (h.lists.procs.apart h.lists.types (by decide))⟩
  have r5 : RowAt w' b5 OT (ocells V o) := h.row.keep k (fun e => n5 _ e rfl)
  refine ⟨v', w', q0, r5, ?_⟩
  have kk := kept_set w' b5 3 v'
  have rr := r5.setCell 3 v'
  have rd2 : RdP w' rb w.heap.size v0 l s := h.rd.keep k (fun e => nr _ e rfl) (fun j e => hown j e)
  have rs2 : RowAt w' b2 OT (ocells nilV noObj) := h.res.keep k (fun e => n2 _ e rfl)
  refine ⟨rd2.keep kk (fun e => h.ne.1 e) (fun j e => by rw [e]; exact h.lo.2.1), rr, rs2.keep kk (fun e => h.ne.2.2 e.symm), hl.keep kk (hl.off r5 (by decide)), (h.kept.then k (fun j _ e => hown j e)).then kk (fun j _ e => by rw [e]; exact h.lo.2.1), h.lo, h.ne, fun j hj => ?_⟩
  have hv : ∀ j, own v' j → w.heap.size ≤ j := fun j hj => by
    rcases q2.2 j hj with e | e
    · exact hown j e
    · exact Nat.le_trans h.kept.more e
  rcases hj with hj | hj | hj | hj | hj | hj | hj
  · exact h.new j (.inl (hj))
  · exact hv j hj
  · exact h.new j (.inr (.inr (.inl (hj))))
  · exact h.new j (.inr (.inr (.inr (.inl (hj)))))
  · exact h.new j (.inr (.inr (.inr (.inr (.inl (hj))))))
  · exact h.new j (.inr (.inr (.inr (.inr (.inr (.inl (hj)))))))
  · exact h.new j (.inr (.inr (.inr (.inr (.inr (.inr (hj)))))))
/- one more of them -/
theorem Ob.grow_code (h : Ob w rb b5 b2 v0 l wr V o s) (x : Nat) (small : o.code.length ≤ 900000) :
    ∃ v' w', (Builtin.append_ #[25, 25] 25 #[V.c, .slice (some ⟨wr.heap.size, 0, none⟩) 1 1]).run Try.prog (wr.alloc (.cells (wordRow x).toArray 22)) = .ok v' w' ∧ RowAt w' b5 OT (ocells V o) ∧
      Ob w rb b5 b2 v0 l (w'.setCell ⟨b5, 6, none⟩ v') { V with c := v' } { o with code := o.code ++ [x] } s := by
  obtain ⟨v', w', q0, q1, q2⟩ := more_el (T := 25) Try.underlying25 info_code rfl (by decide) (fun _ => rfl) ones_word h.lists.code x small
  have k := q2.1
  have hown : ∀ j, own V.c j → w.heap.size ≤ j := fun j hj => h.new j (.inr (.inr (.inl (hj))))
  obtain ⟨ds, hd⟩ := h.rd.head
  have n5 := h.lists.code.off h.row (by decide)
  have nr := h.lists.code.off hd (by decide)
  have n2 := h.lists.code.off h.res (by decide)
  have hl : Lists w' { V with c := v' } { o with code := o.code ++ [x] } := ⟨h.lists.imps.keep k (h.lists.imps.apart h.lists.code (by decide)), h.lists.types.keep k (h.lists.types.apart h.lists.code (by decide)), q1, h.lists.cmds.keep k (h.lists.cmds.apart h.lists.code (by decide)), h.lists.exps.keep k (h.lists.exps.apart h.lists.code (by decide)), h.lists.ptrs.keep k (h.lists.ptrs.apart h.lists.code (by decide)), h.lists.procs.keep k (h.lists.procs.apart h.lists.code (by decide))⟩
  have r5 : RowAt w' b5 OT (ocells V o) := h.row.keep k (fun e => n5 _ e rfl)
  refine ⟨v', w', q0, r5, ?_⟩
  have kk := kept_set w' b5 6 v'
  have rr := r5.setCell 6 v'
  have rd2 : RdP w' rb w.heap.size v0 l s := h.rd.keep k (fun e => nr _ e rfl) (fun j e => hown j e)
  have rs2 : RowAt w' b2 OT (ocells nilV noObj) := h.res.keep k (fun e => n2 _ e rfl)
  refine ⟨rd2.keep kk (fun e => h.ne.1 e) (fun j e => by rw [e]; exact h.lo.2.1), rr, rs2.keep kk (fun e => h.ne.2.2 e.symm), hl.keep kk (hl.off r5 (by decide)), (h.kept.then k (fun j _ e => hown j e)).then kk (fun j _ e => by rw [e]; exact h.lo.2.1), h.lo, h.ne, fun j hj => ?_⟩
  have hv : ∀ j, own v' j → w.heap.size ≤ j := fun j hj => by
    rcases q2.2 j hj with e | e
    · exact hown j e
    · exact Nat.le_trans h.kept.more e
  rcases hj with hj | hj | hj | hj | hj | hj | hj
  · exact h.new j (.inl (hj))
  · exact h.new j (.inr (.inl (hj)))
  · exact hv j hj
  · exact h.new j (.inr (.inr (.inr (.inl (hj)))))
  · exact h.new j (.inr (.inr (.inr (.inr (.inl (hj))))))
  · exact h.new j (.inr (.inr (.inr (.inr (.inr (.inl (hj)))))))
  · exact h.new j (.inr (.inr (.inr (.inr (.inr (.inr (hj)))))))
/- one more of them -/
theorem Ob.grow_cmds (h : Ob w rb b5 b2 v0 l wr V o s) (x : ByteArray × Int) (small : o.cmds.length ≤ 900000) :
    ∃ v' w', (Builtin.append_ #[26, 26] 26 #[V.m, .slice (some ⟨wr.heap.size, 0, none⟩) 1 1]).run Try.prog (wr.alloc (.cells (cmdRow x).toArray 57)) = .ok v' w' ∧ RowAt w' b5 OT (ocells V o) ∧
      Ob w rb b5 b2 v0 l (w'.setCell ⟨b5, 7, none⟩ v') { V with m := v' } { o with cmds := o.cmds ++ [x] } s := by
  obtain ⟨v', w', q0, q1, q2⟩ := more_el (T := 26) Try.underlying26 info_cmds rfl (by decide) (fun _ => rfl) ones_cmd h.lists.cmds x small
  have k := q2.1
  have hown : ∀ j, own V.m j → w.heap.size ≤ j := fun j hj => h.new j (.inr (.inr (.inr (.inl (hj)))))
  obtain ⟨ds, hd⟩ := h.rd.head
  have n5 := h.lists.cmds.off h.row (by decide)
  have nr := h.lists.cmds.off hd (by decide)
  have n2 := h.lists.cmds.off h.res (by decide)
  have hl : Lists w' { V with m := v' } { o with cmds := o.cmds ++ [x] } := ⟨h.lists.imps.keep k (h.lists.imps.apart h.lists.cmds (by decide)), h.lists.types.keep k (h.lists.types.apart h.lists.cmds (by decide)), h.lists.code.keep k (h.lists.code.apart h.lists.cmds (by decide)), q1, h.lists.exps.keep k (h.lists.exps.apart h.lists.cmds (by decide)), h.lists.ptrs.keep k (h.lists.ptrs.apart h.lists.cmds (by decide)), h.lists.procs.keep k (h.lists.procs.apart h.lists.cmds (by decide))⟩
  have r5 : RowAt w' b5 OT (ocells V o) := h.row.keep k (fun e => n5 _ e rfl)
  refine ⟨v', w', q0, r5, ?_⟩
  have kk := kept_set w' b5 7 v'
  have rr := r5.setCell 7 v'
  have rd2 : RdP w' rb w.heap.size v0 l s := h.rd.keep k (fun e => nr _ e rfl) (fun j e => hown j e)
  have rs2 : RowAt w' b2 OT (ocells nilV noObj) := h.res.keep k (fun e => n2 _ e rfl)
  refine ⟨rd2.keep kk (fun e => h.ne.1 e) (fun j e => by rw [e]; exact h.lo.2.1), rr, rs2.keep kk (fun e => h.ne.2.2 e.symm), hl.keep kk (hl.off r5 (by decide)), (h.kept.then k (fun j _ e => hown j e)).then kk (fun j _ e => by rw [e]; exact h.lo.2.1), h.lo, h.ne, fun j hj => ?_⟩
  have hv : ∀ j, own v' j → w.heap.size ≤ j := fun j hj => by
    rcases q2.2 j hj with e | e
    · exact hown j e
    · exact Nat.le_trans h.kept.more e
  rcases hj with hj | hj | hj | hj | hj | hj | hj
  · exact h.new j (.inl (hj))
  · exact h.new j (.inr (.inl (hj)))
  · exact h.new j (.inr (.inr (.inl (hj))))
  · exact hv j hj
  · exact h.new j (.inr (.inr (.inr (.inr (.inl (hj))))))
  · exact h.new j (.inr (.inr (.inr (.inr (.inr (.inl (hj)))))))
  · exact h.new j (.inr (.inr (.inr (.inr (.inr (.inr (hj)))))))
/- one more of them -/
theorem Ob.grow_exps (h : Ob w rb b5 b2 v0 l wr V o s) (x : Int × Int) (small : o.exps.length ≤ 900000) :
    ∃ v' w', (Builtin.append_ #[27, 27] 27 #[V.e, .slice (some ⟨wr.heap.size, 0, none⟩) 1 1]).run Try.prog (wr.alloc (.cells (expRow x).toArray 59)) = .ok v' w' ∧ RowAt w' b5 OT (ocells V o) ∧
      Ob w rb b5 b2 v0 l (w'.setCell ⟨b5, 8, none⟩ v') { V with e := v' } { o with exps := o.exps ++ [x] } s := by
  obtain ⟨v', w', q0, q1, q2⟩ := more_el (T := 27) Try.underlying27 info_exps rfl (by decide) (fun _ => rfl) ones_exp h.lists.exps x small
  have k := q2.1
  have hown : ∀ j, own V.e j → w.heap.size ≤ j := fun j hj => h.new j (.inr (.inr (.inr (.inr (.inl (hj))))))
  obtain ⟨ds, hd⟩ := h.rd.head
  have n5 := h.lists.exps.off h.row (by decide)
  have nr := h.lists.exps.off hd (by decide)
  have n2 := h.lists.exps.off h.res (by decide)
  have hl : Lists w' { V with e := v' } { o with exps := o.exps ++ [x] } := ⟨h.lists.imps.keep k (h.lists.imps.apart h.lists.exps (by decide)), h.lists.types.keep k (h.lists.types.apart h.lists.exps (by decide)), h.lists.code.keep k (h.lists.code.apart h.lists.exps (by decide)), h.lists.cmds.keep k (h.lists.cmds.apart h.lists.exps (by decide)), q1, h.lists.ptrs.keep k (h.lists.ptrs.apart h.lists.exps (by decide)), h.lists.procs.keep k (h.lists.procs.apart h.lists.exps (by decide))⟩
  have r5 : RowAt w' b5 OT (ocells V o) := h.row.keep k (fun e => n5 _ e rfl)
  refine ⟨v', w', q0, r5, ?_⟩
  have kk := kept_set w' b5 8 v'
  have rr := r5.setCell 8 v'
  have rd2 : RdP w' rb w.heap.size v0 l s := h.rd.keep k (fun e => nr _ e rfl) (fun j e => hown j e)
  have rs2 : RowAt w' b2 OT (ocells nilV noObj) := h.res.keep k (fun e => n2 _ e rfl)
  refine ⟨rd2.keep kk (fun e => h.ne.1 e) (fun j e => by rw [e]; exact h.lo.2.1), rr, rs2.keep kk (fun e => h.ne.2.2 e.symm), hl.keep kk (hl.off r5 (by decide)), (h.kept.then k (fun j _ e => hown j e)).then kk (fun j _ e => by rw [e]; exact h.lo.2.1), h.lo, h.ne, fun j hj => ?_⟩
  have hv : ∀ j, own v' j → w.heap.size ≤ j := fun j hj => by
    rcases q2.2 j hj with e | e
    · exact hown j e
    · exact Nat.le_trans h.kept.more e
  rcases hj with hj | hj | hj | hj | hj | hj | hj
  · exact h.new j (.inl (hj))
  · exact h.new j (.inr (.inl (hj)))
  · exact h.new j (.inr (.inr (.inl (hj))))
  · exact h.new j (.inr (.inr (.inr (.inl (hj)))))
  · exact hv j hj
  · exact h.new j (.inr (.inr (.inr (.inr (.inr (.inl (hj)))))))
  · exact h.new j (.inr (.inr (.inr (.inr (.inr (.inr (hj)))))))
end
end Go.Proofs.Ythgnklgejlebhaa
