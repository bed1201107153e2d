/-
  The program's Put (layer 12): an object's bytes, where Get of them tells just it. Conditions: its lists are not longer than 300 (code: 2000).
-/
import Derived.Test.YthgnklgejlebhaaObjV
import Derived.Test.YthgnklgejlebhaaObjR
import Derived.Test.YthgnklgejlebhaaObjP2
namespace Go.Proofs.Ythgnklgejlebhaa
open Go.ChangeShapes Go.WideShapes Go.ChangeAt Go.RowKit

/- all that is written is bytes -/
theorem lt_append {a b : List Nat} (h : ∀ x ∈ a, x < 256) (g : ∀ x ∈ b, x < 256) : ∀ x ∈ a ++ b, x < 256 := fun x hx => (List.mem_append.1 hx).elim (h x) (g x)
theorem lt_flat {α : Type} {f : α → List Nat} (hf : ∀ y, ∀ x ∈ f y, x < 256) (L : List α) : ∀ x ∈ L.flatMap f, x < 256 := fun x hx => by
  obtain ⟨y, _, h⟩ := List.mem_flatMap.1 hx
  exact hf y x h
theorem numZ_lt (n : Int) (k : Nat) : ∀ x ∈ numZ n k, x < 256 := numB_lt k _
theorem textB_lt (s : ByteArray) : ∀ x ∈ textB (sb s), x < 256 := by
  intro x hx
  rcases List.mem_cons.1 hx with rfl | hx
  · split <;> omega
  · exact sb_lt s x (List.mem_of_mem_take hx)
theorem wl_lt {α : Type} (wd : Nat) {f : α → List Nat} (hf : ∀ y, ∀ x ∈ f y, x < 256) (L : List α) : ∀ x ∈ wl wd f L, x < 256 := lt_append (numZ_lt _ _) (lt_flat hf _)
theorem impB_lt (x : ByteArray × Nat) : ∀ b ∈ impB x, b < 256 := lt_append (textB_lt _) (numB_lt _ _)
theorem typeB_lt (x : Int × Int × Int) : ∀ b ∈ typeB x, b < 256 := lt_append (lt_append (numZ_lt _ _) (numZ_lt _ _)) (numZ_lt _ _)
theorem cmdB_lt (x : ByteArray × Int) : ∀ b ∈ cmdB x, b < 256 := lt_append (textB_lt _) (numZ_lt _ _)
theorem expB_lt (x : Int × Int) : ∀ b ∈ expB x, b < 256 := lt_append (numZ_lt _ _) (numZ_lt _ _)
theorem pwrite_lt (o : ObjD) : ∀ b ∈ pwrite o, b < 256 := by
  have h1 : ∀ b ∈ pw1 o, b < 256 := lt_append (lt_append (fun x hx => by simp at hx; omega) (textB_lt _)) (numB_lt _ _)
  have h2 : ∀ b ∈ pw2 o, b < 256 := lt_append h1 (wl_lt 1 impB_lt _)
  have h3 : ∀ b ∈ pw3 o, b < 256 := lt_append h2 (wl_lt 1 typeB_lt _)
  have h4 : ∀ b ∈ pw4 o, b < 256 := lt_append (lt_append h3 (numZ_lt _ _)) (textB_lt _)
  have h5 : ∀ b ∈ pw5 o, b < 256 := lt_append h4 (wl_lt 2 (fun y => numB_lt 4 y) _)
  have h6 : ∀ b ∈ pw6 o, b < 256 := lt_append h5 (wl_lt 1 cmdB_lt _)
  have h7 : ∀ b ∈ pw7 o, b < 256 := lt_append h6 (wl_lt 1 expB_lt _)
  have h8 : ∀ b ∈ pw8 o, b < 256 := lt_append h7 (wl_lt 1 (fun y => numZ_lt y 1) _)
  have h9 : ∀ b ∈ pw9 o, b < 256 := lt_append h8 (wl_lt 1 (fun y => numZ_lt y 1) _)
  exact lt_append (lt_append h9 (lt_flat (fun y => numZ_lt y 2) _)) (numZ_lt _ _)

/- Put tells bytes -/
def putOk (o : ObjD) : Prop := (pwrite o).length ≤ 4000 ∧ pGet (pwrite o) = some o
/- a load of all of a row, at an operation that is wanted -/
theorem load_row_on {P : Program} {ops : Array Oper} {rest : List Oper} {o : Oper} {a : Act} {w : World} {Q : Exit → Act → World → Prop} (hw : Region.wanted o (yielded ops a.tmps) = true) (ty : TypeId) (x : Operand) (ho : o.op = .load ty x)
    (g : Nat) (hx : a.eval x = .pointer (some ⟨g, 0, none⟩)) (t : TypeId) (cs : Array Value) (fr : Nat × Nat) (d : TypeDesc) (hg : w.heap[g]? = some (.cells cs t fr))
    (hu : P.underlying ty = some d) (hd : (match d with | .struct _ | .array _ _ => true | _ => false) = true) (hi : (P.info? ty).map (·.size) = some cs.size)
    (h : wpList P ops Q rest (a.put o.dst (.agg cs)) w) : wpList P ops Q (o :: rest) a w :=
  wpList_step fun _ hK => by
    rw [if_pos hw]
    exact wp_load_row ty x ho g hx t cs fr d hg hu hd hi (hK _ _ h)
/- while Put goes on: what it was handed, what was written -/
structure Putting (w : World) (V : ObjV) (o : ObjD) (P : List Nat) (v : Value) (wr : World) : Prop where
  row : RowAt wr w.heap.size OT (ocells V o)
  bs : Bs wr v P
  below : Below w.heap.size w wr
theorem Putting.on {w : World} {V : ObjV} {o : ObjD} {P : List Nat} {v : Value} {wr w' : World} (h : Putting w V o P v wr) (hb : Below wr.heap.size wr w') : Putting w V o P v w' :=
  ⟨h.row.keep (Kept.of_below (S := fun _ => False) hb) (fun h => h), h.bs.keep (Kept.of_below (S := fun _ => False) hb) (fun _ _ h => h), below_on h.below hb h.below.size⟩
theorem put_box {w : World} {V : ObjV} {o : ObjD} {P : List Nat} {v : Value} {wr : World} (h : Putting w V o P v wr) {V' : ObjV} {g : ObjD} (hg : ObjAt wr V' g) (h1 : Ones (ocells V' g)) :
    (Instr.storeAt OT (.pointer (some ⟨wr.heap.size, 0, none⟩)) (.agg (ocells V' g).toArray)).run Try.prog (wr.alloc (.cells (ocells nilV noObj).toArray OT)) = .ok () (wr.alloc (.cells (ocells V' g).toArray OT)) ∧ RowAt (wr.alloc (.cells (ocells V' g).toArray OT)) wr.heap.size OT (ocells V' g) ∧
      Putting w V o P v (wr.alloc (.cells (ocells V' g).toArray OT)) ∧ ObjAt (wr.alloc (.cells (ocells V' g).toArray OT)) V' g := by
  obtain ⟨r1, r2, r3⟩ := told_row (RowAt.new wr OT (ocells nilV noObj)) (xs := ocells V' g) (k := 15) rfl rfl h1 size_obj
  have hb : Below wr.heap.size wr (wr.alloc (.cells (ocells V' g).toArray OT)) := (Below.refl _ _).alloc (Nat.le_refl _) _
  rw [setRow_alloc] at r1
  exact ⟨r1, RowAt.new _ _ _, h.on hb, hg.on hb⟩
theorem ElsAt.one {α : Type} {k : Nat} {row : α → List Value} {w : World} {v : Value} {L : List α} (h : ElsAt k row w v L) : v.oneCell' = true := by
  obtain ⟨a, c, rfl, _⟩ := h.shape
  rfl
theorem ObjAt.ones {w : World} {V : ObjV} {o : ObjD} (h : ObjAt w V o) : Ones (ocells V o) := ones_obj V o ⟨h.imps.one, h.types.one, h.code.one, h.cmds.one, h.exps.one, h.ptrs.one, h.procs.one⟩
set_option maxRecDepth 100000 in
set_option maxHeartbeats 1000000 in
theorem put_way0 (V : ObjV) (o : ObjD) (w : World) (h : ObjAt w V o) (hf : FewB o) (P : List Nat) (hP : pwrite o = P) (hl : 4000 < P.length) :
    Calls Try.prog 8 #[.agg (ocells V o).toArray] w fun e w' => e = .returned (.tuple #[.slice none 0 0, errV 1]) ∧ Below w.heap.size w w' := by
  have HO := Lib.hid h
  have hb0 : Below w.heap.size w (w.alloc (.cells (ocells V o).toArray OT)) := (Below.refl _ _).alloc (Nat.le_refl _) _
  have HX : Hid (RowAt (w.alloc (.cells (ocells V o).toArray OT)) w.heap.size OT (ocells V o) ∧ Below w.heap.size w (w.alloc (.cells (ocells V o).toArray OT))) := ⟨RowAt.new w _ _, hb0⟩
  have HW : Hid (Calls Try.prog 15 #[.agg (ocells V o).toArray] (w.alloc (.cells (ocells V o).toArray OT)) fun e w' => ∃ v', e = .returned v' ∧ Bs w' v' P ∧ Below (w.alloc (.cells (ocells V o).toArray OT)).heap.size (w.alloc (.cells (ocells V o).toArray OT)) w') := by
    have := write_any V o _ (h.on hb0) hf
    rw [hP] at this
    exact this.mono fun e w' ⟨v', he, h1, _, h3⟩ => ⟨v', he, h1, h3⟩
  have HLT : Hid (∀ x ∈ P, x < 256) := hP ▸ pwrite_lt o
  clear h hb0 hf
  have i1 : (4000 : Int) < ((P.length : Nat) : Int) := by omega
  clear hl
  clear hP
  go_enter Try.func8, Try.ntmps8
  go_upto_region 1 with fail
  generalize w.alloc (.cells (ocells V o).toArray OT) = w0 at *
  go_wp2_with (refine wpList_load_row rfl _ _ rfl w.heap.size rfl OT (ocells V o).toArray (0, 0) _ HX.out.1 Try.underlying31 rfl (by rw [size_obj]; rfl) ?_)
  refine HW.out.mono ?_
  rintro e w1 ⟨v1, rfl, hb, hbl⟩
  have HP1 : Hid (Putting w V o P v1 w1) := ⟨HX.out.1.keep (Kept.of_below (S := fun _ => False) hbl) (fun h => h), hb, below_on HX.out.2 hbl HX.out.2.size⟩
  obtain ⟨a, c, rfl, _⟩ := hb.shape
  clear hb hbl HX HW
  generalize P.length = n at *
  have RES := Lib.hid HP1.out.below
  clear HP1
  go_wp2_with fail
  go_ret2
  exact ⟨rfl, RES.out⟩
set_option maxRecDepth 100000 in
set_option maxHeartbeats 1000000 in
theorem put_way1 (V : ObjV) (o : ObjD) (w : World) (h : ObjAt w V o) (hf : FewB o) (P : List Nat) (hP : pwrite o = P) (hl : ¬ 4000 < P.length) (hg : pGet P = none) :
    Calls Try.prog 8 #[.agg (ocells V o).toArray] w fun e w' => e = .returned (.tuple #[.slice none 0 0, errV 1]) ∧ Below w.heap.size w w' := by
  have HG : Hid (∀ v w, BytesAt w v P → Calls Try.prog 13 #[v] w fun e w' => ∃ V, e = .returned (.tuple #[.agg (ocells V noObj).toArray, .iface 43 (.int .i64 4)]) ∧ ObjAt w' V noObj ∧ Below w.heap.size w w') := fun v w h => by
    have := get_any v P w h (by omega)
    rw [hg] at this
    exact this
  have HO := Lib.hid h
  have hb0 : Below w.heap.size w (w.alloc (.cells (ocells V o).toArray OT)) := (Below.refl _ _).alloc (Nat.le_refl _) _
  have HX : Hid (RowAt (w.alloc (.cells (ocells V o).toArray OT)) w.heap.size OT (ocells V o) ∧ Below w.heap.size w (w.alloc (.cells (ocells V o).toArray OT))) := ⟨RowAt.new w _ _, hb0⟩
  have HW : Hid (Calls Try.prog 15 #[.agg (ocells V o).toArray] (w.alloc (.cells (ocells V o).toArray OT)) fun e w' => ∃ v', e = .returned v' ∧ Bs w' v' P ∧ Below (w.alloc (.cells (ocells V o).toArray OT)).heap.size (w.alloc (.cells (ocells V o).toArray OT)) w') := by
    have := write_any V o _ (h.on hb0) hf
    rw [hP] at this
    exact this.mono fun e w' ⟨v', he, h1, _, h3⟩ => ⟨v', he, h1, h3⟩
  have HLT : Hid (∀ x ∈ P, x < 256) := hP ▸ pwrite_lt o
  clear h hb0 hf
  have i1 : ¬ (4000 : Int) < ((P.length : Nat) : Int) := by omega
  clear hl hg
  clear hP
  go_enter Try.func8, Try.ntmps8
  go_upto_region 1 with fail
  generalize w.alloc (.cells (ocells V o).toArray OT) = w0 at *
  go_wp2_with (refine wpList_load_row rfl _ _ rfl w.heap.size rfl OT (ocells V o).toArray (0, 0) _ HX.out.1 Try.underlying31 rfl (by rw [size_obj]; rfl) ?_)
  refine HW.out.mono ?_
  rintro e w1 ⟨v1, rfl, hb, hbl⟩
  have HP1 : Hid (Putting w V o P v1 w1) := ⟨HX.out.1.keep (Kept.of_below (S := fun _ => False) hbl) (fun h => h), hb, below_on HX.out.2 hbl HX.out.2.size⟩
  obtain ⟨a, c, rfl, _⟩ := hb.shape
  clear hb hbl HX HW
  generalize P.length = n at *
  go_wp2_with fail
  refine (HG.out _ w1 (HP1.out.bs.bytes HLT.out)).mono ?_
  rintro e w2 ⟨V', rfl, ho, hb⟩
  have HP2 := Lib.hid (HP1.out.on hb)
  have HB := Lib.hid (put_box HP2.out ho ho.ones)
  clear ho hb HP1 HP2 HG
  go_wp2_with (refine wpList_store_run _ rfl _ _ _ rfl _ _ rfl rfl (by exact HB.out.1) ?_)
  have RES := Lib.hid HB.out.2.2.1.below
  go_ret2
  exact ⟨rfl, RES.out⟩
set_option maxRecDepth 100000 in
set_option maxHeartbeats 1000000 in
theorem put_way2 (V : ObjV) (o : ObjD) (w : World) (h : ObjAt w V o) (hf : FewB o) (P : List Nat) (hP : pwrite o = P) (hl : ¬ 4000 < P.length) (g : ObjD) (hg : pGet P = some g) (hne : g ≠ o) :
    Calls Try.prog 8 #[.agg (ocells V o).toArray] w fun e w' => e = .returned (.tuple #[.slice none 0 0, errV 1]) ∧ Below w.heap.size w w' := by
  have HG : Hid (∀ v w, BytesAt w v P → Calls Try.prog 13 #[v] w fun e w' => ∃ V, e = .returned (.tuple #[.agg (ocells V g).toArray, .nilIface]) ∧ ObjAt w' V g ∧ Below w.heap.size w w') := fun v w h => by
    have := get_any v P w h (by omega)
    rw [hg] at this
    exact this
  have HO := Lib.hid h
  have hb0 : Below w.heap.size w (w.alloc (.cells (ocells V o).toArray OT)) := (Below.refl _ _).alloc (Nat.le_refl _) _
  have HX : Hid (RowAt (w.alloc (.cells (ocells V o).toArray OT)) w.heap.size OT (ocells V o) ∧ Below w.heap.size w (w.alloc (.cells (ocells V o).toArray OT))) := ⟨RowAt.new w _ _, hb0⟩
  have HW : Hid (Calls Try.prog 15 #[.agg (ocells V o).toArray] (w.alloc (.cells (ocells V o).toArray OT)) fun e w' => ∃ v', e = .returned v' ∧ Bs w' v' P ∧ Below (w.alloc (.cells (ocells V o).toArray OT)).heap.size (w.alloc (.cells (ocells V o).toArray OT)) w') := by
    have := write_any V o _ (h.on hb0) hf
    rw [hP] at this
    exact this.mono fun e w' ⟨v', he, h1, _, h3⟩ => ⟨v', he, h1, h3⟩
  have HLT : Hid (∀ x ∈ P, x < 256) := hP ▸ pwrite_lt o
  clear h hb0 hf
  have i1 : ¬ (4000 : Int) < ((P.length : Nat) : Int) := by omega
  have HNE := Lib.hid hne
  clear hl hg hne
  clear hP
  go_enter Try.func8, Try.ntmps8
  go_upto_region 1 with fail
  generalize w.alloc (.cells (ocells V o).toArray OT) = w0 at *
  go_wp2_with (refine wpList_load_row rfl _ _ rfl w.heap.size rfl OT (ocells V o).toArray (0, 0) _ HX.out.1 Try.underlying31 rfl (by rw [size_obj]; rfl) ?_)
  refine HW.out.mono ?_
  rintro e w1 ⟨v1, rfl, hb, hbl⟩
  have HP1 : Hid (Putting w V o P v1 w1) := ⟨HX.out.1.keep (Kept.of_below (S := fun _ => False) hbl) (fun h => h), hb, below_on HX.out.2 hbl HX.out.2.size⟩
  obtain ⟨a, c, rfl, _⟩ := hb.shape
  clear hb hbl HX HW
  generalize P.length = n at *
  go_wp2_with fail
  refine (HG.out _ w1 (HP1.out.bs.bytes HLT.out)).mono ?_
  rintro e w2 ⟨V', rfl, ho, hb⟩
  have HP2 := Lib.hid (HP1.out.on hb)
  have HB := Lib.hid (put_box HP2.out ho ho.ones)
  clear ho hb HP1 HP2 HG
  go_wp2_with (first
    | (refine wpList_store_run _ rfl _ _ _ rfl _ _ rfl rfl (by exact HB.out.1) ?_)
    | (refine load_row_on rfl _ _ rfl w2.heap.size rfl OT (ocells V' g).toArray (0, 0) _ HB.out.2.1 Try.underlying31 rfl (by rw [size_obj]; rfl) ?_)
    | (refine load_row_on rfl _ _ rfl w.heap.size rfl OT (ocells V o).toArray (0, 0) _ HB.out.2.2.1.row Try.underlying31 rfl (by rw [size_obj]; rfl) ?_))
  refine (psame_any V' V g o false _ HB.out.2.2.2 (HO.out.on HB.out.2.2.1.below) (by simp [HNE.out])).mono ?_
  rintro e w3 ⟨rfl, hb⟩
  have RES := Lib.hid (HB.out.2.2.1.on hb).below
  clear hb HB
  go_wp2_with fail
  go_ret2
  exact ⟨rfl, RES.out⟩
set_option maxRecDepth 100000 in
set_option maxHeartbeats 1000000 in
theorem put_way3 (V : ObjV) (o : ObjD) (w : World) (h : ObjAt w V o) (hf : FewB o) (P : List Nat) (hP : pwrite o = P) (hl : ¬ 4000 < P.length) (hg : pGet P = some o) :
    Calls Try.prog 8 #[.agg (ocells V o).toArray] w fun e w' => ∃ v', e = .returned (.tuple #[v', .nilIface]) ∧ Bs w' v' P ∧ Below w.heap.size w w' := by
  have HG : Hid (∀ v w, BytesAt w v P → Calls Try.prog 13 #[v] w fun e w' => ∃ V, e = .returned (.tuple #[.agg (ocells V o).toArray, .nilIface]) ∧ ObjAt w' V o ∧ Below w.heap.size w w') := fun v w h => by
    have := get_any v P w h (by omega)
    rw [hg] at this
    exact this
  have HO := Lib.hid h
  have hb0 : Below w.heap.size w (w.alloc (.cells (ocells V o).toArray OT)) := (Below.refl _ _).alloc (Nat.le_refl _) _
  have HX : Hid (RowAt (w.alloc (.cells (ocells V o).toArray OT)) w.heap.size OT (ocells V o) ∧ Below w.heap.size w (w.alloc (.cells (ocells V o).toArray OT))) := ⟨RowAt.new w _ _, hb0⟩
  have HW : Hid (Calls Try.prog 15 #[.agg (ocells V o).toArray] (w.alloc (.cells (ocells V o).toArray OT)) fun e w' => ∃ v', e = .returned v' ∧ Bs w' v' P ∧ Below (w.alloc (.cells (ocells V o).toArray OT)).heap.size (w.alloc (.cells (ocells V o).toArray OT)) w') := by
    have := write_any V o _ (h.on hb0) hf
    rw [hP] at this
    exact this.mono fun e w' ⟨v', he, h1, _, h3⟩ => ⟨v', he, h1, h3⟩
  have HLT : Hid (∀ x ∈ P, x < 256) := hP ▸ pwrite_lt o
  clear h hb0 hf
  have i1 : ¬ (4000 : Int) < ((P.length : Nat) : Int) := by omega
  clear hl hg
  clear hP
  go_enter Try.func8, Try.ntmps8
  go_upto_region 1 with fail
  generalize w.alloc (.cells (ocells V o).toArray OT) = w0 at *
  go_wp2_with (refine wpList_load_row rfl _ _ rfl w.heap.size rfl OT (ocells V o).toArray (0, 0) _ HX.out.1 Try.underlying31 rfl (by rw [size_obj]; rfl) ?_)
  refine HW.out.mono ?_
  rintro e w1 ⟨v1, rfl, hb, hbl⟩
  have HP1 : Hid (Putting w V o P v1 w1) := ⟨HX.out.1.keep (Kept.of_below (S := fun _ => False) hbl) (fun h => h), hb, below_on HX.out.2 hbl HX.out.2.size⟩
  obtain ⟨a, c, rfl, _⟩ := hb.shape
  clear hb hbl HX HW
  generalize P.length = n at *
  go_wp2_with fail
  refine (HG.out _ w1 (HP1.out.bs.bytes HLT.out)).mono ?_
  rintro e w2 ⟨V', rfl, ho, hb⟩
  have HP2 := Lib.hid (HP1.out.on hb)
  have HB := Lib.hid (put_box HP2.out ho ho.ones)
  clear ho hb HP1 HP2 HG
  go_wp2_with (first
    | (refine wpList_store_run _ rfl _ _ _ rfl _ _ rfl rfl (by exact HB.out.1) ?_)
    | (refine load_row_on rfl _ _ rfl w2.heap.size rfl OT (ocells V' o).toArray (0, 0) _ HB.out.2.1 Try.underlying31 rfl (by rw [size_obj]; rfl) ?_)
    | (refine load_row_on rfl _ _ rfl w.heap.size rfl OT (ocells V o).toArray (0, 0) _ HB.out.2.2.1.row Try.underlying31 rfl (by rw [size_obj]; rfl) ?_))
  refine (psame_any V' V o o true _ HB.out.2.2.2 (HO.out.on HB.out.2.2.1.below) (by simp)).mono ?_
  rintro e w3 ⟨rfl, hb⟩
  have HP3 := Lib.hid (HB.out.2.2.1.on hb)
  have RES := Lib.hid (And.intro HP3.out.bs HP3.out.below)
  clear hb HB HP3
  go_wp2_with fail
  go_ret2
  exact ⟨_, rfl, RES.out⟩
theorem put_yes (V : ObjV) (o : ObjD) (w : World) (h : ObjAt w V o) (hf : FewB o) (hk : putOk o) :
    Calls Try.prog 8 #[.agg (ocells V o).toArray] w fun e w' => ∃ v', e = .returned (.tuple #[v', .nilIface]) ∧ Bs w' v' (pwrite o) ∧ Below w.heap.size w w' :=
  put_way3 V o w h hf _ rfl (by have := hk.1; omega) hk.2
theorem put_no (V : ObjV) (o : ObjD) (w : World) (h : ObjAt w V o) (hf : FewB o) (hk : ¬ putOk o) :
    Calls Try.prog 8 #[.agg (ocells V o).toArray] w fun e w' => e = .returned (.tuple #[.slice none 0 0, errV 1]) ∧ Below w.heap.size w w' := by
  by_cases hl : 4000 < (pwrite o).length
  · exact put_way0 V o w h hf _ rfl hl
  · cases hg : pGet (pwrite o) with
    | none => exact put_way1 V o w h hf _ rfl hl hg
    | some g => exact put_way2 V o w h hf _ rfl hl g hg (fun e => hk ⟨by omega, by rw [hg, e]⟩)
end Go.Proofs.Ythgnklgejlebhaa
