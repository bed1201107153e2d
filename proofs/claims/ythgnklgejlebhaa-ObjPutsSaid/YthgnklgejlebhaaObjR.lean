/-
  The program's Get (layer 12): the object of bytes. Conditions: at most 100,000 bytes.
-/
import Derived.Test.YthgnklgejlebhaaObjO
namespace Go.Proofs.Ythgnklgejlebhaa
open Go.ChangeShapes Go.WideShapes Go.ChangeAt Go.RowKit

/- the object of bytes -/
def pGet (l : List Nat) : Option ObjD := if (pMark (l, false)).1 then (if (gotP (pMark (l, false)).2).2.2 || decide (0 < (gotP (pMark (l, false)).2).2.1.length) then none else some (gotP (pMark (l, false)).2).1) else none
def errG : Option ObjD → Value
  | none => errV 4
  | some _ => .nilIface

theorem SRow.off {t T : TypeId} {k ob : Nat} {w : World} {v : Value} {n : Nat} {cs ds : List Value} (h : SRow t k w v n cs) (ho : RowAt w ob T ds) (ht : t ≠ T) : ∀ j, own v j → ¬ j = ob := by
  rcases h.is with ⟨rfl, _⟩ | ⟨b, cap, rest, rfl, hr, _⟩
  · exact fun j hj => hj.elim
  · intro j hj e
    have e1 : j = b := hj
    subst e1 e
    have := hr.symm.trans ho
    simp at this
    exact ht this.2
/- an object's lists, each in rows of its own -/
structure Lists (w : World) (V : ObjV) (o : ObjD) : Prop where
  imps : SRow 53 2 w V.i o.imps.length (rows impRow o.imps)
  types : SRow 55 3 w V.t o.types.length (rows typeRow o.types)
  code : SRow 22 1 w V.c o.code.length (rows wordRow o.code)
  cmds : SRow 57 2 w V.m o.cmds.length (rows cmdRow o.cmds)
  exps : SRow 59 2 w V.e o.exps.length (rows expRow o.exps)
  ptrs : SRow 3 1 w V.p o.ptrs.length (rows intRow o.ptrs)
  procs : SRow 3 1 w V.q o.procs.length (rows intRow o.procs)
theorem Readed.lists {pb B : Nat} {w w' : World} {r : ObjD × Ps} {V : ObjV} (h : Readed pb B w r V w') : Lists w' V r.1 := ⟨h.imps, h.types, h.code, h.cmds, h.exps, h.ptrs, h.procs⟩
theorem Lists.on {w w' : World} {V : ObjV} {o : ObjD} (h : Lists w V o) (hb : Below w.heap.size w w') : Lists w' V o :=
  have k := Kept.of_below (S := fun _ => False) hb
  have no : ∀ {v : Value} (j : Nat), own v j → ¬ False := fun _ _ h => h
  ⟨h.imps.keep k no, h.types.keep k no, h.code.keep k no, h.cmds.keep k no, h.exps.keep k no, h.ptrs.keep k no, h.procs.keep k no⟩
theorem Lists.over {w w' : World} {V : ObjV} {o : ObjD} {ob : Nat} {ds : List Value} (h : Lists w V o) (ho : RowAt w ob OT ds) (k : Kept (· = ob) w w') : Lists w' V o :=
  ⟨h.imps.keep k (h.imps.off ho (by decide)), h.types.keep k (h.types.off ho (by decide)), h.code.keep k (h.code.off ho (by decide)), h.cmds.keep k (h.cmds.off ho (by decide)), h.exps.keep k (h.exps.off ho (by decide)), h.ptrs.keep k (h.ptrs.off ho (by decide)), h.procs.keep k (h.procs.off ho (by decide))⟩
theorem Lists.obj {w : World} {V : ObjV} {o : ObjD} (h : Lists w V o) (hf : ObjFit o) : ObjAt w V o :=
  ⟨h.imps.els fun _ => rfl, h.types.els fun _ => rfl, h.code.els fun _ => rfl, h.cmds.els fun _ => rfl, h.exps.els fun _ => rfl, h.ptrs.els fun _ => rfl, h.procs.els fun _ => rfl, hf⟩
def nilV : ObjV := ⟨.slice none 0 0, .slice none 0 0, .slice none 0 0, .slice none 0 0, .slice none 0 0, .slice none 0 0, .slice none 0 0⟩
theorem lists_nil (w : World) : Lists w nilV noObj := ⟨SRow.nil _ _ _, SRow.nil _ _ _, SRow.nil _ _ _, SRow.nil _ _ _, SRow.nil _ _ _, SRow.nil _ _ _, SRow.nil _ _ _⟩
theorem fit_nil : ObjFit noObj := by
  constructor <;> first | (intro x hx; cases hx) | decide | (show -9223372036854775808 ≤ (0 : Int) ∧ (0 : Int) ≤ 9223372036854775807; decide)
theorem ones_nil : Ones (ocells nilV noObj) := ones_obj _ _ ⟨rfl, rfl, rfl, rfl, rfl, rfl, rfl⟩
/- a result that is a struct, and one behind it -/
theorem results_two {P : Program} {fn : Func} {p q : Tmp} {ty : TypeId} (h : fn.results = #[.cell p ty, .tmp q]) (tmps : Array Value) (w : World) (g : Nat) (t : TypeId) (cs : Array Value) (fr : Nat × Nat) (d : TypeDesc) (v : Value)
    (hp : tmps.getD p undef = .pointer (some ⟨g, 0, none⟩)) (hq : tmps.getD q undef = v) (hg : w.heap[g]? = some (.cells cs t fr))
    (hu : P.underlying ty = some d) (hd : (match d with | .struct _ | .array _ _ => true | _ => false) = true) (hi : (P.info? ty).map (·.size) = some cs.size) :
    (results fn tmps).run P w = .ok (.tuple #[.agg cs, v]) w := by
  have hp' : tmps[p]?.getD undef = .pointer (some ⟨g, 0, none⟩) := by simpa using hp
  have hq' : tmps[q]?.getD undef = v := by simpa using hq
  simp [results, h, hp', hq', asAddr, run_loadVar_row w g t ty cs fr d hg hu hd hi]
/- while Get goes on: its result's block, the reader, what has changed -/
structure Getting (w : World) (pb : Nat) (s : Ps) (wr : World) : Prop where
  row : RowAt wr w.heap.size OT (ocells nilV noObj)
  prog : PrS wr pb w.heap.size s
  kept : Kept (fun j => w.heap.size ≤ j) w wr
  far : w.heap.size < pb
theorem Getting.step {w wr w' : World} {pb : Nat} {s s' : Ps} (h : Getting w pb s wr) (hp : PrS w' pb w.heap.size s') (k : Kept (· = pb) wr w') : Getting w pb s' w' :=
  ⟨h.row.keep k (fun e => by have := h.far; omega), hp, h.kept.then k (fun j _ e => by have := h.far; omega), h.far⟩
/- what is told in the end -/
theorem Getting.tell {w wr : World} {pb : Nat} {s : Ps} (h : Getting w pb s wr) {V : ObjV} {o : ObjD} (hl : Lists wr V o) (hf : ObjFit o) (h1 : Ones (ocells V o)) :
    (Instr.storeAt OT (.pointer (some ⟨w.heap.size, 0, none⟩)) (.agg (ocells V o).toArray)).run Try.prog wr = .ok () (wr.setRow w.heap.size (ocells V o).toArray) ∧ RowAt (wr.setRow w.heap.size (ocells V o).toArray) w.heap.size OT (ocells V o) ∧
      ObjAt (wr.setRow w.heap.size (ocells V o).toArray) V o ∧ Below w.heap.size w (wr.setRow w.heap.size (ocells V o).toArray) := by
  obtain ⟨r1, r2, r3⟩ := told_row h.row (xs := ocells V o) (k := 15) rfl rfl h1 size_obj
  exact ⟨r1, r2, (hl.over h.row r3).obj hf, (h.kept.then (T := (· = w.heap.size)) r3 (fun j _ e => by omega)).below (Below.refl _ _) (Nat.le_refl _) (fun j _ hj => hj)⟩

theorem Getting.box {w wr : World} {pb : Nat} {s : Ps} (h : Getting w pb s wr) {V : ObjV} {o : ObjD} (hl : Lists wr V o) (h1 : Ones (ocells V o)) :
    (Instr.storeAt OT (.pointer (some ⟨wr.heap.size, 0, none⟩)) (.agg (ocells V o).toArray)).run Try.prog (wr.alloc (.cells (ocells nilV noObj).toArray OT)) = .ok () (wr.alloc (.cells (ocells V o).toArray OT)) ∧ RowAt (wr.alloc (.cells (ocells V o).toArray OT)) wr.heap.size OT (ocells V o) ∧
      Getting w pb s (wr.alloc (.cells (ocells V o).toArray OT)) ∧ Lists (wr.alloc (.cells (ocells V o).toArray OT)) V o := by
  obtain ⟨r1, r2, r3⟩ := told_row (RowAt.new wr OT (ocells nilV noObj)) (xs := ocells V o) (k := 15) rfl rfl h1 size_obj
  have k : Kept (fun _ => False) wr (wr.alloc (.cells (ocells V o).toArray OT)) := (Kept.refl _ wr).alloc _
  rw [setRow_alloc] at r1
  exact ⟨r1, RowAt.new _ _ _, ⟨h.row.keep k (fun h => h), h.prog.keep k (fun h => h) (fun _ h => h.elim), h.kept.then k (fun _ _ h => h.elim), h.far⟩, hl.on k.none⟩
set_option maxRecDepth 100000 in
set_option maxHeartbeats 1000000 in
theorem get_way0 (v : Value) (l : List Nat) (w : World) (h : BytesAt w v l) (small : l.length ≤ 100000) (mb : Bool) (ms : Ps) (go : ObjD) (gl : List Nat) (gs : Bool) (hm : pMark (l, false) = (mb, ms)) (hg : gotP ms = (go, (gl, gs))) (c0 : mb = false) :
    Calls Try.prog 13 #[v] w fun e w' => ∃ V, e = .returned (.tuple #[.agg (ocells V noObj).toArray, errV 4]) ∧ ObjAt w' V noObj ∧ Below w.heap.size w w' := by
  have hb0 : Below w.heap.size w (w.alloc (.cells (ocells nilV noObj).toArray OT)) := (Below.refl _ _).alloc (Nat.le_refl _) _
  have HN := Lib.hid (bnewB_any v w.heap.size l (w.alloc (.cells (ocells nilV noObj).toArray OT)) (h.on hb0) h.own_lt small)
  have HR0 := Lib.hid (RowAt.new w OT (ocells nilV noObj))
  have HS0 : Hid (w.heap.size < (w.alloc (.cells (ocells nilV noObj).toArray OT)).heap.size) := by show _ < _; simp
  have HB0 := Lib.hid hb0
  have HMK : Hid (∀ pb W, PrS W pb w.heap.size (l, false) → Calls Try.prog 31 #[.pointer (some ⟨pb, 0, none⟩)] W fun e w' => e = .returned (.bool mb) ∧ PrS w' pb w.heap.size ms ∧ Kept (· = pb) W w') := fun pb W h => by
    have := mark_any pb w.heap.size (l, false) W h
    rw [hm] at this
    exact this
  have HRD : Hid (∀ pb W, w.heap.size ≤ pb → PrS W pb w.heap.size ms → Calls Try.prog 32 #[.pointer (some ⟨pb, 0, none⟩)] W fun e w' => ∃ V, e = .returned (.agg (ocells V go).toArray) ∧ Readed pb w.heap.size W (go, (gl, gs)) V w') := fun pb W hB h => by
    have := read_any pb w.heap.size hB ms W h
    rw [hg] at this
    exact this
  have HFIT : Hid (Okay ms → ObjFit go) := fun h => by
    have := gotP_fit h
    rw [hg] at this
    exact this
  obtain ⟨a, cap, rfl, _⟩ := h.shape
  clear h hb0 hm hg
  generalize l.length = n at *
  subst c0
  go_enter Try.func13, Try.ntmps13
  go_upto_region 1 with fail
  have HN' : Hid (Calls Try.prog 30 #[.slice a n cap] (w.alloc (.cells (ocells nilV noObj).toArray OT)) _) := HN
  clear HN
  have e0 : w.alloc (.cells (ocells nilV noObj).toArray OT) = w.alloc (.cells #[.string ⟨#[]⟩, .int .u32 0, .slice none 0 0, .slice none 0 0, .int .i64 0, .string ⟨#[]⟩, .slice none 0 0, .slice none 0 0, .slice none 0 0, .slice none 0 0, .slice none 0 0, .int .i64 0, .int .i64 0, .int .i64 0, .int .i64 0] OT) := rfl
  rw [← e0]
  clear e0
  generalize w.alloc (.cells (ocells nilV noObj).toArray OT) = w0 at *
  go_wp2_with fail
  refine HN'.out.mono ?_
  rintro e w1 ⟨pb, rfl, hp, hpb, hlt, hb⟩
  have HG : Hid (Getting w pb (l, false) w1) := ⟨HR0.out.keep (Kept.of_below (S := fun _ => False) hb) (fun h => h), hp, Kept.of_below (below_on HB0.out hb HB0.out.size), Nat.lt_of_lt_of_le HS0.out hpb⟩
  clear hp hpb hlt hb HN' HR0 HS0 HB0
  go_wp2_with fail
  refine (HMK.out pb w1 HG.out.prog).mono ?_
  rintro e w2 ⟨rfl, hp, hk⟩
  have HG2 := Lib.hid (HG.out.step hp hk)
  clear hp hk HG HMK
  have HX1 : Hid (True ∧ Getting w pb ms w2 ∧ True) := ⟨trivial, HG2.out, trivial⟩
  clear HG2 HRD
  have T := Lib.hid (HX1.out.2.1.tell (lists_nil _) fit_nil ones_nil)
  clear HX1
  go_wp2_with (refine wpList_store_run _ rfl _ _ _ rfl _ _ rfl rfl (by exact T.out.1) ?_)
  refine bodyPost_ret (v := .tuple #[.agg (ocells nilV noObj).toArray, errV 4]) ?_ rfl ⟨nilV, rfl, T.out.2.2.1, T.out.2.2.2⟩
  exact results_two Try.results13 _ _ w.heap.size OT _ _ _ _ rfl rfl T.out.2.1 Try.underlying31 rfl (by rw [size_obj]; rfl)
set_option maxRecDepth 100000 in
set_option maxHeartbeats 1000000 in
theorem get_way1 (v : Value) (l : List Nat) (w : World) (h : BytesAt w v l) (small : l.length ≤ 100000) (mb : Bool) (ms : Ps) (go : ObjD) (gl : List Nat) (gs : Bool) (hm : pMark (l, false) = (mb, ms)) (hg : gotP ms = (go, (gl, gs))) (c0 : mb = true) (c1 : gs = true) :
    Calls Try.prog 13 #[v] w fun e w' => ∃ V, e = .returned (.tuple #[.agg (ocells V noObj).toArray, errV 4]) ∧ ObjAt w' V noObj ∧ Below w.heap.size w w' := by
  have hb0 : Below w.heap.size w (w.alloc (.cells (ocells nilV noObj).toArray OT)) := (Below.refl _ _).alloc (Nat.le_refl _) _
  have HN := Lib.hid (bnewB_any v w.heap.size l (w.alloc (.cells (ocells nilV noObj).toArray OT)) (h.on hb0) h.own_lt small)
  have HR0 := Lib.hid (RowAt.new w OT (ocells nilV noObj))
  have HS0 : Hid (w.heap.size < (w.alloc (.cells (ocells nilV noObj).toArray OT)).heap.size) := by show _ < _; simp
  have HB0 := Lib.hid hb0
  have HMK : Hid (∀ pb W, PrS W pb w.heap.size (l, false) → Calls Try.prog 31 #[.pointer (some ⟨pb, 0, none⟩)] W fun e w' => e = .returned (.bool mb) ∧ PrS w' pb w.heap.size ms ∧ Kept (· = pb) W w') := fun pb W h => by
    have := mark_any pb w.heap.size (l, false) W h
    rw [hm] at this
    exact this
  have HRD : Hid (∀ pb W, w.heap.size ≤ pb → PrS W pb w.heap.size ms → Calls Try.prog 32 #[.pointer (some ⟨pb, 0, none⟩)] W fun e w' => ∃ V, e = .returned (.agg (ocells V go).toArray) ∧ Readed pb w.heap.size W (go, (gl, gs)) V w') := fun pb W hB h => by
    have := read_any pb w.heap.size hB ms W h
    rw [hg] at this
    exact this
  have HFIT : Hid (Okay ms → ObjFit go) := fun h => by
    have := gotP_fit h
    rw [hg] at this
    exact this
  obtain ⟨a, cap, rfl, _⟩ := h.shape
  clear h hb0 hm hg
  generalize l.length = n at *
  subst c0 c1
  go_enter Try.func13, Try.ntmps13
  go_upto_region 1 with fail
  have HN' : Hid (Calls Try.prog 30 #[.slice a n cap] (w.alloc (.cells (ocells nilV noObj).toArray OT)) _) := HN
  clear HN
  have e0 : w.alloc (.cells (ocells nilV noObj).toArray OT) = w.alloc (.cells #[.string ⟨#[]⟩, .int .u32 0, .slice none 0 0, .slice none 0 0, .int .i64 0, .string ⟨#[]⟩, .slice none 0 0, .slice none 0 0, .slice none 0 0, .slice none 0 0, .slice none 0 0, .int .i64 0, .int .i64 0, .int .i64 0, .int .i64 0] OT) := rfl
  rw [← e0]
  clear e0
  generalize w.alloc (.cells (ocells nilV noObj).toArray OT) = w0 at *
  go_wp2_with fail
  refine HN'.out.mono ?_
  rintro e w1 ⟨pb, rfl, hp, hpb, hlt, hb⟩
  have HG : Hid (Getting w pb (l, false) w1) := ⟨HR0.out.keep (Kept.of_below (S := fun _ => False) hb) (fun h => h), hp, Kept.of_below (below_on HB0.out hb HB0.out.size), Nat.lt_of_lt_of_le HS0.out hpb⟩
  clear hp hpb hlt hb HN' HR0 HS0 HB0
  go_wp2_with fail
  refine (HMK.out pb w1 HG.out.prog).mono ?_
  rintro e w2 ⟨rfl, hp, hk⟩
  have HG2 := Lib.hid (HG.out.step hp hk)
  clear hp hk HG HMK
  go_wp2_with fail
  refine (HRD.out pb w2 (Nat.le_of_lt HG2.out.far) HG2.out.prog).mono ?_
  rintro e w3 ⟨V, rfl, hr⟩
  have HG3 := Lib.hid (HG2.out.step hr.prog hr.kept)
  have HON := Lib.hid (ones_obj V go hr.one)
  have HX := Lib.hid (HG3.out.box hr.lists HON.out)
  clear hr HG2 HG3 HRD
  go_wp2_with (refine wpList_store_run _ rfl _ _ _ rfl _ _ rfl rfl (by exact HX.out.1) ?_)
  have HX1 := Lib.hid HX.out.2
  clear HX
  refine (bshort_any pb _ _ _ HX1.out.2.1.prog.at_).mono ?_
  rintro e w4 ⟨rfl, rfl⟩
  have T := Lib.hid (HX1.out.2.1.tell (lists_nil _) fit_nil ones_nil)
  clear HX1
  go_wp2_with (refine wpList_store_run _ rfl _ _ _ rfl _ _ rfl rfl (by exact T.out.1) ?_)
  refine bodyPost_ret (v := .tuple #[.agg (ocells nilV noObj).toArray, errV 4]) ?_ rfl ⟨nilV, rfl, T.out.2.2.1, T.out.2.2.2⟩
  exact results_two Try.results13 _ _ w.heap.size OT _ _ _ _ rfl rfl T.out.2.1 Try.underlying31 rfl (by rw [size_obj]; rfl)
set_option maxRecDepth 100000 in
set_option maxHeartbeats 1000000 in
theorem get_way2 (v : Value) (l : List Nat) (w : World) (h : BytesAt w v l) (small : l.length ≤ 100000) (mb : Bool) (ms : Ps) (go : ObjD) (gl : List Nat) (gs : Bool) (hm : pMark (l, false) = (mb, ms)) (hg : gotP ms = (go, (gl, gs))) (c0 : mb = true) (c1 : gs = false) (c2 : 0 < gl.length) :
    Calls Try.prog 13 #[v] w fun e w' => ∃ V, e = .returned (.tuple #[.agg (ocells V noObj).toArray, errV 4]) ∧ ObjAt w' V noObj ∧ Below w.heap.size w w' := by
  have hb0 : Below w.heap.size w (w.alloc (.cells (ocells nilV noObj).toArray OT)) := (Below.refl _ _).alloc (Nat.le_refl _) _
  have HN := Lib.hid (bnewB_any v w.heap.size l (w.alloc (.cells (ocells nilV noObj).toArray OT)) (h.on hb0) h.own_lt small)
  have HR0 := Lib.hid (RowAt.new w OT (ocells nilV noObj))
  have HS0 : Hid (w.heap.size < (w.alloc (.cells (ocells nilV noObj).toArray OT)).heap.size) := by show _ < _; simp
  have HB0 := Lib.hid hb0
  have HMK : Hid (∀ pb W, PrS W pb w.heap.size (l, false) → Calls Try.prog 31 #[.pointer (some ⟨pb, 0, none⟩)] W fun e w' => e = .returned (.bool mb) ∧ PrS w' pb w.heap.size ms ∧ Kept (· = pb) W w') := fun pb W h => by
    have := mark_any pb w.heap.size (l, false) W h
    rw [hm] at this
    exact this
  have HRD : Hid (∀ pb W, w.heap.size ≤ pb → PrS W pb w.heap.size ms → Calls Try.prog 32 #[.pointer (some ⟨pb, 0, none⟩)] W fun e w' => ∃ V, e = .returned (.agg (ocells V go).toArray) ∧ Readed pb w.heap.size W (go, (gl, gs)) V w') := fun pb W hB h => by
    have := read_any pb w.heap.size hB ms W h
    rw [hg] at this
    exact this
  have HFIT : Hid (Okay ms → ObjFit go) := fun h => by
    have := gotP_fit h
    rw [hg] at this
    exact this
  obtain ⟨a, cap, rfl, _⟩ := h.shape
  clear h hb0 hm hg
  generalize l.length = n at *
  subst c0 c1
  have i1 : (0 : Int) < ((gl.length : Nat) : Int) := by omega
  clear c2
  go_enter Try.func13, Try.ntmps13
  go_upto_region 1 with fail
  have HN' : Hid (Calls Try.prog 30 #[.slice a n cap] (w.alloc (.cells (ocells nilV noObj).toArray OT)) _) := HN
  clear HN
  have e0 : w.alloc (.cells (ocells nilV noObj).toArray OT) = w.alloc (.cells #[.string ⟨#[]⟩, .int .u32 0, .slice none 0 0, .slice none 0 0, .int .i64 0, .string ⟨#[]⟩, .slice none 0 0, .slice none 0 0, .slice none 0 0, .slice none 0 0, .slice none 0 0, .int .i64 0, .int .i64 0, .int .i64 0, .int .i64 0] OT) := rfl
  rw [← e0]
  clear e0
  generalize w.alloc (.cells (ocells nilV noObj).toArray OT) = w0 at *
  go_wp2_with fail
  refine HN'.out.mono ?_
  rintro e w1 ⟨pb, rfl, hp, hpb, hlt, hb⟩
  have HG : Hid (Getting w pb (l, false) w1) := ⟨HR0.out.keep (Kept.of_below (S := fun _ => False) hb) (fun h => h), hp, Kept.of_below (below_on HB0.out hb HB0.out.size), Nat.lt_of_lt_of_le HS0.out hpb⟩
  clear hp hpb hlt hb HN' HR0 HS0 HB0
  go_wp2_with fail
  refine (HMK.out pb w1 HG.out.prog).mono ?_
  rintro e w2 ⟨rfl, hp, hk⟩
  have HG2 := Lib.hid (HG.out.step hp hk)
  clear hp hk HG HMK
  go_wp2_with fail
  refine (HRD.out pb w2 (Nat.le_of_lt HG2.out.far) HG2.out.prog).mono ?_
  rintro e w3 ⟨V, rfl, hr⟩
  have HG3 := Lib.hid (HG2.out.step hr.prog hr.kept)
  have HON := Lib.hid (ones_obj V go hr.one)
  have HX := Lib.hid (HG3.out.box hr.lists HON.out)
  clear hr HG2 HG3 HRD
  go_wp2_with (refine wpList_store_run _ rfl _ _ _ rfl _ _ rfl rfl (by exact HX.out.1) ?_)
  have HX1 := Lib.hid HX.out.2
  clear HX
  refine (bshort_any pb _ _ _ HX1.out.2.1.prog.at_).mono ?_
  rintro e w4 ⟨rfl, rfl⟩
  go_wp2_with fail
  refine (bleft_any pb _ _ _ HX1.out.2.1.prog.at_).mono ?_
  rintro e w5 ⟨rfl, rfl⟩
  have T := Lib.hid (HX1.out.2.1.tell (lists_nil _) fit_nil ones_nil)
  clear HX1
  go_wp2_with (refine wpList_store_run _ rfl _ _ _ rfl _ _ rfl rfl (by exact T.out.1) ?_)
  refine bodyPost_ret (v := .tuple #[.agg (ocells nilV noObj).toArray, errV 4]) ?_ rfl ⟨nilV, rfl, T.out.2.2.1, T.out.2.2.2⟩
  exact results_two Try.results13 _ _ w.heap.size OT _ _ _ _ rfl rfl T.out.2.1 Try.underlying31 rfl (by rw [size_obj]; rfl)
set_option maxRecDepth 100000 in
set_option maxHeartbeats 1000000 in
theorem get_way3 (v : Value) (l : List Nat) (w : World) (h : BytesAt w v l) (small : l.length ≤ 100000) (mb : Bool) (ms : Ps) (go : ObjD) (gl : List Nat) (gs : Bool) (hm : pMark (l, false) = (mb, ms)) (hg : gotP ms = (go, (gl, gs))) (c0 : mb = true) (c1 : gs = false) (c2 : ¬ 0 < gl.length) :
    Calls Try.prog 13 #[v] w fun e w' => ∃ V, e = .returned (.tuple #[.agg (ocells V go).toArray, .nilIface]) ∧ ObjAt w' V go ∧ Below w.heap.size w w' := by
  have hb0 : Below w.heap.size w (w.alloc (.cells (ocells nilV noObj).toArray OT)) := (Below.refl _ _).alloc (Nat.le_refl _) _
  have HN := Lib.hid (bnewB_any v w.heap.size l (w.alloc (.cells (ocells nilV noObj).toArray OT)) (h.on hb0) h.own_lt small)
  have HR0 := Lib.hid (RowAt.new w OT (ocells nilV noObj))
  have HS0 : Hid (w.heap.size < (w.alloc (.cells (ocells nilV noObj).toArray OT)).heap.size) := by show _ < _; simp
  have HB0 := Lib.hid hb0
  have HMK : Hid (∀ pb W, PrS W pb w.heap.size (l, false) → Calls Try.prog 31 #[.pointer (some ⟨pb, 0, none⟩)] W fun e w' => e = .returned (.bool mb) ∧ PrS w' pb w.heap.size ms ∧ Kept (· = pb) W w') := fun pb W h => by
    have := mark_any pb w.heap.size (l, false) W h
    rw [hm] at this
    exact this
  have HRD : Hid (∀ pb W, w.heap.size ≤ pb → PrS W pb w.heap.size ms → Calls Try.prog 32 #[.pointer (some ⟨pb, 0, none⟩)] W fun e w' => ∃ V, e = .returned (.agg (ocells V go).toArray) ∧ Readed pb w.heap.size W (go, (gl, gs)) V w') := fun pb W hB h => by
    have := read_any pb w.heap.size hB ms W h
    rw [hg] at this
    exact this
  have HFIT : Hid (Okay ms → ObjFit go) := fun h => by
    have := gotP_fit h
    rw [hg] at this
    exact this
  obtain ⟨a, cap, rfl, _⟩ := h.shape
  clear h hb0 hm hg
  generalize l.length = n at *
  subst c0 c1
  have i1 : ¬ (0 : Int) < ((gl.length : Nat) : Int) := by omega
  clear c2
  go_enter Try.func13, Try.ntmps13
  go_upto_region 1 with fail
  have HN' : Hid (Calls Try.prog 30 #[.slice a n cap] (w.alloc (.cells (ocells nilV noObj).toArray OT)) _) := HN
  clear HN
  have e0 : w.alloc (.cells (ocells nilV noObj).toArray OT) = w.alloc (.cells #[.string ⟨#[]⟩, .int .u32 0, .slice none 0 0, .slice none 0 0, .int .i64 0, .string ⟨#[]⟩, .slice none 0 0, .slice none 0 0, .slice none 0 0, .slice none 0 0, .slice none 0 0, .int .i64 0, .int .i64 0, .int .i64 0, .int .i64 0] OT) := rfl
  rw [← e0]
  clear e0
  generalize w.alloc (.cells (ocells nilV noObj).toArray OT) = w0 at *
  go_wp2_with fail
  refine HN'.out.mono ?_
  rintro e w1 ⟨pb, rfl, hp, hpb, hlt, hb⟩
  have HG : Hid (Getting w pb (l, false) w1) := ⟨HR0.out.keep (Kept.of_below (S := fun _ => False) hb) (fun h => h), hp, Kept.of_below (below_on HB0.out hb HB0.out.size), Nat.lt_of_lt_of_le HS0.out hpb⟩
  clear hp hpb hlt hb HN' HR0 HS0 HB0
  go_wp2_with fail
  refine (HMK.out pb w1 HG.out.prog).mono ?_
  rintro e w2 ⟨rfl, hp, hk⟩
  have HG2 := Lib.hid (HG.out.step hp hk)
  clear hp hk HG HMK
  have HOK := Lib.hid (PrB.okay HG2.out.prog)
  go_wp2_with fail
  refine (HRD.out pb w2 (Nat.le_of_lt HG2.out.far) HG2.out.prog).mono ?_
  rintro e w3 ⟨V, rfl, hr⟩
  have HG3 := Lib.hid (HG2.out.step hr.prog hr.kept)
  have HON := Lib.hid (ones_obj V go hr.one)
  have HX := Lib.hid (HG3.out.box hr.lists HON.out)
  clear hr HG2 HG3 HRD
  go_wp2_with (refine wpList_store_run _ rfl _ _ _ rfl _ _ rfl rfl (by exact HX.out.1) ?_)
  have HX1 := Lib.hid HX.out.2
  clear HX
  refine (bshort_any pb _ _ _ HX1.out.2.1.prog.at_).mono ?_
  rintro e w4 ⟨rfl, rfl⟩
  go_wp2_with fail
  refine (bleft_any pb _ _ _ HX1.out.2.1.prog.at_).mono ?_
  rintro e w5 ⟨rfl, rfl⟩
  have T := Lib.hid (HX1.out.2.1.tell HX1.out.2.2 (HFIT.out HOK.out) HON.out)
  go_wp2_with (first
    | (refine wpList_load_row rfl _ _ rfl w3.heap.size rfl OT (ocells V go).toArray (0, 0) _ HX1.out.1 Try.underlying31 rfl (by rw [size_obj]; rfl) ?_)
    | (refine wpList_store_run _ rfl _ _ _ rfl _ _ rfl rfl (by exact T.out.1) ?_))
  refine bodyPost_ret (v := .tuple #[.agg (ocells V go).toArray, .nilIface]) ?_ rfl ⟨V, rfl, T.out.2.2.1, T.out.2.2.2⟩
  exact results_two Try.results13 _ _ w.heap.size OT _ _ _ _ rfl rfl T.out.2.1 Try.underlying31 rfl (by rw [size_obj]; rfl)
theorem get_any (v : Value) (l : List Nat) (w : World) (h : BytesAt w v l) (small : l.length ≤ 100000) :
    Calls Try.prog 13 #[v] w fun e w' => ∃ V, e = .returned (.tuple #[.agg (ocells V ((pGet l).getD noObj)).toArray, errG (pGet l)]) ∧ ObjAt w' V ((pGet l).getD noObj) ∧ Below w.heap.size w w' := by
  unfold pGet
  rcases hm : pMark (l, false) with ⟨mb, ms⟩
  simp only
  rcases hg : gotP ms with ⟨go, gl, gs⟩
  simp only
  cases hmb : mb with
  | false => exact get_way0 v l w h small mb ms go gl gs hm hg hmb
  | true =>
    cases hgs : gs with
    | true => exact get_way1 v l w h small mb ms go gl gs hm hg hmb hgs
    | false =>
      by_cases hl : 0 < gl.length
      · simp only [hl, decide_true, Bool.or_true, if_true]
        exact get_way2 v l w h small mb ms go gl gs hm hg hmb hgs hl
      · simp only [hl, decide_false, Bool.or_false, if_true]
        exact get_way3 v l w h small mb ms go gl gs hm hg hmb hgs hl
end Go.Proofs.Ythgnklgejlebhaa
