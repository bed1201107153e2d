/-
  The document's Object (layer 12): the object of bytes. Conditions: at most 100,000 bytes. (Written by wip/tools/obj-doc.py.)
-/
import Derived.Test.YthgnklgejlebhaaDocB
import Derived.Test.YthgnklgejlebhaaObjC
import Derived.Deep.DeepCutAuto
namespace Go.Proofs.Ythgnklgejlebhaa
open Go.ChangeShapes Go.WideShapes Go.ChangeAt Go.RowKit

theorem Lists.same {w : World} {V : ObjV} {o o' : ObjD} (h : Lists w V o) (e : o'.imps = o.imps ∧ o'.types = o.types ∧ o'.code = o.code ∧ o'.cmds = o.cmds ∧ o'.exps = o.exps ∧ o'.ptrs = o.ptrs ∧ o'.procs = o.procs) : Lists w V o' := by
  obtain ⟨h1, h2, h3, h4, h5, h6, h7⟩ := e
  exact ⟨by rw [h1]; exact h.imps, by rw [h2]; exact h.types, by rw [h3]; exact h.code, by rw [h4]; exact h.cmds, by rw [h5]; exact h.exps, by rw [h6]; exact h.ptrs, by rw [h7]; exact h.procs⟩
/- a number or a text stored: the lists are as they were -/
theorem Ob.num {w : World} {rb b5 b2 : Nat} {v0 : Value} {l : List Nat} {wr : World} {V : ObjV} {o : ObjD} {s : Ps} (h : Ob w rb b5 b2 v0 l wr V o s) (i : Nat) (u : Value) (o' : ObjD) (ho : (ocells V o).set i u = ocells V o')
    (e : o'.imps = o.imps ∧ o'.types = o.types ∧ o'.code = o.code ∧ o'.cmds = o.cmds ∧ o'.exps = o.exps ∧ o'.ptrs = o.ptrs ∧ o'.procs = o.procs) : Ob w rb b5 b2 v0 l (wr.setCell ⟨b5, i, none⟩ u) V o' s := h.set i u o' ho (h.lists.same e)
section
variable (rb B : Nat) (v : Value) (l : List Nat) (s : Ps)
theorem dt_at {x : ByteArray × Ps} (hx : pt s = x) (w : World) (h : RdP w rb B v l s) :
    Calls Try.prog 19 #[.pointer (some ⟨rb, 0, none⟩)] w fun e w' => e = .returned (.string x.1) ∧ RdP w' rb B v l x.2 ∧ Kept (· = rb) w w' := hx ▸ dt_any rb B v l s w h
theorem dn4_at {x : Nat × Ps} (hx : pn s 4 = x) (w : World) (h : RdP w rb B v l s) :
    Calls Try.prog 20 #[.pointer (some ⟨rb, 0, none⟩), .int .i64 4] w fun e w' => e = .returned (.int .u32 ((x.1 : Nat) : Int)) ∧ RdP w' rb B v l x.2 ∧ Kept (· = rb) w w' := hx ▸ dn_any rb B v l s 4 w h
theorem small_at {k : Nat} (hk : k ≤ 2) {s : Ps} (h : Okay s) {x : Nat × Ps} (hx : pn s (k : Nat) = x) : x.1 < 65536 :=
  hx ▸ Nat.lt_of_lt_of_le (pnum_lt h.byte k) (Nat.pow_le_pow_right (by decide : 0 < 256) hk)
theorem dn1_at {x : Nat × Ps} (hx : pn s 1 = x) (w : World) (h : RdP w rb B v l s) :
    Calls Try.prog 20 #[.pointer (some ⟨rb, 0, none⟩), .int .i64 1] w fun e w' => e = .returned (.int .u32 ((x.1 : Nat) : Int)) ∧ RdP w' rb B v l x.2 ∧ Kept (· = rb) w w' := hx ▸ dn_any rb B v l s 1 w h
theorem dn2_at {x : Nat × Ps} (hx : pn s 2 = x) (w : World) (h : RdP w rb B v l s) :
    Calls Try.prog 20 #[.pointer (some ⟨rb, 0, none⟩), .int .i64 2] w fun e w' => e = .returned (.int .u32 ((x.1 : Nat) : Int)) ∧ RdP w' rb B v l x.2 ∧ Kept (· = rb) w w' := hx ▸ dn_any rb B v l s 2 w h
end
theorem els_one {α : Type} {k : Nat} {row : α → List Value} {w : World} {v : Value} {L : List α} (h : ElsAt k row w v L) : v.oneCell' = true := by
  obtain ⟨a, c, rfl, _⟩ := h.shape
  rfl
theorem Lists.ones {w : World} {V : ObjV} {o : ObjD} (h : Lists w V o) (o' : ObjD) : Ones (ocells V o') :=
  ones_obj V o' ⟨els_one (h.imps.els fun _ => rfl), els_one (h.types.els fun _ => rfl), els_one (h.code.els fun _ => rfl), els_one (h.cmds.els fun _ => rfl), els_one (h.exps.els fun _ => rfl), els_one (h.ptrs.els fun _ => rfl), els_one (h.procs.els fun _ => rfl)⟩
theorem Ob.tell {w : World} {rb b5 : Nat} {v0 : Value} {l : List Nat} {wr : World} {V0 : ObjV} {o0 : ObjD} {s : Ps} (h : Ob w rb b5 w.heap.size v0 l wr V0 o0 s) {V : ObjV} {o : ObjD} (hl : Lists wr V o) (hf : ObjFit o) (h1 : Ones (ocells V o)) :
    (Instr.storeAt OT (.pointer (some ⟨w.heap.size, 0, none⟩)) (.agg (ocells V o).toArray)).run Try.prog wr = .ok () (wr.setRow w.heap.size (ocells V o).toArray) ∧ RowAt (wr.setRow w.heap.size (ocells V o).toArray) w.heap.size OT (ocells V o) ∧
      ObjAt (wr.setRow w.heap.size (ocells V o).toArray) V o ∧ Below w.heap.size w (wr.setRow w.heap.size (ocells V o).toArray) := by
  obtain ⟨r1, r2, r3⟩ := told_row h.res (xs := ocells V o) (k := 15) rfl rfl h1 size_obj
  exact ⟨r1, r2, (hl.over h.res r3).obj hf, (h.kept.then (T := (· = w.heap.size)) r3 (fun j _ e => by omega)).below (Below.refl _ _) (Nat.le_refl _) (fun j _ hj => hj)⟩
abbrev startW (w : World) (v : Value) : World := ((w.alloc (.cells (ocells nilV noObj).toArray OT)).alloc (.cells #[v, .int .i64 2, .bool false] RdT)).alloc (.cells (ocells nilV noObj).toArray OT)
theorem start_ob {w : World} {v : Value} {l : List Nat} (h : BytesAt w v l) (h2 : 2 ≤ l.length) (hs : l.length ≤ 100000) : Ob w (w.heap.size + 1) (w.heap.size + 2) w.heap.size v l (startW w v) nilV noObj (curL l 2 false, false) := by
  have k1 : Kept (fun _ => False) w (w.alloc (.cells (ocells nilV noObj).toArray OT)) := (Kept.refl _ w).alloc _
  have k2 : Kept (fun _ => False) (w.alloc (.cells (ocells nilV noObj).toArray OT)) ((w.alloc (.cells (ocells nilV noObj).toArray OT)).alloc (.cells #[v, .int .i64 2, .bool false] RdT)) := (Kept.refl _ _).alloc _
  have k3 : Kept (fun _ => False) ((w.alloc (.cells (ocells nilV noObj).toArray OT)).alloc (.cells #[v, .int .i64 2, .bool false] RdT)) (startW w v) := (Kept.refl _ _).alloc _
  have r1 : RowAt (startW w v) w.heap.size OT (ocells nilV noObj) := ((RowAt.new w OT _).keep k2 (fun h => h)).keep k3 (fun h => h)
  have r2 : RowAt (startW w v) (w.heap.size + 1) RdT [v, .int .i64 2, .bool false] := by
    have := (RowAt.new (w.alloc (.cells (ocells nilV noObj).toArray OT)) RdT [v, .int .i64 2, .bool false]).keep k3 (fun h => h)
    rwa [show (w.alloc (.cells (ocells nilV noObj).toArray OT)).heap.size = w.heap.size + 1 by simp] at this
  have r3 : RowAt (startW w v) (w.heap.size + 2) OT (ocells nilV noObj) := by
    have := RowAt.new ((w.alloc (.cells (ocells nilV noObj).toArray OT)).alloc (.cells #[v, .int .i64 2, .bool false] RdT)) OT (ocells nilV noObj)
    rwa [show ((w.alloc (.cells (ocells nilV noObj).toArray OT)).alloc (.cells #[v, .int .i64 2, .bool false] RdT)).heap.size = w.heap.size + 2 by simp] at this
  have kk := (k1.trans k2).trans k3
  refine ⟨⟨⟨2, false, ⟨r2, h.on kk.none, h2, hs⟩, rfl⟩, h.own_lt⟩, r3, r1, lists_nil _, Kept.of_below kk.none, ⟨by omega, by omega, Nat.le_refl _⟩, ⟨by omega, by omega, by omega⟩, fun j hj => ?_⟩
  rcases hj with hj | hj | hj | hj | hj | hj | hj <;> exact hj.elim
theorem wrap_small {x : Nat} (h : x < 65536) : IntKind.i64.wrap (x : Int) = (x : Int) := IntWalk.i64_in _ (by omega)

set_option maxRecDepth 100000 in
set_option maxHeartbeats 16000000 in
theorem robj_main (a : Option Addr) (n cap : Nat) (r : List Nat) (res : Option ObjD) (w : World) (h : BytesAt w (.slice a n cap) (68 :: 87 :: r)) (hn : (68 :: 87 :: r).length = n) (small : n ≤ 100000)
    (hno : ((gotP (r, false)).2.2 || decide (0 < (gotP (r, false)).2.1.length)) = true → res = none) (hyes : ((gotP (r, false)).2.2 || decide (0 < (gotP (r, false)).2.1.length)) = false → res = some (gotP (r, false)).1) :
    Calls Try.prog 10 #[.slice a n cap] w fun e w' => ∃ V, e = .returned (.tuple #[.agg (ocells V (res.getD noObj)).toArray, .bool res.isSome]) ∧ ObjAt w' V (res.getD noObj) ∧ Below w.heap.size w w' := by
  obtain ⟨l, hl⟩ : ∃ l, 68 :: 87 :: r = l := ⟨_, rfl⟩
  have hfit := gotP_fit (s := (r, false)) ⟨fun b hb => h.fit b (by simp [hb]), by simp at hn ⊢; omega⟩
  obtain ⟨s0, hs0⟩ : ∃ s0 : Ps, (r, false) = s0 := ⟨_, rfl⟩
  have hs1 : s0 = (curL l 2 false, false) := by rw [← hs0, ← hl]; rfl
  rw [hs0] at hno hyes hfit
  obtain ⟨nm, hnm⟩ : ∃ x, pt s0 = x := ⟨_, rfl⟩
  have Hnm := Lib.hid hnm
  obtain ⟨ky, hky⟩ : ∃ x, pn nm.2 4 = x := ⟨_, rfl⟩
  have Hky := Lib.hid hky
  obtain ⟨c1, hc1⟩ : ∃ x, pn ky.2 1 = x := ⟨_, rfl⟩
  have Hc1 := Lib.hid hc1
  obtain ⟨im, him⟩ : ∃ x, plot pImp 1 ky.2 = x := ⟨_, rfl⟩
  have Him := Lib.hid him
  obtain ⟨c2, hc2⟩ : ∃ x, pn im.2 1 = x := ⟨_, rfl⟩
  have Hc2 := Lib.hid hc2
  obtain ⟨ty, hty⟩ : ∃ x, plot pType 1 im.2 = x := ⟨_, rfl⟩
  have Hty := Lib.hid hty
  obtain ⟨da, hda⟩ : ∃ x, pn ty.2 1 = x := ⟨_, rfl⟩
  have Hda := Lib.hid hda
  obtain ⟨tx, htx⟩ : ∃ x, pt da.2 = x := ⟨_, rfl⟩
  have Htx := Lib.hid htx
  obtain ⟨c3, hc3⟩ : ∃ x, pn tx.2 2 = x := ⟨_, rfl⟩
  have Hc3 := Lib.hid hc3
  obtain ⟨co, hco⟩ : ∃ x, plot pWord 2 tx.2 = x := ⟨_, rfl⟩
  have Hco := Lib.hid hco
  obtain ⟨c4, hc4⟩ : ∃ x, pn co.2 1 = x := ⟨_, rfl⟩
  have Hc4 := Lib.hid hc4
  obtain ⟨cm, hcm⟩ : ∃ x, plot pCmd 1 co.2 = x := ⟨_, rfl⟩
  have Hcm := Lib.hid hcm
  obtain ⟨c5, hc5⟩ : ∃ x, pn cm.2 1 = x := ⟨_, rfl⟩
  have Hc5 := Lib.hid hc5
  obtain ⟨ex, hex⟩ : ∃ x, plot pExp 1 cm.2 = x := ⟨_, rfl⟩
  have Hex := Lib.hid hex
  obtain ⟨pp, hpp⟩ : ∃ x, plot pByte 1 ex.2 = x := ⟨_, rfl⟩
  have Hpp := Lib.hid hpp
  obtain ⟨pq, hpq⟩ : ∃ x, plot pByte 1 pp.2 = x := ⟨_, rfl⟩
  have Hpq := Lib.hid hpq
  obtain ⟨f0, hf0⟩ : ∃ x, pn pq.2 2 = x := ⟨_, rfl⟩
  have Hf0 := Lib.hid hf0
  obtain ⟨f1, hf1⟩ : ∃ x, pn f0.2 2 = x := ⟨_, rfl⟩
  have Hf1 := Lib.hid hf1
  obtain ⟨f2, hf2⟩ : ∃ x, pn f1.2 2 = x := ⟨_, rfl⟩
  have Hf2 := Lib.hid hf2
  obtain ⟨bd, hbd⟩ : ∃ x, pn f2.2 2 = x := ⟨_, rfl⟩
  have Hbd := Lib.hid hbd
  have hG : gotP s0 = (⟨nm.1, ky.1, im.1, ty.1, (da.1 : Nat), tx.1, co.1, cm.1, ex.1, pp.1, pq.1, (f0.1 : Nat), (f1.1 : Nat), (f2.1 : Nat), (bd.1 : Nat)⟩, bd.2) := by
    simp only [gotP, pByte, pPlace, hnm, hky, him, hty, hda, htx, hco, hcm, hex, hpp, hpq, hf0, hf1, hf2, hbd]
  rw [hG] at hno hyes hfit
  simp only at hno hyes hfit
  have HNO := Lib.hid hno
  have HYES := Lib.hid hyes
  have HFIT := Lib.hid hfit
  clear hG hno hyes hfit hnm hky hc1 him hc2 hty hda htx hc3 hco hc4 hcm hc5 hex hpp hpq hf0 hf1 hf2 hbd
  rw [hl] at h hn
  obtain ⟨b, off, cap', e0, hcell⟩ := h.byte (by rw [hn, ← hn, ← hl]; simp)
  rw [hn] at e0
  cases e0
  have d0 : w.cell? ⟨b, off, none⟩ = some (.int .u8 68) := by have := hcell 0 (by rw [← hl]; simp); rw [← hl] at this; exact this
  have d1 : w.cell? ⟨b, off + 1, none⟩ = some (.int .u8 87) := by have := hcell 1 (by rw [← hl]; simp); rw [← hl] at this; exact this
  have i1 : (2 : Int) ≤ (n : Int) := by rw [← hn, ← hl]; simp; omega
  have i2 : ¬ (n : Int) < 2 := by omega
  have HB0 := Lib.hid (start_ob h (by rw [← hl]; simp) (by omega))
  rw [← hs1] at HB0
  have hka : Below w.heap.size w (w.alloc (.cells (ocells nilV noObj).toArray OT)) := (Below.refl _ _).alloc (Nat.le_refl _) _
  obtain ⟨hlb, _⟩ : b < w.heap.size ∧ True := ⟨cell_lt d0, trivial⟩
  have d0' : (w.alloc (.cells #[.string ⟨#[]⟩, .int .u32 0, .slice none 0 0, .slice none 0 0, .int .i64 0, .string ⟨#[]⟩, .slice none 0 0, .slice none 0 0, .slice none 0 0, .slice none 0 0, .slice none 0 0, .int .i64 0, .int .i64 0, .int .i64 0, .int .i64 0] OT)).cell? ⟨b, off, none⟩ = some (.int .u8 68) := (hka.cell (p := ⟨b, off, none⟩) hlb).trans d0
  have d1' : (w.alloc (.cells #[.string ⟨#[]⟩, .int .u32 0, .slice none 0 0, .slice none 0 0, .int .i64 0, .string ⟨#[]⟩, .slice none 0 0, .slice none 0 0, .slice none 0 0, .slice none 0 0, .slice none 0 0, .int .i64 0, .int .i64 0, .int .i64 0, .int .i64 0] OT)).cell? ⟨b, off + 1, none⟩ = some (.int .u8 87) := (hka.cell (p := ⟨b, off + 1, none⟩) hlb).trans d1
  clear d0 d1 hka hlb h hcell
  go_enter Try.func10, Try.ntmps10
  go_upto_region 7 with fail
  have e0 : startW w (.slice (some ⟨b, off, none⟩) n cap) = ((w.alloc (.cells #[.string ⟨#[]⟩, .int .u32 0, .slice none 0 0, .slice none 0 0, .int .i64 0, .string ⟨#[]⟩, .slice none 0 0, .slice none 0 0, .slice none 0 0, .slice none 0 0, .slice none 0 0, .int .i64 0, .int .i64 0, .int .i64 0, .int .i64 0] OT)).alloc (.cells #[.slice (some ⟨b, off, none⟩) n cap, .int .i64 2, .bool false] RdT)).alloc (.cells #[.string ⟨#[]⟩, .int .u32 0, .slice none 0 0, .slice none 0 0, .int .i64 0, .string ⟨#[]⟩, .slice none 0 0, .slice none 0 0, .slice none 0 0, .slice none 0 0, .slice none 0 0, .int .i64 0, .int .i64 0, .int .i64 0, .int .i64 0] OT) := rfl
  rw [← e0]
  have HB1 : Hid (Ob w (w.heap.size + 1) (w.heap.size + 1 + 1) w.heap.size (.slice (some ⟨b, off, none⟩) n cap) l (startW w (.slice (some ⟨b, off, none⟩) n cap)) nilV noObj s0) := HB0
  clear HB0 e0 d0' d1' i1 i2
  generalize startW w (.slice (some ⟨b, off, none⟩) n cap) = wC at *
  generalize w.heap.size + 1 + 1 = b5 at *
  generalize w.heap.size + 1 = rb at *
  generalize Value.slice (some ⟨b, off, none⟩) n cap = v0 at *
  have B0 := HB1
  clear HB1 hs0 hs1 hl hn small
  go_wp2_with fail
  refine (dt_at rb _ v0 l _ Hnm.out _ B0.out.rd).mono ?_
  rintro e wa0 ⟨rfl, hp, hk⟩
  have hr := B0.out.read hp hk
  have c0 : wa0.cell? ⟨b5, 0, none⟩ = some (.string ⟨#[]⟩) := hr.row.cell 0
  have z0 := hr.row.free 0
  have B1 : Hid (Ob w rb b5 w.heap.size v0 l (wa0.setCell ⟨b5, 0, none⟩ (.string nm.1)) ⟨.slice none 0 0, .slice none 0 0, .slice none 0 0, .slice none 0 0, .slice none 0 0, .slice none 0 0, .slice none 0 0⟩ ⟨nm.1, 0, [], [], 0, ⟨#[]⟩, [], [], [], [], [], 0, 0, 0, 0⟩ nm.2) := hr.num 0 (.string nm.1) ⟨nm.1, 0, [], [], 0, ⟨#[]⟩, [], [], [], [], [], 0, 0, 0, 0⟩ rfl ⟨rfl, rfl, rfl, rfl, rfl, rfl, rfl⟩
  clear hp hk hr B0
  go_wp2_with fail
  clear c0 z0
  refine (dn4_at rb _ v0 l _ Hky.out _ B1.out.rd).mono ?_
  rintro e wa1 ⟨rfl, hp, hk⟩
  have hr := B1.out.read hp hk
  have c0 : wa1.cell? ⟨b5, 1, none⟩ = some (.int .u32 0) := hr.row.cell 1
  have z0 := hr.row.free 1
  have B2 : Hid (Ob w rb b5 w.heap.size v0 l (wa1.setCell ⟨b5, 1, none⟩ (.int .u32 ((ky.1 : Nat) : Int))) ⟨.slice none 0 0, .slice none 0 0, .slice none 0 0, .slice none 0 0, .slice none 0 0, .slice none 0 0, .slice none 0 0⟩ ⟨nm.1, ky.1, [], [], 0, ⟨#[]⟩, [], [], [], [], [], 0, 0, 0, 0⟩ ky.2) := hr.num 1 (.int .u32 ((ky.1 : Nat) : Int)) ⟨nm.1, ky.1, [], [], 0, ⟨#[]⟩, [], [], [], [], [], 0, 0, 0, 0⟩ rfl ⟨rfl, rfl, rfl, rfl, rfl, rfl, rfl⟩
  clear hp hk hr B1
  have hsm := small_at (k := 1) (by decide) B2.out.rd.okay Hc1.out
  have j9 := wrap_small hsm
  have HSMc1 := Lib.hid hsm
  have hlm : LM pImp (pn ky.2 1).1 (plot pImp 1 ky.2) [] (pn ky.2 1).2 := LM.start pImp 1 ky.2 (short_none B2.out.rd.gone 1)
  rw [Hc1.out, Him.out] at hlm
  go_wp2_with fail
  clear c0 z0
  refine (dn1_at rb _ v0 l _ Hc1.out _ B2.out.rd).mono ?_
  rintro e wlc1 ⟨rfl, hp, hk⟩
  have HBc1 : Hid (Ob w rb b5 w.heap.size v0 l wlc1 ⟨.slice none 0 0, .slice none 0 0, .slice none 0 0, .slice none 0 0, .slice none 0 0, .slice none 0 0, .slice none 0 0⟩ ⟨nm.1, ky.1, [], [], 0, ⟨#[]⟩, [], [], [], [], [], 0, 0, 0, 0⟩ c1.2) := B2.out.read hp hk
  have HLc1 := Lib.hid hlm
  clear hp hk hlm hsm B2
  go_wp2_with fail
  clear j9
  go_loopw [7] (fun i wr => ∃ (m : Nat) (L : List (ByteArray × Nat)) (vi : Value) (sm : Ps), m ≤ c1.1 ∧ i = .int .i64 (m : Nat) ∧ L.length = m ∧ Ob w rb b5 w.heap.size v0 l wr ⟨vi, .slice none 0 0, .slice none 0 0, .slice none 0 0, .slice none 0 0, .slice none 0 0, .slice none 0 0⟩ ⟨nm.1, ky.1, L, [], 0, ⟨#[]⟩, [], [], [], [], [], 0, 0, 0, 0⟩ sm ∧ LM pImp (c1.1 - m) im L sm) (fun i _ => c1.1 - (intOf i).toNat)
  case atStart => exact ⟨0, [], _, _, Nat.zero_le _, rfl, rfl, HBc1.out, HLc1.out⟩
  case round =>
    clear HBc1 HLc1
    obtain ⟨m, Lim, vim, sm, hm, rfl, hlen, hob, hlm⟩ := hrel
    have HOB := Lib.hid hob
    have HLM := Lib.hid hlm
    have HLEN := Lib.hid hlen
    have cs := hob.rd.cell2
    clear hob hlm hlen
    go_upto_region 11 with fail
    go_cut [54] (fun st wx => st = .bool (decide (m < c1.1) && !sm.2) ∧ wr = wx)
    case first =>
      as_aux_lemma =>
        by_cases hlt : m < c1.1
        · have i1 : (m : Int) < (c1.1 : Int) := by omega
          cases hs : sm.2 with
          | true =>
            rw [hs] at cs
            go_wp2_with fail
            go_meet
            exact ⟨by simp [hs], rfl⟩
          | false =>
            rw [hs] at cs
            go_wp2_with fail
            go_meet
            exact ⟨by simp [hlt, hs], rfl⟩
        · have i1 : ¬ (m : Int) < (c1.1 : Int) := by omega
          go_wp2_with fail
          go_meet
          exact ⟨by simp [hlt], rfl⟩
    case rest =>
      obtain ⟨rfl, rfl⟩ := hcut
      clear cs
      cases hc : (decide (m < c1.1) && !sm.2) with
      | true =>
        as_aux_lemma =>
          simp only [Bool.and_eq_true, decide_eq_true_eq, Bool.not_eq_true'] at hc
          have HS := Lib.hid hc.2
          have HLT := Lib.hid hc.1
          have i4 : IntKind.i64.wrap ((m : Int) + 1) = (m : Int) + 1 := IntWalk.i64_in _ (by have := HSMc1.out; omega)
          clear hc hm
          have FR := Lib.hid HOB.out.fresh
          have X0 : Hid (RowAt (wr.alloc (.cells #[.string ⟨#[]⟩, .int .u32 0] 53)) wr.heap.size 53 [.string ⟨#[]⟩, .int .u32 0]) := RowAt.new wr _ _
          have Y0 := Lib.hid (HOB.out.on ((Kept.refl _ wr).alloc (.cells #[.string ⟨#[]⟩, .int .u32 0] 53)))
          clear HOB
          go_wp2_with fail
          generalize wr.alloc (.cells #[.string ⟨#[]⟩, .int .u32 0] 53) = wx at *
          generalize hxb : wr.heap.size = xb at *
          clear hxb
          obtain ⟨x0, hx0⟩ : ∃ x, pt sm = x := ⟨_, rfl⟩
          have HX0 := Lib.hid hx0
          clear hx0
          refine (dt_at rb _ v0 l _ HX0.out _ Y0.out.rd).mono ?_
          rintro e wb0 ⟨rfl, hp, hk⟩
          have hxr := X0.out.keep hk (fun e => FR.out.ne.1 e)
          have hyr := Y0.out.read hp hk
          have cx0 : wb0.cell? ⟨xb, 0, none⟩ = some (.string ⟨#[]⟩) := hxr.cell 0
          have zx0 := hxr.free 0
          have X1 := Lib.hid (hxr.setCell 0 (.string x0.1))
          have Y1 := Lib.hid (hyr.var FR.out (kept_set wb0 xb 0 (.string x0.1)))
          clear hp hk hxr hyr X0 Y0
          obtain ⟨x1, hx1⟩ : ∃ x, pn x0.2 4 = x := ⟨_, rfl⟩
          have HX1 := Lib.hid hx1
          clear hx1
          go_wp2_with fail
          refine (dn4_at rb _ v0 l _ HX1.out _ Y1.out.rd).mono ?_
          rintro e wb1 ⟨rfl, hp, hk⟩
          have hxr := X1.out.keep hk (fun e => FR.out.ne.1 e)
          have hyr := Y1.out.read hp hk
          have cx1 : wb1.cell? ⟨xb, 1, none⟩ = some (.int .u32 0) := hxr.cell 1
          have zx1 := hxr.free 1
          have X2 := Lib.hid (hxr.setCell 1 (.int .u32 ((x1.1 : Nat) : Int)))
          have Y2 := Lib.hid (hyr.var FR.out (kept_set wb1 xb 1 (.int .u32 ((x1.1 : Nat) : Int))))
          clear hp hk hxr hyr X1 Y1
          obtain ⟨v', w', q0, q1, q2⟩ := Y2.out.grow_imps (x0.1, x1.1) (by have := HLEN.out; have := HLT.out; have := HSMc1.out; show Lim.length ≤ 900000; omega)
          obtain ⟨av, cv, hv, _⟩ := q2.lists.imps.shape
          obtain ⟨al, hal⟩ : ∃ al, v' = .slice av al cv := ⟨_, hv⟩
          clear hv
          subst hal
          have QB := Lib.hid q2
          have cq5 : w'.cell? ⟨b5, 2, none⟩ = some vim := q1.cell 2
          have zq5 := q1.free 2
          have cy0 : (wb1.setCell ⟨xb, 1, none⟩ (.int .u32 ((x1.1 : Nat) : Int))).cell? ⟨xb, 0, none⟩ = some (.string x0.1) := X2.out.cell 0
          have cy1 : (wb1.setCell ⟨xb, 1, none⟩ (.int .u32 ((x1.1 : Nat) : Int))).cell? ⟨xb, 1, none⟩ = some (.int .u32 ((x1.1 : Nat) : Int)) := X2.out.cell 1
          have cq6 : (wb1.setCell ⟨xb, 1, none⟩ (.int .u32 ((x1.1 : Nat) : Int))).cell? ⟨b5, 2, none⟩ = some vim := Y2.out.row.cell 2
          have hlm := HLM.out
          rw [show c1.1 - m = (c1.1 - (m + 1)) + 1 by have := HLT.out; omega] at hlm
          have hstep := hlm.step HS.out
          have ex : (pImp sm).1 = (x0.1, x1.1) ∧ (pImp sm).2 = x1.2 := by
            simp only [pImp]
            simp only [HX0.out, HX1.out]
            first | done | exact ⟨rfl, rfl⟩ | simp
          rw [ex.1, ex.2] at hstep
          have HLM2 := Lib.hid hstep
          clear hlm hstep ex q1 q2 HLM HX0 HX1
          go_wp2_with (at_builtin; refine Lib.wpList_append_run _ rfl (.tmp 64) (.tmp 66) _ _ rfl vim (.slice (some ⟨(wb1.setCell ⟨xb, 1, none⟩ (.int .u32 ((x1.1 : Nat) : Int))).heap.size, 0, none⟩) 1 1) (by simp [Act.eval]) (by simp [Act.eval]) _ _ q0 ?_)
          go_roundw
          case rel => exact ⟨m + 1, _, _, _, HLT.out, by go_num, by rw [List.length_append, HLEN.out]; rfl, QB.out, HLM2.out⟩
          case measure => have := HLT.out; simp [intOf]; omega
      | false =>
        have hld := HLM.out.done (s := sm) (by
          cases hs : sm.2 with
          | true => exact .inl rfl
          | false =>
            rw [hs] at hc
            simp at hc
            exact .inr (by omega))
        obtain ⟨hst, hld⟩ := hld
        subst hst
        have HDim := Lib.hid hld
        have B3 := HOB
        clear hld hc HOB HLM HLEN hm HSMc1
        have hsm := small_at (k := 1) (by decide) B3.out.rd.okay Hc2.out
        have j9 := wrap_small hsm
        have HSMc2 := Lib.hid hsm
        have hlm : LM pType (pn im.2 1).1 (plot pType 1 im.2) [] (pn im.2 1).2 := LM.start pType 1 im.2 (short_none B3.out.rd.gone 1)
        rw [Hc2.out, Hty.out] at hlm
        go_wp2_with fail
        refine (dn1_at rb _ v0 l _ Hc2.out _ B3.out.rd).mono ?_
        rintro e wlc2 ⟨rfl, hp, hk⟩
        have HBc2 : Hid (Ob w rb b5 w.heap.size v0 l wlc2 ⟨vim, .slice none 0 0, .slice none 0 0, .slice none 0 0, .slice none 0 0, .slice none 0 0, .slice none 0 0⟩ ⟨nm.1, ky.1, Lim, [], 0, ⟨#[]⟩, [], [], [], [], [], 0, 0, 0, 0⟩ c2.2) := B3.out.read hp hk
        have HLc2 := Lib.hid hlm
        clear hp hk hlm hsm B3
        go_wp2_with fail
        clear j9
        go_loopw [9] (fun i wr => ∃ (m : Nat) (L : List (Int × Int × Int)) (vi : Value) (sm : Ps), m ≤ c2.1 ∧ i = .int .i64 (m : Nat) ∧ L.length = m ∧ Ob w rb b5 w.heap.size v0 l wr ⟨vim, vi, .slice none 0 0, .slice none 0 0, .slice none 0 0, .slice none 0 0, .slice none 0 0⟩ ⟨nm.1, ky.1, Lim, L, 0, ⟨#[]⟩, [], [], [], [], [], 0, 0, 0, 0⟩ sm ∧ LM pType (c2.1 - m) ty L sm) (fun i _ => c2.1 - (intOf i).toNat)
        case atStart => exact ⟨0, [], _, _, Nat.zero_le _, rfl, rfl, HBc2.out, HLc2.out⟩
        case round =>
          clear HBc2 HLc2
          obtain ⟨m, Lty, vty, sm, hm, rfl, hlen, hob, hlm⟩ := hrel
          have HOB := Lib.hid hob
          have HLM := Lib.hid hlm
          have HLEN := Lib.hid hlen
          have cs := hob.rd.cell2
          clear hob hlm hlen
          go_upto_region 19 with fail
          go_cut [81] (fun st wx => st = .bool (decide (m < c2.1) && !sm.2) ∧ wr = wx)
          case first =>
            as_aux_lemma =>
              by_cases hlt : m < c2.1
              · have i1 : (m : Int) < (c2.1 : Int) := by omega
                cases hs : sm.2 with
                | true =>
                  rw [hs] at cs
                  go_wp2_with fail
                  go_meet
                  exact ⟨by simp [hs], rfl⟩
                | false =>
                  rw [hs] at cs
                  go_wp2_with fail
                  go_meet
                  exact ⟨by simp [hlt, hs], rfl⟩
              · have i1 : ¬ (m : Int) < (c2.1 : Int) := by omega
                go_wp2_with fail
                go_meet
                exact ⟨by simp [hlt], rfl⟩
          case rest =>
            obtain ⟨rfl, rfl⟩ := hcut
            clear cs
            cases hc : (decide (m < c2.1) && !sm.2) with
            | true =>
              as_aux_lemma =>
                simp only [Bool.and_eq_true, decide_eq_true_eq, Bool.not_eq_true'] at hc
                have HS := Lib.hid hc.2
                have HLT := Lib.hid hc.1
                have i4 : IntKind.i64.wrap ((m : Int) + 1) = (m : Int) + 1 := IntWalk.i64_in _ (by have := HSMc2.out; omega)
                clear hc hm
                have FR := Lib.hid HOB.out.fresh
                have X0 : Hid (RowAt (wr.alloc (.cells #[.int .i64 0, .int .i64 0, .int .i64 0] 55)) wr.heap.size 55 [.int .i64 0, .int .i64 0, .int .i64 0]) := RowAt.new wr _ _
                have Y0 := Lib.hid (HOB.out.on ((Kept.refl _ wr).alloc (.cells #[.int .i64 0, .int .i64 0, .int .i64 0] 55)))
                clear HOB
                go_wp2_with fail
                generalize wr.alloc (.cells #[.int .i64 0, .int .i64 0, .int .i64 0] 55) = wx at *
                generalize hxb : wr.heap.size = xb at *
                clear hxb
                obtain ⟨x0, hx0⟩ : ∃ x, pn sm 2 = x := ⟨_, rfl⟩
                have HX0 := Lib.hid hx0
                have hsm := small_at (k := 2) (by decide) Y0.out.rd.okay hx0
                have j2 := wrap_small hsm
                clear hsm
                clear hx0
                refine (dn2_at rb _ v0 l _ HX0.out _ Y0.out.rd).mono ?_
                rintro e wb0 ⟨rfl, hp, hk⟩
                have hxr := X0.out.keep hk (fun e => FR.out.ne.1 e)
                have hyr := Y0.out.read hp hk
                have cx0 : wb0.cell? ⟨xb, 0, none⟩ = some (.int .i64 0) := hxr.cell 0
                have zx0 := hxr.free 0
                have X1 := Lib.hid (hxr.setCell 0 (.int .i64 ((x0.1 : Nat) : Int)))
                have Y1 := Lib.hid (hyr.var FR.out (kept_set wb0 xb 0 (.int .i64 ((x0.1 : Nat) : Int))))
                clear hp hk hxr hyr X0 Y0
                obtain ⟨x1, hx1⟩ : ∃ x, pn x0.2 1 = x := ⟨_, rfl⟩
                have HX1 := Lib.hid hx1
                have hsm := small_at (k := 1) (by decide) Y1.out.rd.okay hx1
                have j3 := wrap_small hsm
                clear hsm
                clear hx1
                go_wp2_with fail
                refine (dn1_at rb _ v0 l _ HX1.out _ Y1.out.rd).mono ?_
                rintro e wb1 ⟨rfl, hp, hk⟩
                have hxr := X1.out.keep hk (fun e => FR.out.ne.1 e)
                have hyr := Y1.out.read hp hk
                have cx1 : wb1.cell? ⟨xb, 1, none⟩ = some (.int .i64 0) := hxr.cell 1
                have zx1 := hxr.free 1
                have X2 := Lib.hid (hxr.setCell 1 (.int .i64 ((x1.1 : Nat) : Int)))
                have Y2 := Lib.hid (hyr.var FR.out (kept_set wb1 xb 1 (.int .i64 ((x1.1 : Nat) : Int))))
                clear hp hk hxr hyr X1 Y1
                obtain ⟨x2, hx2⟩ : ∃ x, pn x1.2 1 = x := ⟨_, rfl⟩
                have HX2 := Lib.hid hx2
                have hsm := small_at (k := 1) (by decide) Y2.out.rd.okay hx2
                have j4 := wrap_small hsm
                clear hsm
                clear hx2
                go_wp2_with fail
                refine (dn1_at rb _ v0 l _ HX2.out _ Y2.out.rd).mono ?_
                rintro e wb2 ⟨rfl, hp, hk⟩
                have hxr := X2.out.keep hk (fun e => FR.out.ne.1 e)
                have hyr := Y2.out.read hp hk
                have cx2 : wb2.cell? ⟨xb, 2, none⟩ = some (.int .i64 0) := hxr.cell 2
                have zx2 := hxr.free 2
                have X3 := Lib.hid (hxr.setCell 2 (.int .i64 ((x2.1 : Nat) : Int)))
                have Y3 := Lib.hid (hyr.var FR.out (kept_set wb2 xb 2 (.int .i64 ((x2.1 : Nat) : Int))))
                clear hp hk hxr hyr X2 Y2
                by_cases h255 : x2.1 = 255
                · have e255 : ((((x2.1 : Nat) : Int)) == 255) = true := by rw [beq_iff_eq]; omega
                  have H255 := Lib.hid h255
                  clear h255
                  have cz : (wb2.setCell ⟨xb, 2, none⟩ (.int .i64 ((x2.1 : Nat) : Int))).cell? ⟨xb, 2, none⟩ = some (.int .i64 ((x2.1 : Nat) : Int)) := X3.out.cell 2
                  have zz := X3.out.free 2
                  have X4 := Lib.hid (X3.out.setCell 2 (.int .i64 (-1)))
                  have Y4 := Lib.hid (Y3.out.var FR.out (kept_set _ xb 2 (.int .i64 (-1))))
                  obtain ⟨v', w', q0, q1, q2⟩ := Y4.out.grow_types (((x0.1 : Nat) : Int), ((x1.1 : Nat) : Int), -1) (by have := HLEN.out; have := HLT.out; have := HSMc2.out; show Lty.length ≤ 900000; omega)
                  obtain ⟨av, cv, hv, _⟩ := q2.lists.types.shape
                  obtain ⟨al, hal⟩ : ∃ al, v' = .slice av al cv := ⟨_, hv⟩
                  clear hv
                  subst hal
                  have QB := Lib.hid q2
                  have cq5 : w'.cell? ⟨b5, 3, none⟩ = some vty := q1.cell 3
                  have zq5 := q1.free 3
                  have cy0 : ((wb2.setCell ⟨xb, 2, none⟩ (.int .i64 ((x2.1 : Nat) : Int))).setCell ⟨xb, 2, none⟩ (.int .i64 (-1))).cell? ⟨xb, 0, none⟩ = some (.int .i64 ((x0.1 : Nat) : Int)) := X4.out.cell 0
                  have cy1 : ((wb2.setCell ⟨xb, 2, none⟩ (.int .i64 ((x2.1 : Nat) : Int))).setCell ⟨xb, 2, none⟩ (.int .i64 (-1))).cell? ⟨xb, 1, none⟩ = some (.int .i64 ((x1.1 : Nat) : Int)) := X4.out.cell 1
                  have cy2 : ((wb2.setCell ⟨xb, 2, none⟩ (.int .i64 ((x2.1 : Nat) : Int))).setCell ⟨xb, 2, none⟩ (.int .i64 (-1))).cell? ⟨xb, 2, none⟩ = some (.int .i64 (-1)) := X4.out.cell 2
                  have cq6 : ((wb2.setCell ⟨xb, 2, none⟩ (.int .i64 ((x2.1 : Nat) : Int))).setCell ⟨xb, 2, none⟩ (.int .i64 (-1))).cell? ⟨b5, 3, none⟩ = some vty := Y4.out.row.cell 3
                  have hlm := HLM.out
                  rw [show c2.1 - m = (c2.1 - (m + 1)) + 1 by have := HLT.out; omega] at hlm
                  have hstep := hlm.step HS.out
                  have ex : (pType sm).1 = (((x0.1 : Nat) : Int), ((x1.1 : Nat) : Int), -1) ∧ (pType sm).2 = x2.2 := by
                    simp only [pType, pPlace, pByte, pBase]
                    simp only [HX0.out, HX1.out, HX2.out, H255.out, base255, if_true]
                    first | done | exact ⟨rfl, rfl⟩ | simp
                  rw [ex.1, ex.2] at hstep
                  have HLM2 := Lib.hid hstep
                  clear hlm hstep ex q1 q2 HLM HX0 HX1 HX2
                  go_wp2_with (at_builtin; refine Lib.wpList_append_run _ rfl (.tmp 101) (.tmp 103) _ _ rfl vty (.slice (some ⟨((wb2.setCell ⟨xb, 2, none⟩ (.int .i64 ((x2.1 : Nat) : Int))).setCell ⟨xb, 2, none⟩ (.int .i64 (-1))).heap.size, 0, none⟩) 1 1) (by simp [Act.eval]) (by simp [Act.eval]) _ _ q0 ?_)
                  go_roundw
                  case rel => exact ⟨m + 1, _, _, _, HLT.out, by go_num, by rw [List.length_append, HLEN.out]; rfl, QB.out, HLM2.out⟩
                  case measure => have := HLT.out; simp [intOf]; omega
                · have e255 : ((((x2.1 : Nat) : Int)) == 255) = false := by rw [beq_eq_false_iff_ne]; omega
                  have e256 : ¬ ((x2.1 : Nat) : Int) = 255 := by omega
                  obtain ⟨v', w', q0, q1, q2⟩ := Y3.out.grow_types (((x0.1 : Nat) : Int), ((x1.1 : Nat) : Int), ((x2.1 : Nat) : Int)) (by have := HLEN.out; have := HLT.out; have := HSMc2.out; show Lty.length ≤ 900000; omega)
                  obtain ⟨av, cv, hv, _⟩ := q2.lists.types.shape
                  obtain ⟨al, hal⟩ : ∃ al, v' = .slice av al cv := ⟨_, hv⟩
                  clear hv
                  subst hal
                  have QB := Lib.hid q2
                  have cq5 : w'.cell? ⟨b5, 3, none⟩ = some vty := q1.cell 3
                  have zq5 := q1.free 3
                  have cy0 : (wb2.setCell ⟨xb, 2, none⟩ (.int .i64 ((x2.1 : Nat) : Int))).cell? ⟨xb, 0, none⟩ = some (.int .i64 ((x0.1 : Nat) : Int)) := X3.out.cell 0
                  have cy1 : (wb2.setCell ⟨xb, 2, none⟩ (.int .i64 ((x2.1 : Nat) : Int))).cell? ⟨xb, 1, none⟩ = some (.int .i64 ((x1.1 : Nat) : Int)) := X3.out.cell 1
                  have cy2 : (wb2.setCell ⟨xb, 2, none⟩ (.int .i64 ((x2.1 : Nat) : Int))).cell? ⟨xb, 2, none⟩ = some (.int .i64 ((x2.1 : Nat) : Int)) := X3.out.cell 2
                  have cq6 : (wb2.setCell ⟨xb, 2, none⟩ (.int .i64 ((x2.1 : Nat) : Int))).cell? ⟨b5, 3, none⟩ = some vty := Y3.out.row.cell 3
                  have hlm := HLM.out
                  rw [show c2.1 - m = (c2.1 - (m + 1)) + 1 by have := HLT.out; omega] at hlm
                  have hstep := hlm.step HS.out
                  have ex : (pType sm).1 = (((x0.1 : Nat) : Int), ((x1.1 : Nat) : Int), ((x2.1 : Nat) : Int)) ∧ (pType sm).2 = x2.2 := by
                    simp only [pType, pPlace, pByte, pBase]
                    simp only [HX0.out, HX1.out, HX2.out, h255, base255, if_false]
                    first | done | exact ⟨rfl, rfl⟩ | simp
                  rw [ex.1, ex.2] at hstep
                  have HLM2 := Lib.hid hstep
                  clear hlm hstep ex q1 q2 HLM HX0 HX1 HX2
                  go_wp2_with (at_builtin; refine Lib.wpList_append_run _ rfl (.tmp 101) (.tmp 103) _ _ rfl vty (.slice (some ⟨(wb2.setCell ⟨xb, 2, none⟩ (.int .i64 ((x2.1 : Nat) : Int))).heap.size, 0, none⟩) 1 1) (by simp [Act.eval]) (by simp [Act.eval]) _ _ q0 ?_)
                  go_roundw
                  case rel => exact ⟨m + 1, _, _, _, HLT.out, by go_num, by rw [List.length_append, HLEN.out]; rfl, QB.out, HLM2.out⟩
                  case measure => have := HLT.out; simp [intOf]; omega
            | false =>
              have hld := HLM.out.done (s := sm) (by
                cases hs : sm.2 with
                | true => exact .inl rfl
                | false =>
                  rw [hs] at hc
                  simp at hc
                  exact .inr (by omega))
              obtain ⟨hst, hld⟩ := hld
              subst hst
              have HDty := Lib.hid hld
              have B4 := HOB
              clear hld hc HOB HLM HLEN hm HSMc2
              have hsm := small_at (k := 1) (by decide) B4.out.rd.okay Hda.out
              have j1 := wrap_small hsm
              go_wp2_with fail
              refine (dn1_at rb _ v0 l _ Hda.out _ B4.out.rd).mono ?_
              rintro e wa4 ⟨rfl, hp, hk⟩
              have hr := B4.out.read hp hk
              have c0 : wa4.cell? ⟨b5, 4, none⟩ = some (.int .i64 0) := hr.row.cell 4
              have z0 := hr.row.free 4
              have B5 : Hid (Ob w rb b5 w.heap.size v0 l (wa4.setCell ⟨b5, 4, none⟩ (.int .i64 ((da.1 : Nat) : Int))) ⟨vim, vty, .slice none 0 0, .slice none 0 0, .slice none 0 0, .slice none 0 0, .slice none 0 0⟩ ⟨nm.1, ky.1, Lim, Lty, (da.1 : Nat), ⟨#[]⟩, [], [], [], [], [], 0, 0, 0, 0⟩ da.2) := hr.num 4 (.int .i64 ((da.1 : Nat) : Int)) ⟨nm.1, ky.1, Lim, Lty, (da.1 : Nat), ⟨#[]⟩, [], [], [], [], [], 0, 0, 0, 0⟩ rfl ⟨rfl, rfl, rfl, rfl, rfl, rfl, rfl⟩
              clear hp hk hr B4 hsm
              go_wp2_with fail
              clear c0 z0 j1
              refine (dt_at rb _ v0 l _ Htx.out _ B5.out.rd).mono ?_
              rintro e wa5 ⟨rfl, hp, hk⟩
              have hr := B5.out.read hp hk
              have c0 : wa5.cell? ⟨b5, 5, none⟩ = some (.string ⟨#[]⟩) := hr.row.cell 5
              have z0 := hr.row.free 5
              have B6 : Hid (Ob w rb b5 w.heap.size v0 l (wa5.setCell ⟨b5, 5, none⟩ (.string tx.1)) ⟨vim, vty, .slice none 0 0, .slice none 0 0, .slice none 0 0, .slice none 0 0, .slice none 0 0⟩ ⟨nm.1, ky.1, Lim, Lty, (da.1 : Nat), tx.1, [], [], [], [], [], 0, 0, 0, 0⟩ tx.2) := hr.num 5 (.string tx.1) ⟨nm.1, ky.1, Lim, Lty, (da.1 : Nat), tx.1, [], [], [], [], [], 0, 0, 0, 0⟩ rfl ⟨rfl, rfl, rfl, rfl, rfl, rfl, rfl⟩
              clear hp hk hr B5
              have hsm := small_at (k := 2) (by decide) B6.out.rd.okay Hc3.out
              have j9 := wrap_small hsm
              have HSMc3 := Lib.hid hsm
              have hlm : LM pWord (pn tx.2 2).1 (plot pWord 2 tx.2) [] (pn tx.2 2).2 := LM.start pWord 2 tx.2 (short_none B6.out.rd.gone 2)
              rw [Hc3.out, Hco.out] at hlm
              go_wp2_with fail
              clear c0 z0
              refine (dn2_at rb _ v0 l _ Hc3.out _ B6.out.rd).mono ?_
              rintro e wlc3 ⟨rfl, hp, hk⟩
              have HBc3 : Hid (Ob w rb b5 w.heap.size v0 l wlc3 ⟨vim, vty, .slice none 0 0, .slice none 0 0, .slice none 0 0, .slice none 0 0, .slice none 0 0⟩ ⟨nm.1, ky.1, Lim, Lty, (da.1 : Nat), tx.1, [], [], [], [], [], 0, 0, 0, 0⟩ c3.2) := B6.out.read hp hk
              have HLc3 := Lib.hid hlm
              clear hp hk hlm hsm B6
              go_wp2_with fail
              clear j9
              go_loopw [11] (fun i wr => ∃ (m : Nat) (L : List (Nat)) (vi : Value) (sm : Ps), m ≤ c3.1 ∧ i = .int .i64 (m : Nat) ∧ L.length = m ∧ Ob w rb b5 w.heap.size v0 l wr ⟨vim, vty, vi, .slice none 0 0, .slice none 0 0, .slice none 0 0, .slice none 0 0⟩ ⟨nm.1, ky.1, Lim, Lty, (da.1 : Nat), tx.1, L, [], [], [], [], 0, 0, 0, 0⟩ sm ∧ LM pWord (c3.1 - m) co L sm) (fun i _ => c3.1 - (intOf i).toNat)
              case atStart => exact ⟨0, [], _, _, Nat.zero_le _, rfl, rfl, HBc3.out, HLc3.out⟩
              case round =>
                clear HBc3 HLc3
                obtain ⟨m, Lco, vco, sm, hm, rfl, hlen, hob, hlm⟩ := hrel
                have HOB := Lib.hid hob
                have HLM := Lib.hid hlm
                have HLEN := Lib.hid hlen
                have cs := hob.rd.cell2
                clear hob hlm hlen
                go_upto_region 32 with fail
                go_cut [125] (fun st wx => st = .bool (decide (m < c3.1) && !sm.2) ∧ wr = wx)
                case first =>
                  as_aux_lemma =>
                    by_cases hlt : m < c3.1
                    · have i1 : (m : Int) < (c3.1 : Int) := by omega
                      cases hs : sm.2 with
                      | true =>
                        rw [hs] at cs
                        go_wp2_with fail
                        go_meet
                        exact ⟨by simp [hs], rfl⟩
                      | false =>
                        rw [hs] at cs
                        go_wp2_with fail
                        go_meet
                        exact ⟨by simp [hlt, hs], rfl⟩
                    · have i1 : ¬ (m : Int) < (c3.1 : Int) := by omega
                      go_wp2_with fail
                      go_meet
                      exact ⟨by simp [hlt], rfl⟩
                case rest =>
                  obtain ⟨rfl, rfl⟩ := hcut
                  clear cs
                  cases hc : (decide (m < c3.1) && !sm.2) with
                  | true =>
                    as_aux_lemma =>
                      simp only [Bool.and_eq_true, decide_eq_true_eq, Bool.not_eq_true'] at hc
                      have HS := Lib.hid hc.2
                      have HLT := Lib.hid hc.1
                      have i4 : IntKind.i64.wrap ((m : Int) + 1) = (m : Int) + 1 := IntWalk.i64_in _ (by have := HSMc3.out; omega)
                      clear hc hm
                      have Y0 := HOB
                      clear HOB
                      obtain ⟨x0, hx0⟩ : ∃ x, pn sm 4 = x := ⟨_, rfl⟩
                      have HX0 := Lib.hid hx0
                      clear hx0
                      go_wp2_with fail
                      refine (dn4_at rb _ v0 l _ HX0.out _ Y0.out.rd).mono ?_
                      rintro e wb0 ⟨rfl, hp, hk⟩
                      have Y1 := Lib.hid (Y0.out.read hp hk)
                      clear hp hk Y0
                      obtain ⟨v', w', q0, q1, q2⟩ := Y1.out.grow_code x0.1 (by have := HLEN.out; have := HLT.out; have := HSMc3.out; show Lco.length ≤ 900000; omega)
                      obtain ⟨av, cv, hv, _⟩ := q2.lists.code.shape
                      obtain ⟨al, hal⟩ : ∃ al, v' = .slice av al cv := ⟨_, hv⟩
                      clear hv
                      subst hal
                      have QB := Lib.hid q2
                      have cq5 : w'.cell? ⟨b5, 6, none⟩ = some vco := q1.cell 6
                      have zq5 := q1.free 6
                      have cq6 : wb0.cell? ⟨b5, 6, none⟩ = some vco := Y1.out.row.cell 6
                      have hlm := HLM.out
                      rw [show c3.1 - m = (c3.1 - (m + 1)) + 1 by have := HLT.out; omega] at hlm
                      have hstep := hlm.step HS.out
                      have ex : (pWord sm).1 = x0.1 ∧ (pWord sm).2 = x0.2 := by
                        simp only [pWord]
                        simp only [HX0.out]
                        first | done | exact ⟨rfl, rfl⟩ | simp
                      rw [ex.1, ex.2] at hstep
                      have HLM2 := Lib.hid hstep
                      clear hlm hstep ex q1 q2 HLM HX0
                      go_wp2_with (at_builtin; refine Lib.wpList_append_run _ rfl (.tmp 131) (.tmp 133) _ _ rfl vco (.slice (some ⟨wb0.heap.size, 0, none⟩) 1 1) (by simp [Act.eval]) (by simp [Act.eval]) _ _ q0 ?_)
                      go_roundw
                      case rel => exact ⟨m + 1, _, _, _, HLT.out, by go_num, by rw [List.length_append, HLEN.out]; rfl, QB.out, HLM2.out⟩
                      case measure => have := HLT.out; simp [intOf]; omega
                  | false =>
                    have hld := HLM.out.done (s := sm) (by
                      cases hs : sm.2 with
                      | true => exact .inl rfl
                      | false =>
                        rw [hs] at hc
                        simp at hc
                        exact .inr (by omega))
                    obtain ⟨hst, hld⟩ := hld
                    subst hst
                    have HDco := Lib.hid hld
                    have B7 := HOB
                    clear hld hc HOB HLM HLEN hm HSMc3
                    have hsm := small_at (k := 1) (by decide) B7.out.rd.okay Hc4.out
                    have j9 := wrap_small hsm
                    have HSMc4 := Lib.hid hsm
                    have hlm : LM pCmd (pn co.2 1).1 (plot pCmd 1 co.2) [] (pn co.2 1).2 := LM.start pCmd 1 co.2 (short_none B7.out.rd.gone 1)
                    rw [Hc4.out, Hcm.out] at hlm
                    go_wp2_with fail
                    refine (dn1_at rb _ v0 l _ Hc4.out _ B7.out.rd).mono ?_
                    rintro e wlc4 ⟨rfl, hp, hk⟩
                    have HBc4 : Hid (Ob w rb b5 w.heap.size v0 l wlc4 ⟨vim, vty, vco, .slice none 0 0, .slice none 0 0, .slice none 0 0, .slice none 0 0⟩ ⟨nm.1, ky.1, Lim, Lty, (da.1 : Nat), tx.1, Lco, [], [], [], [], 0, 0, 0, 0⟩ c4.2) := B7.out.read hp hk
                    have HLc4 := Lib.hid hlm
                    clear hp hk hlm hsm B7
                    go_wp2_with fail
                    clear j9
                    go_loopw [13] (fun i wr => ∃ (m : Nat) (L : List (ByteArray × Int)) (vi : Value) (sm : Ps), m ≤ c4.1 ∧ i = .int .i64 (m : Nat) ∧ L.length = m ∧ Ob w rb b5 w.heap.size v0 l wr ⟨vim, vty, vco, vi, .slice none 0 0, .slice none 0 0, .slice none 0 0⟩ ⟨nm.1, ky.1, Lim, Lty, (da.1 : Nat), tx.1, Lco, L, [], [], [], 0, 0, 0, 0⟩ sm ∧ LM pCmd (c4.1 - m) cm L sm) (fun i _ => c4.1 - (intOf i).toNat)
                    case atStart => exact ⟨0, [], _, _, Nat.zero_le _, rfl, rfl, HBc4.out, HLc4.out⟩
                    case round =>
                      clear HBc4 HLc4
                      obtain ⟨m, Lcm, vcm, sm, hm, rfl, hlen, hob, hlm⟩ := hrel
                      have HOB := Lib.hid hob
                      have HLM := Lib.hid hlm
                      have HLEN := Lib.hid hlen
                      have cs := hob.rd.cell2
                      clear hob hlm hlen
                      go_upto_region 38 with fail
                      go_cut [148] (fun st wx => st = .bool (decide (m < c4.1) && !sm.2) ∧ wr = wx)
                      case first =>
                        as_aux_lemma =>
                          by_cases hlt : m < c4.1
                          · have i1 : (m : Int) < (c4.1 : Int) := by omega
                            cases hs : sm.2 with
                            | true =>
                              rw [hs] at cs
                              go_wp2_with fail
                              go_meet
                              exact ⟨by simp [hs], rfl⟩
                            | false =>
                              rw [hs] at cs
                              go_wp2_with fail
                              go_meet
                              exact ⟨by simp [hlt, hs], rfl⟩
                          · have i1 : ¬ (m : Int) < (c4.1 : Int) := by omega
                            go_wp2_with fail
                            go_meet
                            exact ⟨by simp [hlt], rfl⟩
                      case rest =>
                        obtain ⟨rfl, rfl⟩ := hcut
                        clear cs
                        cases hc : (decide (m < c4.1) && !sm.2) with
                        | true =>
                          as_aux_lemma =>
                            simp only [Bool.and_eq_true, decide_eq_true_eq, Bool.not_eq_true'] at hc
                            have HS := Lib.hid hc.2
                            have HLT := Lib.hid hc.1
                            have i4 : IntKind.i64.wrap ((m : Int) + 1) = (m : Int) + 1 := IntWalk.i64_in _ (by have := HSMc4.out; omega)
                            clear hc hm
                            have FR := Lib.hid HOB.out.fresh
                            have X0 : Hid (RowAt (wr.alloc (.cells #[.string ⟨#[]⟩, .int .i64 0] 57)) wr.heap.size 57 [.string ⟨#[]⟩, .int .i64 0]) := RowAt.new wr _ _
                            have Y0 := Lib.hid (HOB.out.on ((Kept.refl _ wr).alloc (.cells #[.string ⟨#[]⟩, .int .i64 0] 57)))
                            clear HOB
                            go_wp2_with fail
                            generalize wr.alloc (.cells #[.string ⟨#[]⟩, .int .i64 0] 57) = wx at *
                            generalize hxb : wr.heap.size = xb at *
                            clear hxb
                            obtain ⟨x0, hx0⟩ : ∃ x, pt sm = x := ⟨_, rfl⟩
                            have HX0 := Lib.hid hx0
                            clear hx0
                            refine (dt_at rb _ v0 l _ HX0.out _ Y0.out.rd).mono ?_
                            rintro e wb0 ⟨rfl, hp, hk⟩
                            have hxr := X0.out.keep hk (fun e => FR.out.ne.1 e)
                            have hyr := Y0.out.read hp hk
                            have cx0 : wb0.cell? ⟨xb, 0, none⟩ = some (.string ⟨#[]⟩) := hxr.cell 0
                            have zx0 := hxr.free 0
                            have X1 := Lib.hid (hxr.setCell 0 (.string x0.1))
                            have Y1 := Lib.hid (hyr.var FR.out (kept_set wb0 xb 0 (.string x0.1)))
                            clear hp hk hxr hyr X0 Y0
                            obtain ⟨x1, hx1⟩ : ∃ x, pn x0.2 2 = x := ⟨_, rfl⟩
                            have HX1 := Lib.hid hx1
                            have hsm := small_at (k := 2) (by decide) Y1.out.rd.okay hx1
                            have j3 := wrap_small hsm
                            clear hsm
                            clear hx1
                            go_wp2_with fail
                            refine (dn2_at rb _ v0 l _ HX1.out _ Y1.out.rd).mono ?_
                            rintro e wb1 ⟨rfl, hp, hk⟩
                            have hxr := X1.out.keep hk (fun e => FR.out.ne.1 e)
                            have hyr := Y1.out.read hp hk
                            have cx1 : wb1.cell? ⟨xb, 1, none⟩ = some (.int .i64 0) := hxr.cell 1
                            have zx1 := hxr.free 1
                            have X2 := Lib.hid (hxr.setCell 1 (.int .i64 ((x1.1 : Nat) : Int)))
                            have Y2 := Lib.hid (hyr.var FR.out (kept_set wb1 xb 1 (.int .i64 ((x1.1 : Nat) : Int))))
                            clear hp hk hxr hyr X1 Y1
                            obtain ⟨v', w', q0, q1, q2⟩ := Y2.out.grow_cmds (x0.1, ((x1.1 : Nat) : Int)) (by have := HLEN.out; have := HLT.out; have := HSMc4.out; show Lcm.length ≤ 900000; omega)
                            obtain ⟨av, cv, hv, _⟩ := q2.lists.cmds.shape
                            obtain ⟨al, hal⟩ : ∃ al, v' = .slice av al cv := ⟨_, hv⟩
                            clear hv
                            subst hal
                            have QB := Lib.hid q2
                            have cq5 : w'.cell? ⟨b5, 7, none⟩ = some vcm := q1.cell 7
                            have zq5 := q1.free 7
                            have cy0 : (wb1.setCell ⟨xb, 1, none⟩ (.int .i64 ((x1.1 : Nat) : Int))).cell? ⟨xb, 0, none⟩ = some (.string x0.1) := X2.out.cell 0
                            have cy1 : (wb1.setCell ⟨xb, 1, none⟩ (.int .i64 ((x1.1 : Nat) : Int))).cell? ⟨xb, 1, none⟩ = some (.int .i64 ((x1.1 : Nat) : Int)) := X2.out.cell 1
                            have cq6 : (wb1.setCell ⟨xb, 1, none⟩ (.int .i64 ((x1.1 : Nat) : Int))).cell? ⟨b5, 7, none⟩ = some vcm := Y2.out.row.cell 7
                            have hlm := HLM.out
                            rw [show c4.1 - m = (c4.1 - (m + 1)) + 1 by have := HLT.out; omega] at hlm
                            have hstep := hlm.step HS.out
                            have ex : (pCmd sm).1 = (x0.1, ((x1.1 : Nat) : Int)) ∧ (pCmd sm).2 = x1.2 := by
                              simp only [pCmd, pPlace]
                              simp only [HX0.out, HX1.out]
                              first | done | exact ⟨rfl, rfl⟩ | simp
                            rw [ex.1, ex.2] at hstep
                            have HLM2 := Lib.hid hstep
                            clear hlm hstep ex q1 q2 HLM HX0 HX1
                            go_wp2_with (at_builtin; refine Lib.wpList_append_run _ rfl (.tmp 159) (.tmp 161) _ _ rfl vcm (.slice (some ⟨(wb1.setCell ⟨xb, 1, none⟩ (.int .i64 ((x1.1 : Nat) : Int))).heap.size, 0, none⟩) 1 1) (by simp [Act.eval]) (by simp [Act.eval]) _ _ q0 ?_)
                            go_roundw
                            case rel => exact ⟨m + 1, _, _, _, HLT.out, by go_num, by rw [List.length_append, HLEN.out]; rfl, QB.out, HLM2.out⟩
                            case measure => have := HLT.out; simp [intOf]; omega
                        | false =>
                          have hld := HLM.out.done (s := sm) (by
                            cases hs : sm.2 with
                            | true => exact .inl rfl
                            | false =>
                              rw [hs] at hc
                              simp at hc
                              exact .inr (by omega))
                          obtain ⟨hst, hld⟩ := hld
                          subst hst
                          have HDcm := Lib.hid hld
                          have B8 := HOB
                          clear hld hc HOB HLM HLEN hm HSMc4
                          have hsm := small_at (k := 1) (by decide) B8.out.rd.okay Hc5.out
                          have j9 := wrap_small hsm
                          have HSMc5 := Lib.hid hsm
                          have hlm : LM pExp (pn cm.2 1).1 (plot pExp 1 cm.2) [] (pn cm.2 1).2 := LM.start pExp 1 cm.2 (short_none B8.out.rd.gone 1)
                          rw [Hc5.out, Hex.out] at hlm
                          go_wp2_with fail
                          refine (dn1_at rb _ v0 l _ Hc5.out _ B8.out.rd).mono ?_
                          rintro e wlc5 ⟨rfl, hp, hk⟩
                          have HBc5 : Hid (Ob w rb b5 w.heap.size v0 l wlc5 ⟨vim, vty, vco, vcm, .slice none 0 0, .slice none 0 0, .slice none 0 0⟩ ⟨nm.1, ky.1, Lim, Lty, (da.1 : Nat), tx.1, Lco, Lcm, [], [], [], 0, 0, 0, 0⟩ c5.2) := B8.out.read hp hk
                          have HLc5 := Lib.hid hlm
                          clear hp hk hlm hsm B8
                          go_wp2_with fail
                          clear j9
                          go_loopw [15] (fun i wr => ∃ (m : Nat) (L : List (Int × Int)) (vi : Value) (sm : Ps), m ≤ c5.1 ∧ i = .int .i64 (m : Nat) ∧ L.length = m ∧ Ob w rb b5 w.heap.size v0 l wr ⟨vim, vty, vco, vcm, vi, .slice none 0 0, .slice none 0 0⟩ ⟨nm.1, ky.1, Lim, Lty, (da.1 : Nat), tx.1, Lco, Lcm, L, [], [], 0, 0, 0, 0⟩ sm ∧ LM pExp (c5.1 - m) ex L sm) (fun i _ => c5.1 - (intOf i).toNat)
                          case atStart => exact ⟨0, [], _, _, Nat.zero_le _, rfl, rfl, HBc5.out, HLc5.out⟩
                          case round =>
                            clear HBc5 HLc5
                            obtain ⟨m, Lex, vex, sm, hm, rfl, hlen, hob, hlm⟩ := hrel
                            have HOB := Lib.hid hob
                            have HLM := Lib.hid hlm
                            have HLEN := Lib.hid hlen
                            have cs := hob.rd.cell2
                            clear hob hlm hlen
                            go_upto_region 46 with fail
                            go_cut [176] (fun st wx => st = .bool (decide (m < c5.1) && !sm.2) ∧ wr = wx)
                            case first =>
                              as_aux_lemma =>
                                by_cases hlt : m < c5.1
                                · have i1 : (m : Int) < (c5.1 : Int) := by omega
                                  cases hs : sm.2 with
                                  | true =>
                                    rw [hs] at cs
                                    go_wp2_with fail
                                    go_meet
                                    exact ⟨by simp [hs], rfl⟩
                                  | false =>
                                    rw [hs] at cs
                                    go_wp2_with fail
                                    go_meet
                                    exact ⟨by simp [hlt, hs], rfl⟩
                                · have i1 : ¬ (m : Int) < (c5.1 : Int) := by omega
                                  go_wp2_with fail
                                  go_meet
                                  exact ⟨by simp [hlt], rfl⟩
                            case rest =>
                              obtain ⟨rfl, rfl⟩ := hcut
                              clear cs
                              cases hc : (decide (m < c5.1) && !sm.2) with
                              | true =>
                                as_aux_lemma =>
                                  simp only [Bool.and_eq_true, decide_eq_true_eq, Bool.not_eq_true'] at hc
                                  have HS := Lib.hid hc.2
                                  have HLT := Lib.hid hc.1
                                  have i4 : IntKind.i64.wrap ((m : Int) + 1) = (m : Int) + 1 := IntWalk.i64_in _ (by have := HSMc5.out; omega)
                                  clear hc hm
                                  have FR := Lib.hid HOB.out.fresh
                                  have X0 : Hid (RowAt (wr.alloc (.cells #[.int .i64 0, .int .i64 0] 59)) wr.heap.size 59 [.int .i64 0, .int .i64 0]) := RowAt.new wr _ _
                                  have Y0 := Lib.hid (HOB.out.on ((Kept.refl _ wr).alloc (.cells #[.int .i64 0, .int .i64 0] 59)))
                                  clear HOB
                                  go_wp2_with fail
                                  generalize wr.alloc (.cells #[.int .i64 0, .int .i64 0] 59) = wx at *
                                  generalize hxb : wr.heap.size = xb at *
                                  clear hxb
                                  obtain ⟨x0, hx0⟩ : ∃ x, pn sm 1 = x := ⟨_, rfl⟩
                                  have HX0 := Lib.hid hx0
                                  have hsm := small_at (k := 1) (by decide) Y0.out.rd.okay hx0
                                  have j2 := wrap_small hsm
                                  clear hsm
                                  clear hx0
                                  refine (dn1_at rb _ v0 l _ HX0.out _ Y0.out.rd).mono ?_
                                  rintro e wb0 ⟨rfl, hp, hk⟩
                                  have hxr := X0.out.keep hk (fun e => FR.out.ne.1 e)
                                  have hyr := Y0.out.read hp hk
                                  have cx0 : wb0.cell? ⟨xb, 0, none⟩ = some (.int .i64 0) := hxr.cell 0
                                  have zx0 := hxr.free 0
                                  have X1 := Lib.hid (hxr.setCell 0 (.int .i64 ((x0.1 : Nat) : Int)))
                                  have Y1 := Lib.hid (hyr.var FR.out (kept_set wb0 xb 0 (.int .i64 ((x0.1 : Nat) : Int))))
                                  clear hp hk hxr hyr X0 Y0
                                  obtain ⟨x1, hx1⟩ : ∃ x, pn x0.2 2 = x := ⟨_, rfl⟩
                                  have HX1 := Lib.hid hx1
                                  have hsm := small_at (k := 2) (by decide) Y1.out.rd.okay hx1
                                  have j3 := wrap_small hsm
                                  clear hsm
                                  clear hx1
                                  go_wp2_with fail
                                  refine (dn2_at rb _ v0 l _ HX1.out _ Y1.out.rd).mono ?_
                                  rintro e wb1 ⟨rfl, hp, hk⟩
                                  have hxr := X1.out.keep hk (fun e => FR.out.ne.1 e)
                                  have hyr := Y1.out.read hp hk
                                  have cx1 : wb1.cell? ⟨xb, 1, none⟩ = some (.int .i64 0) := hxr.cell 1
                                  have zx1 := hxr.free 1
                                  have X2 := Lib.hid (hxr.setCell 1 (.int .i64 ((x1.1 : Nat) : Int)))
                                  have Y2 := Lib.hid (hyr.var FR.out (kept_set wb1 xb 1 (.int .i64 ((x1.1 : Nat) : Int))))
                                  clear hp hk hxr hyr X1 Y1
                                  obtain ⟨v', w', q0, q1, q2⟩ := Y2.out.grow_exps (((x0.1 : Nat) : Int), ((x1.1 : Nat) : Int)) (by have := HLEN.out; have := HLT.out; have := HSMc5.out; show Lex.length ≤ 900000; omega)
                                  obtain ⟨av, cv, hv, _⟩ := q2.lists.exps.shape
                                  obtain ⟨al, hal⟩ : ∃ al, v' = .slice av al cv := ⟨_, hv⟩
                                  clear hv
                                  subst hal
                                  have QB := Lib.hid q2
                                  have cq5 : w'.cell? ⟨b5, 8, none⟩ = some vex := q1.cell 8
                                  have zq5 := q1.free 8
                                  have cy0 : (wb1.setCell ⟨xb, 1, none⟩ (.int .i64 ((x1.1 : Nat) : Int))).cell? ⟨xb, 0, none⟩ = some (.int .i64 ((x0.1 : Nat) : Int)) := X2.out.cell 0
                                  have cy1 : (wb1.setCell ⟨xb, 1, none⟩ (.int .i64 ((x1.1 : Nat) : Int))).cell? ⟨xb, 1, none⟩ = some (.int .i64 ((x1.1 : Nat) : Int)) := X2.out.cell 1
                                  have cq6 : (wb1.setCell ⟨xb, 1, none⟩ (.int .i64 ((x1.1 : Nat) : Int))).cell? ⟨b5, 8, none⟩ = some vex := Y2.out.row.cell 8
                                  have hlm := HLM.out
                                  rw [show c5.1 - m = (c5.1 - (m + 1)) + 1 by have := HLT.out; omega] at hlm
                                  have hstep := hlm.step HS.out
                                  have ex : (pExp sm).1 = (((x0.1 : Nat) : Int), ((x1.1 : Nat) : Int)) ∧ (pExp sm).2 = x1.2 := by
                                    simp only [pExp, pByte, pPlace]
                                    simp only [HX0.out, HX1.out]
                                    first | done | exact ⟨rfl, rfl⟩ | simp
                                  rw [ex.1, ex.2] at hstep
                                  have HLM2 := Lib.hid hstep
                                  clear hlm hstep ex q1 q2 HLM HX0 HX1
                                  go_wp2_with (at_builtin; refine Lib.wpList_append_run _ rfl (.tmp 188) (.tmp 190) _ _ rfl vex (.slice (some ⟨(wb1.setCell ⟨xb, 1, none⟩ (.int .i64 ((x1.1 : Nat) : Int))).heap.size, 0, none⟩) 1 1) (by simp [Act.eval]) (by simp [Act.eval]) _ _ q0 ?_)
                                  go_roundw
                                  case rel => exact ⟨m + 1, _, _, _, HLT.out, by go_num, by rw [List.length_append, HLEN.out]; rfl, QB.out, HLM2.out⟩
                                  case measure => have := HLT.out; simp [intOf]; omega
                              | false =>
                                have hld := HLM.out.done (s := sm) (by
                                  cases hs : sm.2 with
                                  | true => exact .inl rfl
                                  | false =>
                                    rw [hs] at hc
                                    simp at hc
                                    exact .inr (by omega))
                                obtain ⟨hst, hld⟩ := hld
                                subst hst
                                have HDex := Lib.hid hld
                                have B9 := HOB
                                clear hld hc HOB HLM HLEN hm HSMc5
                                go_wp2_with fail
                                refine (dcells_any rb _ B9.out.lo.1 v0 l _ _ B9.out.rd).mono ?_
                                rintro e wcpp ⟨vx, rfl, Lpp, sx, ht, hld⟩
                                rw [Hpp.out] at hld
                                obtain ⟨hst, hld⟩ := hld
                                subst hst
                                have HDpp := Lib.hid hld
                                obtain ⟨appx, cppx, rfl, _⟩ := ht.row.shape
                                have hr := B9.out.read ht.rd ht.kept
                                have c0 : wcpp.cell? ⟨b5, 9, none⟩ = some (.slice none 0 0) := hr.row.cell 9
                                have z0 := hr.row.free 9
                                have hnew : ∀ j, own (.slice appx Lpp.length cppx) j → w.heap.size ≤ j := fun j hj => Nat.le_trans B9.out.kept.more (ht.new j hj)
                                have B10 : Hid (Ob w rb b5 w.heap.size v0 l (wcpp.setCell ⟨b5, 9, none⟩ (.slice appx Lpp.length cppx)) ⟨vim, vty, vco, vcm, vex, .slice appx Lpp.length cppx, .slice none 0 0⟩ ⟨nm.1, ky.1, Lim, Lty, (da.1 : Nat), tx.1, Lco, Lcm, Lex, Lpp, [], 0, 0, 0, 0⟩ pp.2) := hr.put 9 (.slice appx Lpp.length cppx) ⟨vim, vty, vco, vcm, vex, .slice appx Lpp.length cppx, .slice none 0 0⟩ ⟨nm.1, ky.1, Lim, Lty, (da.1 : Nat), tx.1, Lco, Lcm, Lex, Lpp, [], 0, 0, 0, 0⟩ rfl ⟨hr.lists.imps, hr.lists.types, hr.lists.code, hr.lists.cmds, hr.lists.exps, ht.row, hr.lists.procs⟩ (fun j hj => by
                                  rcases hj with hj | hj | hj | hj | hj | hj | hj
                                  · exact hr.new j (.inl (hj))
                                  · exact hr.new j (.inr (.inl (hj)))
                                  · exact hr.new j (.inr (.inr (.inl (hj))))
                                  · exact hr.new j (.inr (.inr (.inr (.inl (hj)))))
                                  · exact hr.new j (.inr (.inr (.inr (.inr (.inl (hj))))))
                                  · exact hnew j hj
                                  · exact hr.new j (.inr (.inr (.inr (.inr (.inr (.inr (hj))))))))
                                clear ht hld hr hnew B9
                                go_wp2_with fail
                                clear c0 z0
                                refine (dcells_any rb _ B10.out.lo.1 v0 l _ _ B10.out.rd).mono ?_
                                rintro e wcpq ⟨vx, rfl, Lpq, sx, ht, hld⟩
                                rw [Hpq.out] at hld
                                obtain ⟨hst, hld⟩ := hld
                                subst hst
                                have HDpq := Lib.hid hld
                                obtain ⟨apqx, cpqx, rfl, _⟩ := ht.row.shape
                                have hr := B10.out.read ht.rd ht.kept
                                have c0 : wcpq.cell? ⟨b5, 10, none⟩ = some (.slice none 0 0) := hr.row.cell 10
                                have z0 := hr.row.free 10
                                have hnew : ∀ j, own (.slice apqx Lpq.length cpqx) j → w.heap.size ≤ j := fun j hj => Nat.le_trans B10.out.kept.more (ht.new j hj)
                                have B11 : Hid (Ob w rb b5 w.heap.size v0 l (wcpq.setCell ⟨b5, 10, none⟩ (.slice apqx Lpq.length cpqx)) ⟨vim, vty, vco, vcm, vex, .slice appx Lpp.length cppx, .slice apqx Lpq.length cpqx⟩ ⟨nm.1, ky.1, Lim, Lty, (da.1 : Nat), tx.1, Lco, Lcm, Lex, Lpp, Lpq, 0, 0, 0, 0⟩ pq.2) := hr.put 10 (.slice apqx Lpq.length cpqx) ⟨vim, vty, vco, vcm, vex, .slice appx Lpp.length cppx, .slice apqx Lpq.length cpqx⟩ ⟨nm.1, ky.1, Lim, Lty, (da.1 : Nat), tx.1, Lco, Lcm, Lex, Lpp, Lpq, 0, 0, 0, 0⟩ rfl ⟨hr.lists.imps, hr.lists.types, hr.lists.code, hr.lists.cmds, hr.lists.exps, hr.lists.ptrs, ht.row⟩ (fun j hj => by
                                  rcases hj with hj | hj | hj | hj | hj | hj | hj
                                  · exact hr.new j (.inl (hj))
                                  · exact hr.new j (.inr (.inl (hj)))
                                  · exact hr.new j (.inr (.inr (.inl (hj))))
                                  · exact hr.new j (.inr (.inr (.inr (.inl (hj)))))
                                  · exact hr.new j (.inr (.inr (.inr (.inr (.inl (hj))))))
                                  · exact hr.new j (.inr (.inr (.inr (.inr (.inr (.inl (hj)))))))
                                  · exact hnew j hj)
                                clear ht hld hr hnew B10
                                go_wp2_with fail
                                clear c0 z0
                                go_loopw [17] (fun i wr => (i = .int .i64 0 ∧ Ob w rb b5 w.heap.size v0 l wr ⟨vim, vty, vco, vcm, vex, .slice appx Lpp.length cppx, .slice apqx Lpq.length cpqx⟩ ⟨nm.1, ky.1, Lim, Lty, (da.1 : Nat), tx.1, Lco, Lcm, Lex, Lpp, Lpq, 0, 0, 0, 0⟩ pq.2) ∨ (i = .int .i64 1 ∧ Ob w rb b5 w.heap.size v0 l wr ⟨vim, vty, vco, vcm, vex, .slice appx Lpp.length cppx, .slice apqx Lpq.length cpqx⟩ ⟨nm.1, ky.1, Lim, Lty, (da.1 : Nat), tx.1, Lco, Lcm, Lex, Lpp, Lpq, (f0.1 : Nat), 0, 0, 0⟩ f0.2) ∨ (i = .int .i64 2 ∧ Ob w rb b5 w.heap.size v0 l wr ⟨vim, vty, vco, vcm, vex, .slice appx Lpp.length cppx, .slice apqx Lpq.length cpqx⟩ ⟨nm.1, ky.1, Lim, Lty, (da.1 : Nat), tx.1, Lco, Lcm, Lex, Lpp, Lpq, (f0.1 : Nat), (f1.1 : Nat), 0, 0⟩ f1.2) ∨ (i = .int .i64 3 ∧ Ob w rb b5 w.heap.size v0 l wr ⟨vim, vty, vco, vcm, vex, .slice appx Lpp.length cppx, .slice apqx Lpq.length cpqx⟩ ⟨nm.1, ky.1, Lim, Lty, (da.1 : Nat), tx.1, Lco, Lcm, Lex, Lpp, Lpq, (f0.1 : Nat), (f1.1 : Nat), (f2.1 : Nat), 0⟩ f2.2)) (fun i _ => 3 - (intOf i).toNat)
                                case atStart => exact .inl ⟨rfl, B11.out⟩
                                case round =>
                                  clear B11
                                  rcases hrel with ⟨rfl, hob⟩ | ⟨rfl, hob⟩ | ⟨rfl, hob⟩ | ⟨rfl, hob⟩
                                  · as_aux_lemma =>
                                    have HOB := Lib.hid hob
                                    have hsm := small_at (k := 2) (by decide) hob.rd.okay Hf0.out
                                    have j1 := wrap_small hsm
                                    clear hob hsm
                                    go_wp2_with fail
                                    refine (dn2_at rb _ v0 l _ Hf0.out _ HOB.out.rd).mono ?_
                                    rintro e wf ⟨rfl, hp, hk⟩
                                    have hr := HOB.out.read hp hk
                                    have c0 : wf.cell? ⟨b5, 11, none⟩ = some (.int .i64 0) := hr.row.cell 11
                                    have z0 := hr.row.free 11
                                    have QB : Hid (Ob w rb b5 w.heap.size v0 l (wf.setCell ⟨b5, 11, none⟩ (.int .i64 ((f0.1 : Nat) : Int))) ⟨vim, vty, vco, vcm, vex, .slice appx Lpp.length cppx, .slice apqx Lpq.length cpqx⟩ ⟨nm.1, ky.1, Lim, Lty, (da.1 : Nat), tx.1, Lco, Lcm, Lex, Lpp, Lpq, (f0.1 : Nat), 0, 0, 0⟩ f0.2) := hr.num 11 (.int .i64 ((f0.1 : Nat) : Int)) ⟨nm.1, ky.1, Lim, Lty, (da.1 : Nat), tx.1, Lco, Lcm, Lex, Lpp, Lpq, (f0.1 : Nat), 0, 0, 0⟩ rfl ⟨rfl, rfl, rfl, rfl, rfl, rfl, rfl⟩
                                    clear hp hk hr HOB
                                    go_wp2_with fail
                                    go_roundw
                                    case rel => exact .inr (.inl ⟨rfl, QB.out⟩)
                                    case measure => simp [intOf]
                                  · as_aux_lemma =>
                                    have HOB := Lib.hid hob
                                    have hsm := small_at (k := 2) (by decide) hob.rd.okay Hf1.out
                                    have j1 := wrap_small hsm
                                    clear hob hsm
                                    go_wp2_with fail
                                    refine (dn2_at rb _ v0 l _ Hf1.out _ HOB.out.rd).mono ?_
                                    rintro e wf ⟨rfl, hp, hk⟩
                                    have hr := HOB.out.read hp hk
                                    have c0 : wf.cell? ⟨b5, 12, none⟩ = some (.int .i64 0) := hr.row.cell 12
                                    have z0 := hr.row.free 12
                                    have QB : Hid (Ob w rb b5 w.heap.size v0 l (wf.setCell ⟨b5, 12, none⟩ (.int .i64 ((f1.1 : Nat) : Int))) ⟨vim, vty, vco, vcm, vex, .slice appx Lpp.length cppx, .slice apqx Lpq.length cpqx⟩ ⟨nm.1, ky.1, Lim, Lty, (da.1 : Nat), tx.1, Lco, Lcm, Lex, Lpp, Lpq, (f0.1 : Nat), (f1.1 : Nat), 0, 0⟩ f1.2) := hr.num 12 (.int .i64 ((f1.1 : Nat) : Int)) ⟨nm.1, ky.1, Lim, Lty, (da.1 : Nat), tx.1, Lco, Lcm, Lex, Lpp, Lpq, (f0.1 : Nat), (f1.1 : Nat), 0, 0⟩ rfl ⟨rfl, rfl, rfl, rfl, rfl, rfl, rfl⟩
                                    clear hp hk hr HOB
                                    go_wp2_with fail
                                    go_roundw
                                    case rel => exact .inr (.inr (.inl ⟨rfl, QB.out⟩))
                                    case measure => simp [intOf]
                                  · as_aux_lemma =>
                                    have HOB := Lib.hid hob
                                    have hsm := small_at (k := 2) (by decide) hob.rd.okay Hf2.out
                                    have j1 := wrap_small hsm
                                    clear hob hsm
                                    go_wp2_with fail
                                    refine (dn2_at rb _ v0 l _ Hf2.out _ HOB.out.rd).mono ?_
                                    rintro e wf ⟨rfl, hp, hk⟩
                                    have hr := HOB.out.read hp hk
                                    have c0 : wf.cell? ⟨b5, 13, none⟩ = some (.int .i64 0) := hr.row.cell 13
                                    have z0 := hr.row.free 13
                                    have QB : Hid (Ob w rb b5 w.heap.size v0 l (wf.setCell ⟨b5, 13, none⟩ (.int .i64 ((f2.1 : Nat) : Int))) ⟨vim, vty, vco, vcm, vex, .slice appx Lpp.length cppx, .slice apqx Lpq.length cpqx⟩ ⟨nm.1, ky.1, Lim, Lty, (da.1 : Nat), tx.1, Lco, Lcm, Lex, Lpp, Lpq, (f0.1 : Nat), (f1.1 : Nat), (f2.1 : Nat), 0⟩ f2.2) := hr.num 13 (.int .i64 ((f2.1 : Nat) : Int)) ⟨nm.1, ky.1, Lim, Lty, (da.1 : Nat), tx.1, Lco, Lcm, Lex, Lpp, Lpq, (f0.1 : Nat), (f1.1 : Nat), (f2.1 : Nat), 0⟩ rfl ⟨rfl, rfl, rfl, rfl, rfl, rfl, rfl⟩
                                    clear hp hk hr HOB
                                    go_wp2_with fail
                                    go_roundw
                                    case rel => exact .inr (.inr (.inr ⟨rfl, QB.out⟩))
                                    case measure => simp [intOf]
                                  · have B12 := Lib.hid hob
                                    clear hob
                                    have hsm := small_at (k := 2) (by decide) B12.out.rd.okay Hbd.out
                                    have j1 := wrap_small hsm
                                    go_wp2_with fail
                                    refine (dn2_at rb _ v0 l _ Hbd.out _ B12.out.rd).mono ?_
                                    rintro e wa12 ⟨rfl, hp, hk⟩
                                    have hr := B12.out.read hp hk
                                    have c0 : wa12.cell? ⟨b5, 14, none⟩ = some (.int .i64 0) := hr.row.cell 14
                                    have z0 := hr.row.free 14
                                    have B13 : Hid (Ob w rb b5 w.heap.size v0 l (wa12.setCell ⟨b5, 14, none⟩ (.int .i64 ((bd.1 : Nat) : Int))) ⟨vim, vty, vco, vcm, vex, .slice appx Lpp.length cppx, .slice apqx Lpq.length cpqx⟩ ⟨nm.1, ky.1, Lim, Lty, (da.1 : Nat), tx.1, Lco, Lcm, Lex, Lpp, Lpq, (f0.1 : Nat), (f1.1 : Nat), (f2.1 : Nat), (bd.1 : Nat)⟩ bd.2) := hr.num 14 (.int .i64 ((bd.1 : Nat) : Int)) ⟨nm.1, ky.1, Lim, Lty, (da.1 : Nat), tx.1, Lco, Lcm, Lex, Lpp, Lpq, (f0.1 : Nat), (f1.1 : Nat), (f2.1 : Nat), (bd.1 : Nat)⟩ rfl ⟨rfl, rfl, rfl, rfl, rfl, rfl, rfl⟩
                                    clear hp hk hr B12 hsm
                                    have cs := B13.out.rd.cell2
                                    cases hgs : bd.2.2 with
                                    | true =>
                                      as_aux_lemma =>
                                        rw [hgs] at cs
                                        have hres := Lib.hid (HNO.out (by rw [hgs]; rfl))
                                        clear hgs
                                        have T := Lib.hid (B13.out.tell (lists_nil _) fit_nil ones_nil)
                                        clear B13
                                        go_wp2_with (refine wpList_store_run _ rfl _ _ _ rfl _ _ rfl rfl (by exact T.out.1) ?_)
                                        refine bodyPost_ret (v := .tuple #[.agg (ocells nilV noObj).toArray, .bool false]) ?_ rfl ⟨nilV, by rw [hres.out]; rfl, by rw [hres.out]; exact T.out.2.2.1, T.out.2.2.2⟩
                                        exact results_two Try.results10 _ _ w.heap.size OT _ _ _ _ rfl rfl T.out.2.1 Try.underlying31 rfl (by rw [size_obj]; rfl)
                                    | false =>
                                      rw [hgs] at cs
                                      have HGS := Lib.hid hgs
                                      go_wp2_with fail
                                      clear c0 z0 j1
                                      refine (dl_any rb _ v0 l _ _ B13.out.rd).mono ?_
                                      rintro e we ⟨rfl, hd⟩
                                      have BE : Hid (Ob w rb b5 w.heap.size v0 l we ⟨vim, vty, vco, vcm, vex, .slice appx Lpp.length cppx, .slice apqx Lpq.length cpqx⟩ ⟨nm.1, ky.1, Lim, Lty, (da.1 : Nat), tx.1, Lco, Lcm, Lex, Lpp, Lpq, (f0.1 : Nat), (f1.1 : Nat), (f2.1 : Nat), (bd.1 : Nat)⟩ bd.2) := B13.out.on (Kept.drawn hd)
                                      clear hd cs B13
                                      by_cases hgl : 0 < bd.2.1.length
                                      · as_aux_lemma =>
                                        have i1 : (0 : Int) < ((bd.2.1.length : Nat) : Int) := by omega
                                        have hres := Lib.hid (HNO.out (by simp [hgl]))
                                        clear hgl
                                        have T := Lib.hid (BE.out.tell (lists_nil _) fit_nil ones_nil)
                                        clear BE
                                        go_wp2_with (refine wpList_store_run _ rfl _ _ _ rfl _ _ rfl rfl (by exact T.out.1) ?_)
                                        refine bodyPost_ret (v := .tuple #[.agg (ocells nilV noObj).toArray, .bool false]) ?_ rfl ⟨nilV, by rw [hres.out]; rfl, by rw [hres.out]; exact T.out.2.2.1, T.out.2.2.2⟩
                                        exact results_two Try.results10 _ _ w.heap.size OT _ _ _ _ rfl rfl T.out.2.1 Try.underlying31 rfl (by rw [size_obj]; rfl)
                                      · have i1 : ¬ (0 : Int) < ((bd.2.1.length : Nat) : Int) := by omega
                                        have hres := Lib.hid (HYES.out (by rw [hgs]; simp [hgl]))
                                        have hz0 : f2.2.2 = false := reads_place.not (s := f2.2) (by show (pn f2.2 2).2.2 = false; rw [Hbd.out]; exact hgs)
                                        have hz1 : f1.2.2 = false := reads_place.not (s := f1.2) (by show (pn f1.2 2).2.2 = false; rw [Hf2.out]; exact hz0)
                                        have hz2 : f0.2.2 = false := reads_place.not (s := f0.2) (by show (pn f0.2 2).2.2 = false; rw [Hf1.out]; exact hz1)
                                        have hz3 : pq.2.2 = false := reads_place.not (s := pq.2) (by show (pn pq.2 2).2.2 = false; rw [Hf0.out]; exact hz2)
                                        have hz4 : pp.2.2 = false := (reads_plot reads_byte okay_byte (k := 1) (by decide) (by decide)).not (s := pp.2) (by show (plot pByte 1 pp.2).2.2 = false; rw [Hpq.out]; exact hz3)
                                        have hz5 : ex.2.2 = false := (reads_plot reads_byte okay_byte (k := 1) (by decide) (by decide)).not (s := ex.2) (by show (plot pByte 1 ex.2).2.2 = false; rw [Hpp.out]; exact hz4)
                                        have hz6 : cm.2.2 = false := (reads_plot reads_exp okay_exp (k := 1) (by decide) (by decide)).not (s := cm.2) (by show (plot pExp 1 cm.2).2.2 = false; rw [Hex.out]; exact hz5)
                                        have hz7 : co.2.2 = false := (reads_plot reads_cmd okay_cmd (k := 1) (by decide) (by decide)).not (s := co.2) (by show (plot pCmd 1 co.2).2.2 = false; rw [Hcm.out]; exact hz6)
                                        have hz8 : tx.2.2 = false := (reads_plot reads_word okay_word (k := 2) (by decide) (by decide)).not (s := tx.2) (by show (plot pWord 2 tx.2).2.2 = false; rw [Hco.out]; exact hz7)
                                        have hz9 : da.2.2 = false := reads_pt.not (s := da.2) (by rw [Htx.out]; exact hz8)
                                        have hz10 : ty.2.2 = false := reads_byte.not (s := ty.2) (by show (pn ty.2 1).2.2 = false; rw [Hda.out]; exact hz9)
                                        have hz11 : im.2.2 = false := (reads_plot reads_type okay_type (k := 1) (by decide) (by decide)).not (s := im.2) (by show (plot pType 1 im.2).2.2 = false; rw [Hty.out]; exact hz10)
                                        have ho : ⟨nm.1, ky.1, im.1, ty.1, (da.1 : Nat), tx.1, co.1, cm.1, ex.1, pp.1, pq.1, (f0.1 : Nat), (f1.1 : Nat), (f2.1 : Nat), (bd.1 : Nat)⟩ = (⟨nm.1, ky.1, Lim, Lty, (da.1 : Nat), tx.1, Lco, Lcm, Lex, Lpp, Lpq, (f0.1 : Nat), (f1.1 : Nat), (f2.1 : Nat), (bd.1 : Nat)⟩ : ObjD) := by rw [HDim.out hz11, HDty.out hz10, HDco.out hz7, HDcm.out hz6, HDex.out hz5, HDpp.out hz4, HDpq.out hz3]
                                        have T := Lib.hid (BE.out.tell BE.out.lists (ho ▸ HFIT.out) (BE.out.lists.ones _))
                                        clear hz0 hz1 hz2 hz3 hz4 hz5 hz6 hz7 hz8 hz9 hz10 hz11 hgl hgs
                                        have HOO := Lib.hid ho
                                        clear ho
                                        go_wp2_with (first
                                          | (refine wpList_load_row rfl _ _ rfl b5 rfl OT (ocells ⟨vim, vty, vco, vcm, vex, .slice appx Lpp.length cppx, .slice apqx Lpq.length cpqx⟩ ⟨nm.1, ky.1, Lim, Lty, (da.1 : Nat), tx.1, Lco, Lcm, Lex, Lpp, Lpq, (f0.1 : Nat), (f1.1 : Nat), (f2.1 : Nat), (bd.1 : Nat)⟩).toArray (0, 0) _ BE.out.row Try.underlying31 rfl (by rw [size_obj]; rfl) ?_)
                                          | (refine wpList_store_run _ rfl _ _ _ rfl _ _ rfl rfl (by exact T.out.1) ?_))
                                        refine bodyPost_ret (v := .tuple #[.agg (ocells ⟨vim, vty, vco, vcm, vex, .slice appx Lpp.length cppx, .slice apqx Lpq.length cpqx⟩ ⟨nm.1, ky.1, Lim, Lty, (da.1 : Nat), tx.1, Lco, Lcm, Lex, Lpp, Lpq, (f0.1 : Nat), (f1.1 : Nat), (f2.1 : Nat), (bd.1 : Nat)⟩).toArray, .bool true]) ?_ rfl ⟨⟨vim, vty, vco, vcm, vex, .slice appx Lpp.length cppx, .slice apqx Lpq.length cpqx⟩, by rw [hres.out, HOO.out]; rfl, by rw [hres.out, HOO.out]; exact T.out.2.2.1, T.out.2.2.2⟩
                                        exact results_two Try.results10 _ _ w.heap.size OT _ _ _ _ rfl rfl T.out.2.1 Try.underlying31 rfl (by rw [size_obj]; rfl)
end Go.Proofs.Ythgnklgejlebhaa
