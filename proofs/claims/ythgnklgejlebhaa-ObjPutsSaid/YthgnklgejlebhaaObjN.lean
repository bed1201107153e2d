/-
  The program's read of an object (layer 12). No conditions beyond those that each theorem names. (Written by wip/tools/obj-n.py.)
-/
import Derived.Test.YthgnklgejlebhaaObjL
namespace Go.Proofs.Ythgnklgejlebhaa
open Go.ChangeShapes Go.WideShapes Go.ChangeAt Go.RowKit

/- an object read, part by part -/
def gotP (s : Ps) : ObjD × Ps :=
  let nm := pt s
  let ky := pn nm.2 4
  let im := plot pImp 1 ky.2
  let ty := plot pType 1 im.2
  let da := pByte ty.2
  let tx := pt da.2
  let co := plot pWord 2 tx.2
  let cm := plot pCmd 1 co.2
  let ex := plot pExp 1 cm.2
  let pp := plot pByte 1 ex.2
  let pq := plot pByte 1 pp.2
  let f0 := pPlace pq.2
  let f1 := pPlace f0.2
  let f2 := pPlace f1.2
  let bd := pPlace f2.2
  (⟨nm.1, ky.1, im.1, ty.1, da.1, tx.1, co.1, cm.1, ex.1, pp.1, pq.1, f0.1, f1.1, f2.1, bd.1⟩, bd.2)

structure Lst {α : Type} (E : TypeId) (k : Nat) (row : α → List Value) (ob : Nat) (w : World) (v : Value) (L : List α) : Prop where
  row : SRow E k w v L.length (rows row L)
  far : ∀ j, own v j → ob < j
theorem Lst.keep {S : Nat → Prop} {α : Type} {E : TypeId} {k : Nat} {row : α → List Value} {ob : Nat} {w w' : World} {v : Value} {L : List α} (h : Lst E k row ob w v L) (kp : Kept S w w') (hS : ∀ j, S j → j ≤ ob) : Lst E k row ob w' v L :=
  ⟨h.row.keep kp (fun j hj e => by have := h.far j hj; have := hS j e; omega), h.far⟩
theorem Told.lst {α : Type} {E : TypeId} {k : Nat} {row : α → List Value} {pb B ob : Nat} {w w' : World} {r : List α × Ps} {v : Value} (h : Told E k row pb B w r v w') (ho : ob < w.heap.size) : Lst E k row ob w' v r.1 :=
  ⟨h.row, fun j hj => Nat.lt_of_lt_of_le ho (h.new j hj)⟩
theorem size_obj : (Try.prog.info? OT).map (·.size) = some 15 := by kernel_rfl
theorem ones_obj (V : ObjV) (o : ObjD) (h : V.i.oneCell' = true ∧ V.t.oneCell' = true ∧ V.c.oneCell' = true ∧ V.m.oneCell' = true ∧ V.e.oneCell' = true ∧ V.p.oneCell' = true ∧ V.q.oneCell' = true) : Ones (ocells V o) := by
  intro u hu
  simp only [ocells, List.mem_cons, List.not_mem_nil, or_false] at hu
  obtain ⟨h1, h2, h3, h4, h5, h6, h7⟩ := h
  rcases hu with rfl | rfl | rfl | rfl | rfl | rfl | rfl | rfl | rfl | rfl | rfl | rfl | rfl | rfl | rfl <;> first | rfl | assumption
/- what a reading leaves -/
structure Readed (pb B : Nat) (w : World) (r : ObjD × Ps) (V : ObjV) (w' : World) : Prop where
  imps : SRow 53 2 w' V.i r.1.imps.length (rows impRow r.1.imps)
  types : SRow 55 3 w' V.t r.1.types.length (rows typeRow r.1.types)
  code : SRow 22 1 w' V.c r.1.code.length (rows wordRow r.1.code)
  cmds : SRow 57 2 w' V.m r.1.cmds.length (rows cmdRow r.1.cmds)
  exps : SRow 59 2 w' V.e r.1.exps.length (rows expRow r.1.exps)
  ptrs : SRow 3 1 w' V.p r.1.ptrs.length (rows intRow r.1.ptrs)
  procs : SRow 3 1 w' V.q r.1.procs.length (rows intRow r.1.procs)
  one : V.i.oneCell' = true ∧ V.t.oneCell' = true ∧ V.c.oneCell' = true ∧ V.m.oneCell' = true ∧ V.e.oneCell' = true ∧ V.p.oneCell' = true ∧ V.q.oneCell' = true
  prog : PrS w' pb B r.2
  kept : Kept (· = pb) w w'

set_option maxRecDepth 100000 in
set_option maxHeartbeats 4000000 in
theorem read_any (pb B : Nat) (hB : B ≤ pb) (s : Ps) (w : World) (h : PrS w pb B s) :
    Calls Try.prog 32 #[.pointer (some ⟨pb, 0, none⟩)] w fun e w' => ∃ V, e = .returned (.agg (ocells V (gotP s).1).toArray) ∧ Readed pb B w (gotP s) V w' := by
  have hlt := h.lt
  have D : Hid (RowAt (w.alloc (.cells #[.string ⟨#[]⟩, .int .u32 0, .slice none 0 0, .slice none 0 0, .int .i64 0, .string ⟨#[]⟩, .slice none 0 0, .slice none 0 0, .slice none 0 0, .slice none 0 0, .slice none 0 0, .int .i64 0, .int .i64 0, .int .i64 0, .int .i64 0] OT)) w.heap.size OT [.string ⟨#[]⟩, .int .u32 0, .slice none 0 0, .slice none 0 0, .int .i64 0, .string ⟨#[]⟩, .slice none 0 0, .slice none 0 0, .slice none 0 0, .slice none 0 0, .slice none 0 0, .int .i64 0, .int .i64 0, .int .i64 0, .int .i64 0] ∧ PrS (w.alloc (.cells #[.string ⟨#[]⟩, .int .u32 0, .slice none 0 0, .slice none 0 0, .int .i64 0, .string ⟨#[]⟩, .slice none 0 0, .slice none 0 0, .slice none 0 0, .slice none 0 0, .slice none 0 0, .int .i64 0, .int .i64 0, .int .i64 0, .int .i64 0] OT)) pb B s ∧ Kept (· = pb) w (w.alloc (.cells #[.string ⟨#[]⟩, .int .u32 0, .slice none 0 0, .slice none 0 0, .int .i64 0, .string ⟨#[]⟩, .slice none 0 0, .slice none 0 0, .slice none 0 0, .slice none 0 0, .slice none 0 0, .int .i64 0, .int .i64 0, .int .i64 0, .int .i64 0] OT)) ∧ w.heap.size < (w.alloc (.cells #[.string ⟨#[]⟩, .int .u32 0, .slice none 0 0, .slice none 0 0, .int .i64 0, .string ⟨#[]⟩, .slice none 0 0, .slice none 0 0, .slice none 0 0, .slice none 0 0, .slice none 0 0, .int .i64 0, .int .i64 0, .int .i64 0, .int .i64 0] OT)).heap.size) := ⟨RowAt.new w _ _, h.keep ((Kept.refl (fun _ => False) w).alloc _) (fun h => h) (fun _ h => h.elim), (Kept.refl _ w).alloc _, by simp⟩
  have HL : Hid (pb < w.heap.size) := hlt
  have C0 : ∀ w, PrS w pb B s → Calls Try.prog 51 #[.pointer (some ⟨pb, 0, none⟩)] w fun e w' => e = .returned (.string (pt s).1) ∧ PrS w' pb B (pt s).2 ∧ Kept (· = pb) w w' := fun w h => pt_any pb B s w h
  generalize hnm : pt s = nm at C0
  have H0 := Lib.hid C0
  clear C0
  have C1 : ∀ w, PrS w pb B (nm.2) → Calls Try.prog 50 #[.pointer (some ⟨pb, 0, none⟩), .int .i64 4] w fun e w' => e = .returned (.int .u32 (((pn nm.2 4).1 : Nat) : Int)) ∧ PrS w' pb B (pn nm.2 4).2 ∧ Kept (· = pb) w w' := fun w h => pn_any pb B (nm.2) 4 w h
  generalize hky : pn nm.2 4 = ky at C1
  have H1 := Lib.hid C1
  clear C1
  have C2 := fun w h => list_imps_any pb B hB 1 (by decide) (ky.2) w h
  generalize him : plot pImp ((1 : Nat) : Int) ky.2 = im at C2
  have H2 := Lib.hid C2
  clear C2
  have C3 := fun w h => list_types_any pb B hB 1 (by decide) (im.2) w h
  generalize hty : plot pType ((1 : Nat) : Int) im.2 = ty at C3
  have H3 := Lib.hid C3
  clear C3
  have C4 : ∀ w, PrS w pb B (ty.2) → Calls Try.prog 56 #[.pointer (some ⟨pb, 0, none⟩)] w fun e w' => e = .returned (.int .i64 (pByte ty.2).1) ∧ PrS w' pb B (pByte ty.2).2 ∧ Kept (· = pb) w w' := fun w h => pbyte_any pb B (ty.2) w h
  generalize hda : pByte ty.2 = da at C4
  have H4 := Lib.hid C4
  clear C4
  have C5 : ∀ w, PrS w pb B (da.2) → Calls Try.prog 51 #[.pointer (some ⟨pb, 0, none⟩)] w fun e w' => e = .returned (.string (pt da.2).1) ∧ PrS w' pb B (pt da.2).2 ∧ Kept (· = pb) w w' := fun w h => pt_any pb B (da.2) w h
  generalize htx : pt da.2 = tx at C5
  have H5 := Lib.hid C5
  clear C5
  have C6 := fun w h => list_code_any pb B hB 2 (by decide) (tx.2) w h
  generalize hco : plot pWord ((2 : Nat) : Int) tx.2 = co at C6
  have H6 := Lib.hid C6
  clear C6
  have C7 := fun w h => list_cmds_any pb B hB 1 (by decide) (co.2) w h
  generalize hcm : plot pCmd ((1 : Nat) : Int) co.2 = cm at C7
  have H7 := Lib.hid C7
  clear C7
  have C8 := fun w h => list_exps_any pb B hB 1 (by decide) (cm.2) w h
  generalize hex : plot pExp ((1 : Nat) : Int) cm.2 = ex at C8
  have H8 := Lib.hid C8
  clear C8
  have C9 := fun w h => list_ints_any pb B hB 1 (by decide) (ex.2) w h
  generalize hpp : plot pByte ((1 : Nat) : Int) ex.2 = pp at C9
  have H9 := Lib.hid C9
  clear C9
  have C10 := fun w h => list_ints_any pb B hB 1 (by decide) (pp.2) w h
  generalize hpq : plot pByte ((1 : Nat) : Int) pp.2 = pq at C10
  have H10 := Lib.hid C10
  clear C10
  have C11 : ∀ w, PrS w pb B (pq.2) → Calls Try.prog 64 #[.pointer (some ⟨pb, 0, none⟩)] w fun e w' => e = .returned (.int .i64 (pPlace pq.2).1) ∧ PrS w' pb B (pPlace pq.2).2 ∧ Kept (· = pb) w w' := fun w h => pplace_any pb B (pq.2) w h
  generalize hf0 : pPlace pq.2 = f0 at C11
  have H11 := Lib.hid C11
  clear C11
  have C12 : ∀ w, PrS w pb B (f0.2) → Calls Try.prog 64 #[.pointer (some ⟨pb, 0, none⟩)] w fun e w' => e = .returned (.int .i64 (pPlace f0.2).1) ∧ PrS w' pb B (pPlace f0.2).2 ∧ Kept (· = pb) w w' := fun w h => pplace_any pb B (f0.2) w h
  generalize hf1 : pPlace f0.2 = f1 at C12
  have H12 := Lib.hid C12
  clear C12
  have C13 : ∀ w, PrS w pb B (f1.2) → Calls Try.prog 64 #[.pointer (some ⟨pb, 0, none⟩)] w fun e w' => e = .returned (.int .i64 (pPlace f1.2).1) ∧ PrS w' pb B (pPlace f1.2).2 ∧ Kept (· = pb) w w' := fun w h => pplace_any pb B (f1.2) w h
  generalize hf2 : pPlace f1.2 = f2 at C13
  have H13 := Lib.hid C13
  clear C13
  have C14 : ∀ w, PrS w pb B (f2.2) → Calls Try.prog 64 #[.pointer (some ⟨pb, 0, none⟩)] w fun e w' => e = .returned (.int .i64 (pPlace f2.2).1) ∧ PrS w' pb B (pPlace f2.2).2 ∧ Kept (· = pb) w w' := fun w h => pplace_any pb B (f2.2) w h
  generalize hbd : pPlace f2.2 = bd at C14
  have H14 := Lib.hid C14
  clear C14
  have hG : gotP s = (⟨nm.1, ky.1, im.1, ty.1, da.1, tx.1, co.1, cm.1, ex.1, pp.1, pq.1, f0.1, f1.1, f2.1, bd.1⟩, bd.2) := by
    have q1 : ((1 : Nat) : Int) = 1 := rfl
    have q2 : ((2 : Nat) : Int) = 2 := rfl
    rw [q2] at hco
    rw [q1] at him hty hcm hex hpp hpq
    simp only [gotP, hnm, hky, him, hty, hda, htx, hco, hcm, hex, hpp, hpq, hf0, hf1, hf2, hbd]
  rw [hG]
  clear h hlt hG hnm hky him hty hda htx hco hcm hex hpp hpq hf0 hf1 hf2 hbd
  go_enter Try.func32, Try.ntmps32
  go_upto_region 1 with fail
  generalize (w.alloc (.cells #[.string ⟨#[]⟩, .int .u32 0, .slice none 0 0, .slice none 0 0, .int .i64 0, .string ⟨#[]⟩, .slice none 0 0, .slice none 0 0, .slice none 0 0, .slice none 0 0, .slice none 0 0, .int .i64 0, .int .i64 0, .int .i64 0, .int .i64 0] OT)) = w0 at *
  have HOB : Hid (∀ wx wy : World, Kept (· = pb) w wx → Kept (· = w.heap.size) wx wy → Kept (· = pb) w wy) := fun wx wy h1 h2 => h1.then (T := (· = w.heap.size)) h2 (fun k hk e => by omega)
  generalize w.heap.size = ob at *
  go_wp2_with fail
  refine (H0.out _ D.out.2.1).mono ?_
  rintro e w1 ⟨rfl, hp, hk⟩
  have D1 := Lib.hid (And.intro (D.out.1.keep hk (fun e => by have := HL.out; omega)) (And.intro hp (And.intro (D.out.2.2.1.trans hk) (Nat.lt_of_lt_of_le D.out.2.2.2 hk.more))))
  clear hp hk D H0
  go_wp2_with fail
  refine (H1.out _ D1.out.2.1).mono ?_
  rintro e w2 ⟨rfl, hp, hk⟩
  have D2 := Lib.hid (And.intro (D1.out.1.keep hk (fun e => by have := HL.out; omega)) (And.intro hp (And.intro (D1.out.2.2.1.trans hk) (Nat.lt_of_lt_of_le D1.out.2.2.2 hk.more))))
  clear hp hk D1 H1
  go_wp2_with fail
  refine (H2.out _ D2.out.2.1).mono ?_
  rintro e w3 ⟨v, rfl, ht⟩
  have hl := ht.lst (ob := ob) D2.out.2.2.2
  obtain ⟨aim, cim, rfl, _⟩ := ht.row.shape
  have hp := ht.prog
  have hk := ht.kept
  clear ht
  have D3 := Lib.hid (And.intro (D2.out.1.keep hk (fun e => by have := HL.out; omega)) (And.intro hp (And.intro (D2.out.2.2.1.trans hk) (Nat.lt_of_lt_of_le D2.out.2.2.2 hk.more))))
  have Gim3 := Lib.hid hl
  clear hl
  clear hp hk D2 H2
  go_wp2_with fail
  refine (H3.out _ D3.out.2.1).mono ?_
  rintro e w4 ⟨v, rfl, ht⟩
  have hl := ht.lst (ob := ob) D3.out.2.2.2
  obtain ⟨aty, cty, rfl, _⟩ := ht.row.shape
  have hp := ht.prog
  have hk := ht.kept
  clear ht
  have D4 := Lib.hid (And.intro (D3.out.1.keep hk (fun e => by have := HL.out; omega)) (And.intro hp (And.intro (D3.out.2.2.1.trans hk) (Nat.lt_of_lt_of_le D3.out.2.2.2 hk.more))))
  have Gim4 := Lib.hid (Gim3.out.keep hk (fun j e => by have := HL.out; omega))
  clear Gim3
  have Gty4 := Lib.hid hl
  clear hl
  clear hp hk D3 H3
  go_wp2_with fail
  refine (H4.out _ D4.out.2.1).mono ?_
  rintro e w5 ⟨rfl, hp, hk⟩
  have D5 := Lib.hid (And.intro (D4.out.1.keep hk (fun e => by have := HL.out; omega)) (And.intro hp (And.intro (D4.out.2.2.1.trans hk) (Nat.lt_of_lt_of_le D4.out.2.2.2 hk.more))))
  have Gim5 := Lib.hid (Gim4.out.keep hk (fun j e => by have := HL.out; omega))
  clear Gim4
  have Gty5 := Lib.hid (Gty4.out.keep hk (fun j e => by have := HL.out; omega))
  clear Gty4
  clear hp hk D4 H4
  go_wp2_with fail
  refine (H5.out _ D5.out.2.1).mono ?_
  rintro e w6 ⟨rfl, hp, hk⟩
  have D6 := Lib.hid (And.intro (D5.out.1.keep hk (fun e => by have := HL.out; omega)) (And.intro hp (And.intro (D5.out.2.2.1.trans hk) (Nat.lt_of_lt_of_le D5.out.2.2.2 hk.more))))
  have Gim6 := Lib.hid (Gim5.out.keep hk (fun j e => by have := HL.out; omega))
  clear Gim5
  have Gty6 := Lib.hid (Gty5.out.keep hk (fun j e => by have := HL.out; omega))
  clear Gty5
  clear hp hk D5 H5
  go_wp2_with fail
  refine (H6.out _ D6.out.2.1).mono ?_
  rintro e w7 ⟨v, rfl, ht⟩
  have hl := ht.lst (ob := ob) D6.out.2.2.2
  obtain ⟨aco, cco, rfl, _⟩ := ht.row.shape
  have hp := ht.prog
  have hk := ht.kept
  clear ht
  have D7 := Lib.hid (And.intro (D6.out.1.keep hk (fun e => by have := HL.out; omega)) (And.intro hp (And.intro (D6.out.2.2.1.trans hk) (Nat.lt_of_lt_of_le D6.out.2.2.2 hk.more))))
  have Gim7 := Lib.hid (Gim6.out.keep hk (fun j e => by have := HL.out; omega))
  clear Gim6
  have Gty7 := Lib.hid (Gty6.out.keep hk (fun j e => by have := HL.out; omega))
  clear Gty6
  have Gco7 := Lib.hid hl
  clear hl
  clear hp hk D6 H6
  go_wp2_with fail
  refine (H7.out _ D7.out.2.1).mono ?_
  rintro e w8 ⟨v, rfl, ht⟩
  have hl := ht.lst (ob := ob) D7.out.2.2.2
  obtain ⟨acm, ccm, rfl, _⟩ := ht.row.shape
  have hp := ht.prog
  have hk := ht.kept
  clear ht
  have D8 := Lib.hid (And.intro (D7.out.1.keep hk (fun e => by have := HL.out; omega)) (And.intro hp (And.intro (D7.out.2.2.1.trans hk) (Nat.lt_of_lt_of_le D7.out.2.2.2 hk.more))))
  have Gim8 := Lib.hid (Gim7.out.keep hk (fun j e => by have := HL.out; omega))
  clear Gim7
  have Gty8 := Lib.hid (Gty7.out.keep hk (fun j e => by have := HL.out; omega))
  clear Gty7
  have Gco8 := Lib.hid (Gco7.out.keep hk (fun j e => by have := HL.out; omega))
  clear Gco7
  have Gcm8 := Lib.hid hl
  clear hl
  clear hp hk D7 H7
  go_wp2_with fail
  refine (H8.out _ D8.out.2.1).mono ?_
  rintro e w9 ⟨v, rfl, ht⟩
  have hl := ht.lst (ob := ob) D8.out.2.2.2
  obtain ⟨aex, cex, rfl, _⟩ := ht.row.shape
  have hp := ht.prog
  have hk := ht.kept
  clear ht
  have D9 := Lib.hid (And.intro (D8.out.1.keep hk (fun e => by have := HL.out; omega)) (And.intro hp (And.intro (D8.out.2.2.1.trans hk) (Nat.lt_of_lt_of_le D8.out.2.2.2 hk.more))))
  have Gim9 := Lib.hid (Gim8.out.keep hk (fun j e => by have := HL.out; omega))
  clear Gim8
  have Gty9 := Lib.hid (Gty8.out.keep hk (fun j e => by have := HL.out; omega))
  clear Gty8
  have Gco9 := Lib.hid (Gco8.out.keep hk (fun j e => by have := HL.out; omega))
  clear Gco8
  have Gcm9 := Lib.hid (Gcm8.out.keep hk (fun j e => by have := HL.out; omega))
  clear Gcm8
  have Gex9 := Lib.hid hl
  clear hl
  clear hp hk D8 H8
  go_wp2_with fail
  refine (H9.out _ D9.out.2.1).mono ?_
  rintro e w10 ⟨v, rfl, ht⟩
  have hl := ht.lst (ob := ob) D9.out.2.2.2
  obtain ⟨app, cpp, rfl, _⟩ := ht.row.shape
  have hp := ht.prog
  have hk := ht.kept
  clear ht
  have D10 := Lib.hid (And.intro (D9.out.1.keep hk (fun e => by have := HL.out; omega)) (And.intro hp (And.intro (D9.out.2.2.1.trans hk) (Nat.lt_of_lt_of_le D9.out.2.2.2 hk.more))))
  have Gim10 := Lib.hid (Gim9.out.keep hk (fun j e => by have := HL.out; omega))
  clear Gim9
  have Gty10 := Lib.hid (Gty9.out.keep hk (fun j e => by have := HL.out; omega))
  clear Gty9
  have Gco10 := Lib.hid (Gco9.out.keep hk (fun j e => by have := HL.out; omega))
  clear Gco9
  have Gcm10 := Lib.hid (Gcm9.out.keep hk (fun j e => by have := HL.out; omega))
  clear Gcm9
  have Gex10 := Lib.hid (Gex9.out.keep hk (fun j e => by have := HL.out; omega))
  clear Gex9
  have Gpp10 := Lib.hid hl
  clear hl
  clear hp hk D9 H9
  go_wp2_with fail
  refine (H10.out _ D10.out.2.1).mono ?_
  rintro e w11 ⟨v, rfl, ht⟩
  have hl := ht.lst (ob := ob) D10.out.2.2.2
  obtain ⟨apq, cpq, rfl, _⟩ := ht.row.shape
  have hp := ht.prog
  have hk := ht.kept
  clear ht
  have D11 := Lib.hid (And.intro (D10.out.1.keep hk (fun e => by have := HL.out; omega)) (And.intro hp (And.intro (D10.out.2.2.1.trans hk) (Nat.lt_of_lt_of_le D10.out.2.2.2 hk.more))))
  have Gim11 := Lib.hid (Gim10.out.keep hk (fun j e => by have := HL.out; omega))
  clear Gim10
  have Gty11 := Lib.hid (Gty10.out.keep hk (fun j e => by have := HL.out; omega))
  clear Gty10
  have Gco11 := Lib.hid (Gco10.out.keep hk (fun j e => by have := HL.out; omega))
  clear Gco10
  have Gcm11 := Lib.hid (Gcm10.out.keep hk (fun j e => by have := HL.out; omega))
  clear Gcm10
  have Gex11 := Lib.hid (Gex10.out.keep hk (fun j e => by have := HL.out; omega))
  clear Gex10
  have Gpp11 := Lib.hid (Gpp10.out.keep hk (fun j e => by have := HL.out; omega))
  clear Gpp10
  have Gpq11 := Lib.hid hl
  clear hl
  clear hp hk D10 H10
  go_wp2_with fail
  refine (H11.out _ D11.out.2.1).mono ?_
  rintro e w12 ⟨rfl, hp, hk⟩
  have D12 := Lib.hid (And.intro (D11.out.1.keep hk (fun e => by have := HL.out; omega)) (And.intro hp (And.intro (D11.out.2.2.1.trans hk) (Nat.lt_of_lt_of_le D11.out.2.2.2 hk.more))))
  have Gim12 := Lib.hid (Gim11.out.keep hk (fun j e => by have := HL.out; omega))
  clear Gim11
  have Gty12 := Lib.hid (Gty11.out.keep hk (fun j e => by have := HL.out; omega))
  clear Gty11
  have Gco12 := Lib.hid (Gco11.out.keep hk (fun j e => by have := HL.out; omega))
  clear Gco11
  have Gcm12 := Lib.hid (Gcm11.out.keep hk (fun j e => by have := HL.out; omega))
  clear Gcm11
  have Gex12 := Lib.hid (Gex11.out.keep hk (fun j e => by have := HL.out; omega))
  clear Gex11
  have Gpp12 := Lib.hid (Gpp11.out.keep hk (fun j e => by have := HL.out; omega))
  clear Gpp11
  have Gpq12 := Lib.hid (Gpq11.out.keep hk (fun j e => by have := HL.out; omega))
  clear Gpq11
  clear hp hk D11 H11
  go_wp2_with fail
  refine (H12.out _ D12.out.2.1).mono ?_
  rintro e w13 ⟨rfl, hp, hk⟩
  have D13 := Lib.hid (And.intro (D12.out.1.keep hk (fun e => by have := HL.out; omega)) (And.intro hp (And.intro (D12.out.2.2.1.trans hk) (Nat.lt_of_lt_of_le D12.out.2.2.2 hk.more))))
  have Gim13 := Lib.hid (Gim12.out.keep hk (fun j e => by have := HL.out; omega))
  clear Gim12
  have Gty13 := Lib.hid (Gty12.out.keep hk (fun j e => by have := HL.out; omega))
  clear Gty12
  have Gco13 := Lib.hid (Gco12.out.keep hk (fun j e => by have := HL.out; omega))
  clear Gco12
  have Gcm13 := Lib.hid (Gcm12.out.keep hk (fun j e => by have := HL.out; omega))
  clear Gcm12
  have Gex13 := Lib.hid (Gex12.out.keep hk (fun j e => by have := HL.out; omega))
  clear Gex12
  have Gpp13 := Lib.hid (Gpp12.out.keep hk (fun j e => by have := HL.out; omega))
  clear Gpp12
  have Gpq13 := Lib.hid (Gpq12.out.keep hk (fun j e => by have := HL.out; omega))
  clear Gpq12
  clear hp hk D12 H12
  go_wp2_with fail
  refine (H13.out _ D13.out.2.1).mono ?_
  rintro e w14 ⟨rfl, hp, hk⟩
  have D14 := Lib.hid (And.intro (D13.out.1.keep hk (fun e => by have := HL.out; omega)) (And.intro hp (And.intro (D13.out.2.2.1.trans hk) (Nat.lt_of_lt_of_le D13.out.2.2.2 hk.more))))
  have Gim14 := Lib.hid (Gim13.out.keep hk (fun j e => by have := HL.out; omega))
  clear Gim13
  have Gty14 := Lib.hid (Gty13.out.keep hk (fun j e => by have := HL.out; omega))
  clear Gty13
  have Gco14 := Lib.hid (Gco13.out.keep hk (fun j e => by have := HL.out; omega))
  clear Gco13
  have Gcm14 := Lib.hid (Gcm13.out.keep hk (fun j e => by have := HL.out; omega))
  clear Gcm13
  have Gex14 := Lib.hid (Gex13.out.keep hk (fun j e => by have := HL.out; omega))
  clear Gex13
  have Gpp14 := Lib.hid (Gpp13.out.keep hk (fun j e => by have := HL.out; omega))
  clear Gpp13
  have Gpq14 := Lib.hid (Gpq13.out.keep hk (fun j e => by have := HL.out; omega))
  clear Gpq13
  clear hp hk D13 H13
  go_wp2_with fail
  refine (H14.out _ D14.out.2.1).mono ?_
  rintro e w15 ⟨rfl, hp, hk⟩
  have D15 := Lib.hid (And.intro (D14.out.1.keep hk (fun e => by have := HL.out; omega)) (And.intro hp (And.intro (D14.out.2.2.1.trans hk) (Nat.lt_of_lt_of_le D14.out.2.2.2 hk.more))))
  have Gim15 := Lib.hid (Gim14.out.keep hk (fun j e => by have := HL.out; omega))
  clear Gim14
  have Gty15 := Lib.hid (Gty14.out.keep hk (fun j e => by have := HL.out; omega))
  clear Gty14
  have Gco15 := Lib.hid (Gco14.out.keep hk (fun j e => by have := HL.out; omega))
  clear Gco14
  have Gcm15 := Lib.hid (Gcm14.out.keep hk (fun j e => by have := HL.out; omega))
  clear Gcm14
  have Gex15 := Lib.hid (Gex14.out.keep hk (fun j e => by have := HL.out; omega))
  clear Gex14
  have Gpp15 := Lib.hid (Gpp14.out.keep hk (fun j e => by have := HL.out; omega))
  clear Gpp14
  have Gpq15 := Lib.hid (Gpq14.out.keep hk (fun j e => by have := HL.out; omega))
  clear Gpq14
  clear hp hk D14 H14
  have RUN := Lib.hid (told_row D15.out.1 (xs := ocells ⟨.slice aim im.1.length cim, .slice aty ty.1.length cty, .slice aco co.1.length cco, .slice acm cm.1.length ccm, .slice aex ex.1.length cex, .slice app pp.1.length cpp, .slice apq pq.1.length cpq⟩ ⟨nm.1, ky.1, im.1, ty.1, da.1, tx.1, co.1, cm.1, ex.1, pp.1, pq.1, f0.1, f1.1, f2.1, bd.1⟩) (k := 15) rfl rfl (ones_obj _ _ ⟨rfl, rfl, rfl, rfl, rfl, rfl, rfl⟩) size_obj)
  have RES : Hid (Readed pb B w (⟨nm.1, ky.1, im.1, ty.1, da.1, tx.1, co.1, cm.1, ex.1, pp.1, pq.1, f0.1, f1.1, f2.1, bd.1⟩, bd.2) ⟨.slice aim im.1.length cim, .slice aty ty.1.length cty, .slice aco co.1.length cco, .slice acm cm.1.length ccm, .slice aex ex.1.length cex, .slice app pp.1.length cpp, .slice apq pq.1.length cpq⟩ (w15.setRow ob (ocells ⟨.slice aim im.1.length cim, .slice aty ty.1.length cty, .slice aco co.1.length cco, .slice acm cm.1.length ccm, .slice aex ex.1.length cex, .slice app pp.1.length cpp, .slice apq pq.1.length cpq⟩ ⟨nm.1, ky.1, im.1, ty.1, da.1, tx.1, co.1, cm.1, ex.1, pp.1, pq.1, f0.1, f1.1, f2.1, bd.1⟩).toArray)) :=
    ⟨(Gim15.out.keep RUN.out.2.2 (fun j e => by omega)).row, (Gty15.out.keep RUN.out.2.2 (fun j e => by omega)).row, (Gco15.out.keep RUN.out.2.2 (fun j e => by omega)).row, (Gcm15.out.keep RUN.out.2.2 (fun j e => by omega)).row, (Gex15.out.keep RUN.out.2.2 (fun j e => by omega)).row, (Gpp15.out.keep RUN.out.2.2 (fun j e => by omega)).row, (Gpq15.out.keep RUN.out.2.2 (fun j e => by omega)).row, ⟨rfl, rfl, rfl, rfl, rfl, rfl, rfl⟩, D15.out.2.1.keep RUN.out.2.2 (fun e => by have := HL.out; omega) (fun j e => by have := HL.out; omega), HOB.out _ _ D15.out.2.2.1 RUN.out.2.2⟩
  clear D15 HL HOB Gim15 Gty15 Gco15 Gcm15 Gex15 Gpp15 Gpq15
  go_wp2_with (refine wpList_store_run _ rfl _ _ _ rfl _ _ rfl rfl (by exact RUN.out.1) ?_)
  refine bodyPost_ret (v := .agg (ocells ⟨.slice aim im.1.length cim, .slice aty ty.1.length cty, .slice aco co.1.length cco, .slice acm cm.1.length ccm, .slice aex ex.1.length cex, .slice app pp.1.length cpp, .slice apq pq.1.length cpq⟩ ⟨nm.1, ky.1, im.1, ty.1, da.1, tx.1, co.1, cm.1, ex.1, pp.1, pq.1, f0.1, f1.1, f2.1, bd.1⟩).toArray) ?_ rfl ⟨_, rfl, RES.out⟩
  exact results_cell_row Try.results32 _ _ ob OT _ _ _ rfl RUN.out.2.1 Try.underlying31 rfl (by rw [size_obj]; rfl)
end Go.Proofs.Ythgnklgejlebhaa
