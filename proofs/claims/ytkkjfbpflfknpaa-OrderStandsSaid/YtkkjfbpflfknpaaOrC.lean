/-
  Objects that lie in rows of their own; the program's clone of an object (layer 19). Conditions: a small object (Small).
-/
import Derived.Test.YtkkjfbpflfknpaaClo
import Derived.RegionTactic
import Derived.Deep.RegionHeld3
namespace Go.Proofs.Ytkkjfbpflfknpaa
open Go.ChangeShapes Go.WideShapes Go.ChangeAt Go.RowKit

/- an object whose lists lie in blocks of their own, from lo on -/
structure ObjIn (lo : Nat) (w : World) (V : ObjV) (o : ObjD) : Prop where
  i : In lo ImT 2 impRow w V.i o.imps
  t : In lo TyT 3 typeRow w V.t o.types
  c : In lo WdT 1 wordRow w V.c o.code
  m : In lo CmT 2 cmdRow w V.m o.cmds
  e : In lo ExT 2 expRow w V.e o.exps
  p : In lo InT 1 intRow w V.p o.ptrs
  q : In lo InT 1 intRow w V.q o.procs
  fit : ObjFit o
theorem ObjIn.at_ {lo : Nat} {w : World} {V : ObjV} {o : ObjD} (h : ObjIn lo w V o) : ObjAt w V o :=
  ⟨h.i.row.els impRow_len, h.t.row.els typeRow_len, h.c.row.els wordRow_len, h.m.row.els cmdRow_len, h.e.row.els expRow_len, h.p.row.els intRow_len, h.q.row.els intRow_len, h.fit⟩
theorem ObjIn.on {lo : Nat} {w w' : World} {V : ObjV} {o : ObjD} (h : ObjIn lo w V o) (hb : Below w.heap.size w w') : ObjIn lo w' V o :=
  ⟨h.i.on hb, h.t.on hb, h.c.on hb, h.m.on hb, h.e.on hb, h.p.on hb, h.q.on hb, h.fit⟩
theorem ObjIn.lower {lo lo' : Nat} {w : World} {V : ObjV} {o : ObjD} (h : ObjIn lo w V o) (hl : lo' ≤ lo) : ObjIn lo' w V o :=
  ⟨h.i.lower hl, h.t.lower hl, h.c.lower hl, h.m.lower hl, h.e.lower hl, h.p.lower hl, h.q.lower hl, h.fit⟩
/- the types of its rows -/
def ItsT (t : TypeId) : Prop := t = ImT ∨ t = TyT ∨ t = WdT ∨ t = CmT ∨ t = ExT ∨ t = InT
/- what is done to blocks that are no rows of these types leaves it -/
theorem ObjIn.keep {S : Nat → Prop} {lo : Nat} {w w' : World} {V : ObjV} {o : ObjD} (h : ObjIn lo w V o) (kp : Kept S w w') (hS : ∀ (j : Nat) (t : TypeId) (cs : List Value), RowAt w j t cs → lo ≤ j → ItsT t → ¬ S j) : ObjIn lo w' V o := by
  have key : ∀ {α : Type} {t : TypeId} {k : Nat} {row : α → List Value} {v : Value} {L : List α}, In lo t k row w v L → ItsT t → ∀ j, own v j → ¬ S j := fun {α t k row v L} g ht j hj => by
    rcases g.row.is with ⟨rfl, _⟩ | ⟨b, cap, rest, rfl, hr, _⟩
    · exact hj.elim
    · have e : j = b := hj
      subst e
      exact hS j t _ hr (g.low j rfl) ht
  exact ⟨h.i.keep kp (key h.i (.inl rfl)), h.t.keep kp (key h.t (.inr (.inl rfl))), h.c.keep kp (key h.c (.inr (.inr (.inl rfl)))), h.m.keep kp (key h.m (.inr (.inr (.inr (.inl rfl))))), h.e.keep kp (key h.e (.inr (.inr (.inr (.inr (.inl rfl)))))), h.p.keep kp (key h.p (.inr (.inr (.inr (.inr (.inr rfl)))))), h.q.keep kp (key h.q (.inr (.inr (.inr (.inr (.inr rfl)))))), h.fit⟩
/- a row of one of these types is no row of another one's block -/
theorem its_ne {w : World} {j b : Nat} {t T : TypeId} {cs ds : List Value} (h : RowAt w j t cs) (ht : ItsT t) (g : RowAt w b T ds) (hT : ∀ t, ItsT t → t ≠ T) : j ≠ b := by
  rintro rfl
  unfold RowAt at h g
  rw [h] at g
  injection g with g
  injection g with _ g2
  exact hT t ht g2
theorem its_ob : ∀ t, ItsT t → t ≠ OT := by
  rintro t (rfl | rfl | rfl | rfl | rfl | rfl) <;> decide

/- the copy, on its way -/
structure Oc (w wx : World) (V : ObjV) (o : ObjD) : Prop where
  row : RowAt wx w.heap.size OT (ocells V o)
  res : RowAt wx (w.heap.size + 1) OT (ocells nilO noObj)
  below : Below w.heap.size w wx
theorem Oc.on {w wx wy : World} {V : ObjV} {o : ObjD} (h : Oc w wx V o) (hb : Below wx.heap.size wx wy) : Oc w wy V o :=
  ⟨h.row.keep (Kept.of_below (S := fun _ => False) hb) (fun e => e), h.res.keep (Kept.of_below (S := fun _ => False) hb) (fun e => e), below_on h.below hb h.below.size⟩
theorem Oc.put {w wx : World} {V V' : ObjV} {o : ObjD} (h : Oc w wx V o) (j : Nat) (u : Value) (hs : (ocells V o).set j u = ocells V' o) : Oc w (wx.setCell ⟨w.heap.size, j, none⟩ u) V' o :=
  ⟨by rw [← hs]; exact h.row.setCell j u, h.res.keep (kept_set wx w.heap.size j u) (by omega), (kept_set wx w.heap.size j u).below h.below h.below.size fun k _ e => by omega⟩
theorem In.puto {α : Type} {lo : Nat} {t : TypeId} {k : Nat} {row : α → List Value} {w wx : World} {v : Value} {L : List α} {V : ObjV} {o : ObjD} (g : In lo t k row wx v L) (h : Oc w wx V o) (hne : t ≠ OT) (j : Nat) (u : Value) : In lo t k row (wx.setCell ⟨w.heap.size, j, none⟩ u) v L :=
  g.keep (kept_set wx w.heap.size j u) fun b hb e => by
    subst e
    exact g.row.off h.row hne hb
theorem start_oc (w : World) (V : ObjV) (o : ObjD) : Oc w ((w.alloc (.cells (ocells V o).toArray OT)).alloc (.cells (ocells nilO noObj).toArray OT)) V o := by
  refine ⟨(RowAt.new w OT _).keep (S := fun _ => False) ((Kept.refl _ _).alloc _) (fun h => h), ?_, ((Kept.refl (fun _ => False) w).alloc _ |>.alloc _).none⟩
  have h := RowAt.new (w.alloc (.cells (ocells V o).toArray OT)) OT (ocells nilO noObj)
  rw [show (w.alloc (.cells (ocells V o).toArray OT)).heap.size = w.heap.size + 1 by simp] at h
  exact h
theorem ones_v {V : ObjV} {o : ObjD} (hi : V.i.oneCell' = true) (ht : V.t.oneCell' = true) (hc : V.c.oneCell' = true) (hm : V.m.oneCell' = true) (he : V.e.oneCell' = true) (hp : V.p.oneCell' = true) (hq : V.q.oneCell' = true) : Ones (ocells V o) := by
  intro u hu
  simp only [ocells, List.mem_cons, List.not_mem_nil, or_false] at hu
  rcases hu with rfl | rfl | rfl | rfl | rfl | rfl | rfl | rfl | rfl | rfl | rfl | rfl | rfl | rfl | rfl <;> first | rfl | assumption
set_option maxRecDepth 100000 in
set_option maxHeartbeats 4000000 in
theorem oclone_any (V : ObjV) (o : ObjD) (w : World) (h : ObjAt w V o) (f : Small o) :
    Calls Try.prog 31 #[.agg (ocells V o).toArray] w fun e w' => ∃ Y : ObjV, e = .returned (.agg (ocells Y o).toArray) ∧ ObjIn w.heap.size w' Y o ∧ Below w.heap.size w w' := by
  have HI : Hid (∀ W, Below w.heap.size w W → Calls Try.prog 36 #[V.i] W fun e w' => Sli e fun v => In w.heap.size ImT 2 impRow w' v o.imps ∧ Below W.heap.size W w') :=
    fun W hb => (clone_imps V.i o.imps W (h.imps.on hb) (fun y _ => ones_imp y) (by have := f.imps; omega)).mono fun _ _ ⟨_, h1, h2, h3⟩ => h2.sli h1 hb.size h3
  have HT : Hid (∀ W, Below w.heap.size w W → Calls Try.prog 37 #[V.t] W fun e w' => Sli e fun v => In w.heap.size TyT 3 typeRow w' v o.types ∧ Below W.heap.size W w') :=
    fun W hb => (clone_tys V.t o.types W (h.types.on hb) (fun y _ => ones_type y) (by have := f.types; omega)).mono fun _ _ ⟨_, h1, h2, h3⟩ => h2.sli h1 hb.size h3
  have HC : Hid (∀ W, Below w.heap.size w W → Calls Try.prog 38 #[V.c] W fun e w' => Sli e fun v => In w.heap.size WdT 1 wordRow w' v o.code ∧ Below W.heap.size W w') :=
    fun W hb => (clone_wds V.c o.code W (h.code.on hb) (fun y _ => wordRow_one y) (by have := f.code; omega)).mono fun _ _ ⟨_, h1, h2, h3⟩ => h2.sli h1 hb.size h3
  have HM : Hid (∀ W, Below w.heap.size w W → Calls Try.prog 39 #[V.m] W fun e w' => Sli e fun v => In w.heap.size CmT 2 cmdRow w' v o.cmds ∧ Below W.heap.size W w') :=
    fun W hb => (clone_cmds V.m o.cmds W (h.cmds.on hb) (fun y _ => ones_cmd y) (by have := f.cmds; omega)).mono fun _ _ ⟨_, h1, h2, h3⟩ => h2.sli h1 hb.size h3
  have HE : Hid (∀ W, Below w.heap.size w W → Calls Try.prog 40 #[V.e] W fun e w' => Sli e fun v => In w.heap.size ExT 2 expRow w' v o.exps ∧ Below W.heap.size W w') :=
    fun W hb => (clone_outs V.e o.exps W (h.exps.on hb) (fun y _ => ones_exp y) (by have := f.exps; omega)).mono fun _ _ ⟨_, h1, h2, h3⟩ => h2.sli h1 hb.size h3
  have HP : Hid (∀ W, Below w.heap.size w W → Calls Try.prog 41 #[V.p] W fun e w' => Sli e fun v => In w.heap.size InT 1 intRow w' v o.ptrs ∧ Below W.heap.size W w') :=
    fun W hb => (clone_ints V.p o.ptrs W (h.ptrs.on hb) (fun y _ => intRow_one y) (by have := f.ptrs; omega)).mono fun _ _ ⟨_, h1, h2, h3⟩ => h2.sli h1 hb.size h3
  have HQ : Hid (∀ W, Below w.heap.size w W → Calls Try.prog 41 #[V.q] W fun e w' => Sli e fun v => In w.heap.size InT 1 intRow w' v o.procs ∧ Below W.heap.size W w') :=
    fun W hb => (clone_ints V.q o.procs W (h.procs.on hb) (fun y _ => intRow_one y) (by have := f.procs; omega)).mono fun _ _ ⟨_, h1, h2, h3⟩ => h2.sli h1 hb.size h3
  have HFT := Lib.hid h.fit
  have CL0 := Lib.hid (start_oc w V o)
  clear h f
  obtain ⟨i, t, c, m, e, p, q⟩ := V
  show Calls Try.prog 31 #[.agg #[.string o.name, .int .u32 (o.key : Nat), i, t, .int .i64 o.data, .string o.text, c, m, e, p, q, .int .i64 o.f0, .int .i64 o.f1, .int .i64 o.f2, .int .i64 o.body]] w _
  simp only at HI HT HC HM HE HP HQ CL0 ⊢
  have CL0 : Hid (Oc w ((w.alloc (.cells #[.string o.name, .int .u32 (o.key : Nat), i, t, .int .i64 o.data, .string o.text, c, m, e, p, q, .int .i64 o.f0, .int .i64 o.f1, .int .i64 o.f2, .int .i64 o.body] OT)).alloc (.cells #[.string ⟨#[]⟩, .int .u32 0, .slice none 0 0, .slice none 0 0, .int .i64 0, .string ⟨#[]⟩, .slice none 0 0, .slice none 0 0, .slice none 0 0, .slice none 0 0, .slice none 0 0, .int .i64 0, .int .i64 0, .int .i64 0, .int .i64 0] OT)) ⟨i, t, c, m, e, p, q⟩ o) := CL0
  go_enter Try.func31, Try.ntmps31
  go_upto_region 1 with fail
  generalize (w.alloc (.cells #[.string o.name, .int .u32 (o.key : Nat), i, t, .int .i64 o.data, .string o.text, c, m, e, p, q, .int .i64 o.f0, .int .i64 o.f1, .int .i64 o.f2, .int .i64 o.body] OT)).alloc (.cells #[.string ⟨#[]⟩, .int .u32 0, .slice none 0 0, .slice none 0 0, .int .i64 0, .string ⟨#[]⟩, .slice none 0 0, .slice none 0 0, .slice none 0 0, .slice none 0 0, .slice none 0 0, .int .i64 0, .int .i64 0, .int .i64 0, .int .i64 0] OT) = W0 at *
  go_cut [5] (fun s5 wx => ∃ a1 n1 k1 a2 n2 k2, s5 = .slice a1 n1 k1 ∧ Hid (Oc w wx ⟨.slice a1 n1 k1, .slice a2 n2 k2, c, m, e, p, q⟩ o) ∧ Hid (In w.heap.size ImT 2 impRow wx (.slice a1 n1 k1) o.imps) ∧ Hid (In w.heap.size TyT 3 typeRow wx (.slice a2 n2 k2) o.types))
  case first =>
    have c2 : W0.cell? ⟨w.heap.size, 2, none⟩ = some i := CL0.out.row.cell 2
    have c3 : W0.cell? ⟨w.heap.size, 3, none⟩ = some t := CL0.out.row.cell 3
    have D0 : Hid (Oc w W0.drew ⟨i, t, c, m, e, p, q⟩ o) := CL0.out.on ((Drawn.of_n W0 1).below _)
    go_region_with (first
      | (go_at_call 36; refine (HI.out _ (by first | exact CL0.out.below | exact D0.out.below)).mono ?_; rintro e1 w1 ⟨a1, n1, k1, rfl, hp1, hb1⟩;
         have j1 : Oc w w1 ⟨i, t, c, m, e, p, q⟩ o := (by first | exact CL0.out.on hb1 | exact D0.out.on hb1);
         have d3 : w1.cell? ⟨w.heap.size, 3, none⟩ = some t := j1.row.cell 3;
         have J1 := Lib.hid j1; have P1 := Lib.hid hp1; clear hb1 hp1 j1)
      | (go_at_call 37; refine (HT.out _ (by first | exact J1.out.below | exact (J1.out.on ((Drawn.of_n w1 1).below _)).below)).mono ?_; rintro e2 w2 ⟨a2, n2, k2, rfl, hq1, hb2⟩;
         have hb3 : Below w1.heap.size w1 w2 := (by first | exact hb2 | exact ((Drawn.of_n w1 1).below _).trans hb2);
         have P2 := Lib.hid (P1.out.on hb3); have J2 := Lib.hid (J1.out.on hb3); have Q2 := Lib.hid hq1;
         have f2 : w2.cell? ⟨w.heap.size, 2, none⟩ = some i := J2.out.row.cell 2;
         have f3 : w2.cell? ⟨w.heap.size, 3, none⟩ = some t := J2.out.row.cell 3;
         have ff := J2.out.row.free;
         clear hb2 hb3 hq1))
    all_goals
      have RES := Lib.hid (J2.out.put (V' := ⟨.slice a1 n1 k1, t, c, m, e, p, q⟩) 2 (.slice a1 n1 k1) rfl)
      have RES2 := Lib.hid (RES.out.put (V' := ⟨.slice a1 n1 k1, .slice a2 n2 k2, c, m, e, p, q⟩) 3 (.slice a2 n2 k2) rfl)
      have RP := Lib.hid ((P2.out.puto J2.out (by decide) 2 (.slice a1 n1 k1)).puto RES.out (by decide) 3 (.slice a2 n2 k2))
      have RQ := Lib.hid ((Q2.out.puto J2.out (by decide) 2 (.slice a1 n1 k1)).puto RES.out (by decide) 3 (.slice a2 n2 k2))
      clear RES c2 c3 d3 f2 f3 ff
      go_wp2_with fail
      go_meet
      exact ⟨a1, n1, k1, a2, n2, k2, rfl, RES2, RP, RQ⟩
  case rest =>
  obtain ⟨a1, n1, k1, a2, n2, k2, rfl, CL1, P1, Q1⟩ := hcut
  clear CL0 HI HT
  generalize wc = W1 at *
  go_upto_region 2 with fail
  go_cut [13] (fun s13 wx => ∃ a3 n3 k3 a4 n4 k4, s13 = .slice a3 n3 k3 ∧ Hid (Oc w wx ⟨.slice a1 n1 k1, .slice a2 n2 k2, .slice a3 n3 k3, .slice a4 n4 k4, e, p, q⟩ o) ∧ Hid (In w.heap.size ImT 2 impRow wx (.slice a1 n1 k1) o.imps) ∧ Hid (In w.heap.size TyT 3 typeRow wx (.slice a2 n2 k2) o.types) ∧ Hid (In w.heap.size WdT 1 wordRow wx (.slice a3 n3 k3) o.code) ∧ Hid (In w.heap.size CmT 2 cmdRow wx (.slice a4 n4 k4) o.cmds))
  case first =>
    have c6 : W1.cell? ⟨w.heap.size, 6, none⟩ = some c := CL1.out.row.cell 6
    have c7 : W1.cell? ⟨w.heap.size, 7, none⟩ = some m := CL1.out.row.cell 7
    have D0 : Hid (Oc w W1.drew ⟨.slice a1 n1 k1, .slice a2 n2 k2, c, m, e, p, q⟩ o) := CL1.out.on ((Drawn.of_n W1 1).below _)
    go_region_with (first
      | (go_at_call 38; refine (HC.out _ (by first | exact CL1.out.below | exact D0.out.below)).mono ?_; rintro e1 w1 ⟨a3, n3, k3, rfl, hi1, hb1⟩;
         have hb3 : Below W1.heap.size W1 w1 := (by first | exact hb1 | exact ((Drawn.of_n W1 1).below _).trans hb1);
         have d7 : w1.cell? ⟨w.heap.size, 7, none⟩ = some m := (CL1.out.on hb3).row.cell 7;
         have J1 := Lib.hid (CL1.out.on hb3); have P2 := Lib.hid (P1.out.on hb3); have Q2 := Lib.hid (Q1.out.on hb3); have I2 := Lib.hid hi1; clear hb1 hb3 hi1)
      | (go_at_call 39; refine (HM.out _ (by first | exact J1.out.below | exact (J1.out.on ((Drawn.of_n w1 1).below _)).below)).mono ?_; rintro e2 w2 ⟨a4, n4, k4, rfl, hc2, hb2⟩;
         have hb3 : Below w1.heap.size w1 w2 := (by first | exact hb2 | exact ((Drawn.of_n w1 1).below _).trans hb2);
         have P3 := Lib.hid (P2.out.on hb3); have Q3 := Lib.hid (Q2.out.on hb3); have I3 := Lib.hid (I2.out.on hb3); have J2 := Lib.hid (J1.out.on hb3); have C3 := Lib.hid hc2;
         have f6 : w2.cell? ⟨w.heap.size, 6, none⟩ = some c := J2.out.row.cell 6;
         have f7 : w2.cell? ⟨w.heap.size, 7, none⟩ = some m := J2.out.row.cell 7;
         have ff := J2.out.row.free;
         clear hb2 hb3 hc2))
    all_goals
      have RES := Lib.hid (J2.out.put (V' := ⟨.slice a1 n1 k1, .slice a2 n2 k2, .slice a3 n3 k3, m, e, p, q⟩) 6 (.slice a3 n3 k3) rfl)
      have RES2 := Lib.hid (RES.out.put (V' := ⟨.slice a1 n1 k1, .slice a2 n2 k2, .slice a3 n3 k3, .slice a4 n4 k4, e, p, q⟩) 7 (.slice a4 n4 k4) rfl)
      have RP := Lib.hid ((P3.out.puto J2.out (by decide) 6 (.slice a3 n3 k3)).puto RES.out (by decide) 7 (.slice a4 n4 k4))
      have RQ := Lib.hid ((Q3.out.puto J2.out (by decide) 6 (.slice a3 n3 k3)).puto RES.out (by decide) 7 (.slice a4 n4 k4))
      have RI := Lib.hid ((I3.out.puto J2.out (by decide) 6 (.slice a3 n3 k3)).puto RES.out (by decide) 7 (.slice a4 n4 k4))
      have RC := Lib.hid ((C3.out.puto J2.out (by decide) 6 (.slice a3 n3 k3)).puto RES.out (by decide) 7 (.slice a4 n4 k4))
      clear RES c6 c7 d7 f6 f7 ff
      go_wp2_with fail
      go_meet
      exact ⟨a3, n3, k3, a4, n4, k4, rfl, RES2, RP, RQ, RI, RC⟩
  case rest =>
  obtain ⟨a3, n3, k3, a4, n4, k4, rfl, CL2, P2, Q2, I2, C2⟩ := hcut
  clear CL1 P1 Q1 HC HM
  generalize wc = W2 at *
  have c8 : W2.cell? ⟨w.heap.size, 8, none⟩ = some e := CL2.out.row.cell 8
  go_wp2_with fail
  refine (HE.out W2 CL2.out.below).mono ?_
  rintro e3 w3 ⟨a5, n5, k5, rfl, he3, hb3⟩
  have J3 := Lib.hid (CL2.out.on hb3)
  have P3 := Lib.hid (P2.out.on hb3)
  have Q3 := Lib.hid (Q2.out.on hb3)
  have I3 := Lib.hid (I2.out.on hb3)
  have C3 := Lib.hid (C2.out.on hb3)
  have E3 := Lib.hid he3
  have f8 : w3.cell? ⟨w.heap.size, 8, none⟩ = some e := J3.out.row.cell 8
  have g8 : w3.frozen? ⟨w.heap.size, 8, none⟩ = false := J3.out.row.free 8
  clear hb3 he3 c8 CL2 P2 Q2 I2 C2 HE
  go_upto_region 4 with fail
  have CL4 := Lib.hid (J3.out.put (V' := ⟨.slice a1 n1 k1, .slice a2 n2 k2, .slice a3 n3 k3, .slice a4 n4 k4, .slice a5 n5 k5, p, q⟩) 8 (.slice a5 n5 k5) rfl)
  have P4 := Lib.hid (P3.out.puto J3.out (by decide) 8 (.slice a5 n5 k5))
  have Q4 := Lib.hid (Q3.out.puto J3.out (by decide) 8 (.slice a5 n5 k5))
  have I4 := Lib.hid (I3.out.puto J3.out (by decide) 8 (.slice a5 n5 k5))
  have C4 := Lib.hid (C3.out.puto J3.out (by decide) 8 (.slice a5 n5 k5))
  have E4 := Lib.hid (E3.out.puto J3.out (by decide) 8 (.slice a5 n5 k5))
  clear f8 g8 J3 P3 Q3 I3 C3 E3
  generalize w3.setCell ⟨w.heap.size, 8, none⟩ (.slice a5 n5 k5) = W4 at *
  go_cut [25] (fun s25 wx => ∃ a6 n6 k6 a7 n7 k7, s25 = .slice a6 n6 k6 ∧ Hid (Oc w wx ⟨.slice a1 n1 k1, .slice a2 n2 k2, .slice a3 n3 k3, .slice a4 n4 k4, .slice a5 n5 k5, .slice a6 n6 k6, .slice a7 n7 k7⟩ o) ∧ Hid (ObjIn w.heap.size wx ⟨.slice a1 n1 k1, .slice a2 n2 k2, .slice a3 n3 k3, .slice a4 n4 k4, .slice a5 n5 k5, .slice a6 n6 k6, .slice a7 n7 k7⟩ o))
  case first =>
    have c9 : W4.cell? ⟨w.heap.size, 9, none⟩ = some p := CL4.out.row.cell 9
    have c10 : W4.cell? ⟨w.heap.size, 10, none⟩ = some q := CL4.out.row.cell 10
    have D0 : Hid (Oc w W4.drew ⟨.slice a1 n1 k1, .slice a2 n2 k2, .slice a3 n3 k3, .slice a4 n4 k4, .slice a5 n5 k5, p, q⟩ o) := CL4.out.on ((Drawn.of_n W4 1).below _)
    go_region_with (first
      | (go_at_call 41; refine (HP.out _ (by first | exact CL4.out.below | exact D0.out.below)).mono ?_; rintro e1 w1 ⟨a6, n6, k6, rfl, hi1, hb1⟩;
         have hb3 : Below W4.heap.size W4 w1 := (by first | exact hb1 | exact ((Drawn.of_n W4 1).below _).trans hb1);
         have d10 : w1.cell? ⟨w.heap.size, 10, none⟩ = some q := (CL4.out.on hb3).row.cell 10;
         have J1 := Lib.hid (CL4.out.on hb3); have P5 := Lib.hid (P4.out.on hb3); have Q5 := Lib.hid (Q4.out.on hb3); have I5 := Lib.hid (I4.out.on hb3); have C5 := Lib.hid (C4.out.on hb3); have E5 := Lib.hid (E4.out.on hb3); have F5 := Lib.hid hi1; clear hb1 hb3 hi1)
      | (go_at_call 41; refine (HQ.out _ (by first | exact J1.out.below | exact (J1.out.on ((Drawn.of_n w1 1).below _)).below)).mono ?_; rintro e2 w2 ⟨a7, n7, k7, rfl, hc2, hb2⟩;
         have hb3 : Below w1.heap.size w1 w2 := (by first | exact hb2 | exact ((Drawn.of_n w1 1).below _).trans hb2);
         have J2 := Lib.hid (J1.out.on hb3); have P6 := Lib.hid (P5.out.on hb3); have Q6 := Lib.hid (Q5.out.on hb3); have I6 := Lib.hid (I5.out.on hb3); have C6 := Lib.hid (C5.out.on hb3); have E6 := Lib.hid (E5.out.on hb3); have F6 := Lib.hid (F5.out.on hb3); have G6 := Lib.hid hc2;
         have f9 : w2.cell? ⟨w.heap.size, 9, none⟩ = some p := J2.out.row.cell 9;
         have f10 : w2.cell? ⟨w.heap.size, 10, none⟩ = some q := J2.out.row.cell 10;
         have ff := J2.out.row.free;
         clear hb2 hb3 hc2))
    all_goals
      have RES := Lib.hid (J2.out.put (V' := ⟨.slice a1 n1 k1, .slice a2 n2 k2, .slice a3 n3 k3, .slice a4 n4 k4, .slice a5 n5 k5, .slice a6 n6 k6, q⟩) 9 (.slice a6 n6 k6) rfl)
      have RES2 := Lib.hid (RES.out.put (V' := ⟨.slice a1 n1 k1, .slice a2 n2 k2, .slice a3 n3 k3, .slice a4 n4 k4, .slice a5 n5 k5, .slice a6 n6 k6, .slice a7 n7 k7⟩) 10 (.slice a7 n7 k7) rfl)
      have ROB : Hid (ObjIn w.heap.size ((w2.setCell ⟨w.heap.size, 9, none⟩ (.slice a6 n6 k6)).setCell ⟨w.heap.size, 10, none⟩ (.slice a7 n7 k7)) ⟨.slice a1 n1 k1, .slice a2 n2 k2, .slice a3 n3 k3, .slice a4 n4 k4, .slice a5 n5 k5, .slice a6 n6 k6, .slice a7 n7 k7⟩ o) :=
        ⟨(P6.out.puto J2.out (by decide) 9 (.slice a6 n6 k6)).puto RES.out (by decide) 10 (.slice a7 n7 k7), (Q6.out.puto J2.out (by decide) 9 (.slice a6 n6 k6)).puto RES.out (by decide) 10 (.slice a7 n7 k7), (I6.out.puto J2.out (by decide) 9 (.slice a6 n6 k6)).puto RES.out (by decide) 10 (.slice a7 n7 k7), (C6.out.puto J2.out (by decide) 9 (.slice a6 n6 k6)).puto RES.out (by decide) 10 (.slice a7 n7 k7), (E6.out.puto J2.out (by decide) 9 (.slice a6 n6 k6)).puto RES.out (by decide) 10 (.slice a7 n7 k7), (F6.out.puto J2.out (by decide) 9 (.slice a6 n6 k6)).puto RES.out (by decide) 10 (.slice a7 n7 k7), (G6.out.puto J2.out (by decide) 9 (.slice a6 n6 k6)).puto RES.out (by decide) 10 (.slice a7 n7 k7), HFT.out⟩
      clear RES c9 c10 d10 f9 f10 ff P6 Q6 I6 C6 E6 F6 G6
      go_wp2_with fail
      go_meet
      exact ⟨a6, n6, k6, a7, n7, k7, rfl, RES2, ROB⟩
  case rest =>
  obtain ⟨a6, n6, k6, a7, n7, k7, rfl, CLK, LA⟩ := hcut
  clear CL4 P4 Q4 I4 C4 E4 HP HQ
  generalize wc = wr at *
  have hones : Ones (ocells ⟨.slice a1 n1 k1, .slice a2 n2 k2, .slice a3 n3 k3, .slice a4 n4 k4, .slice a5 n5 k5, .slice a6 n6 k6, .slice a7 n7 k7⟩ o) := ones_v rfl rfl rfl rfl rfl rfl rfl
  obtain ⟨r1, r2, r3⟩ := told_row CLK.out.res (xs := ocells ⟨.slice a1 n1 k1, .slice a2 n2 k2, .slice a3 n3 k3, .slice a4 n4 k4, .slice a5 n5 k5, .slice a6 n6 k6, .slice a7 n7 k7⟩ o) (k := 15) rfl rfl hones size_ob
  have RUN := Lib.hid r1
  have RES : Hid (ObjIn w.heap.size (wr.setRow (w.heap.size + 1) (ocells ⟨.slice a1 n1 k1, .slice a2 n2 k2, .slice a3 n3 k3, .slice a4 n4 k4, .slice a5 n5 k5, .slice a6 n6 k6, .slice a7 n7 k7⟩ o).toArray) ⟨.slice a1 n1 k1, .slice a2 n2 k2, .slice a3 n3 k3, .slice a4 n4 k4, .slice a5 n5 k5, .slice a6 n6 k6, .slice a7 n7 k7⟩ o ∧ Below w.heap.size w (wr.setRow (w.heap.size + 1) (ocells ⟨.slice a1 n1 k1, .slice a2 n2 k2, .slice a3 n3 k3, .slice a4 n4 k4, .slice a5 n5 k5, .slice a6 n6 k6, .slice a7 n7 k7⟩ o).toArray)) :=
    ⟨LA.out.keep r3 fun j t cs hr _ ht => its_ne hr ht CLK.out.res its_ob, r3.below CLK.out.below CLK.out.below.size fun j _ e => by omega⟩
  have R2 := Lib.hid r2
  clear r1 r2 r3 hones LA
  go_wp2_with (first | (refine load_row_on rfl _ _ rfl w.heap.size rfl OT #[.string o.name, .int .u32 (o.key : Nat), .slice a1 n1 k1, .slice a2 n2 k2, .int .i64 o.data, .string o.text, .slice a3 n3 k3, .slice a4 n4 k4, .slice a5 n5 k5, .slice a6 n6 k6, .slice a7 n7 k7, .int .i64 o.f0, .int .i64 o.f1, .int .i64 o.f2, .int .i64 o.body] (0, 0) _ CLK.out.row Try.underlying48 rfl (by rw [size_ob]; rfl) ?_) | (refine wpList_store_run _ rfl _ _ _ rfl _ _ rfl rfl (by exact RUN.out) ?_))
  exact bodyPost_ret (v := .agg (ocells ⟨.slice a1 n1 k1, .slice a2 n2 k2, .slice a3 n3 k3, .slice a4 n4 k4, .slice a5 n5 k5, .slice a6 n6 k6, .slice a7 n7 k7⟩ o).toArray) (results_one Try.results31 _ _ (w.heap.size + 1) OT _ (0, 0) _ rfl R2.out Try.underlying48 rfl (by rw [size_ob]; rfl)) rfl ⟨⟨.slice a1 n1 k1, .slice a2 n2 k2, .slice a3 n3 k3, .slice a4 n4 k4, .slice a5 n5 k5, .slice a6 n6 k6, .slice a7 n7 k7⟩, rfl, RES.out⟩
end Go.Proofs.Ytkkjfbpflfknpaa
