/-
  The walk of PlanParts (layer 15): true at any object. No conditions.
-/
import Derived.Test.YtpckcjhffpokeaaPlA
import Derived.Test.YtpckcjhffpokeaaRefCk
namespace Go.Proofs.Ytpckcjhffpokeaa
open Go.ChangeShapes Go.WideShapes Go.ChangeAt Go.RowKit

theorem size_pl : (Try.prog.info? PlT).map (·.size) = some 4 := by kernel_rfl
theorem ones4 (a b c d : Int) : Ones [.int .i64 a, .int .i64 b, .int .i64 c, .int .i64 d] := by intro u hu; simp only [List.mem_cons, List.not_mem_nil, or_false] at hu; rcases hu with rfl | rfl | rfl | rfl <;> rfl
/- a plan, in a variable of its own -/
theorem box_plan (wr : World) (a b c d : Int) :
    (Instr.storeAt PlT (.pointer (some ⟨wr.heap.size, 0, none⟩)) (.agg #[.int .i64 a, .int .i64 b, .int .i64 c, .int .i64 d])).run Try.prog (wr.alloc (.cells #[.int .i64 0, .int .i64 0, .int .i64 0, .int .i64 0] PlT)) = .ok () (wr.alloc (.cells #[.int .i64 a, .int .i64 b, .int .i64 c, .int .i64 d] PlT)) :=
  box_el wr PlT 4 [.int .i64 0, .int .i64 0, .int .i64 0, .int .i64 0] [.int .i64 a, .int .i64 b, .int .i64 c, .int .i64 d] rfl rfl (ones4 a b c d) size_pl
/- the example's object -/
def helloO : ObjD := { noObj with data := 1, types := [(0, 0, 0)], text := ⟨#[104, 101, 108, 108, 111]⟩ }
def helloV (a : Option Addr) : ObjV := { nilO with t := .slice a 1 1 }
theorem type_zero (wr : World) : ElsAt 3 typeRow (wr.alloc (.cells #[.int .i64 0, .int .i64 0, .int .i64 0] TyT)) (.slice (some ⟨wr.heap.size, 0, none⟩) 1 1) [(0, 0, 0)] := by
  have hr : RowAt (wr.alloc (.cells #[.int .i64 0, .int .i64 0, .int .i64 0] TyT)) wr.heap.size TyT [.int .i64 0, .int .i64 0, .int .i64 0] := RowAt.new wr TyT _
  have hs : SRow TyT 3 (wr.alloc (.cells #[.int .i64 0, .int .i64 0, .int .i64 0] TyT)) (.slice (some ⟨wr.heap.size, 0, none⟩) 1 1) [(0, 0, 0)].length (rows typeRow [(0, 0, 0)]) :=
    ⟨.inr ⟨_, 1, [], rfl, hr, rfl, Nat.le_refl _, by simp [maxLen]⟩, rfl, ones_type (0, 0, 0)⟩
  exact hs.els fun _ => rfl
theorem hello_at (wr : World) : ObjAt (wr.alloc (.cells #[.int .i64 0, .int .i64 0, .int .i64 0] TyT)) (helloV (some ⟨wr.heap.size, 0, none⟩)) helloO :=
  ⟨els_none _ _ _, type_zero wr, els_none _ _ _, els_none _ _ _, els_none _ _ _, els_none _ _ _, els_none _ _ _,
    ⟨by decide, by decide, (fun x hx => by cases hx), (fun x hx => by have e := List.mem_singleton.1 hx; subst e; exact ⟨i64_0, i64_0, i64_0⟩), ⟨by decide, by decide⟩, by decide, (fun x hx => by cases hx), (fun x hx => by cases hx), (fun x hx => by cases hx), (fun x hx => by cases hx), (fun x hx => by cases hx), i64_0, i64_0, i64_0, i64_0⟩⟩
theorem make_type (w : World) : (Instr.makeSlice 24 (.int .i64 1) (.int .i64 1)).run Try.prog w = .ok (.slice (some ⟨w.heap.size, 0, none⟩) 1 1) (w.alloc (.cells #[.int .i64 0, .int .i64 0, .int .i64 0] TyT)) := by kernel_rfl
set_option maxRecDepth 100000 in
set_option maxHeartbeats 2000000 in
theorem up15 (w : World) : Calls Try.prog 4 #[] w fun e w' => e = .returned (.bool true) ∧ Below w.heap.size w w' := by
  have HOF : Hid (∀ wr : World, Calls Try.prog 6 #[.agg (ocells (helloV (some ⟨wr.heap.size, 0, none⟩)) helloO).toArray] (wr.alloc (.cells #[.int .i64 0, .int .i64 0, .int .i64 0] TyT)) fun e w' => e = .returned (.agg #[.int .i64 4, .int .i64 20, .int .i64 28, .int .i64 28]) ∧ Below (wr.alloc (.cells #[.int .i64 0, .int .i64 0, .int .i64 0] TyT)).heap.size (wr.alloc (.cells #[.int .i64 0, .int .i64 0, .int .i64 0] TyT)) w') := fun wr => of_any _ helloO _ (hello_at wr) (by decide) (by decide) (by decide) (by decide)
  have HEX : Hid (∀ w : World, Calls Try.prog 8 #[.agg (ocells nilO noObj).toArray, .int .i64 0] w fun e w' => e = .returned (.tuple #[.int .i64 0, .bool false]) ∧ Below w.heap.size w w') := fun w => export_no nilO noObj 0 w (obj_none w) (by decide)
  have hmk := make_type
  go_enter Try.func4, Try.ntmps4
  go_wp2_with fail
  refine (HOF.out _).mono ?_
  rintro e w1 ⟨rfl, hb1⟩
  clear hmk HOF
  have RUN := Lib.hid (box_plan w1 4 20 28 28)
  have HR : Hid (RowAt (w1.alloc (.cells #[.int .i64 4, .int .i64 20, .int .i64 28, .int .i64 28] PlT)) w1.heap.size PlT [.int .i64 4, .int .i64 20, .int .i64 28, .int .i64 28]) := RowAt.new w1 PlT _
  have HB : Hid (Below w.heap.size w (w1.alloc (.cells #[.int .i64 4, .int .i64 20, .int .i64 28, .int .i64 28] PlT))) := by
    have h1 : Below w.heap.size w w1 := below_on ((Below.refl _ _).alloc (Nat.le_refl _) _) hb1 (by simp)
    exact below_on h1 ((Below.refl _ _).alloc (Nat.le_refl _) _) h1.size
  clear hb1
  go_upto_region 2 with (refine wpList_store_run _ rfl _ _ _ rfl _ _ rfl rfl (by exact RUN.out) ?_)
  clear RUN
  generalize w1.alloc (.cells #[.int .i64 4, .int .i64 20, .int .i64 28, .int .i64 28] PlT) = w2 at *
  generalize w1.heap.size = pb at *
  go_wp2_with fail
  refine (HEX.out _).mono ?_
  rintro e w3 ⟨rfl, hb3⟩
  have HR3 := Lib.hid (HR.out.keep (Kept.of_below (S := fun _ => False) hb3) (fun e => e))
  have HB3 := Lib.hid (below_on HB.out hb3 HB.out.size)
  clear hb3 HR HB HEX
  go_wp2_with (refine load_row_on rfl _ _ rfl pb rfl PlT #[.int .i64 4, .int .i64 20, .int .i64 28, .int .i64 28] (0, 0) _ HR3.out Try.underlying35 rfl (by rw [size_pl]; rfl) ?_)
  go_ret
  exact ⟨rfl, HB3.out⟩
/- while the law goes on: the object, its plan -/
structure Pw (w wr : World) (ob pb : Nat) (V : ObjV) (o : ObjD) (T X C S : Int) : Prop where
  look : Looks w wr ob V o
  row : RowAt wr pb PlT [.int .i64 T, .int .i64 X, .int .i64 C, .int .i64 S]
theorem Pw.on {w wr w' : World} {ob pb : Nat} {V : ObjV} {o : ObjD} {T X C S : Int} (h : Pw w wr ob pb V o T X C S) (hb : Below wr.heap.size wr w') : Pw w w' ob pb V o T X C S :=
  ⟨h.look.on3 hb, h.row.keep (Kept.of_below (S := fun _ => False) hb) (fun e => e)⟩
theorem tmod4 {z : Int} (h0 : 0 ≤ z) (h : z % 4 = 0) : z.tmod 4 = 0 := by rw [Int.tmod_eq_emod_of_nonneg h0]; exact h
theorem refsV_ok {o : ObjD} {Ls : List (List RefD)} (h : refsV o = some Ls) : NamesP o ∧ PartsP o := by
  unfold refsV at h
  split at h
  · assumption
  · cases h
set_option maxRecDepth 100000 in
set_option maxHeartbeats 8000000 in
theorem planParts_all (V : ObjV) (o : ObjD) (w : World) (h : ObjAt w V o) :
    Calls Try.prog 3 #[.agg (ocells V o).toArray] w fun e w' => e = .returned (.bool true) ∧ Below w.heap.size w w' := by
  have HL' := Lib.hid (looks_new w V o)
  have HO := Lib.hid h
  obtain ⟨a8, q8, hv8, _⟩ := h.exps.shape
  obtain ⟨n8, hn8⟩ : ∃ n, n = o.exps.length := ⟨_, rfl⟩
  rw [← hn8] at hv8
  have HV8 := Lib.hid hv8
  have HN8 := Lib.hid hn8
  clear h hv8 hn8
  go_enter Try.func3, Try.ntmps3
  go_upto_region 1 with fail
  generalize w.alloc (.cells (ocells V o).toArray OT) = w0 at *
  obtain ⟨ob, hob⟩ : ∃ ob, ob = w.heap.size := ⟨_, rfl⟩
  have HL : Hid (Looks w w0 ob V o) := by rw [hob]; exact HL'.out
  rw [← hob]
  clear HL' hob
  go_wp2_with fail
  refine (up15 w0).mono ?_
  rintro e w1 ⟨rfl, hb1⟩
  have HL1 := Lib.hid (HL.out.on3 hb1)
  clear hb1 HL
  go_wp2_with (refine load_row_on rfl _ _ rfl ob rfl OT (ocells V o).toArray (0, 0) _ HL1.out.row Try.underlying31 rfl (by rw [size_ob]; rfl) ?_)
  refine (few2_any V o _ (HO.out.on HL1.out.below)).mono ?_
  rintro e w2 ⟨hfew, hb2⟩
  have HL2 := Lib.hid (HL1.out.on3 hb2)
  clear hb2 HL1
  have c4 : w2.cell? ⟨ob, 4, none⟩ = some (.int .i64 o.data) := HL2.out.row.cell 4
  rcases hfew with ⟨rfl, hsm⟩ | rfl
  rotate_left
  · as_aux_lemma =>
    go_wp2_with fail
    go_ret
    exact ⟨rfl, HL2.out.below⟩
  have HS := Lib.hid hsm
  clear hsm
  by_cases hd : 100000 < o.data
  · as_aux_lemma =>
    have hd' : decide (100000 < o.data) = true := by simpa using hd
    go_wp2_with fail
    go_ret
    exact ⟨rfl, HL2.out.below⟩
  have hd' : decide (100000 < o.data) = false := by simpa using hd
  have hs1 : o.types.length ≤ 5000 := by have := HS.out.types; omega
  have hs2 : o.text.size ≤ 90000 := by have := HS.out.text; omega
  have hs3 : o.code.length ≤ 20000 := by have := HS.out.code; omega
  have hs4 : o.exps.length ≤ 300 := HS.out.exps
  have HOF := Lib.hid (of_any V o w2 (HO.out.on HL2.out.below) (by omega) hs1 hs2 hs3)
  have HPP := Lib.hid (plan_ok (o := o) (by omega) hs1 hs2 hs3)
  have HEX : Hid (∀ (n : Nat) (x : Int × Int) (w' : World), ObjAt w' V o → o.exps[n]? = some x → ExpOk o x → Calls Try.prog 8 #[.agg (ocells V o).toArray, .int .i64 (n : Nat)] w' fun e w'' => e = .returned (.tuple #[.int .i64 (exportV o x), .bool true]) ∧ Below w'.heap.size w' w'') := fun n x w' ho he hk => export_yes V o n x w' ho (by omega) hs1 hs2 hs3 he hk
  have HIN : Hid (∀ x : Int × Int, ExpOk o x → 0 ≤ o.data → PartP o x.1 (exportV o x) ∧ exportV o x % 4 = 0) := fun x hx h0 => export_in hx h0
  unfold PartP at HIN
  have n300 : n8 ≤ 300 := by have := HN8.out; omega
  clear hs1 hs2 hs3 hs4
  generalize planT o = T at *
  generalize planX o = X at *
  generalize planC o = C at *
  generalize planS o = S at *
  go_wp2_with (refine load_row_on rfl _ _ rfl ob rfl OT (ocells V o).toArray (0, 0) _ HL2.out.row Try.underlying31 rfl (by rw [size_ob]; rfl) ?_)
  refine HOF.out.mono ?_
  rintro e w3 ⟨rfl, hb3⟩
  clear HOF c4 hd hd'
  have RUN := Lib.hid (box_plan w3 T X C S)
  have hb4 : Below w3.heap.size w3 (w3.alloc (.cells #[.int .i64 T, .int .i64 X, .int .i64 C, .int .i64 S] PlT)) := (Below.refl _ _).alloc (Nat.le_refl _) _
  have HP4 : Hid (Pw w (w3.alloc (.cells #[.int .i64 T, .int .i64 X, .int .i64 C, .int .i64 S] PlT)) ob w3.heap.size V o T X C S) := ⟨(HL2.out.on3 hb3).on3 hb4, RowAt.new w3 PlT _⟩
  clear hb3 hb4 HL2
  go_upto_region 5 with (refine wpList_store_run _ rfl _ _ _ rfl _ _ rfl rfl (by exact RUN.out) ?_)
  clear RUN
  generalize w3.alloc (.cells #[.int .i64 T, .int .i64 X, .int .i64 C, .int .i64 S] PlT) = w4 at *
  generalize w3.heap.size = pb at *
  have p0 : w4.cell? ⟨pb, 0, none⟩ = some (.int .i64 T) := HP4.out.row.cell 0
  have p1 : w4.cell? ⟨pb, 1, none⟩ = some (.int .i64 X) := HP4.out.row.cell 1
  have p2 : w4.cell? ⟨pb, 2, none⟩ = some (.int .i64 C) := HP4.out.row.cell 2
  have p3 : w4.cell? ⟨pb, 3, none⟩ = some (.int .i64 S) := HP4.out.row.cell 3
  have c5 : w4.cell? ⟨ob, 5, none⟩ = some (.string o.text) := HP4.out.look.row.cell 5
  have hm1 := tmod4 HPP.out.t.1 HPP.out.t.2.2
  have hm2 := tmod4 (by have := HPP.out.t; have := HPP.out.x; omega) HPP.out.x.2.2
  have hm3 := tmod4 (by have := HPP.out.t; have := HPP.out.x; have := HPP.out.c; omega) HPP.out.c.2.2
  have hm4 := tmod4 (by have := HPP.out.t; have := HPP.out.x; have := HPP.out.c; have := HPP.out.s; omega) HPP.out.s.2.2
  have g1 : decide (T < 0) = false := by have := HPP.out.t; simp; omega
  have g2 : decide (X < T) = false := by have := HPP.out.x; simp; omega
  have g3 : decide (C < X) = false := by have := HPP.out.c; simp; omega
  have g4 : decide (S < C) = false := by have := HPP.out.s; simp; omega
  have g5 : decide (C - X < ((o.text.size : Nat) : Int)) = false := by have := HPP.out.n; simp; omega
  have g6 : decide (((o.text.size : Nat) : Int) + 3 < C - X) = false := by have := HPP.out.n; simp; omega
  have b1 : X ≤ C := HPP.out.c.1
  have b2 : C ≤ 600000 := HPP.out.c.2.1
  have b3 : 0 ≤ X := by have := HPP.out.t; have := HPP.out.x; omega
  have b4 : o.text.size ≤ 300 := HS.out.text
  have HDR := Lib.hid (rrefs_any V o w4 (HO.out.on HP4.out.look.below) HS.out)
  go_wp2_with (refine load_row_on rfl _ _ rfl ob rfl OT (ocells V o).toArray (0, 0) _ HP4.out.look.row Try.underlying31 rfl (by rw [size_ob]; rfl) ?_)
  refine HDR.out.mono ?_
  rintro e w5 ht
  clear HDR hm1 hm2 hm3 hm4 g1 g2 g3 g4 g5 g6 b1 b2 b3 b4 p0 p1 p2 p3 c5
  cases hv : refsV o with
  | none =>
    as_aux_lemma =>
    rw [hv] at ht
    obtain ⟨rfl, hb5⟩ := ht
    have RES := Lib.hid (HP4.out.on hb5).look.below
    clear hb5 hv
    go_wp2_with fail
    go_ret
    exact ⟨rfl, RES.out⟩
  | some Ls =>
    have HPT := Lib.hid (refsV_ok hv).2
    rw [hv] at ht
    obtain ⟨u, vs, rfl, _, hb5⟩ := ht
    have HP5 := Lib.hid (HP4.out.on hb5)
    clear hb5 hv HP4
    go_wp2_with fail
    go_loopw [7] (fun i wr => ∃ m : Nat, m ≤ n8 ∧ i = .int .i64 (m : Nat) ∧ Pw w wr ob pb V o T X C S) (fun i _ => n8 - (intOf i).toNat)
    case atStart => exact ⟨0, Nat.zero_le _, rfl, HP5.out⟩
    case round =>
      clear HP5
      obtain ⟨m, hm, rfl, hP⟩ := hrel
      have HP := Lib.hid hP
      clear hP
      have c8 : wr.cell? ⟨ob, 8, none⟩ = some (.slice a8 n8 q8) := (HP.out.look.row.cell 8).trans (congrArg some HV8.out)
      by_cases hlt : m < n8
      · obtain ⟨x, hx⟩ : ∃ x, o.exps[m]? = some x := ⟨_, List.getElem?_eq_getElem (by have := HN8.out; omega)⟩
        have hok := HPT.out.exp m x hx
        have hin := HIN.out x hok HPT.out.data.1
        have HEXM := Lib.hid (fun w' ho => HEX.out m x w' ho hx hok)
        obtain ⟨k, at_⟩ := x
        obtain ⟨b, off, cap, e0, hb, q0, _⟩ := HO.out.exps.cell2 hx rfl
        rw [← HN8.out] at e0
        have ea : a8 = some ⟨b, off, none⟩ := by have e2 := HV8.out.symm.trans e0; cases e2; rfl
        rw [ea] at c8
        have HVE : Hid (V.e = .slice (some ⟨b, off, none⟩) n8 q8) := by show V.e = _; rw [HV8.out, ea]
        have HU := Lib.hid q0
        have HB : Hid (b < w.heap.size) := hb
        generalize exportV o (k, at_) = p at *
        have i1 : (m : Int) < (n8 : Int) := by omega
        have i2 : (0 : Int) ≤ (m : Int) := by omega
        have HLT : Hid (m < n8) := hlt
        have p0 : 0 ≤ p := by
          have h1 := HPP.out.t
          have h2 := HPP.out.x
          have h3 := HPP.out.c
          rcases hin.1 with h | h | h <;> omega
        have HM4 := Lib.hid (tmod4 p0 hin.2)
        have HK := Lib.hid hin.1
        clear e0 ea hb q0 hx hok hin hlt hm p0
        go_wp2_with (refine load_row_on rfl _ _ rfl ob rfl OT (ocells V o).toArray (0, 0) _ HP.out.look.row Try.underlying31 rfl (by rw [size_ob]; rfl) ?_)
        refine (HEXM.out _ (HO.out.on HP.out.look.below)).mono ?_
        rintro e w6 ⟨rfl, hb6⟩
        have HP6 := Lib.hid (HP.out.on hb6)
        clear hb6 HEXM c8
        have c8 : w6.cell? ⟨ob, 8, none⟩ = some (.slice (some ⟨b, off, none⟩) n8 q8) := (HP6.out.look.row.cell 8).trans (congrArg some HVE.out)
        have u0 : w6.cell? ⟨b, off + m * 2, none⟩ = some (.int .i64 k) := (HP6.out.look.below.cell (p := ⟨b, off + m * 2, none⟩) HB.out).trans HU.out
        have d0 : w6.cell? ⟨pb, 0, none⟩ = some (.int .i64 T) := HP6.out.row.cell 0
        have d1 : w6.cell? ⟨pb, 1, none⟩ = some (.int .i64 X) := HP6.out.row.cell 1
        have d2 : w6.cell? ⟨pb, 2, none⟩ = some (.int .i64 C) := HP6.out.row.cell 2
        have d3 : w6.cell? ⟨pb, 3, none⟩ = some (.int .i64 S) := HP6.out.row.cell 3
        have hm4 := HM4.out
        clear HP HM4 HU
        rcases HK.out with ⟨hk, h1, h2⟩ | ⟨hk, h1, h2⟩ | ⟨hk, h1, h2⟩
        all_goals
          subst hk
          clear HK
          go_wp2_with fail
          go_roundw
          case rel => exact ⟨m + 1, HLT.out, by go_num, HP6.out⟩
          case measure => have := HLT.out; simp [intOf]; omega
      · have i1 : ¬ (m : Int) < (n8 : Int) := by omega
        clear hlt hm
        go_wp2_with fail
        go_ret
        exact ⟨rfl, HP.out.look.below⟩
end Go.Proofs.Ytpckcjhffpokeaa
