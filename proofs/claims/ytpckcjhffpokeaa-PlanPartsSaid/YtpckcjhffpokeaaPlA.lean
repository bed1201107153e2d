/-
  The program's Of, Export (layer 15). Conditions: Data at most 100000, at most 5000 types, 90000 bytes of text, 20000 words of code.
-/
import Derived.Test.YtpckcjhffpokeaaPlM
import Derived.Test.YtpckcjhffpokeaaObjK
import Derived.Laws.Rows
import Derived.Deep.RegionHeld3
namespace Go.Proofs.Ytpckcjhffpokeaa
open Go.ChangeShapes Go.WideShapes Go.ChangeAt Go.RowKit

abbrev PlT : TypeId := 35
theorem size_plan : (Try.prog.info? PlT).map (·.size) = some 4 := by kernel_rfl
theorem ones_plan (a b c d : Int) : Ones [.int .i64 a, .int .i64 b, .int .i64 c, .int .i64 d] := by intro u hu; simp only [List.mem_cons, List.not_mem_nil, or_false] at hu; rcases hu with rfl | rfl | rfl | rfl <;> rfl
set_option maxRecDepth 100000 in
theorem upToWord_any (n : Nat) (w : World) (h : n ≤ 90000) :
    Calls Try.prog 10 #[.int .i64 ((n : Nat) : Int)] w fun e w' => e = .returned (.int .i64 ((((n : Nat) : Int) + 3) / 4 * 4)) ∧ w = w' := by
  go_enter Try.func10, Try.ntmps10
  go_wp2_with fail
  go_ret
  exact ⟨end_int (by omega), rfl⟩
set_option maxRecDepth 100000 in
set_option maxHeartbeats 1000000 in
theorem of_any (V : ObjV) (o : ObjD) (w : World) (h : ObjAt w V o) (hd : o.data ≤ 100000) (ht : o.types.length ≤ 5000) (hx : o.text.size ≤ 90000) (hc : o.code.length ≤ 20000) :
    Calls Try.prog 6 #[.agg (ocells V o).toArray] w fun e w' => e = .returned (.agg #[.int .i64 (planT o), .int .i64 (planX o), .int .i64 (planC o), .int .i64 (planS o)]) ∧ Below w.heap.size w w' := by
  have HL' := Lib.hid (looks_new w V o)
  have HI := Lib.hid h.fit.data
  obtain ⟨a3, q3, hv3, _⟩ := h.types.shape
  obtain ⟨n3, hn3⟩ : ∃ n, n = o.types.length := ⟨_, rfl⟩
  rw [← hn3] at hv3 ht
  have HV3 := Lib.hid hv3
  have HN3 := Lib.hid hn3
  obtain ⟨a6, q6, hv6, _⟩ := h.code.shape
  obtain ⟨n6, hn6⟩ : ∃ n, n = o.code.length := ⟨_, rfl⟩
  rw [← hn6] at hv6 hc
  have HV6 := Lib.hid hv6
  have HN6 := Lib.hid hn6
  clear h hn3 hn6 hv3 hv6
  go_enter Try.func6, Try.ntmps6
  go_upto_region 1 with fail
  have HS' : Hid ((w.alloc (.cells (ocells V o).toArray OT)).heap.size = w.heap.size + 1) := by show _ = _; simp
  generalize w.alloc (.cells (ocells V o).toArray OT) = w0 at *
  obtain ⟨ob, hob⟩ : ∃ ob, ob = w.heap.size := ⟨_, rfl⟩
  have HS : Hid (w0.heap.size = ob + 1) := by rw [hob]; exact HS'.out
  have HL : Hid (Looks w w0 ob V o) := by rw [hob]; exact HL'.out
  rw [← hob]
  clear HL' HS' hob
  have HR' : Hid (RowAt (w0.alloc (.cells #[.int .i64 0, .int .i64 0, .int .i64 0, .int .i64 0] PlT)) w0.heap.size PlT [.int .i64 0, .int .i64 0, .int .i64 0, .int .i64 0]) := RowAt.new w0 PlT _
  have hb1 : Below w0.heap.size w0 (w0.alloc (.cells #[.int .i64 0, .int .i64 0, .int .i64 0, .int .i64 0] PlT)) := (Below.refl _ _).alloc (Nat.le_refl _) _
  have HL1 := Lib.hid (HL.out.on3 hb1)
  have HB1 : Hid (w.heap.size ≤ w0.heap.size) := HL.out.below.size
  clear hb1 HL
  generalize w0.alloc (.cells #[.int .i64 0, .int .i64 0, .int .i64 0, .int .i64 0] PlT) = w1 at *
  rw [HS.out] at HB1 HR'
  have HR := HR'
  clear HR' HS
  generalize ob + 1 = pb at *
  have c3 : w1.cell? ⟨ob, 3, none⟩ = some (.slice a3 n3 q3) := (HL1.out.row.cell 3).trans (congrArg some HV3.out)
  have c4 : w1.cell? ⟨ob, 4, none⟩ = some (.int .i64 o.data) := HL1.out.row.cell 4
  have c5 : w1.cell? ⟨ob, 5, none⟩ = some (.string o.text) := HL1.out.row.cell 5
  have c6 : w1.cell? ⟨ob, 6, none⟩ = some (.slice a6 n6 q6) := (HL1.out.row.cell 6).trans (congrArg some HV6.out)
  obtain ⟨D, hD⟩ : ∃ D, D = o.data := ⟨_, rfl⟩
  have HD := Lib.hid hD
  rw [← hD] at hd c4 HI
  have hi := HI.out
  unfold I64 at hi
  have HU := Lib.hid (fun w => upToWord_any o.text.size w hx)
  clear hD
  have RUN : Hid (∀ a b c d : Int, (Instr.storeAt PlT (.pointer (some ⟨pb, 0, none⟩)) (.agg #[.int .i64 a, .int .i64 b, .int .i64 c, .int .i64 d])).run Try.prog w1 = .ok () (w1.setRow pb #[.int .i64 a, .int .i64 b, .int .i64 c, .int .i64 d]) ∧ RowAt (w1.setRow pb #[.int .i64 a, .int .i64 b, .int .i64 c, .int .i64 d]) pb PlT [.int .i64 a, .int .i64 b, .int .i64 c, .int .i64 d] ∧ Kept (· = pb) w1 (w1.setRow pb #[.int .i64 a, .int .i64 b, .int .i64 c, .int .i64 d])) :=
    fun a b c d => told_row HR.out rfl rfl (ones_plan a b c d) size_plan
  by_cases h0 : 0 ≤ D
  · have h1 : ¬ D < 0 := by omega
    go_wp2_with fail
    refine (HU.out _).mono ?_
    rintro e w2 ⟨rfl, rfl⟩
    go_wp2_with (refine wpList_store_run _ rfl _ _ _ rfl _ _ rfl rfl (by exact (RUN.out _ _ _ _).1) ?_)
    have TELL := RUN.out (D * 4) (D * 4 + (n3 : Int) * 16) (D * 4 + (n3 : Int) * 16 + ((o.text.size : Int) + 3) / 4 * 4) (D * 4 + (n3 : Int) * 16 + ((o.text.size : Int) + 3) / 4 * 4 + (n6 : Int) * 4)
    refine bodyPost_ret (v := .agg #[.int .i64 (D * 4), .int .i64 (D * 4 + (n3 : Int) * 16), .int .i64 (D * 4 + (n3 : Int) * 16 + ((o.text.size : Int) + 3) / 4 * 4), .int .i64 (D * 4 + (n3 : Int) * 16 + ((o.text.size : Int) + 3) / 4 * 4 + (n6 : Int) * 4)]) ?_ rfl ⟨?_, TELL.2.2.below HL1.out.below HL1.out.below.size fun k _ e => e ▸ HB1.out⟩
    · exact results_cell_row Try.results6 _ _ pb PlT _ _ _ rfl TELL.2.1 Try.underlying35 rfl (by rw [size_plan]; rfl)
    · have e1 : D * 4 = planT o := by unfold planT; rw [← HD.out, if_pos h0]; omega
      have e2 : D * 4 + (n3 : Int) * 16 = planX o := by unfold planX; rw [e1, HN3.out]; omega
      have e3 : D * 4 + (n3 : Int) * 16 + ((o.text.size : Int) + 3) / 4 * 4 = planC o := by unfold planC; rw [e2]
      have e4 : D * 4 + (n3 : Int) * 16 + ((o.text.size : Int) + 3) / 4 * 4 + (n6 : Int) * 4 = planS o := by unfold planS; rw [e3, HN6.out]; omega
      rw [e4, e3, e2, e1]
  · have h1 : D < 0 := by omega
    go_wp2_with fail
    refine (HU.out _).mono ?_
    rintro e w2 ⟨rfl, rfl⟩
    go_wp2_with (refine wpList_store_run _ rfl _ _ _ rfl _ _ rfl rfl (by exact (RUN.out _ _ _ _).1) ?_)
    have TELL := RUN.out 0 ((n3 : Int) * 16) ((n3 : Int) * 16 + ((o.text.size : Int) + 3) / 4 * 4) ((n3 : Int) * 16 + ((o.text.size : Int) + 3) / 4 * 4 + (n6 : Int) * 4)
    refine bodyPost_ret (v := .agg #[.int .i64 0, .int .i64 ((n3 : Int) * 16), .int .i64 ((n3 : Int) * 16 + ((o.text.size : Int) + 3) / 4 * 4), .int .i64 ((n3 : Int) * 16 + ((o.text.size : Int) + 3) / 4 * 4 + (n6 : Int) * 4)]) ?_ rfl ⟨?_, TELL.2.2.below HL1.out.below HL1.out.below.size fun k _ e => e ▸ HB1.out⟩
    · exact results_cell_row Try.results6 _ _ pb PlT _ _ _ rfl TELL.2.1 Try.underlying35 rfl (by rw [size_plan]; rfl)
    · have e1 : (0 : Int) = planT o := by unfold planT; rw [← HD.out, if_neg (by omega)]; omega
      have e2 : (n3 : Int) * 16 = planX o := by unfold planX; rw [← e1, HN3.out]; omega
      have e3 : (n3 : Int) * 16 + ((o.text.size : Int) + 3) / 4 * 4 = planC o := by unfold planC; rw [e2]
      have e4 : (n3 : Int) * 16 + ((o.text.size : Int) + 3) / 4 * 4 + (n6 : Int) * 4 = planS o := by unfold planS; rw [e3, HN6.out]; omega
      rw [e4, e3, e2, e1]
/- an export's row in a variable of its own; a place of code, or a type, by the plan -/
set_option maxRecDepth 100000 in
set_option maxHeartbeats 2000000 in
theorem export_yes (V : ObjV) (o : ObjD) (n : Nat) (x : Int × Int) (w : World) (h : ObjAt w V o) (hd : o.data ≤ 100000) (ht : o.types.length ≤ 5000) (hx : o.text.size ≤ 90000) (hc : o.code.length ≤ 20000) (he : o.exps[n]? = some x) (hk : ExpOk o x) :
    Calls Try.prog 8 #[.agg (ocells V o).toArray, .int .i64 (n : Nat)] w fun e w' => e = .returned (.tuple #[.int .i64 (exportV o x), .bool true]) ∧ Below w.heap.size w w' := by
  obtain ⟨k, a⟩ := x
  have HL' := Lib.hid (looks_new w V o)
  have HOF : Hid (∀ w' : World, Below w.heap.size w w' → Calls Try.prog 6 #[.agg (ocells V o).toArray] w' fun e w'' => e = .returned (.agg #[.int .i64 (planT o), .int .i64 (planX o), .int .i64 (planC o), .int .i64 (planS o)]) ∧ Below w'.heap.size w' w'') := fun w' hb => of_any V o w' (h.on hb) hd ht hx hc
  have HPP := Lib.hid (plan_ok hd ht hx hc)
  obtain ⟨n8, hn8⟩ : ∃ m, m = o.exps.length := ⟨_, rfl⟩
  have hln : n < n8 := by rw [hn8]; exact (List.getElem?_eq_some_iff.1 he).1
  obtain ⟨b, off, cap, e0, hb, p0, p1⟩ := h.exps.cell2 he rfl
  rw [← hn8] at e0
  have HVE := Lib.hid e0
  have HP := Lib.hid (And.intro hb (And.intro p0 p1))
  have HEV : Hid (exportV o (k, a) = if k = 0 then planC o + 4 * a else if k = 1 then 4 * a else planT o + 16 * a) := rfl
  have hab : 0 ≤ a ∧ a ≤ 100000 := by unfold ExpOk at hk; (try dsimp only at hk); omega
  have hkk : k = 0 ∨ k = 1 ∨ k = 2 := by unfold ExpOk at hk; (try dsimp only at hk); omega
  have HK := Lib.hid hkk
  clear h hd ht hx hc he hk hn8 e0 hb p0 p1 hkk
  generalize exportV o (k, a) = ev at *
  go_enter Try.func8, Try.ntmps8
  go_upto_region 1 with fail
  generalize w.alloc (.cells (ocells V o).toArray OT) = w0 at *
  obtain ⟨ob, hob⟩ : ∃ ob, ob = w.heap.size := ⟨_, rfl⟩
  have HL : Hid (Looks w w0 ob V o) := by rw [hob]; exact HL'.out
  rw [← hob]
  clear HL' hob
  have c8 : w0.cell? ⟨ob, 8, none⟩ = some (.slice (some ⟨b, off, none⟩) n8 cap) := (HL.out.row.cell 8).trans (congrArg some HVE.out)
  have u0 := (HL.out.below.cell (p := ⟨b, off + n * 2, none⟩) HP.out.1).trans HP.out.2.1
  have u1 := (HL.out.below.cell (p := ⟨b, off + n * 2 + 1, none⟩) HP.out.1).trans HP.out.2.2
  have i1 : (n : Int) < (n8 : Int) := by omega
  have i2 : (0 : Int) ≤ (n : Int) := by omega
  have RUN := Lib.hid (box_el w0 ExT 2 [.int .i64 0, .int .i64 0] [.int .i64 k, .int .i64 a] rfl rfl (ones_exp (k, a)) size_ex)
  have HL1 : Hid (Looks w (w0.alloc (.cells #[.int .i64 k, .int .i64 a] ExT)) ob V o) := HL.out.on3 ((Below.refl _ _).alloc (Nat.le_refl _) _)
  have HR1 : Hid (RowAt (w0.alloc (.cells #[.int .i64 k, .int .i64 a] ExT)) w0.heap.size ExT [.int .i64 k, .int .i64 a]) := RowAt.new w0 ExT _
  clear HL
  go_upto_region 4 with (refine wpList_store_run _ rfl _ _ _ rfl _ _ rfl rfl (by exact RUN.out) ?_)
  generalize w0.alloc (.cells #[.int .i64 k, .int .i64 a] ExT) = w1 at *
  generalize w0.heap.size = tb at *
  clear u0 u1 c8 RUN
  have d0 : w1.cell? ⟨tb, 0, none⟩ = some (.int .i64 k) := HR1.out.cell 0
  by_cases k0 : k = 0
  · as_aux_lemma =>
    have g0 : (k == 0) = true := by simp [k0]
    have HE : Hid (ev = planC o + a * 4) := by show _ = _; rw [HEV.out, if_pos k0]; omega
    have b1 : 0 ≤ planC o ∧ planC o ≤ 600000 := by have := HPP.out.t; have := HPP.out.x; have := HPP.out.c; omega
    have j1 : IntKind.i64.wrap (a * 4) = a * 4 := IntWalk.i64_in _ (by omega)
    have j2 : IntKind.i64.wrap (planC o + a * 4) = planC o + a * 4 := IntWalk.i64_in _ (by omega)
    clear HEV HPP
    generalize planT o = T at *
    generalize planX o = X at *
    generalize planC o = C at *
    generalize planS o = S at *
    go_wp2_with fail
    refine wp_region_held_drew (S := fun w' => RowAt w' tb ExT [.int .i64 k, .int .i64 a] ∧ Looks w w' ob V o) (by kernel_rfl) ?_ (fun hHeld => ?_)
    · exact ⟨HR1.out.keep (Kept.of_below (S := fun _ => False) ((Drawn.of_n w1 1).below _)) (fun e => e), HL1.out.on3 ((Drawn.of_n w1 1).below _)⟩
    refine wpAnyH_take (i := 0) (v := _) rfl (by kernel_rfl) (by kernel_rfl) (by kernel_rfl) (fun _ _ _ h => h) (yieldsIf_load_mid (by rfl) _ _ rfl _ _ rfl _ _ (fun w hSw => hSw.2.row.rangeC) (Try.underlying31) rfl (by rw [size_ob]; rfl)) (by assumption) ?_
    try simp only [Act.put, List.getElem_toArray, List.getElem_cons_zero, List.setIfInBounds_toArray, List.set_cons_zero, List.set_cons_succ]
    refine wpAnyH_take (i := 3) (v := ?_) rfl (by kernel_rfl) (by kernel_rfl) (by kernel_rfl) (fun _ _ _ h => h) (Or.inl ⟨by rfl, ?_⟩) (by assumption) ?_
    rotate_left
    · intro w hSw
      (try dsimp only at hSw)
      go_simp
      (try with_reducible rfl)
    try simp only [Act.put, List.getElem_toArray, List.getElem_cons_zero, List.getElem_cons_succ, List.setIfInBounds_toArray, List.set_cons_zero, List.set_cons_succ]
    refine wpAnyH_take (i := 4) (v := ?_) rfl (by kernel_rfl) (by kernel_rfl) (by kernel_rfl) (fun _ _ _ h => h) (Or.inl ⟨by rfl, ?_⟩) (by assumption) ?_
    rotate_left
    · intro w hSw
      have d1 := hSw.1.cell 1
      (try dsimp only at hSw)
      go_simp
      (try with_reducible rfl)
    try simp only [Act.put, List.getElem_toArray, List.getElem_cons_zero, List.getElem_cons_succ, List.setIfInBounds_toArray, List.set_cons_zero, List.set_cons_succ]
    refine wpAnyH_take (i := 5) (v := ?_) rfl (by kernel_rfl) (by kernel_rfl) (by kernel_rfl) (fun _ _ _ h => h) (Or.inl ⟨by rfl, ?_⟩) (by assumption) ?_
    rotate_left
    · intro w hSw
      (try dsimp only at hSw)
      go_simp
      (try with_reducible rfl)
    try simp only [Act.put, List.getElem_toArray, List.getElem_cons_zero, List.getElem_cons_succ, List.setIfInBounds_toArray, List.set_cons_zero, List.set_cons_succ]
    refine wpAnyH_ready (rs := [1]) (by kernel_rfl) (by simp) ?_
    refine AllReadyH.cons rfl (fun K hK => ?_) AllReadyH.nil
    go_simp
    refine (HOF.out _ hHeld.2.below).mono ?_
    rintro e w2 ⟨rfl, hb2⟩
    first | show K _ _ | go_wp2_with fail
    refine hK.out _ _ ?_ (fun hHeld1 => ?_)
    · exact ⟨hHeld.1.keep (Kept.of_below (S := fun _ => False) hb2) (fun e => e), hHeld.2.on3 hb2⟩
    clear hK K
    try simp only [Act.put, List.getElem_toArray, List.getElem_cons_zero, List.getElem_cons_succ, List.setIfInBounds_toArray, List.set_cons_zero, List.set_cons_succ]
    refine wpAnyH_take (i := 2) (v := _) rfl (by kernel_rfl) (by kernel_rfl) (by kernel_rfl) (fun _ _ _ h => h) (Or.inl ⟨by rfl, fun w hSw => rfl⟩) (by assumption) ?_
    try simp only [Act.put, List.getElem_toArray, List.getElem_cons_zero, List.getElem_cons_succ, List.setIfInBounds_toArray, List.set_cons_zero, List.set_cons_succ]
    refine wpAnyH_take (i := 6) (v := ?_) rfl (by kernel_rfl) (by kernel_rfl) (by kernel_rfl) (fun _ _ _ h => h) (Or.inl ⟨by rfl, ?_⟩) (by assumption) ?_
    rotate_left
    · intro w hSw
      (try dsimp only at hSw)
      go_simp
      (try with_reducible rfl)
    try simp only [Act.put, List.getElem_toArray, List.getElem_cons_zero, List.getElem_cons_succ, List.setIfInBounds_toArray, List.set_cons_zero, List.set_cons_succ]
    refine wpAnyH_take (i := 7) (v := ?_) rfl (by kernel_rfl) (by kernel_rfl) (by kernel_rfl) (fun _ _ _ h => h) (Or.inl ⟨by rfl, ?_⟩) (by assumption) ?_
    rotate_left
    · intro w hSw
      (try dsimp only at hSw)
      go_simp
      (try with_reducible rfl)
    try simp only [Act.put, List.getElem_toArray, List.getElem_cons_zero, List.getElem_cons_succ, List.setIfInBounds_toArray, List.set_cons_zero, List.set_cons_succ]
    refine wpAnyH_take (i := 8) (v := ?_) rfl (by kernel_rfl) (by kernel_rfl) (by kernel_rfl) (fun _ _ _ h => h) (Or.inl ⟨by rfl, ?_⟩) (by assumption) ?_
    rotate_left
    · intro w hSw
      (try dsimp only at hSw)
      go_simp
      (try with_reducible rfl)
    try simp only [Act.put, List.getElem_toArray, List.getElem_cons_zero, List.getElem_cons_succ, List.setIfInBounds_toArray, List.set_cons_zero, List.set_cons_succ]
    refine wpAnyH_done (by kernel_rfl) ?_ _
    go_wp2_with fail
    go_ret2
    exact ⟨by rw [HE.out]; rfl, hHeld1.2.below⟩
  · have g0 : (k == 0) = false := by simp [k0]
    by_cases k1 : k = 1
    · as_aux_lemma =>
      have g1 : (k == 1) = true := by simp [k1]
      have d1 : w1.cell? ⟨tb, 1, none⟩ = some (.int .i64 a) := HR1.out.cell 1
      have HE : Hid (ev = a * 4) := by show _ = _; rw [HEV.out, if_neg k0, if_pos k1]; omega
      go_wp2_with fail
      go_ret2
      exact ⟨by rw [HE.out]; rfl, HL1.out.below⟩
    · as_aux_lemma =>
      have g1 : (k == 1) = false := by simp [k1]
      have g2 : (k == 2) = true := by have := HK.out; simp; omega
      have HE : Hid (ev = planT o + a * 16) := by show _ = _; rw [HEV.out, if_neg k0, if_neg k1]; omega
      have b1 : 0 ≤ planT o ∧ planT o ≤ 400000 := by have := HPP.out.t; omega
      have j1 : IntKind.i64.wrap (a * 16) = a * 16 := IntWalk.i64_in _ (by omega)
      have j2 : IntKind.i64.wrap (planT o + a * 16) = planT o + a * 16 := IntWalk.i64_in _ (by omega)
      clear HEV HPP
      generalize planT o = T at *
      generalize planX o = X at *
      generalize planC o = C at *
      generalize planS o = S at *
      go_wp2_with fail
      refine wp_region_held_drew (S := fun w' => RowAt w' tb ExT [.int .i64 k, .int .i64 a] ∧ Looks w w' ob V o) (by kernel_rfl) ?_ (fun hHeld => ?_)
      · exact ⟨HR1.out.keep (Kept.of_below (S := fun _ => False) ((Drawn.of_n w1 1).below _)) (fun e => e), HL1.out.on3 ((Drawn.of_n w1 1).below _)⟩
      refine wpAnyH_take (i := 0) (v := _) rfl (by kernel_rfl) (by kernel_rfl) (by kernel_rfl) (fun _ _ _ h => h) (yieldsIf_load_mid (by rfl) _ _ rfl _ _ rfl _ _ (fun w hSw => hSw.2.row.rangeC) (Try.underlying31) rfl (by rw [size_ob]; rfl)) (by assumption) ?_
      try simp only [Act.put, List.getElem_toArray, List.getElem_cons_zero, List.setIfInBounds_toArray, List.set_cons_zero, List.set_cons_succ]
      refine wpAnyH_take (i := 3) (v := ?_) rfl (by kernel_rfl) (by kernel_rfl) (by kernel_rfl) (fun _ _ _ h => h) (Or.inl ⟨by rfl, ?_⟩) (by assumption) ?_
      rotate_left
      · intro w hSw
        (try dsimp only at hSw)
        go_simp
        (try with_reducible rfl)
      try simp only [Act.put, List.getElem_toArray, List.getElem_cons_zero, List.getElem_cons_succ, List.setIfInBounds_toArray, List.set_cons_zero, List.set_cons_succ]
      refine wpAnyH_take (i := 4) (v := ?_) rfl (by kernel_rfl) (by kernel_rfl) (by kernel_rfl) (fun _ _ _ h => h) (Or.inl ⟨by rfl, ?_⟩) (by assumption) ?_
      rotate_left
      · intro w hSw
        have d1 := hSw.1.cell 1
        (try dsimp only at hSw)
        go_simp
        (try with_reducible rfl)
      try simp only [Act.put, List.getElem_toArray, List.getElem_cons_zero, List.getElem_cons_succ, List.setIfInBounds_toArray, List.set_cons_zero, List.set_cons_succ]
      refine wpAnyH_take (i := 5) (v := ?_) rfl (by kernel_rfl) (by kernel_rfl) (by kernel_rfl) (fun _ _ _ h => h) (Or.inl ⟨by rfl, ?_⟩) (by assumption) ?_
      rotate_left
      · intro w hSw
        (try dsimp only at hSw)
        go_simp
        (try with_reducible rfl)
      try simp only [Act.put, List.getElem_toArray, List.getElem_cons_zero, List.getElem_cons_succ, List.setIfInBounds_toArray, List.set_cons_zero, List.set_cons_succ]
      refine wpAnyH_ready (rs := [1]) (by kernel_rfl) (by simp) ?_
      refine AllReadyH.cons rfl (fun K hK => ?_) AllReadyH.nil
      go_simp
      refine (HOF.out _ hHeld.2.below).mono ?_
      rintro e w2 ⟨rfl, hb2⟩
      first | show K _ _ | go_wp2_with fail
      refine hK.out _ _ ?_ (fun hHeld1 => ?_)
      · exact ⟨hHeld.1.keep (Kept.of_below (S := fun _ => False) hb2) (fun e => e), hHeld.2.on3 hb2⟩
      clear hK K
      try simp only [Act.put, List.getElem_toArray, List.getElem_cons_zero, List.getElem_cons_succ, List.setIfInBounds_toArray, List.set_cons_zero, List.set_cons_succ]
      refine wpAnyH_take (i := 2) (v := _) rfl (by kernel_rfl) (by kernel_rfl) (by kernel_rfl) (fun _ _ _ h => h) (Or.inl ⟨by rfl, fun w hSw => rfl⟩) (by assumption) ?_
      try simp only [Act.put, List.getElem_toArray, List.getElem_cons_zero, List.getElem_cons_succ, List.setIfInBounds_toArray, List.set_cons_zero, List.set_cons_succ]
      refine wpAnyH_take (i := 6) (v := ?_) rfl (by kernel_rfl) (by kernel_rfl) (by kernel_rfl) (fun _ _ _ h => h) (Or.inl ⟨by rfl, ?_⟩) (by assumption) ?_
      rotate_left
      · intro w hSw
        (try dsimp only at hSw)
        go_simp
        (try with_reducible rfl)
      try simp only [Act.put, List.getElem_toArray, List.getElem_cons_zero, List.getElem_cons_succ, List.setIfInBounds_toArray, List.set_cons_zero, List.set_cons_succ]
      refine wpAnyH_take (i := 7) (v := ?_) rfl (by kernel_rfl) (by kernel_rfl) (by kernel_rfl) (fun _ _ _ h => h) (Or.inl ⟨by rfl, ?_⟩) (by assumption) ?_
      rotate_left
      · intro w hSw
        (try dsimp only at hSw)
        go_simp
        (try with_reducible rfl)
      try simp only [Act.put, List.getElem_toArray, List.getElem_cons_zero, List.getElem_cons_succ, List.setIfInBounds_toArray, List.set_cons_zero, List.set_cons_succ]
      refine wpAnyH_take (i := 8) (v := ?_) rfl (by kernel_rfl) (by kernel_rfl) (by kernel_rfl) (fun _ _ _ h => h) (Or.inl ⟨by rfl, ?_⟩) (by assumption) ?_
      rotate_left
      · intro w hSw
        (try dsimp only at hSw)
        go_simp
        (try with_reducible rfl)
      try simp only [Act.put, List.getElem_toArray, List.getElem_cons_zero, List.getElem_cons_succ, List.setIfInBounds_toArray, List.set_cons_zero, List.set_cons_succ]
      refine wpAnyH_done (by kernel_rfl) ?_ _
      go_wp2_with fail
      go_ret2
      exact ⟨by rw [HE.out]; rfl, hHeld1.2.below⟩
set_option maxRecDepth 100000 in
theorem export_no (V : ObjV) (o : ObjD) (n : Nat) (w : World) (h : ObjAt w V o) (he : o.exps.length ≤ n) :
    Calls Try.prog 8 #[.agg (ocells V o).toArray, .int .i64 (n : Nat)] w fun e w' => e = .returned (.tuple #[.int .i64 0, .bool false]) ∧ Below w.heap.size w w' := by
  have HL' := Lib.hid (looks_new w V o)
  obtain ⟨a8, q8, hv8, _⟩ := h.exps.shape
  obtain ⟨n8, hn8⟩ : ∃ m, m = o.exps.length := ⟨_, rfl⟩
  rw [← hn8] at hv8 he
  have HV8 := Lib.hid hv8
  clear h hn8 hv8
  go_enter Try.func8, Try.ntmps8
  go_upto_region 1 with fail
  generalize w.alloc (.cells (ocells V o).toArray OT) = w0 at *
  obtain ⟨ob, hob⟩ : ∃ ob, ob = w.heap.size := ⟨_, rfl⟩
  have HL : Hid (Looks w w0 ob V o) := by rw [hob]; exact HL'.out
  rw [← hob]
  clear HL' hob
  have c8 : w0.cell? ⟨ob, 8, none⟩ = some (.slice a8 n8 q8) := (HL.out.row.cell 8).trans (congrArg some HV8.out)
  have i1 : (n8 : Int) ≤ (n : Int) := by omega
  have i2 : ¬ (n : Int) < 0 := by omega
  go_wp2_with fail
  go_ret2
  exact ⟨rfl, HL.out.below⟩
end Go.Proofs.Ytpckcjhffpokeaa
