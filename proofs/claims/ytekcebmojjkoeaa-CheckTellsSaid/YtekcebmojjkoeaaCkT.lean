/-
  The program's take, means, meanWhatIs (layer 14, rule 7). Conditions: references lie in code (InCode).
-/
import Derived.Test.YtekcebmojjkoeaaCkP
import Derived.Test.YtekcebmojjkoeaaChB
import Derived.Test.YtekcebmojjkoeaaEl
namespace Go.Proofs.Ytekcebmojjkoeaa
open Go.ChangeShapes Go.WideShapes Go.ChangeAt Go.RowKit

theorem size_ct : (Try.prog.info? CT).map (·.size) = some 3 := by kernel_rfl
theorem box_cref (wr : World) (p y z : Nat) :
    (Instr.storeAt CT (.pointer (some ⟨wr.heap.size, 0, none⟩)) (.agg #[.int .i64 (p : Nat), .int .i64 (y : Nat), .int .i64 (z : Nat)])).run Try.prog (wr.alloc (.cells #[.int .i64 0, .int .i64 0, .int .i64 0] CT)) = .ok () (wr.alloc (.cells #[.int .i64 (p : Nat), .int .i64 (y : Nat), .int .i64 (z : Nat)] CT)) :=
  box_el wr CT 3 [.int .i64 0, .int .i64 0, .int .i64 0] [.int .i64 (p : Nat), .int .i64 (y : Nat), .int .i64 (z : Nat)] rfl rfl (refRow_one ⟨(p : Nat), y, z⟩) size_ct
/- while places are taken -/
structure Tak (w wr : World) (mb n : Nat) (P : List Int) (f : Nat → Bool) : Prop where
  row : RowAt wr mb 4 (metN n f)
  met : MetP P f
  kept : Kept (· = mb) w wr
theorem Tak.on {w wr w' : World} {mb n : Nat} {P : List Int} {f : Nat → Bool} (h : Tak w wr mb n P f) (hb : Below wr.heap.size wr w') : Tak w w' mb n P f :=
  ⟨h.row.keep (Kept.of_below (S := fun _ => False) hb) (fun e => e), h.met, h.kept.trans (Kept.of_below hb)⟩
theorem Tak.set {w wr : World} {mb n : Nat} {P : List Int} {f : Nat → Bool} (h : Tak w wr mb n P f) {k : Nat} (hk : k < n) : Tak w (wr.setCell ⟨mb, k, none⟩ (.bool true)) mb n ((k : Int) :: P) (fun j => if j = k then true else f j) := by
  refine ⟨?_, h.met.next k, h.kept.trans (kept_set wr mb k _)⟩
  rw [← metN_set f hk]
  exact h.row.setCell k _
/- what a run of take says -/
def TakeTold (w w' : World) (mb n : Nat) (l : List RefD) (P : List Int) (e : Ending) : Prop :=
  (e = .returned (.bool true) ∧ TakeP l P ∧ ∃ f, Tak w w' mb n (placesT l P) f) ∨ (e = .returned (.bool false) ∧ ¬ TakeP l P ∧ Kept (· = mb) w w')
set_option maxRecDepth 100000 in
set_option maxHeartbeats 2000000 in
theorem take_any (mb n : Nat) (v : Value) (l : List RefD) (P : List Int) (f : Nat → Bool) (code : List Nat) (w : World) (hn : n = code.length) (hT : Tak w w mb n P f) (h : SRow CT 3 w v l.length (rows refRow l)) (hin : ∀ r ∈ l, InCode code r) :
    Calls Try.prog 19 #[.slice (some ⟨mb, 0, none⟩) n n, v] w fun e w' => TakeTold w w' mb n l P e := by
  have HT0 := Lib.hid hT
  have HIN := Lib.hid hin
  have HCN := Lib.hid hn
  have HNM : Hid (∀ j, own v j → j ≠ mb) := fun j hj e => by subst e; exact h.notIn hT.row (by decide) hj
  have HROW0 := Lib.hid h
  obtain ⟨a1, c1, rfl, hc, hm⟩ := h.shape
  obtain ⟨nl, hnl⟩ : ∃ nl, nl = l.length := ⟨_, rfl⟩
  have HNL := Lib.hid hnl
  have HROW : Hid (SRow CT 3 w (.slice a1 nl c1) l.length (rows refRow l)) := by rw [hnl]; exact HROW0.out
  have HOWN : Hid (∀ j, own (.slice a1 nl c1) j → j ≠ mb) := fun j hj => HNM.out j (by rw [hnl] at hj; exact hj)
  have hsl : nl ≤ 9223372036854775807 := by rw [hnl]; exact Nat.le_trans hc hm
  have HE0 : Hid ((TakeP l P ↔ TakeP (l.drop 0) P) ∧ placesT (l.drop 0) P = placesT l P) := ⟨Iff.rfl, rfl⟩
  rw [← hnl]
  clear hT h hin hn hnl hc hm HNM HROW0
  go_enter Try.func19, Try.ntmps19
  go_wp2_with fail
  go_loopw [9] (fun i wr => ∃ (j : Nat) (P2 : List Int) (f2 : Nat → Bool), j ≤ nl ∧ i = .int .i64 (j : Nat) ∧ Tak w wr mb n P2 f2 ∧ SRow CT 3 wr (.slice a1 nl c1) l.length (rows refRow l) ∧ (TakeP l P ↔ TakeP (l.drop j) P2) ∧ placesT (l.drop j) P2 = placesT l P) (fun i _ => nl - (intOf i).toNat)
  case atStart => exact ⟨0, _, _, Nat.zero_le _, rfl, HT0.out, HROW.out, HE0.out⟩
  case round =>
    clear HT0 HROW HE0
    obtain ⟨j, P2, f2, hj, rfl, hT, hR, hE⟩ := hrel
    have HT := Lib.hid hT
    have HROW := Lib.hid hR
    have HE := Lib.hid hE
    clear hT hR hE
    by_cases hlt : j < nl
    · obtain ⟨x, hx⟩ : ∃ x, l[j]? = some x := ⟨_, List.getElem?_eq_getElem (by have := HNL.out; omega)⟩
      have HD' : l.drop j = x :: l.drop (j + 1) := by
        have hl := (List.getElem?_eq_some_iff.1 hx).1
        have := List.drop_eq_getElem_cons hl
        rw [(List.getElem?_eq_some_iff.1 hx).2] at this
        exact this
      have hin := HIN.out x (List.mem_of_getElem? hx)
      obtain ⟨xa, y, z⟩ := x
      obtain ⟨p, rfl⟩ := Int.eq_ofNat_of_zero_le (show 0 ≤ xa from hin.1.1)
      have HD := Lib.hid HD'
      have hpn : p < n := by have h1 : ((p : Nat) : Int) < (code.length : Int) := hin.1.2; have := HCN.out; omega
      obtain ⟨b, off, cap, e0, hb, p0, p1, p2⟩ := (HROW.out.els refRow_len).cell3 hx (c0 := .int .i64 (p : Nat)) (c1 := .int .i64 (y : Nat)) (c2 := .int .i64 (z : Nat)) rfl
      have ea : a1 = some ⟨b, off, none⟩ := by cases e0; rfl
      subst ea
      have RUN := Lib.hid (box_cref wr p y z)
      have hbel : Below wr.heap.size wr (wr.alloc (.cells #[.int .i64 (p : Nat), .int .i64 (y : Nat), .int .i64 (z : Nat)] CT)) := (Below.refl _ _).alloc (Nat.le_refl _) _
      have HT4 := Lib.hid (HT.out.on hbel)
      have HR4 : Hid (SRow CT 3 (wr.alloc (.cells #[.int .i64 (p : Nat), .int .i64 (y : Nat), .int .i64 (z : Nat)] CT)) (.slice (some ⟨b, off, none⟩) nl c1) l.length (rows refRow l)) := HROW.out.keep (Kept.of_below (S := fun _ => False) hbel) (fun _ _ e => e)
      have HB4 : Hid (RowAt (wr.alloc (.cells #[.int .i64 (p : Nat), .int .i64 (y : Nat), .int .i64 (z : Nat)] CT)) wr.heap.size CT (refRow ⟨(p : Nat), y, z⟩)) := RowAt.new wr CT (refRow ⟨(p : Nat), y, z⟩)
      have HTM : Hid (wr.heap.size ≠ mb) := fun e => by have := HT.out.row.lt; omega
      have i3 : (j : Int) < (nl : Int) := by omega
      have i4 : (0 : Int) ≤ (j : Int) := by omega
      have i5 : (p : Int) < (n : Int) := by omega
      have i6 : (0 : Int) ≤ (p : Int) := by omega
      have HJ : Hid (j < nl) := hlt
      have HPN : Hid (p < n) := hpn
      clear e0 hx hin hlt hj hbel HT HROW hb HD' hpn
      go_upto_region 4 with (refine wpList_store_run _ rfl _ _ _ rfl _ _ rfl rfl (by exact RUN.out) ?_)
      generalize wr.alloc (.cells #[.int .i64 (p : Nat), .int .i64 (y : Nat), .int .i64 (z : Nat)] CT) = w4 at *
      generalize wr.heap.size = tb at *
      clear p0 p1 p2 RUN
      have d0 : w4.cell? ⟨tb, 0, none⟩ = some (.int .i64 (p : Nat)) := HB4.out.cell 0
      have cm : w4.cell? ⟨mb, p, none⟩ = some (.bool (f2 p)) := (HT4.out.row.cell p).trans (metN_at f2 HPN.out)
      by_cases hf : f2 p = true
      · as_aux_lemma =>
        rw [hf] at cm
        have RES : Hid (¬ TakeP l P) := fun g => by
          have := HE.out.1.1 g
          rw [HD.out] at this
          exact this.1 ((HT4.out.met p).1 hf)
        go_wp2_with fail
        go_ret
        exact .inr ⟨rfl, RES.out, HT4.out.kept⟩
      have hf2 : f2 p = false := by simpa using hf
      rw [hf2] at cm
      have fm : w4.frozen? ⟨mb, p, none⟩ = false := HT4.out.row.free p
      have HF : Hid (((p : Nat) : Int) ∉ P2) := fun g => hf ((HT4.out.met p).2 g)
      have HEN : Hid ((TakeP l P ↔ TakeP (l.drop (j + 1)) (((p : Nat) : Int) :: P2)) ∧ placesT (l.drop (j + 1)) (((p : Nat) : Int) :: P2) = placesT l P) := by
        have g1 := HE.out.1
        have g2 := HE.out.2
        rw [HD.out] at g1 g2
        exact ⟨g1.trans ⟨fun g => g.2, fun g => ⟨HF.out, g⟩⟩, g2⟩
      have HT5 := Lib.hid (HT4.out.set HPN.out)
      have HR5 := Lib.hid (HR4.out.keep (kept_set w4 mb p (.bool true)) (fun i hi => HOWN.out i hi))
      clear hf hf2 HB4 HR4 HT4 HTM HE
      go_wp2_with fail
      go_roundw
      case rel => exact ⟨j + 1, _, _, HJ.out, by go_num, HT5.out, HR5.out, HEN.out⟩
      case measure => have := HJ.out; simp [intOf]; omega
    · have i3 : ¬ (j : Int) < (nl : Int) := by omega
      have hd : l.drop j = [] := List.drop_of_length_le (by have := HNL.out; omega)
      have G1 : Hid (TakeP l P) := HE.out.1.2 (by rw [hd]; trivial)
      have G2 : Hid (P2 = placesT l P) := by have := HE.out.2; rw [hd] at this; exact this
      clear hd hlt hj
      go_wp2_with fail
      go_ret
      exact .inl ⟨rfl, G1.out, f2, by rw [← G2.out]; exact HT.out⟩

/- what one reference means -/
set_option maxRecDepth 100000 in
set_option maxHeartbeats 4000000 in
theorem means_any (V : ObjV) (o : ObjD) (a : Nat) (x : RefD) (r : Bool) (w : World) (h : ObjAt w V o) (hy : x.mod < 16) (hz : x.ent < 64) (hr : r = true ↔ RefOk o a x) :
    Calls Try.prog 35 #[.agg (ocells V o).toArray, .int .i64 (a : Nat), .agg #[.int .i64 x.at_, .int .i64 (x.mod : Nat), .int .i64 (x.ent : Nat)]] w fun e w' => e = .returned (.bool r) ∧ Below w.heap.size w w' := by
  obtain ⟨xp, y, z⟩ := x
  dsimp only at *
  have HL' := Lib.hid (looks_new w V o)
  have HO := Lib.hid h
  have HR := Lib.hid hr
  obtain ⟨a2, q2, hv2, _⟩ := h.imps.shape
  obtain ⟨n2, hn2⟩ : ∃ n, n = o.imps.length := ⟨_, rfl⟩
  rw [← hn2] at hv2
  have HV2 := Lib.hid hv2
  have HN2 := Lib.hid hn2
  obtain ⟨a8, q8, hv8, _⟩ := h.exps.shape
  obtain ⟨n8, hn8⟩ : ∃ n, n = o.exps.length := ⟨_, rfl⟩
  rw [← hn8] at hv8
  have HV8 := Lib.hid hv8
  have HN8 := Lib.hid hn8
  have HRK : Hid (r = true ↔ (y = 15 ∧ a = 1 ∧ z ≤ o.text.size) ∨ (y ≠ 15 ∧ y ≤ o.imps.length ∧ (y = 0 → ∃ x, o.exps[z]? = some x ∧ FitsP a x.1))) := hr
  clear h hr hv2 hn2 hv8 hn8 HR
  go_enter Try.func35, Try.ntmps35
  go_upto_region 1 with fail
  have HL2 : Hid (Looks w ((w.alloc (.cells (ocells V o).toArray OT)).alloc (.cells #[.int .i64 xp, .int .i64 (y : Nat), .int .i64 (z : Nat)] CT)) w.heap.size V o) := HL'.out.on3 ((Below.refl _ _).alloc (Nat.le_refl _) _)
  have HB2 : Hid (RowAt ((w.alloc (.cells (ocells V o).toArray OT)).alloc (.cells #[.int .i64 xp, .int .i64 (y : Nat), .int .i64 (z : Nat)] CT)) (w.heap.size + 1) CT [.int .i64 xp, .int .i64 (y : Nat), .int .i64 (z : Nat)]) := by
    have := RowAt.new (w.alloc (.cells (ocells V o).toArray OT)) CT [.int .i64 xp, .int .i64 (y : Nat), .int .i64 (z : Nat)]
    rw [show (w.alloc (.cells (ocells V o).toArray OT)).heap.size = w.heap.size + 1 by simp] at this
    exact this
  clear HL'
  generalize (w.alloc (.cells (ocells V o).toArray OT)).alloc (.cells #[.int .i64 xp, .int .i64 (y : Nat), .int .i64 (z : Nat)] CT) = w0 at *
  generalize w.heap.size + 1 = tb at *
  obtain ⟨ob, hob⟩ : ∃ ob, ob = w.heap.size := ⟨_, rfl⟩
  have HL : Hid (Looks w w0 ob V o) := by rw [hob]; exact HL2.out
  rw [← hob]
  clear HL2 hob
  have d1 : w0.cell? ⟨tb, 1, none⟩ = some (.int .i64 (y : Nat)) := HB2.out.cell 1
  have d2 : w0.cell? ⟨tb, 2, none⟩ = some (.int .i64 (z : Nat)) := HB2.out.cell 2
  have c2 : w0.cell? ⟨ob, 2, none⟩ = some (.slice a2 n2 q2) := (HL.out.row.cell 2).trans (congrArg some HV2.out)
  have c5 : w0.cell? ⟨ob, 5, none⟩ = some (.string o.text) := HL.out.row.cell 5
  have c8 : w0.cell? ⟨ob, 8, none⟩ = some (.slice a8 n8 q8) := (HL.out.row.cell 8).trans (congrArg some HV8.out)
  clear HB2
  have RES := Lib.hid HL.out.below
  by_cases h0 : y = 0
  · have HY : Hid (y = 0) := h0
    have t0 : (((y : Nat) : Int) == 0) = true := by simp; omega
    by_cases hz8 : (z : Int) < (n8 : Int)
    · obtain ⟨x8, hx8⟩ : ∃ x, o.exps[z]? = some x := ⟨_, List.getElem?_eq_getElem (by have := HN8.out; omega)⟩
      have HX8 := Lib.hid hx8
      obtain ⟨k1, k2⟩ := x8
      obtain ⟨b8, off8, cap8, e8, hb8, g0, _⟩ := HO.out.exps.cell2 hx8 rfl
      rw [← HN8.out] at e8
      have ea8 : a8 = some ⟨b8, off8, none⟩ := by have e2 := HV8.out.symm.trans e8; cases e2; rfl
      rw [ea8] at c8
      have u0 := (HL.out.below.cell (p := ⟨b8, off8 + z * 2, none⟩) hb8).trans g0
      obtain ⟨rF, hrF⟩ := some_bool (FitsP a k1)
      have HRF := Lib.hid hrF
      have HFT := Lib.hid (fun w => pfits_any a k1 w rF hrF)
      have i8 : (0 : Int) ≤ (z : Int) := by omega
      have HRR : Hid (r = rF) := by
        show r = rF
        cases rF with
        | true => exact HRK.out.2 (.inr ⟨by omega, by omega, fun _ => ⟨_, HX8.out, HRF.out.1 rfl⟩⟩)
        | false =>
          refine bool_not HRK.out fun g => ?_
          rcases g with ⟨g1, _⟩ | ⟨_, _, g3⟩
          · have := HY.out
            omega
          · obtain ⟨x, hx, hft⟩ := g3 HY.out
            have e := HX8.out.symm.trans hx
            cases e
            have := HRF.out.2 hft
            cases this
      clear e8 ea8 hb8 g0 hrF hx8 h0
      go_wp2_with fail
      refine (HFT.out _).mono ?_
      rintro e w' ⟨rfl, rfl⟩
      go_wp2_with fail
      go_ret
      exact ⟨end_bool HRR.out.symm, RES.out⟩
    · have HRF : Hid (r = false) := bool_not HRK.out fun g => by
        rcases g with ⟨g1, _⟩ | ⟨_, _, g3⟩
        · omega
        · obtain ⟨x, hx, _⟩ := g3 h0
          have := (List.getElem?_eq_some_iff.1 hx).1
          have := HN8.out
          omega
      have t5 : decide ((z : Int) < (n8 : Int)) = false := by simpa using hz8
      clear h0
      go_wp2_with fail
      go_ret
      exact ⟨end_bool HRF.out.symm, RES.out⟩
  · have t0 : (((y : Nat) : Int) == 0) = false := by simp; omega
    by_cases h15 : y = 15
    · have t15 : (((y : Nat) : Int) == 15) = true := by simp; omega
      by_cases ha : a = 1
      · have ta : (((a : Nat) : Int) == 1) = true := by simp; omega
        have HRR : Hid (r = decide (z ≤ o.text.size)) := by
          show r = decide _
          by_cases hz5 : z ≤ o.text.size
          · rw [decide_eq_true hz5]
            exact HRK.out.2 (.inl ⟨h15, ha, by omega⟩)
          · rw [decide_eq_false hz5]
            exact bool_not HRK.out fun g => by rcases g with ⟨_, _, g3⟩ | ⟨g1, _⟩ <;> omega
        clear h0 h15 ha
        go_wp2_with fail
        go_ret
        exact ⟨end_bool HRR.out.symm, RES.out⟩
      · have ta : (((a : Nat) : Int) == 1) = false := by simp; omega
        have HRF : Hid (r = false) := bool_not HRK.out fun g => by rcases g with ⟨_, g2, _⟩ | ⟨g1, _⟩ <;> omega
        clear h0 h15 ha
        go_wp2_with fail
        go_ret
        exact ⟨end_bool HRF.out.symm, RES.out⟩
    · have t15 : (((y : Nat) : Int) == 15) = false := by simp; omega
      have HRR : Hid (r = decide (y ≤ n2)) := by
        show r = decide _
        by_cases hy2 : y ≤ n2
        · rw [decide_eq_true hy2]
          exact HRK.out.2 (.inr ⟨h15, by have := HN2.out; omega, fun e => absurd e h0⟩)
        · rw [decide_eq_false hy2]
          exact bool_not HRK.out fun g => by have := HN2.out; rcases g with ⟨g1, _⟩ | ⟨_, g2, _⟩ <;> omega
      clear h0 h15
      go_wp2_with fail
      go_ret
      exact ⟨end_bool HRR.out.symm, RES.out⟩
set_option maxRecDepth 100000 in
set_option maxHeartbeats 2000000 in
theorem meanAll_any (V : ObjV) (o : ObjD) (a : Nat) (v : Value) (l : List RefD) (r : Bool) (w : World) (h : ObjAt w V o) (hl : ElsAt 3 refRow w v l) (hin : ∀ x ∈ l, InCode o.code x) (hr : r = true ↔ AllOk o a l) :
    Calls Try.prog 20 #[.agg (ocells V o).toArray, .int .i64 (a : Nat), v] w fun e w' => e = .returned (.bool r) ∧ Below w.heap.size w w' := by
  have HL' := Lib.hid (looks_new w V o)
  have HO := Lib.hid h
  have HR := Lib.hid hr
  have HE := Lib.hid hl
  have HIN := Lib.hid hin
  obtain ⟨a1, c1, hv, hc, hm, _⟩ := hl.shape
  obtain ⟨nl, hnl⟩ : ∃ nl, nl = l.length := ⟨_, rfl⟩
  rw [← hnl] at hv hc
  have HNL := Lib.hid hnl
  have hsl : nl ≤ 9223372036854775807 := Nat.le_trans hc hm
  subst hv
  clear h hr hl hin hnl hc hm
  go_enter Try.func20, Try.ntmps20
  go_upto_region 1 with fail
  generalize w.alloc (.cells (ocells V o).toArray OT) = w0 at *
  obtain ⟨ob, hob⟩ : ∃ ob, ob = w.heap.size := ⟨_, rfl⟩
  have HL : Hid (Looks w w0 ob V o) := by rw [hob]; exact HL'.out
  rw [← hob]
  clear HL' hob
  go_wp2_with fail
  go_loopw [11] (fun i wr => ∃ j : Nat, j ≤ nl ∧ i = .int .i64 (j : Nat) ∧ Looks w wr ob V o ∧ ∀ (k : Nat) (x : RefD), k < j → l[k]? = some x → RefOk o a x) (fun i _ => nl - (intOf i).toNat)
  case atStart => exact ⟨0, Nat.zero_le _, rfl, HL.out, fun j x hj => by omega⟩
  case round =>
    clear HL
    obtain ⟨j, hj, rfl, hL, hall⟩ := hrel
    have HL := Lib.hid hL
    have HALL := Lib.hid hall
    clear hL hall
    by_cases hlt : j < nl
    · obtain ⟨x, hx⟩ : ∃ x, l[j]? = some x := ⟨_, List.getElem?_eq_getElem (by have := HNL.out; omega)⟩
      have HX := Lib.hid hx
      have hin := HIN.out x (List.mem_of_getElem? hx)
      obtain ⟨rm, hrm⟩ := some_bool (RefOk o a x)
      have HRM := Lib.hid hrm
      have HMN : Hid (∀ w' : World, Below w.heap.size w w' → Calls Try.prog 35 #[.agg (ocells V o).toArray, .int .i64 (a : Nat), .agg #[.int .i64 x.at_, .int .i64 (x.mod : Nat), .int .i64 (x.ent : Nat)]] w' fun e w'' => e = .returned (.bool rm) ∧ Below w'.heap.size w' w'') := fun w' hb => means_any V o a x rm w' (HO.out.on hb) hin.2.1 hin.2.2 hrm
      obtain ⟨p, hp⟩ := Int.eq_ofNat_of_zero_le (show 0 ≤ x.at_ from hin.1.1)
      obtain ⟨b, off, cap, e0, hb, p0, p1, p2⟩ := HE.out.cell3 hx (c0 := .int .i64 x.at_) (c1 := .int .i64 (x.mod : Nat)) (c2 := .int .i64 (x.ent : Nat)) rfl
      have ea : a1 = some ⟨b, off, none⟩ := by cases e0; rfl
      subst ea
      have u0 := (HL.out.below.cell (p := ⟨b, off + j * 3, none⟩) hb).trans p0
      have u1 := (HL.out.below.cell (p := ⟨b, off + j * 3 + 1, none⟩) hb).trans p1
      have u2 := (HL.out.below.cell (p := ⟨b, off + j * 3 + 2, none⟩) hb).trans p2
      rw [hp] at u0 HMN
      generalize x.mod = y at *
      generalize x.ent = z at *
      have RUN := Lib.hid (box_cref wr p y z)
      have HL1 : Hid (Looks w (wr.alloc (.cells #[.int .i64 (p : Nat), .int .i64 (y : Nat), .int .i64 (z : Nat)] CT)) ob V o) := HL.out.on3 ((Below.refl _ _).alloc (Nat.le_refl _) _)
      have HB1 : Hid (RowAt (wr.alloc (.cells #[.int .i64 (p : Nat), .int .i64 (y : Nat), .int .i64 (z : Nat)] CT)) wr.heap.size CT [.int .i64 (p : Nat), .int .i64 (y : Nat), .int .i64 (z : Nat)]) := RowAt.new wr CT _
      have i3 : (j : Int) < (nl : Int) := by omega
      have i4 : (0 : Int) ≤ (j : Int) := by omega
      have HJ : Hid (j < nl) := hlt
      clear e0 hx hin hlt hj hb p0 p1 p2 hrm hp HL
      go_upto_region 4 with (refine wpList_store_run _ rfl _ _ _ rfl _ _ rfl rfl (by exact RUN.out) ?_)
      generalize wr.alloc (.cells #[.int .i64 (p : Nat), .int .i64 (y : Nat), .int .i64 (z : Nat)] CT) = w1 at *
      generalize wr.heap.size = tb at *
      clear u0 u1 u2 RUN
      go_wp2_with (first
        | (refine load_row_on rfl _ _ rfl ob rfl OT (ocells V o).toArray (0, 0) _ HL1.out.row Try.underlying31 rfl (by rw [size_ob]; rfl) ?_)
        | (refine load_row_on rfl _ _ rfl tb rfl CT #[.int .i64 (p : Nat), .int .i64 (y : Nat), .int .i64 (z : Nat)] (0, 0) _ HB1.out Try.underlying74 rfl (by rw [size_ct]; rfl) ?_))
      refine (HMN.out _ HL1.out.below).mono ?_
      rintro e w2 ⟨rfl, hb2⟩
      have HL2 := Lib.hid (HL1.out.on3 hb2)
      clear hb2 HL1 HB1 HMN
      cases rm with
      | false =>
        as_aux_lemma =>
        have HRF : Hid (r = false) := bool_not HR.out fun g => by have := HRM.out.2 (g j _ HX.out); cases this
        go_wp2_with fail
        go_ret
        exact ⟨end_bool HRF.out.symm, HL2.out.below⟩
      | true =>
        as_aux_lemma =>
        have HOK := Lib.hid (all_next (Q := fun _ x => RefOk o a x) HALL.out HX.out (HRM.out.1 rfl))
        go_wp2_with fail
        go_roundw
        case rel => exact ⟨j + 1, HJ.out, by go_num, HL2.out, HOK.out⟩
        case measure => have := HJ.out; simp [intOf]; omega
    · have i3 : ¬ (j : Int) < (nl : Int) := by omega
      have HRT : Hid (r = true) := HR.out.2 (all_done (Q := fun _ x => RefOk o a x) HALL.out (by have := HNL.out; omega))
      clear hlt hj
      go_wp2_with fail
      go_ret
      exact ⟨end_bool HRT.out.symm, HL.out.below⟩
end Go.Proofs.Ytekcebmojjkoeaa
