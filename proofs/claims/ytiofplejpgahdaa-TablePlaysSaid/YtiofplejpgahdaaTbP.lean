/-
  TablePlays (layer 18). No conditions.
-/
import Derived.Test.YtiofplejpgahdaaTbO
namespace Go.Proofs.Ytiofplejpgahdaa
open Go.ChangeShapes Go.WideShapes Go.ChangeAt Go.RowKit

set_option maxRecDepth 100000 in
set_option maxHeartbeats 8000000 in
theorem tablePlays_any (most : Int) (lv : Value) (L : List DdX) (s : ByteArray) (w : World) (h : DeedsT w lv L) :
    Calls Try.prog 3 #[.int .i64 most, lv, .string s] w fun e w' => e = .returned (.bool true) ∧ Below w.heap.size w w' := by
  obtain ⟨la, lc, hlv, hl1, hl2, _⟩ := h.els.shape
  subst hlv
  have HL := Lib.hid h
  clear h
  generalize hn : L.length = n at *
  have HN := Lib.hid hn
  clear hn
  obtain ⟨room, hroom⟩ : ∃ room : Nat, (room : Int) = min (max most 0) 16 := ⟨(min (max most 0) 16).toNat, by omega⟩
  have HRM := Lib.hid hroom
  have i16 : room ≤ 16 := by omega
  clear hroom
  go_enter Try.func3, Try.ntmps3
  go_wp2_with fail
  refine (up18 w).mono ?_
  rintro e w1 ⟨rfl, hb1⟩
  have HB1 := Lib.hid hb1
  clear hb1
  go_wp2_with fail
  refine (new_told w.heap.size w.heap.size most room w1 HB1.out.size HRM.out).mono ?_
  rintro e w2 ⟨tb, rfl, ht2, hb2⟩
  have HS : Hid (Sp w w2 tb room nilS []) := Sp.start ht2 (below_on HB1.out hb2 HB1.out.size)
  clear ht2 hb2 HB1
  by_cases c1 : 80 < n
  · as_aux_lemma =>
    have d1 : decide ((80 : Int) < (n : Int)) = true := by simp; omega
    go_wp2_with fail
    go_ret
    exact ⟨rfl, HS.out.below⟩
  by_cases c2 : 100 < s.size
  · as_aux_lemma =>
    have d1 : decide ((80 : Int) < (n : Int)) = false := by simp; omega
    have d2 : decide ((100 : Int) < (s.size : Int)) = true := by simp; omega
    go_wp2_with fail
    go_ret
    exact ⟨rfl, HS.out.below⟩
  as_aux_lemma =>
  have d1 : decide ((80 : Int) < (n : Int)) = false := by simp; omega
  have d2 : decide ((100 : Int) < (s.size : Int)) = false := by simp; omega
  go_upto_if 46 with fail
  clear d1 d2
  go_cut [9] (fun s9 wx => s9 = .int .i64 (max most 0) ∧ w2 = wx)
  case first =>
    as_aux_lemma =>
    by_cases m0 : most < 0
    · as_aux_lemma =>
      go_wp2_with fail
      go_meet
      exact ⟨congrArg (Value.int .i64) (by omega), rfl⟩
    · as_aux_lemma =>
      go_wp2_with fail
      go_meet
      exact ⟨congrArg (Value.int .i64) (by omega), rfl⟩
  case rest =>
  obtain ⟨rfl, rfl⟩ := hcut
  generalize hz : max most 0 = z0 at *
  have HZ0 := Lib.hid hz
  clear hz
  go_upto_if 48 with fail
  go_cut [9] (fun s9 wx => s9 = .int .i64 (room : Int) ∧ w2 = wx)
  case first =>
    as_aux_lemma =>
    by_cases m0 : 16 < z0
    · as_aux_lemma =>
      have hr := HRM.out
      have hz := HZ0.out
      go_wp2_with fail
      go_meet
      exact ⟨congrArg (Value.int .i64) (by omega), rfl⟩
    · as_aux_lemma =>
      go_wp2_with fail
      go_meet
      exact ⟨congrArg (Value.int .i64) (by have := HRM.out; have := HZ0.out; omega), rfl⟩
  case rest =>
  obtain ⟨rfl, rfl⟩ := hcut
  clear HZ0 HRM
  go_wp2_with fail
  go_loopw [10, 11, 12, 13, 14, 15, 16, 17, 18, 19, 20, 21, 22, 23] (fun m i _ _ _ _ _ _ _ _ _ _ _ _ wr => ∃ (k : Nat) (M : List DdX), k ≤ n ∧ i = .int .i64 k ∧ Hid (Sp w wr tb room m M)) (fun _ i _ _ _ _ _ _ _ _ _ _ _ _ _ => n - (intOf i).toNat)
  case atStart => exact ⟨0, [], Nat.zero_le _, rfl, HS⟩
  case round =>
    obtain ⟨i, M, hi, rfl, HS1⟩ := hrel
    clear HS
    by_cases hlt : i < n
    · as_aux_lemma =>
      obtain ⟨x, hx⟩ : ∃ x, L[i]? = some x := ⟨_, List.getElem?_eq_getElem (by rw [HN.out]; exact hlt)⟩
      have HLR := Lib.hid (HL.out.on HS1.out.below)
      have hiv := HL.out.imps x (List.mem_of_getElem? hx)
      obtain ⟨b, off, cap, hv, hb, hc⟩ := HLR.out.els.cell hx
      rw [HN.out] at hv
      cases hv
      obtain ⟨ia, ic, hiv2, _⟩ := hiv.shape
      obtain ⟨gone, name, iv, base, imps⟩ := x
      have hiv2 : iv = .slice ia imps.length ic := hiv2
      subst hiv2
      have HIV : Hid (ElsAt 1 sRow w (.slice ia imps.length ic) imps) := hiv
      have c0 : wr.cell? ⟨b, off + i * 4, none⟩ = some (.bool gone) := hc 0 (by omega)
      have c1 : wr.cell? ⟨b, off + i * 4 + 1, none⟩ = some (.string name) := hc 1 (by omega)
      have c2 : wr.cell? ⟨b, off + i * 4 + 2, none⟩ = some (.slice ia imps.length ic) := hc 2 (by omega)
      have c3 : wr.cell? ⟨b, off + i * 4 + 3, none⟩ = some (.int .i64 base) := hc 3 (by omega)
      have RUN : Hid ((Instr.storeAt DdT (.pointer (some ⟨wr.heap.size, 0, none⟩)) (.agg #[.bool gone, .string name, .slice ia imps.length ic, .int .i64 base])).run Try.prog (wr.alloc (.cells #[.bool false, .string ⟨#[]⟩, .slice none 0 0, .int .i64 0] DdT)) = .ok () (wr.alloc (.cells #[.bool gone, .string name, .slice ia imps.length ic, .int .i64 base] DdT))) :=
        box_dd wr ⟨gone, name, .slice ia imps.length ic, base, imps⟩ (ones_dd hiv.one)
      have HR : Hid (RowAt (wr.alloc (.cells #[.bool gone, .string name, .slice ia imps.length ic, .int .i64 base] DdT)) wr.heap.size DdT [.bool gone, .string name, .slice ia imps.length ic, .int .i64 base]) := RowAt.new wr DdT _
      have HS2 : Hid (Sp w (wr.alloc (.cells #[.bool gone, .string name, .slice ia imps.length ic, .int .i64 base] DdT)) tb room u10 M) := HS1.out.on ((Below.refl _ _).alloc (Nat.le_refl _) _)
      generalize hq : imps.length = q at *
      have HQ := Lib.hid hq
      have e3 : (i : Int) < (n : Int) := by omega
      have e4 : (0 : Int) ≤ (i : Int) := by omega
      clear hx hc hb hiv hiv2 hq HLR HS1
      go_upto_region 15 with (refine wpList_store_run _ rfl _ _ _ rfl _ _ rfl rfl (by exact RUN.out) ?_)
      clear RUN c0 c1 c2 c3
      generalize wr.alloc (.cells #[.bool gone, .string name, .slice ia q ic, .int .i64 base] DdT) = W1 at *
      generalize wr.heap.size = xb at *
      have f0 : W1.cell? ⟨xb, 0, none⟩ = some (.bool gone) := HR.out.cell 0
      have f1 : W1.cell? ⟨xb, 1, none⟩ = some (.string name) := HR.out.cell 1
      have f2 : W1.cell? ⟨xb, 2, none⟩ = some (.slice ia q ic) := HR.out.cell 2
      have f3 : W1.cell? ⟨xb, 3, none⟩ = some (.int .i64 base) := HR.out.cell 3
      by_cases t1 : 100 < name.size
      · as_aux_lemma =>
        have t2 : decide ((100 : Int) < (name.size : Int)) = true := by simp; omega
        go_wp2_with fail
        go_ret
        exact ⟨rfl, HS2.out.below⟩
      by_cases t3 : 20 < q
      · as_aux_lemma =>
        have t2 : decide ((100 : Int) < (name.size : Int)) = false := by simp; omega
        have t4 : decide ((20 : Int) < (q : Int)) = true := by simp; omega
        go_wp2_with fail
        go_ret
        exact ⟨rfl, HS2.out.below⟩
      as_aux_lemma =>
      have t2 : decide ((100 : Int) < (name.size : Int)) = false := by simp; omega
      have t4 : decide ((20 : Int) < (q : Int)) = false := by simp; omega
      obtain ⟨ma, mc, hmv, hmc1, hmc2⟩ := HS2.out.row.shape
      subst hmv
      have hm16 := HS2.out.len
      have hmr := HS2.out.room
      have HAT := Lib.hid (at18_any _ M name W1 HS2.out.deeds.els (by omega))
      have HQI : Hid (imps.length ≤ 1000) := by show imps.length ≤ 1000; have := HQ.out; omega
      generalize hmn : M.length = mn at *
      have HMN := Lib.hid hmn
      clear hmn
      generalize hpz : posV (dnm M) name = pz at *
      have HPZ := Lib.hid hpz
      clear hpz
      go_wp2_with fail
      refine HAT.out.mono ?_
      rintro e W1' ⟨rfl, rfl⟩
      clear HAT t2 t4
      go_upto_if 75 with fail
      go_cut [10] (fun s10 wx => ∃ M', Hid (Sp w wx tb room s10 M'))
      case first =>
        as_aux_lemma =>
        cases gone with
        | true =>
          have HRV : Hid (Calls Try.prog 9 #[.pointer (some ⟨tb, 0, none⟩), .string name] W1 fun e w' => e = .returned (.bool (remB (dnm M) (dim M) name)) ∧ TabD w.heap.size w.heap.size w' tb room (remL (nmsD (M.map ddD)) (impD (M.map ddD)) name (M.map ddD)) ∧ Off w.heap.size W1 w') := by
            have h := remove_told name W1 HS2.out.tab HS2.out.below.size
            rw [show remB (nmsD (M.map ddD)) (impD (M.map ddD)) name = remB (dnm M) (dim M) name by rw [nms_dd, imp_dd]] at h
            exact h
          have HRF := Lib.hid (lrefs_any _ M name W1 HS2.out.deeds (by have := HMN.out; omega) HS2.out.few)
          have HST : Hid (remB (dnm M) (dim M) name = false → ∀ w', TabD w.heap.size w.heap.size w' tb room (remL (nmsD (M.map ddD)) (impD (M.map ddD)) name (M.map ddD)) → Off w.heap.size W1 w' → Sp w w' tb room (.slice ma mn mc) M) := fun hr w' ht ho => HS2.out.turn ho ht (by rw [nms_dd, imp_dd, remL_no hr])
          by_cases hin : name ∈ dnm M
          · obtain ⟨k2, hk2, hx2, hkl2⟩ := posV_some hin
            have hpk : pz = (k2 : Int) := HPZ.out.symm.trans hk2
            have hkm : k2 < mn := by rw [List.length_map, HMN.out] at hkl2; exact hkl2
            by_cases hrf : refsT (dim M) name = 0
            · as_aux_lemma =>
              have hrb := remB_yes hin hrf
              rw [hrb] at HRV
              rw [hrf] at HRF
              have g1 : (0 : Int) ≤ pz := by omega
              have g2 : decide ((0 : Int) ≤ pz) = true := by simp; omega
              have HRB := Lib.hid hrb
              have HK2 := Lib.hid hk2
              have HPK := Lib.hid hpk
              clear hin hk2 hx2 hkl2 hrf hrb hpk HST f0 f3
              go_wp2_with fail
              refine HRF.out.mono ?_
              rintro e W3 ⟨rfl, rfl⟩
              go_wp2_with fail
              refine HRV.out.mono ?_
              rintro e W3 ⟨rfl, ht3, ho3⟩
              have HT3 := Lib.hid ht3
              have HO3 := Lib.hid ho3
              have hrow := HS2.out.row.past' ho3 (by decide) (by decide)
              have hels := hrow.els ddRow_len
              obtain ⟨mb, hma⟩ : ∃ mb, ma = some ⟨mb, 0, none⟩ := by
                obtain ⟨b, cap, e, _⟩ := hrow.cell (by rw [HMN.out]; omega)
                cases e
                exact ⟨b, rfl⟩
              subst hma
              obtain ⟨ad, had, htl⟩ := hels.tail (k2 + 1) (by omega) (by omega)
              have hone : ∀ x ∈ M, Ones (ddRow x) := fun x hx => ones_dd (HS2.out.imps x hx).one
              obtain ⟨v1, w1', v2, w2', r1, r2, hb1, hr2, hb2⟩ := del_run W3 _ _ _ _ (hels.part k2 (by omega)) htl (fun x hx => hone x (List.mem_of_mem_take hx)) (fun x hx => hone x (List.mem_of_mem_drop hx)) (by rw [List.length_take, List.length_drop, HMN.out]; omega)
              have R1 := Lib.hid r1
              have R2 := Lib.hid r2
              have B1 := Lib.hid hb1
              have B2 := Lib.hid hb2
              have RES : Hid (Sp w w2' tb room v2 (M.take k2 ++ M.drop (k2 + 1))) := HS2.out.less HRB.out HK2.out HO3.out HT3.out hb2 hr2
              have j1 : pz.toNat = k2 := by have := HPK.out; omega
              have j2 : IntKind.i64.wrap (pz + 1) = pz + 1 := IntWalk.i64_in _ (by have := HPK.out; omega)
              have j3 : (pz + 1).toNat = k2 + 1 := by have := HPK.out; omega
              have j4 : pz ≤ (mn : Int) := by have := HPK.out; omega
              have j5 : (0 : Int) ≤ pz + 1 := by omega
              have j6 : pz + 1 ≤ (mn : Int) := by have := HPK.out; omega
              have j7 : k2 ≤ mc := by omega
              have j9 : pz ≤ (mc : Int) := by omega
              have j8 : k2 + 1 ≤ mc := by omega
              rw [Nat.zero_add] at had
              clear ht3 ho3 hrow hels htl hone r1 r2 hb1 hb2 hr2 HRF HRV HRB HK2 HPK HO3 HT3
              go_wp2_with fail
              refine wp_region_held_drew (S := fun w' => Below W3.heap.size W3 w') (by kernel_rfl) ?_ (fun hHeld => ?_)
              · exact (Drawn.of_n W3 1).below _
              refine wpAnyH_take (i := 1) (v := ?_) rfl (by kernel_rfl) (by kernel_rfl) (by kernel_rfl) (fun _ _ _ h => h) (Or.inl ⟨by rfl, ?_⟩) (by assumption) ?_
              rotate_left
              · intro w hSw
                (try dsimp only at hSw)
                go_simp
                (try with_reducible rfl)
              try simp only [Act.put, List.getElem_toArray, List.getElem_cons_zero, List.getElem_cons_succ, List.setIfInBounds_toArray, List.set_cons_zero, List.set_cons_succ]
              refine wpAnyH_take (i := 2) (v := ?_) rfl (by kernel_rfl) (by kernel_rfl) (by kernel_rfl) (fun _ _ _ h => h) (Or.inl ⟨by rfl, ?_⟩) (by assumption) ?_
              rotate_left
              · intro w hSw
                (try dsimp only at hSw)
                go_simp
                (try with_reducible rfl)
              try simp only [Act.put, List.getElem_toArray, List.getElem_cons_zero, List.getElem_cons_succ, List.setIfInBounds_toArray, List.set_cons_zero, List.set_cons_succ]
              refine wpAnyH_take (i := 3) (v := ?_) rfl (by kernel_rfl) (by kernel_rfl) (by kernel_rfl) (fun _ _ _ h => h) (Or.inl ⟨by rfl, ?_⟩) (by assumption) ?_
              rotate_left
              · intro w hSw
                (try dsimp only at hSw)
                go_simp
                (try with_reducible rfl)
              try simp only [Act.put, List.getElem_toArray, List.getElem_cons_zero, List.getElem_cons_succ, List.setIfInBounds_toArray, List.set_cons_zero, List.set_cons_succ]
              refine wpAnyH_take (i := 5) (v := ?_) rfl (by kernel_rfl) (by kernel_rfl) (by kernel_rfl) (fun _ _ _ h => h) (Or.inl ⟨by rfl, ?_⟩) (by assumption) ?_
              rotate_left
              · intro w hSw
                (try dsimp only at hSw)
                go_simp
                (try with_reducible rfl)
              try simp only [Act.put, List.getElem_toArray, List.getElem_cons_zero, List.getElem_cons_succ, List.setIfInBounds_toArray, List.set_cons_zero, List.set_cons_succ]
              refine wpAnyH_take (i := 6) (v := ?_) rfl (by kernel_rfl) (by kernel_rfl) (by kernel_rfl) (fun _ _ _ h => h) (Or.inl ⟨by rfl, ?_⟩) (by assumption) ?_
              rotate_left
              · intro w hSw
                (try dsimp only at hSw)
                go_simp
                (try with_reducible rfl)
              try simp only [Act.put, List.getElem_toArray, List.getElem_cons_zero, List.getElem_cons_succ, List.setIfInBounds_toArray, List.set_cons_zero, List.set_cons_succ]
              refine wpAnyH_take (i := 7) (v := ?_) rfl (by kernel_rfl) (by kernel_rfl) (by kernel_rfl) (fun _ _ _ h => h) (Or.inl ⟨by rfl, ?_⟩) (by assumption) ?_
              rotate_left
              · intro w hSw
                (try dsimp only at hSw)
                go_simp
                (try with_reducible rfl)
              try simp only [Act.put, List.getElem_toArray, List.getElem_cons_zero, List.getElem_cons_succ, List.setIfInBounds_toArray, List.set_cons_zero, List.set_cons_succ]
              refine wpAnyH_take (i := 8) (v := ?_) rfl (by kernel_rfl) (by kernel_rfl) (by kernel_rfl) (fun _ _ _ h => h) (Or.inl ⟨by rfl, ?_⟩) (by assumption) ?_
              rotate_left
              · intro w hSw
                (try dsimp only at hSw)
                go_simp
                (try with_reducible rfl)
              try simp only [Act.put, List.getElem_toArray, List.getElem_cons_zero, List.getElem_cons_succ, List.setIfInBounds_toArray, List.set_cons_zero, List.set_cons_succ]
              refine wpAnyH_ready (rs := [0]) (by kernel_rfl) (by simp) ?_
              refine AllReadyH.cons rfl (fun K hK => ?_) AllReadyH.nil
              go_simp
              refine hK.out _ _ ?_ (fun hHeld1 => ?_)
              · exact below_on hHeld ((Below.refl _ _).alloc (Nat.le_refl _) _) hHeld.size
              clear hK K
              try simp only [Act.put, List.getElem_toArray, List.getElem_cons_zero, List.setIfInBounds_toArray, List.set_cons_zero, List.set_cons_succ]
              refine wpAnyH_ready (rs := [4]) (by kernel_rfl) (by simp) ?_
              refine AllReadyH.cons rfl (fun K hK => ?_) AllReadyH.nil
              refine step_append rfl (.tmp 92) (.tmp 95) DdS DdS rfl _ _ (by simp [Act.eval]) (by simp [Act.eval]) R1.out ?_
              refine hK.out _ _ ?_ (fun hHeld2 => ?_)
              · exact B1.out
              clear hK K
              try simp only [Act.put, List.getElem_toArray, List.getElem_cons_zero, List.getElem_cons_succ, List.setIfInBounds_toArray, List.set_cons_zero, List.set_cons_succ]
              refine wpAnyH_ready (rs := [9]) (by kernel_rfl) (by simp) ?_
              refine AllReadyH.cons rfl (fun K hK => ?_) AllReadyH.nil
              refine step_append rfl (.tmp 96) (.tmp 100) DdS DdS rfl _ _ (by simp [Act.eval]) (by simp [Act.eval]) R2.out ?_
              refine hK.out _ _ ?_ (fun hHeld3 => ?_)
              · exact B2.out
              clear hK K
              try simp only [Act.put, List.getElem_toArray, List.getElem_cons_zero, List.getElem_cons_succ, List.setIfInBounds_toArray, List.set_cons_zero, List.set_cons_succ]
              refine wpAnyH_take (i := 10) (v := ?_) rfl (by kernel_rfl) (by kernel_rfl) (by kernel_rfl) (fun _ _ _ h => h) (Or.inl ⟨by rfl, ?_⟩) (by assumption) ?_
              rotate_left
              · intro w hSw
                (try dsimp only at hSw)
                go_simp
                (try with_reducible rfl)
              try simp only [Act.put, List.getElem_toArray, List.getElem_cons_zero, List.getElem_cons_succ, List.setIfInBounds_toArray, List.set_cons_zero, List.set_cons_succ]
              refine wpAnyH_done (by kernel_rfl) ?_ _
              clear hHeld hHeld1 hHeld2 hHeld3
              go_wp2_with fail
              go_meet
              exact ⟨_, RES⟩
            · as_aux_lemma =>
              have hrb := remB_held (N := dnm M) hrf
              rw [hrb] at HRV
              have HS3 := Lib.hid (HST.out hrb)
              have g1 : (0 : Int) ≤ pz := by omega
              have g2 : decide ((0 : Int) ≤ pz) = true := by simp; omega
              generalize refsT (dim M) name = rr at *
              have g3 : ((rr : Int) == 0) = false := by simp; omega
              have g4 : ¬ (rr : Int) = 0 := by omega
              clear hin hk2 hx2 hkl2 hrf hrb hpk HST f0 f3
              go_wp2_with fail
              refine HRF.out.mono ?_
              rintro e W3 ⟨rfl, rfl⟩
              go_wp2_with fail
              refine HRV.out.mono ?_
              rintro e W3 ⟨rfl, ht3, ho3⟩
              have RES := Lib.hid (HS3.out W3 ht3 ho3)
              clear ht3 ho3
              go_wp2_with fail
              go_meet
              exact ⟨_, RES⟩
          · as_aux_lemma =>
            have hrb := remB_no (I := dim M) hin
            rw [hrb] at HRV
            have HS3 := Lib.hid (HST.out hrb)
            have hpk : pz = -1 := HPZ.out.symm.trans (posV_none hin)
            have g1 : ¬ (0 : Int) ≤ pz := by omega
            have g2 : decide ((0 : Int) ≤ pz) = false := by simp; omega
            clear hin hrb hpk HST HRF f0 f3
            go_wp2_with fail
            refine HRV.out.mono ?_
            rintro e W3 ⟨rfl, ht3, ho3⟩
            have RES := Lib.hid (HS3.out W3 ht3 ho3)
            clear ht3 ho3
            go_wp2_with fail
            go_meet
            exact ⟨_, RES⟩
        | false =>
          have HIV1 := Lib.hid (HIV.out.on HS2.out.below)
          have HAI := Lib.hid (fun t => at18_any (.slice ma mn mc) M t W1 HS2.out.deeds.els (by have := HMN.out; omega))
          go_wp2_with fail
          go_loopw [15, 16] (fun b j w' => ∃ j' : Nat, j' ≤ q ∧ j = .int .i64 j' ∧ b = .int .i64 (lackC (dnm M) (imps.take j') : Nat) ∧ W1 = w') (fun _ j _ => q - (intOf j).toNat)
          case atStart => exact ⟨0, Nat.zero_le _, rfl, (by rw [List.take_zero, lackC_nil]; rfl), rfl⟩
          case round =>
            obtain ⟨j, hj, rfl, rfl, rfl⟩ := hrel
            by_cases hjl : j < q
            · as_aux_lemma =>
              obtain ⟨u, hu⟩ : ∃ u, imps[j]? = some u := ⟨_, List.getElem?_eq_getElem (by rw [HQ.out]; exact hjl)⟩
              obtain ⟨yb, yo, ycap, hyv, _, hcu⟩ := HIV1.out.cell1 hu (c0 := .string u) rfl
              rw [HQ.out] at hyv
              cases hyv
              have HAU := Lib.hid (HAI.out u)
              have g3 : (j : Int) < (q : Int) := by omega
              have g4 : (0 : Int) ≤ (j : Int) := by omega
              by_cases hin : u ∈ dnm M
              · as_aux_lemma =>
                obtain ⟨k2, hk2, _⟩ := posV_some hin
                rw [hk2] at HAU
                have HLK := Lib.hid (lackC_yes hu hin)
                have g5 : ¬ (k2 : Int) < 0 := by omega
                have g6 : decide ((k2 : Int) < 0) = false := by simp
                generalize lackC (dnm M) (imps.take j) = lk at *
                clear hu hin hk2 HAI f0 f1 f3
                go_wp2_with fail
                refine HAU.out.mono ?_
                rintro e W3 ⟨rfl, rfl⟩
                go_wp2_with fail
                go_roundw
                case rel => exact ⟨j + 1, by omega, by go_num, by rw [HLK.out], by trivial⟩
                case measure => simp [intOf]; omega
              · as_aux_lemma =>
                rw [posV_none hin] at HAU
                have HLK := Lib.hid (lackC_no hu hin)
                generalize lackC (dnm M) (imps.take j) = lk at *
                clear hu hin HAI f0 f1 f3
                go_wp2_with fail
                refine HAU.out.mono ?_
                rintro e W3 ⟨rfl, rfl⟩
                go_wp2_with fail
                go_roundw
                case rel => exact ⟨j + 1, by omega, by go_num, by rw [HLK.out]; rfl, by trivial⟩
                case measure => simp [intOf]; omega
            · as_aux_lemma =>
              obtain rfl : j = q := by omega
              have HLK : Hid (lackC (dnm M) (imps.take j) = lackC (dnm M) imps) := lackC_all (by rw [HQ.out]; exact Nat.le_refl _)
              generalize lackC (dnm M) (imps.take j) = lk at *
              clear HAI
              go_upto_if 118 with fail
              go_cut [15] (fun b wx => ∃ b1 : Nat, b = .int .i64 b1 ∧ Hid (∀ r, ¬ r ≤ mn → addC r (dnm M) name imps = b1) ∧ W1 = wx)
              case first =>
                as_aux_lemma =>
                have HNL : Hid ((dnm M).length = mn) := by show (dnm M).length = mn; rw [List.length_map]; exact HMN.out
                by_cases hin : name ∈ dnm M
                · as_aux_lemma =>
                  obtain ⟨k2, hk2, _⟩ := posV_some hin
                  have hpk : pz = (k2 : Int) := HPZ.out.symm.trans hk2
                  have g1 : (0 : Int) ≤ pz := by omega
                  have g2 : decide ((0 : Int) ≤ pz) = true := by simp; omega
                  have HA1 : Hid (∀ r, ¬ r ≤ mn → addC r (dnm M) name imps = 1) := fun r hr => addC_there (by rw [HNL.out]; exact hr) hin
                  clear hin hk2 hpk
                  go_wp2_with fail
                  go_meet
                  exact ⟨1, rfl, HA1, rfl⟩
                · as_aux_lemma =>
                  have hpk : pz = -1 := HPZ.out.symm.trans (posV_none hin)
                  have g1 : ¬ (0 : Int) ≤ pz := by omega
                  have g2 : decide ((0 : Int) ≤ pz) = false := by simp; omega
                  have HA1 : Hid (∀ r, ¬ r ≤ mn → addC r (dnm M) name imps = lk) := fun r hr => by rw [addC_last (by rw [HNL.out]; exact hr) hin]; exact HLK.out.symm
                  clear hin hpk
                  go_wp2_with fail
                  go_meet
                  exact ⟨lk, rfl, HA1, rfl⟩
              case rest =>
              obtain ⟨b1, rfl, HA1, rfl⟩ := hcut
              go_upto_if 122 with fail
              go_cut [15] (fun b wx => ∃ bz : Int, b = .int .i64 bz ∧ Hid (bz = (addC room (dnm M) name imps : Nat)) ∧ W1 = wx)
              case first =>
                as_aux_lemma =>
                by_cases hrm : room ≤ mn
                · as_aux_lemma =>
                  have HA2 : Hid ((8 : Int) = (addC room (dnm M) name imps : Nat)) := by show (8 : Int) = _; rw [addC_full (by rw [List.length_map, HMN.out]; exact hrm)]; rfl
                  have g1 : (room : Int) ≤ (mn : Int) := by omega
                  have g2 : decide ((room : Int) ≤ (mn : Int)) = true := by simp; omega
                  go_wp2_with fail
                  go_meet
                  exact ⟨8, rfl, HA2, rfl⟩
                · as_aux_lemma =>
                  have HA2 : Hid ((b1 : Int) = (addC room (dnm M) name imps : Nat)) := by show (b1 : Int) = _; rw [HA1.out room hrm]
                  have g1 : ¬ (room : Int) ≤ (mn : Int) := by omega
                  have g2 : decide ((room : Int) ≤ (mn : Int)) = false := by simp; omega
                  go_wp2_with fail
                  go_meet
                  exact ⟨b1, rfl, HA2, rfl⟩
              case rest =>
              obtain ⟨bz, rfl, HBZ, rfl⟩ := hcut
              clear HA1 HLK
              obtain ⟨ev, hev⟩ : ∃ ev, ev = errV (addC room (dnm M) name imps) := ⟨_, rfl⟩
              have HADD : Hid (Calls Try.prog 10 #[.pointer (some ⟨tb, 0, none⟩), .agg #[.string name, .int .u32 0, .int .i64 base, .int .i64 0, .int .i64 0, .int .i64 0, .int .i64 0, .int .i64 0, .slice none 0 0, .slice none 0 0, .slice ia j ic, .slice none 0 0, .slice none 0 0]] W1 fun e w' => e = .returned ev ∧ TabD w.heap.size w.heap.size w' tb room (addD room (M.map ddD) (ddD ⟨false, name, .slice ia j ic, base, imps⟩)) ∧ Off w.heap.size W1 w') := by
                have h := add_bare name base (.slice ia j ic) imps W1 HS2.out.tab HIV1.out HQI.out HS2.out.below.size HS2.out.below.size
                rw [nms_dd, ← hev] at h
                exact h
              have HCD : Hid (∀ W, Calls Try.prog 11 #[ev] W fun e w' => e = .returned (.int .i64 bz) ∧ W = w') := fun W => by
                have h := code_any (addC room (dnm M) name imps) W (addC_le _ _ _ _)
                rw [← hev, ← HBZ.out] at h
                exact h
              clear hev
              go_wp2_with fail
              refine HADD.out.mono ?_
              rintro e W4 ⟨rfl, ht4, ho4⟩
              have HT4 := Lib.hid ht4
              have HO4 := Lib.hid ho4
              clear ht4 ho4 HADD f0 f1 f2 f3
              go_wp2_with fail
              refine (HCD.out W4).mono ?_
              rintro e W4' ⟨rfl, rfl⟩
              clear HCD
              by_cases hbz : bz = 0
              rotate_left
              · as_aux_lemma =>
                have RES : Hid (Sp w W4 tb room (.slice ma mn mc) M) := HS2.out.turn HO4.out HT4.out (dd_same (x := ⟨false, name, .slice ia j ic, base, imps⟩) (fun e => hbz (by have := HBZ.out; rw [show addC room (dnm M) name imps = 0 from e] at this; exact this)))
                have g1 : (bz == 0) = false := by simpa using hbz
                go_wp2_with fail
                go_meet
                exact ⟨_, RES⟩
              as_aux_lemma =>
              have HA0 : Hid (addC room (dnm M) name imps = 0) := by have := HBZ.out; show addC room (dnm M) name imps = 0; omega
              have g1 : (bz == 0) = true := by simpa using hbz
              have HRX : Hid (RowAt W4 xb DdT [.bool false, .string name, .slice ia j ic, .int .i64 base]) := HO4.out.rows _ _ _ (by decide) (by decide) HR.out
              have HSR : Hid (ElsAt 4 ddRow W4 (.slice ma mn mc) M) := (HS2.out.row.past' HO4.out (by decide) (by decide)).els ddRow_len
              have HON : Hid (∀ x ∈ M, Ones (ddRow x)) := fun x hx => ones_dd (HS2.out.imps x hx).one
              have HO1 : Hid (Ones (ddRow ⟨false, name, .slice ia j ic, base, imps⟩)) := ones_dd rfl
              have HXB : Hid (xb < W4.heap.size) := HRX.out.lt
              have HMR : Hid (∀ (v5 : Value) (w5 : World), Below W4.heap.size W4 w5 → SRow DdT 4 w5 v5 (M ++ [(⟨false, name, .slice ia j ic, base, imps⟩ : DdX)]).length (rows ddRow (M ++ [(⟨false, name, .slice ia j ic, base, imps⟩ : DdX)])) → Sp w w5 tb room v5 (M ++ [(⟨false, name, .slice ia j ic, base, imps⟩ : DdX)])) := fun v5 w5 hb hs => HS2.out.more HA0.out HO4.out HT4.out hb hs HIV.out HQI.out
              clear HBZ HR
              go_wp2_with fail
              clear g1 hbz
              refine wp_region_held_drew (S := fun w' => RowAt w' xb DdT [.bool false, .string name, .slice ia j ic, .int .i64 base] ∧ Below W4.heap.size W4 w') (by kernel_rfl) ?_ (fun hHeld => ?_)
              · exact ⟨HRX.out.drew, (Drawn.of_n W4 1).below _⟩
              refine wpAnyH_take (i := 1) (v := ?_) rfl (by kernel_rfl) (by kernel_rfl) (by kernel_rfl) (fun _ _ _ h => h) (Or.inl ⟨by rfl, ?_⟩) (by assumption) ?_
              rotate_left
              · intro w hSw
                (try dsimp only at hSw)
                go_simp
                (try with_reducible rfl)
              try simp only [Act.put, List.getElem_toArray, List.getElem_cons_zero, List.getElem_cons_succ, List.setIfInBounds_toArray, List.set_cons_zero, List.set_cons_succ]
              refine wpAnyH_take (i := 3) (v := _) rfl (by kernel_rfl) (by kernel_rfl) (by kernel_rfl) (fun _ _ _ h => h) (yieldsIf_load_mid (by rfl) _ _ rfl _ _ rfl _ _ (fun w hSw => (show w.rangeAt xb 0 [.bool false, .string name, .slice ia j ic, .int .i64 base] from hSw.1.rangeC)) (Try.underlying28) rfl (by rw [size_dd]; rfl)) (by assumption) ?_
              try simp only [Act.put, List.getElem_toArray, List.getElem_cons_zero, List.getElem_cons_succ, List.setIfInBounds_toArray, List.set_cons_zero, List.set_cons_succ]
              refine wpAnyH_ready (rs := [0, 4]) (by kernel_rfl) (by simp) ?_
              refine AllReadyH.cons rfl (fun K hK => ?_) (AllReadyH.cons rfl (fun K hK => ?_) (AllReadyH.nil))
              focus
                go_simp
                refine hK.out _ _ ?_ (fun hHeld1 => ?_)
                · exact ⟨hHeld.1.keep (Kept.of_below (S := fun _ => False) ((Below.refl _ _).alloc (Nat.le_refl _) _)) (fun e => e), below_on hHeld.2 ((Below.refl _ _).alloc (Nat.le_refl _) _) hHeld.2.size⟩
                clear hK K
                try simp only [Act.put, List.getElem_toArray, List.getElem_cons_zero, List.setIfInBounds_toArray, List.set_cons_zero, List.set_cons_succ]
                refine wpAnyH_ready (rs := [2, 4]) (by kernel_rfl) (by simp) ?_
                refine AllReadyH.cons rfl (fun K hK => ?_) (AllReadyH.cons rfl (fun K hK => ?_) (AllReadyH.nil))
                focus
                  have he0 : SRow DdT 4 (W4.drew.alloc (.cells #[] DdT)) (.slice (some ⟨W4.heap.size, 0, none⟩) 0 0) ([] : List DdX).length (rows ddRow ([] : List DdX)) := SRow.empty DdT 4 ddRow W4.drew
                  obtain ⟨v2, w2', hr2, hs2, hg2, hn2⟩ := append_all (T := DdS) Try.underlying22 info_dd rfl (by decide) ddRow_len (by decide) he0 (HSR.out.on hHeld1.2) HON.out (by simp) (by simp; have := HMN.out; omega)
                  have hf2 : ∀ j, own v2 j → W4.heap.size ≤ j := fun j hj => (hg2.2 j hj).elim (fun e => Nat.le_of_eq (show W4.heap.size = j from (show j = W4.heap.size from e).symm)) (fun e => Nat.le_trans hHeld1.2.size e)
                  rw [List.nil_append] at hs2
                  refine step_append rfl (.tmp 138) (.tmp 139) DdS DdS rfl _ _ (by simp [Act.eval]) (by simp [Act.eval]) hr2 ?_
                  refine hK.out _ _ ?_ (fun hHeld2 => ?_)
                  · exact ⟨hHeld1.1.keep hg2.1 (fun e => by have e : xb = W4.heap.size := e; have := HXB.out; omega), hg2.1.below hHeld1.2 hHeld1.2.size fun j _ hj => by have e : j = W4.heap.size := hj; omega⟩
                  clear hK K
                  try simp only [Act.put, List.getElem_toArray, List.getElem_cons_zero, List.getElem_cons_succ, List.setIfInBounds_toArray, List.set_cons_zero, List.set_cons_succ]
                  refine wpAnyH_ready (rs := [4]) (by kernel_rfl) (by simp) ?_
                  refine AllReadyH.cons rfl (fun K hK => ?_) AllReadyH.nil
                  go_simp
                  refine hK.out _ _ ?_ (fun hHeld3 => ?_)
                  · exact ⟨hHeld2.1.keep (Kept.of_below (S := fun _ => False) ((Below.refl _ _).alloc (Nat.le_refl _) _)) (fun e => e), below_on hHeld2.2 ((Below.refl _ _).alloc (Nat.le_refl _) _) hHeld2.2.size⟩
                  clear hK K
                  try simp only [Act.put, List.getElem_toArray, List.getElem_cons_zero, List.getElem_cons_succ, List.setIfInBounds_toArray, List.set_cons_zero, List.set_cons_succ]
                  refine wpAnyH_ready (rs := [5]) (by kernel_rfl) (by simp) ?_
                  refine AllReadyH.cons rfl (fun K hK => ?_) AllReadyH.nil
                  have hel := one_dd w2' ⟨false, name, .slice ia j ic, base, imps⟩ w2'.heap.size rfl HO1.out
                  obtain ⟨v5, w5, hr5, hs5, hg5, _⟩ := append_all (T := DdS) Try.underlying22 info_dd rfl (by decide) ddRow_len (by decide) (hs2.keep ((Kept.refl (fun _ => False) w2').alloc (.cells #[.bool false, .string name, .slice ia j ic, .int .i64 base] DdT)) (fun _ _ e => e)) (hel.els ddRow_len) (fun x hx => by rw [List.mem_singleton.1 hx]; exact HO1.out) hn2 (by simp; have := HMN.out; omega)
                  refine step_append rfl (.tmp 140) (.tmp 142) DdS DdS rfl _ _ (by simp [Act.eval]) (by simp [Act.eval]) hr5 ?_
                  refine hK.out _ _ ?_ (fun hHeld4 => ?_)
                  · exact ⟨hHeld3.1.keep hg5.1 (fun e => by have := hf2 xb e; have := HXB.out; omega), hg5.1.below hHeld3.2 hHeld3.2.size (fun j _ hj => hf2 j hj)⟩
                  clear hK K
                  try simp only [Act.put, List.getElem_toArray, List.getElem_cons_zero, List.getElem_cons_succ, List.setIfInBounds_toArray, List.set_cons_zero, List.set_cons_succ]
                  refine wpAnyH_take (i := 6) (v := ?_) rfl (by kernel_rfl) (by kernel_rfl) (by kernel_rfl) (fun _ _ _ h => h) (Or.inl ⟨by rfl, ?_⟩) (by assumption) ?_
                  rotate_left
                  · intro w hSw
                    (try dsimp only at hSw)
                    go_simp
                    (try with_reducible rfl)
                  try simp only [Act.put, List.getElem_toArray, List.getElem_cons_zero, List.getElem_cons_succ, List.setIfInBounds_toArray, List.set_cons_zero, List.set_cons_succ]
                  refine wpAnyH_done (by kernel_rfl) ?_ _
                rotate_left 1
                focus
                  go_simp
                  refine hK.out _ _ ?_ (fun hHeld2 => ?_)
                  · exact ⟨hHeld1.1.keep (Kept.of_below (S := fun _ => False) ((Below.refl _ _).alloc (Nat.le_refl _) _)) (fun e => e), below_on hHeld1.2 ((Below.refl _ _).alloc (Nat.le_refl _) _) hHeld1.2.size⟩
                  clear hK K
                  try simp only [Act.put, List.getElem_toArray, List.getElem_cons_zero, List.getElem_cons_succ, List.setIfInBounds_toArray, List.set_cons_zero, List.set_cons_succ]
                  refine wpAnyH_ready (rs := [2]) (by kernel_rfl) (by simp) ?_
                  refine AllReadyH.cons rfl (fun K hK => ?_) AllReadyH.nil
                  have he0 : SRow DdT 4 (W4.drew.alloc (.cells #[] DdT)) (.slice (some ⟨W4.heap.size, 0, none⟩) 0 0) ([] : List DdX).length (rows ddRow ([] : List DdX)) := SRow.empty DdT 4 ddRow W4.drew
                  obtain ⟨v2, w2', hr2, hs2, hg2, hn2⟩ := append_all (T := DdS) Try.underlying22 info_dd rfl (by decide) ddRow_len (by decide) (he0.keep ((Kept.refl (fun _ => False) _).alloc (.cells #[.bool false, .string name, .slice ia j ic, .int .i64 base] DdT)) (fun _ _ e => e)) (HSR.out.on hHeld2.2) HON.out (by simp) (by simp; have := HMN.out; omega)
                  have hf2 : ∀ j, own v2 j → W4.heap.size ≤ j := fun j hj => (hg2.2 j hj).elim (fun e => Nat.le_of_eq (show W4.heap.size = j from (show j = W4.heap.size from e).symm)) (fun e => Nat.le_trans hHeld2.2.size e)
                  rw [List.nil_append] at hs2
                  refine step_append rfl (.tmp 138) (.tmp 139) DdS DdS rfl _ _ (by simp [Act.eval]) (by simp [Act.eval]) hr2 ?_
                  refine hK.out _ _ ?_ (fun hHeld3 => ?_)
                  · exact ⟨hHeld2.1.keep hg2.1 (fun e => by have e : xb = W4.heap.size := e; have := HXB.out; omega), hg2.1.below hHeld2.2 hHeld2.2.size fun j _ hj => by have e : j = W4.heap.size := hj; omega⟩
                  clear hK K
                  try simp only [Act.put, List.getElem_toArray, List.getElem_cons_zero, List.getElem_cons_succ, List.setIfInBounds_toArray, List.set_cons_zero, List.set_cons_succ]
                  refine wpAnyH_ready (rs := [5]) (by kernel_rfl) (by simp) ?_
                  refine AllReadyH.cons rfl (fun K hK => ?_) AllReadyH.nil
                  have hel := (one_dd (W4.drew.alloc (.cells #[] DdT)) ⟨false, name, .slice ia j ic, base, imps⟩ (W4.heap.size + 1) (by simp) HO1.out).keep hg2.1 (fun j hj e => by have e1 : j = W4.heap.size + 1 := hj; have e2 : j = W4.heap.size := e; omega)
                  obtain ⟨v5, w5, hr5, hs5, hg5, _⟩ := append_all (T := DdS) Try.underlying22 info_dd rfl (by decide) ddRow_len (by decide) hs2 (hel.els ddRow_len) (fun x hx => by rw [List.mem_singleton.1 hx]; exact HO1.out) hn2 (by simp; have := HMN.out; omega)
                  refine step_append rfl (.tmp 140) (.tmp 142) DdS DdS rfl _ _ (by simp [Act.eval]) (by simp [Act.eval]) hr5 ?_
                  refine hK.out _ _ ?_ (fun hHeld4 => ?_)
                  · exact ⟨hHeld3.1.keep hg5.1 (fun e => by have := hf2 xb e; have := HXB.out; omega), hg5.1.below hHeld3.2 hHeld3.2.size (fun j _ hj => hf2 j hj)⟩
                  clear hK K
                  try simp only [Act.put, List.getElem_toArray, List.getElem_cons_zero, List.getElem_cons_succ, List.setIfInBounds_toArray, List.set_cons_zero, List.set_cons_succ]
                  refine wpAnyH_take (i := 6) (v := ?_) rfl (by kernel_rfl) (by kernel_rfl) (by kernel_rfl) (fun _ _ _ h => h) (Or.inl ⟨by rfl, ?_⟩) (by assumption) ?_
                  rotate_left
                  · intro w hSw
                    (try dsimp only at hSw)
                    go_simp
                    (try with_reducible rfl)
                  try simp only [Act.put, List.getElem_toArray, List.getElem_cons_zero, List.getElem_cons_succ, List.setIfInBounds_toArray, List.set_cons_zero, List.set_cons_succ]
                  refine wpAnyH_done (by kernel_rfl) ?_ _
                rotate_left 1
              rotate_left 2
              focus
                go_simp
                refine hK.out _ _ ?_ (fun hHeld1 => ?_)
                · exact ⟨hHeld.1.keep (Kept.of_below (S := fun _ => False) ((Below.refl _ _).alloc (Nat.le_refl _) _)) (fun e => e), below_on hHeld.2 ((Below.refl _ _).alloc (Nat.le_refl _) _) hHeld.2.size⟩
                clear hK K
                try simp only [Act.put, List.getElem_toArray, List.getElem_cons_zero, List.getElem_cons_succ, List.setIfInBounds_toArray, List.set_cons_zero, List.set_cons_succ]
                refine wpAnyH_ready (rs := [0]) (by kernel_rfl) (by simp) ?_
                refine AllReadyH.cons rfl (fun K hK => ?_) AllReadyH.nil
                go_simp
                refine hK.out _ _ ?_ (fun hHeld2 => ?_)
                · exact ⟨hHeld1.1.keep (Kept.of_below (S := fun _ => False) ((Below.refl _ _).alloc (Nat.le_refl _) _)) (fun e => e), below_on hHeld1.2 ((Below.refl _ _).alloc (Nat.le_refl _) _) hHeld1.2.size⟩
                clear hK K
                try simp only [Act.put, List.getElem_toArray, List.getElem_cons_zero, List.setIfInBounds_toArray, List.set_cons_zero, List.set_cons_succ]
                refine wpAnyH_ready (rs := [2]) (by kernel_rfl) (by simp) ?_
                refine AllReadyH.cons rfl (fun K hK => ?_) AllReadyH.nil
                have he0 := SRow.empty DdT 4 ddRow (W4.drew.alloc (.cells #[.bool false, .string name, .slice ia j ic, .int .i64 base] DdT))
                rw [show (W4.drew.alloc (.cells #[.bool false, .string name, .slice ia j ic, .int .i64 base] DdT)).heap.size = W4.heap.size + 1 by simp] at he0
                obtain ⟨v2, w2', hr2, hs2, hg2, hn2⟩ := append_all (T := DdS) Try.underlying22 info_dd rfl (by decide) ddRow_len (by decide) he0 (HSR.out.on hHeld2.2) HON.out (by simp) (by simp; have := HMN.out; omega)
                have hf2 : ∀ j, own v2 j → W4.heap.size ≤ j := fun j hj => (hg2.2 j hj).elim (fun e => by have e2 : j = W4.heap.size + 1 := e; omega) (fun e => Nat.le_trans hHeld2.2.size e)
                rw [List.nil_append] at hs2
                refine step_append rfl (.tmp 138) (.tmp 139) DdS DdS rfl _ _ (by simp [Act.eval]) (by simp [Act.eval]) hr2 ?_
                refine hK.out _ _ ?_ (fun hHeld3 => ?_)
                · exact ⟨hHeld2.1.keep hg2.1 (fun e => by have e : xb = W4.heap.size + 1 := e; have := HXB.out; omega), hg2.1.below hHeld2.2 hHeld2.2.size fun j _ hj => by have e : j = W4.heap.size + 1 := hj; omega⟩
                clear hK K
                try simp only [Act.put, List.getElem_toArray, List.getElem_cons_zero, List.getElem_cons_succ, List.setIfInBounds_toArray, List.set_cons_zero, List.set_cons_succ]
                refine wpAnyH_ready (rs := [5]) (by kernel_rfl) (by simp) ?_
                refine AllReadyH.cons rfl (fun K hK => ?_) AllReadyH.nil
                have hel0 : SRow DdT 4 (W4.drew.alloc (.cells #[.bool false, .string name, .slice ia j ic, .int .i64 base] DdT)) (.slice (some ⟨W4.heap.size, 0, none⟩) 1 1) [(⟨false, name, .slice ia j ic, base, imps⟩ : DdX)].length (rows ddRow [(⟨false, name, .slice ia j ic, base, imps⟩ : DdX)]) := one_dd W4.drew ⟨false, name, .slice ia j ic, base, imps⟩ W4.heap.size rfl HO1.out
                have hel := (hel0.keep ((Kept.refl (fun _ => False) (W4.drew.alloc (.cells #[.bool false, .string name, .slice ia j ic, .int .i64 base] DdT))).alloc (.cells #[] DdT)) (fun _ _ e => e)).keep hg2.1 (fun j hj e => by have e1 : j = W4.heap.size := hj; have e2 : j = W4.heap.size + 1 := e; omega)
                obtain ⟨v5, w5, hr5, hs5, hg5, _⟩ := append_all (T := DdS) Try.underlying22 info_dd rfl (by decide) ddRow_len (by decide) hs2 (hel.els ddRow_len) (fun x hx => by rw [List.mem_singleton.1 hx]; exact HO1.out) hn2 (by simp; have := HMN.out; omega)
                refine step_append rfl (.tmp 140) (.tmp 142) DdS DdS rfl _ _ (by simp [Act.eval]) (by simp [Act.eval]) hr5 ?_
                refine hK.out _ _ ?_ (fun hHeld4 => ?_)
                · exact ⟨hHeld3.1.keep hg5.1 (fun e => by have := hf2 xb e; have := HXB.out; omega), hg5.1.below hHeld3.2 hHeld3.2.size (fun j _ hj => hf2 j hj)⟩
                clear hK K
                try simp only [Act.put, List.getElem_toArray, List.getElem_cons_zero, List.getElem_cons_succ, List.setIfInBounds_toArray, List.set_cons_zero, List.set_cons_succ]
                refine wpAnyH_take (i := 6) (v := ?_) rfl (by kernel_rfl) (by kernel_rfl) (by kernel_rfl) (fun _ _ _ h => h) (Or.inl ⟨by rfl, ?_⟩) (by assumption) ?_
                rotate_left
                · intro w hSw
                  (try dsimp only at hSw)
                  go_simp
                  (try with_reducible rfl)
                try simp only [Act.put, List.getElem_toArray, List.getElem_cons_zero, List.getElem_cons_succ, List.setIfInBounds_toArray, List.set_cons_zero, List.set_cons_succ]
                refine wpAnyH_done (by kernel_rfl) ?_ _
              rotate_left 1
              all_goals
                have RES := Lib.hid (HMR.out v5 w5 hHeld4.2 hs5)
                clear hHeld hHeld1 hHeld2 hHeld3 hHeld4 hs5 hg5 hs2 hg2 hr5 hr2 hf2
                go_wp2_with fail
                go_meet
                exact ⟨_, RES⟩
      case rest =>
      obtain ⟨M2, HS3⟩ := hcut
      generalize wc = W5 at *
      clear HS2 HR f0 f1 f2 f3 HIV HQ HQI HPZ HMN hm16 hmr hmc1 hmc2 t1 t3 e4
      obtain ⟨oa, oc, hov, ho1, ho2⟩ := HS3.out.row.shape
      subst hov
      have z16 := HS3.out.len
      have zr := HS3.out.room
      have hnm := names_told W5 HS3.out.tab
      rw [List.length_map, nms_dd] at hnm
      have hzn : (dnm M2).length = M2.length := List.length_map ..
      have HLR : Hid (∀ W, Sp w W tb room (.slice oa M2.length oc) M2 → Calls Try.prog 8 #[.slice oa M2.length oc, .string s] W fun e w' => e = .returned (.int .i64 (refsT (dim M2) s : Nat)) ∧ W = w') := fun W h => lrefs_any _ M2 s W h.deeds (by have := h.len; omega) h.few
      have HRT : Hid (∀ W, Sp w W tb room (.slice oa M2.length oc) M2 → Calls Try.prog 14 #[.pointer (some ⟨tb, 0, none⟩), .string s] W fun e w' => e = .returned (.int .i64 (refsT (dim M2) s : Nat)) ∧ Below W.heap.size W w') := fun W h => by
        have h2 := refs_told s W h.tab
        rw [imp_dd] at h2
        exact h2
      have HRO : Hid (∀ W, Sp w W tb room (.slice oa M2.length oc) M2 → Calls Try.prog 13 #[.pointer (some ⟨tb, 0, none⟩)] W fun e w' => e = .returned (.int .i64 ((room : Int) - (M2.length : Int))) ∧ Below W.heap.size W w') := fun W h => by
        have h2 := room_told W h.tab
        rw [List.length_map] at h2
        exact h2
      generalize refsT (dim M2) s = rr at *
      generalize hz : M2.length = z at *
      have HZ := Lib.hid hz
      have HZN := Lib.hid hzn
      have HNM := Lib.hid hnm
      clear hz hzn hnm
      have g1 : IntKind.i64.wrap ((room : Int) - (z : Int)) = (room : Int) - (z : Int) := IntWalk.i64_in _ (by omega)
      go_wp2_with fail
      refine HNM.out.mono ?_
      rintro e W6 ⟨nb, rfl, hel, hb6⟩
      have HS6 := Lib.hid (HS3.out.on hb6)
      have HEL := Lib.hid hel
      clear hel hb6 HNM HS3
      go_wp2_with fail
      refine (HRO.out W6 HS6.out).mono ?_
      rintro e W7 ⟨rfl, hb7⟩
      have HS7 := Lib.hid (HS6.out.on hb7)
      have HEL7 := Lib.hid (HEL.out.on hb7)
      clear hb7 HEL HS6 HRO
      go_wp2_with fail
      refine (HRT.out W7 HS7.out).mono ?_
      rintro e W8 ⟨rfl, hb8⟩
      have HS8 := Lib.hid (HS7.out.on hb8)
      have HEL8 := Lib.hid (HEL7.out.on hb8)
      clear hb8 HEL7 HS7 HRT
      go_wp2_with fail
      refine (HLR.out W8 HS8.out).mono ?_
      rintro e W9 ⟨rfl, rfl⟩
      clear HLR
      go_wp2_with fail
      clear g1
      go_loopw [19, 20, 21] (fun j _ _ w' => ∃ j' : Nat, j' ≤ z ∧ j = .int .i64 j' ∧ Hid (Below W8.heap.size W8 w')) (fun j _ _ _ => z - (intOf j).toNat)
      case atStart => exact ⟨0, Nat.zero_le _, rfl, Below.refl _ _⟩
      case round =>
        obtain ⟨j, hj, rfl, HBJ⟩ := hrel
        have HS9 := Lib.hid (HS8.out.on HBJ.out)
        have HEL9 := Lib.hid (HEL8.out.on HBJ.out)
        generalize hwv : wr = WV at *
        clear hwv HS8 HEL8
        by_cases hjl : j < z
        · as_aux_lemma =>
          obtain ⟨d, hd⟩ : ∃ d, M2[j]? = some d := ⟨_, List.getElem?_eq_getElem (by rw [HZ.out]; exact hjl)⟩
          obtain ⟨mb, mo, mcap, hmv, _, hmc⟩ := HS9.out.deeds.els.cell hd
          rw [HZ.out] at hmv
          cases hmv
          have hnn : (dnm M2)[j]? = some d.name := by rw [List.getElem?_map, hd]; rfl
          obtain ⟨nb', no, ncap, hnv, _, hnc⟩ := HEL9.out.cell1 hnn (c0 := .string d.name) rfl
          rw [HZN.out] at hnv
          cases hnv
          rw [Nat.zero_add] at hnc
          have hdm := List.mem_of_getElem? hd
          obtain ⟨da, dc, hdv, _⟩ := (HS9.out.imps d hdm).shape
          have HF := Lib.hid (find_told_yes d.name j (ddD d) WV HS9.out.tab (by rw [nms_dd]; exact posV_nodup HS9.out.nodup hnn) (by rw [List.getElem?_map, hd]; rfl))
          obtain ⟨dgone, dname, div, dbase, dimps⟩ := d
          have hdv : div = .slice da dimps.length dc := hdv
          subst hdv
          have m1 : WV.cell? ⟨mb, mo + j * 4 + 1, none⟩ = some (.string dname) := hmc 1 (by omega)
          have m2 : WV.cell? ⟨mb, mo + j * 4 + 2, none⟩ = some (.slice da dimps.length dc) := hmc 2 (by omega)
          have m3 : WV.cell? ⟨mb, mo + j * 4 + 3, none⟩ = some (.int .i64 dbase) := hmc 3 (by omega)
          have m0 : WV.cell? ⟨nb, j, none⟩ = some (.string dname) := hnc
          have g3 : (j : Int) < (z : Int) := by omega
          have g4 : (0 : Int) ≤ (j : Int) := by omega
          clear hd hmc hnn hnc hdm
          go_wp2_with fail
          refine HF.out.mono ?_
          rintro e W10 ⟨y, rfl, hyd, hyin, hb10⟩
          obtain ⟨d', p, q2, iv, ev, cv, xs2⟩ := y
          have hyd : d' = ddD ⟨dgone, dname, .slice da dimps.length dc, dbase, dimps⟩ := hyd
          subst hyd
          obtain ⟨ya, yc, hyv, _⟩ := hyin.i.row.shape
          have hyv : iv = .slice ya dimps.length yc := hyv
          subst hyv
          have hbx : Below W10.heap.size W10 (W10.alloc (.cells (mrow ⟨ddD ⟨dgone, dname, .slice da dimps.length dc, dbase, dimps⟩, p, q2, .slice ya dimps.length yc, ev, cv, xs2⟩).toArray MdT)) := (Below.refl _ _).alloc (Nat.le_refl _) _
          have RUN := Lib.hid (box_md W10 ⟨ddD ⟨dgone, dname, .slice da dimps.length dc, dbase, dimps⟩, p, q2, .slice ya dimps.length yc, ev, cv, xs2⟩ hyin.at_.ones)
          have HR : Hid (RowAt (W10.alloc (.cells (mrow ⟨ddD ⟨dgone, dname, .slice da dimps.length dc, dbase, dimps⟩, p, q2, .slice ya dimps.length yc, ev, cv, xs2⟩).toArray MdT)) W10.heap.size MdT (mrow ⟨ddD ⟨dgone, dname, .slice da dimps.length dc, dbase, dimps⟩, p, q2, .slice ya dimps.length yc, ev, cv, xs2⟩)) := RowAt.new W10 MdT _
          have hbw := below_on hb10 hbx hb10.size
          have HBX := Lib.hid (below_on HBJ.out hbw HBJ.out.size)
          have n0 := (hbw.cell (cell_lt m0)).trans m0
          have n1 := (hbw.cell (cell_lt m1)).trans m1
          have n2 := (hbw.cell (cell_lt m2)).trans m2
          have n3 := (hbw.cell (cell_lt m3)).trans m3
          clear hyin hb10 hbx hbw HF m0 m1 m2 m3
          go_upto_region 46 with (refine wpList_store_run _ rfl _ _ _ rfl _ _ rfl rfl (by exact RUN.out) ?_)
          clear RUN
          generalize W10.alloc (.cells (mrow ⟨ddD ⟨dgone, dname, .slice da dimps.length dc, dbase, dimps⟩, p, q2, .slice ya dimps.length yc, ev, cv, xs2⟩).toArray MdT) = W11 at *
          generalize W10.heap.size = yb at *
          have y2 : W11.cell? ⟨yb, 2, none⟩ = some (.int .i64 dbase) := HR.out.cell 2
          have y10 : W11.cell? ⟨yb, 10, none⟩ = some (.slice ya dimps.length yc) := HR.out.cell 10
          generalize dimps.length = dl at *
          clear HR
          refine wp_region_held_drew (S := fun w' => (w'.cell? ⟨nb, j, none⟩ = some (.string dname) ∧ w'.cell? ⟨mb, mo + j * 4 + 1, none⟩ = some (.string dname) ∧ w'.cell? ⟨mb, mo + j * 4 + 2, none⟩ = some (.slice da dl dc) ∧ w'.cell? ⟨mb, mo + j * 4 + 3, none⟩ = some (.int .i64 dbase)) ∧ w'.cell? ⟨yb, 2, none⟩ = some (.int .i64 dbase) ∧ w'.cell? ⟨yb, 10, none⟩ = some (.slice ya dl yc)) (by kernel_rfl) ?_ (fun hHeld => ?_)
          · exact ⟨⟨n0, n1, n2, n3⟩, y2, y10⟩
          refine wpAnyH_take (i := 0) (v := ?_) rfl (by kernel_rfl) (by kernel_rfl) (by kernel_rfl) (fun _ _ _ h => h) (Or.inl ⟨by rfl, ?_⟩) (by assumption) ?_
          rotate_left
          · intro w hSw
            (try dsimp only at hSw)
            go_simp
            (try with_reducible rfl)
          try simp only [Act.put, List.getElem_toArray, List.getElem_cons_zero, List.setIfInBounds_toArray, List.set_cons_zero, List.set_cons_succ]
          refine wpAnyH_take (i := 1) (v := ?_) rfl (by kernel_rfl) (by kernel_rfl) (by kernel_rfl) (fun _ _ _ h => h) (Or.inl ⟨by rfl, ?_⟩) (by assumption) ?_
          rotate_left
          · intro w hSw
            (try dsimp only at hSw)
            go_simp
            (try with_reducible rfl)
          try simp only [Act.put, List.getElem_toArray, List.getElem_cons_zero, List.getElem_cons_succ, List.setIfInBounds_toArray, List.set_cons_zero, List.set_cons_succ]
          refine wpAnyH_take (i := 2) (v := ?_) rfl (by kernel_rfl) (by kernel_rfl) (by kernel_rfl) (fun _ _ _ h => h) (Or.inl ⟨by rfl, ?_⟩) (by assumption) ?_
          rotate_left
          · intro w hSw
            (try dsimp only at hSw)
            go_simp
            (try with_reducible rfl)
          try simp only [Act.put, List.getElem_toArray, List.getElem_cons_zero, List.getElem_cons_succ, List.setIfInBounds_toArray, List.set_cons_zero, List.set_cons_succ]
          refine wpAnyH_take (i := 3) (v := ?_) rfl (by kernel_rfl) (by kernel_rfl) (by kernel_rfl) (fun _ _ _ h => h) (Or.inl ⟨by rfl, ?_⟩) (by assumption) ?_
          rotate_left
          · intro w hSw
            have h0 := hSw.1.1
            (try dsimp only at hSw)
            go_simp
            (try with_reducible rfl)
          try simp only [Act.put, List.getElem_toArray, List.getElem_cons_zero, List.getElem_cons_succ, List.setIfInBounds_toArray, List.set_cons_zero, List.set_cons_succ]
          refine wpAnyH_take (i := 4) (v := ?_) rfl (by kernel_rfl) (by kernel_rfl) (by kernel_rfl) (fun _ _ _ h => h) (Or.inl ⟨by rfl, ?_⟩) (by assumption) ?_
          rotate_left
          · intro w hSw
            (try dsimp only at hSw)
            go_simp
            (try with_reducible rfl)
          try simp only [Act.put, List.getElem_toArray, List.getElem_cons_zero, List.getElem_cons_succ, List.setIfInBounds_toArray, List.set_cons_zero, List.set_cons_succ]
          refine wpAnyH_take (i := 5) (v := ?_) rfl (by kernel_rfl) (by kernel_rfl) (by kernel_rfl) (fun _ _ _ h => h) (Or.inl ⟨by rfl, ?_⟩) (by assumption) ?_
          rotate_left
          · intro w hSw
            (try dsimp only at hSw)
            go_simp
            (try with_reducible rfl)
          try simp only [Act.put, List.getElem_toArray, List.getElem_cons_zero, List.getElem_cons_succ, List.setIfInBounds_toArray, List.set_cons_zero, List.set_cons_succ]
          refine wpAnyH_take (i := 6) (v := ?_) rfl (by kernel_rfl) (by kernel_rfl) (by kernel_rfl) (fun _ _ _ h => h) (Or.inl ⟨by rfl, ?_⟩) (by assumption) ?_
          rotate_left
          · intro w hSw
            (try dsimp only at hSw)
            go_simp
            (try with_reducible rfl)
          try simp only [Act.put, List.getElem_toArray, List.getElem_cons_zero, List.getElem_cons_succ, List.setIfInBounds_toArray, List.set_cons_zero, List.set_cons_succ]
          refine wpAnyH_take (i := 7) (v := ?_) rfl (by kernel_rfl) (by kernel_rfl) (by kernel_rfl) (fun _ _ _ h => h) (Or.inl ⟨by rfl, ?_⟩) (by assumption) ?_
          rotate_left
          · intro w hSw
            (try dsimp only at hSw)
            go_simp
            (try with_reducible rfl)
          try simp only [Act.put, List.getElem_toArray, List.getElem_cons_zero, List.getElem_cons_succ, List.setIfInBounds_toArray, List.set_cons_zero, List.set_cons_succ]
          refine wpAnyH_take (i := 8) (v := ?_) rfl (by kernel_rfl) (by kernel_rfl) (by kernel_rfl) (fun _ _ _ h => h) (Or.inl ⟨by rfl, ?_⟩) (by assumption) ?_
          rotate_left
          · intro w hSw
            have h0 := hSw.1.2.1
            (try dsimp only at hSw)
            go_simp
            (try with_reducible rfl)
          try simp only [Act.put, List.getElem_toArray, List.getElem_cons_zero, List.getElem_cons_succ, List.setIfInBounds_toArray, List.set_cons_zero, List.set_cons_succ]
          refine wpAnyH_take (i := 9) (v := ?_) rfl (by kernel_rfl) (by kernel_rfl) (by kernel_rfl) (fun _ _ _ h => h) (Or.inl ⟨by rfl, ?_⟩) (by assumption) ?_
          rotate_left
          · intro w hSw
            have h0 : (dname.toList == dname.toList) = true := by simp
            (try dsimp only at hSw)
            go_simp
            (try with_reducible rfl)
          try simp only [Act.put, List.getElem_toArray, List.getElem_cons_zero, List.getElem_cons_succ, List.setIfInBounds_toArray, List.set_cons_zero, List.set_cons_succ]
          refine wpAnyH_take (i := 10) (v := ?_) rfl (by kernel_rfl) (by kernel_rfl) (by kernel_rfl) (fun _ _ _ h => h) (Or.inl ⟨by rfl, ?_⟩) (by assumption) ?_
          rotate_left
          · intro w hSw
            (try dsimp only at hSw)
            go_simp
            (try with_reducible rfl)
          try simp only [Act.put, List.getElem_toArray, List.getElem_cons_zero, List.getElem_cons_succ, List.setIfInBounds_toArray, List.set_cons_zero, List.set_cons_succ]
          refine wpAnyH_take (i := 11) (v := ?_) rfl (by kernel_rfl) (by kernel_rfl) (by kernel_rfl) (fun _ _ _ h => h) (Or.inl ⟨by rfl, ?_⟩) (by assumption) ?_
          rotate_left
          · intro w hSw
            (try dsimp only at hSw)
            go_simp
            (try with_reducible rfl)
          try simp only [Act.put, List.getElem_toArray, List.getElem_cons_zero, List.getElem_cons_succ, List.setIfInBounds_toArray, List.set_cons_zero, List.set_cons_succ]
          refine wpAnyH_take (i := 12) (v := ?_) rfl (by kernel_rfl) (by kernel_rfl) (by kernel_rfl) (fun _ _ _ h => h) (Or.inl ⟨by rfl, ?_⟩) (by assumption) ?_
          rotate_left
          · intro w hSw
            (try dsimp only at hSw)
            go_simp
            (try with_reducible rfl)
          try simp only [Act.put, List.getElem_toArray, List.getElem_cons_zero, List.getElem_cons_succ, List.setIfInBounds_toArray, List.set_cons_zero, List.set_cons_succ]
          refine wpAnyH_take (i := 13) (v := ?_) rfl (by kernel_rfl) (by kernel_rfl) (by kernel_rfl) (fun _ _ _ h => h) (Or.inl ⟨by rfl, ?_⟩) (by assumption) ?_
          rotate_left
          · intro w hSw
            (try dsimp only at hSw)
            go_simp
            (try with_reducible rfl)
          try simp only [Act.put, List.getElem_toArray, List.getElem_cons_zero, List.getElem_cons_succ, List.setIfInBounds_toArray, List.set_cons_zero, List.set_cons_succ]
          refine wpAnyH_take (i := 14) (v := ?_) rfl (by kernel_rfl) (by kernel_rfl) (by kernel_rfl) (fun _ _ _ h => h) (Or.inl ⟨by rfl, ?_⟩) (by assumption) ?_
          rotate_left
          · intro w hSw
            (try dsimp only at hSw)
            go_simp
            (try with_reducible rfl)
          try simp only [Act.put, List.getElem_toArray, List.getElem_cons_zero, List.getElem_cons_succ, List.setIfInBounds_toArray, List.set_cons_zero, List.set_cons_succ]
          refine wpAnyH_take (i := 15) (v := ?_) rfl (by kernel_rfl) (by kernel_rfl) (by kernel_rfl) (fun _ _ _ h => h) (Or.inl ⟨by rfl, ?_⟩) (by assumption) ?_
          rotate_left
          · intro w hSw
            (try dsimp only at hSw)
            go_simp
            (try with_reducible rfl)
          try simp only [Act.put, List.getElem_toArray, List.getElem_cons_zero, List.getElem_cons_succ, List.setIfInBounds_toArray, List.set_cons_zero, List.set_cons_succ]
          refine wpAnyH_take (i := 16) (v := ?_) rfl (by kernel_rfl) (by kernel_rfl) (by kernel_rfl) (fun _ _ _ h => h) (Or.inl ⟨by rfl, ?_⟩) (by assumption) ?_
          rotate_left
          · intro w hSw
            have h0 := hSw.2.1
            (try dsimp only at hSw)
            go_simp
            (try with_reducible rfl)
          try simp only [Act.put, List.getElem_toArray, List.getElem_cons_zero, List.getElem_cons_succ, List.setIfInBounds_toArray, List.set_cons_zero, List.set_cons_succ]
          refine wpAnyH_take (i := 17) (v := ?_) rfl (by kernel_rfl) (by kernel_rfl) (by kernel_rfl) (fun _ _ _ h => h) (Or.inl ⟨by rfl, ?_⟩) (by assumption) ?_
          rotate_left
          · intro w hSw
            (try dsimp only at hSw)
            go_simp
            (try with_reducible rfl)
          try simp only [Act.put, List.getElem_toArray, List.getElem_cons_zero, List.getElem_cons_succ, List.setIfInBounds_toArray, List.set_cons_zero, List.set_cons_succ]
          refine wpAnyH_take (i := 18) (v := ?_) rfl (by kernel_rfl) (by kernel_rfl) (by kernel_rfl) (fun _ _ _ h => h) (Or.inl ⟨by rfl, ?_⟩) (by assumption) ?_
          rotate_left
          · intro w hSw
            (try dsimp only at hSw)
            go_simp
            (try with_reducible rfl)
          try simp only [Act.put, List.getElem_toArray, List.getElem_cons_zero, List.getElem_cons_succ, List.setIfInBounds_toArray, List.set_cons_zero, List.set_cons_succ]
          refine wpAnyH_take (i := 19) (v := ?_) rfl (by kernel_rfl) (by kernel_rfl) (by kernel_rfl) (fun _ _ _ h => h) (Or.inl ⟨by rfl, ?_⟩) (by assumption) ?_
          rotate_left
          · intro w hSw
            (try dsimp only at hSw)
            go_simp
            (try with_reducible rfl)
          try simp only [Act.put, List.getElem_toArray, List.getElem_cons_zero, List.getElem_cons_succ, List.setIfInBounds_toArray, List.set_cons_zero, List.set_cons_succ]
          refine wpAnyH_take (i := 20) (v := ?_) rfl (by kernel_rfl) (by kernel_rfl) (by kernel_rfl) (fun _ _ _ h => h) (Or.inl ⟨by rfl, ?_⟩) (by assumption) ?_
          rotate_left
          · intro w hSw
            (try dsimp only at hSw)
            go_simp
            (try with_reducible rfl)
          try simp only [Act.put, List.getElem_toArray, List.getElem_cons_zero, List.getElem_cons_succ, List.setIfInBounds_toArray, List.set_cons_zero, List.set_cons_succ]
          refine wpAnyH_take (i := 21) (v := ?_) rfl (by kernel_rfl) (by kernel_rfl) (by kernel_rfl) (fun _ _ _ h => h) (Or.inl ⟨by rfl, ?_⟩) (by assumption) ?_
          rotate_left
          · intro w hSw
            have h0 := hSw.1.2.2.2
            (try dsimp only at hSw)
            go_simp
            (try with_reducible rfl)
          try simp only [Act.put, List.getElem_toArray, List.getElem_cons_zero, List.getElem_cons_succ, List.setIfInBounds_toArray, List.set_cons_zero, List.set_cons_succ]
          refine wpAnyH_take (i := 22) (v := ?_) rfl (by kernel_rfl) (by kernel_rfl) (by kernel_rfl) (fun _ _ _ h => h) (Or.inl ⟨by rfl, ?_⟩) (by assumption) ?_
          rotate_left
          · intro w hSw
            (try dsimp only at hSw)
            go_simp
            (try with_reducible rfl)
          try simp only [Act.put, List.getElem_toArray, List.getElem_cons_zero, List.getElem_cons_succ, List.setIfInBounds_toArray, List.set_cons_zero, List.set_cons_succ]
          refine wpAnyH_take (i := 23) (v := ?_) rfl (by kernel_rfl) (by kernel_rfl) (by kernel_rfl) (fun _ _ _ h => h) (Or.inl ⟨by rfl, ?_⟩) (by assumption) ?_
          rotate_left
          · intro w hSw
            (try dsimp only at hSw)
            go_simp
            (try with_reducible rfl)
          try simp only [Act.put, List.getElem_toArray, List.getElem_cons_zero, List.getElem_cons_succ, List.setIfInBounds_toArray, List.set_cons_zero, List.set_cons_succ]
          refine wpAnyH_take (i := 24) (v := ?_) rfl (by kernel_rfl) (by kernel_rfl) (by kernel_rfl) (fun _ _ _ h => h) (Or.inl ⟨by rfl, ?_⟩) (by assumption) ?_
          rotate_left
          · intro w hSw
            (try dsimp only at hSw)
            go_simp
            (try with_reducible rfl)
          try simp only [Act.put, List.getElem_toArray, List.getElem_cons_zero, List.getElem_cons_succ, List.setIfInBounds_toArray, List.set_cons_zero, List.set_cons_succ]
          refine wpAnyH_take (i := 25) (v := ?_) rfl (by kernel_rfl) (by kernel_rfl) (by kernel_rfl) (fun _ _ _ h => h) (Or.inl ⟨by rfl, ?_⟩) (by assumption) ?_
          rotate_left
          · intro w hSw
            (try dsimp only at hSw)
            go_simp
            (try with_reducible rfl)
          try simp only [Act.put, List.getElem_toArray, List.getElem_cons_zero, List.getElem_cons_succ, List.setIfInBounds_toArray, List.set_cons_zero, List.set_cons_succ]
          refine wpAnyH_take (i := 26) (v := ?_) rfl (by kernel_rfl) (by kernel_rfl) (by kernel_rfl) (fun _ _ _ h => h) (Or.inl ⟨by rfl, ?_⟩) (by assumption) ?_
          rotate_left
          · intro w hSw
            have h0 := hSw.2.2
            (try dsimp only at hSw)
            go_simp
            (try with_reducible rfl)
          try simp only [Act.put, List.getElem_toArray, List.getElem_cons_zero, List.getElem_cons_succ, List.setIfInBounds_toArray, List.set_cons_zero, List.set_cons_succ]
          refine wpAnyH_take (i := 27) (v := ?_) rfl (by kernel_rfl) (by kernel_rfl) (by kernel_rfl) (fun _ _ _ h => h) (Or.inl ⟨by rfl, ?_⟩) (by assumption) ?_
          rotate_left
          · intro w hSw
            (try dsimp only at hSw)
            go_simp
            (try with_reducible rfl)
          try simp only [Act.put, List.getElem_toArray, List.getElem_cons_zero, List.getElem_cons_succ, List.setIfInBounds_toArray, List.set_cons_zero, List.set_cons_succ]
          refine wpAnyH_take (i := 28) (v := ?_) rfl (by kernel_rfl) (by kernel_rfl) (by kernel_rfl) (fun _ _ _ h => h) (Or.inl ⟨by rfl, ?_⟩) (by assumption) ?_
          rotate_left
          · intro w hSw
            (try dsimp only at hSw)
            go_simp
            (try with_reducible rfl)
          try simp only [Act.put, List.getElem_toArray, List.getElem_cons_zero, List.getElem_cons_succ, List.setIfInBounds_toArray, List.set_cons_zero, List.set_cons_succ]
          refine wpAnyH_take (i := 29) (v := ?_) rfl (by kernel_rfl) (by kernel_rfl) (by kernel_rfl) (fun _ _ _ h => h) (Or.inl ⟨by rfl, ?_⟩) (by assumption) ?_
          rotate_left
          · intro w hSw
            (try dsimp only at hSw)
            go_simp
            (try with_reducible rfl)
          try simp only [Act.put, List.getElem_toArray, List.getElem_cons_zero, List.getElem_cons_succ, List.setIfInBounds_toArray, List.set_cons_zero, List.set_cons_succ]
          refine wpAnyH_take (i := 30) (v := ?_) rfl (by kernel_rfl) (by kernel_rfl) (by kernel_rfl) (fun _ _ _ h => h) (Or.inl ⟨by rfl, ?_⟩) (by assumption) ?_
          rotate_left
          · intro w hSw
            (try dsimp only at hSw)
            go_simp
            (try with_reducible rfl)
          try simp only [Act.put, List.getElem_toArray, List.getElem_cons_zero, List.getElem_cons_succ, List.setIfInBounds_toArray, List.set_cons_zero, List.set_cons_succ]
          refine wpAnyH_take (i := 31) (v := ?_) rfl (by kernel_rfl) (by kernel_rfl) (by kernel_rfl) (fun _ _ _ h => h) (Or.inl ⟨by rfl, ?_⟩) (by assumption) ?_
          rotate_left
          · intro w hSw
            (try dsimp only at hSw)
            go_simp
            (try with_reducible rfl)
          try simp only [Act.put, List.getElem_toArray, List.getElem_cons_zero, List.getElem_cons_succ, List.setIfInBounds_toArray, List.set_cons_zero, List.set_cons_succ]
          refine wpAnyH_take (i := 32) (v := ?_) rfl (by kernel_rfl) (by kernel_rfl) (by kernel_rfl) (fun _ _ _ h => h) (Or.inl ⟨by rfl, ?_⟩) (by assumption) ?_
          rotate_left
          · intro w hSw
            have h0 := hSw.1.2.2.1
            (try dsimp only at hSw)
            go_simp
            (try with_reducible rfl)
          try simp only [Act.put, List.getElem_toArray, List.getElem_cons_zero, List.getElem_cons_succ, List.setIfInBounds_toArray, List.set_cons_zero, List.set_cons_succ]
          refine wpAnyH_take (i := 33) (v := ?_) rfl (by kernel_rfl) (by kernel_rfl) (by kernel_rfl) (fun _ _ _ h => h) (Or.inl ⟨by rfl, ?_⟩) (by assumption) ?_
          rotate_left
          · intro w hSw
            (try dsimp only at hSw)
            go_simp
            (try with_reducible rfl)
          try simp only [Act.put, List.getElem_toArray, List.getElem_cons_zero, List.getElem_cons_succ, List.setIfInBounds_toArray, List.set_cons_zero, List.set_cons_succ]
          refine wpAnyH_take (i := 34) (v := ?_) rfl (by kernel_rfl) (by kernel_rfl) (by kernel_rfl) (fun _ _ _ h => h) (Or.inl ⟨by rfl, ?_⟩) (by assumption) ?_
          rotate_left
          · intro w hSw
            (try dsimp only at hSw)
            go_simp
            (try with_reducible rfl)
          try simp only [Act.put, List.getElem_toArray, List.getElem_cons_zero, List.getElem_cons_succ, List.setIfInBounds_toArray, List.set_cons_zero, List.set_cons_succ]
          refine wpAnyH_take (i := 35) (v := ?_) rfl (by kernel_rfl) (by kernel_rfl) (by kernel_rfl) (fun _ _ _ h => h) (Or.inl ⟨by rfl, ?_⟩) (by assumption) ?_
          rotate_left
          · intro w hSw
            (try dsimp only at hSw)
            go_simp
            (try with_reducible rfl)
          try simp only [Act.put, List.getElem_toArray, List.getElem_cons_zero, List.getElem_cons_succ, List.setIfInBounds_toArray, List.set_cons_zero, List.set_cons_succ]
          refine wpAnyH_done (by kernel_rfl) ?_ _
          have RES : Hid (Below W8.heap.size W8 W11.drew) := below_on HBX.out ((Drawn.of_n W11 1).below _) HBX.out.size
          clear hHeld n0 n1 n2 n3 y2 y10
          go_wp2_with fail
          go_roundw
          case rel => exact ⟨j + 1, by omega, by go_num, RES⟩
          case measure => simp [intOf]; omega
        · as_aux_lemma =>
          obtain rfl : j = z := by omega
          have HAT := Lib.hid (fun W (h : Sp w W tb room (.slice oa j oc) M2) => at18_any (.slice oa j oc) M2 s W h.deeds.els (by have := HZ.out; omega))
          by_cases hs : s ∈ dnm M2
          · as_aux_lemma =>
            obtain ⟨k2, hk2, hx2, hkl2⟩ := posV_some hs
            obtain ⟨d, hd⟩ : ∃ d, M2[k2]? = some d := ⟨_, List.getElem?_eq_getElem (by rw [List.length_map] at hkl2; exact hkl2)⟩
            have HF := Lib.hid (find_told_yes s k2 (ddD d) WV HS9.out.tab (by rw [nms_dd]; exact hk2) (by rw [List.getElem?_map, hd]; rfl))
            rw [hk2] at HAT
            have g5 : (0 : Int) ≤ (k2 : Int) := by omega
            have g6 : decide ((0 : Int) ≤ (k2 : Int)) = true := by simp
            clear hs hk2 hx2 hkl2 hd
            go_wp2_with fail
            refine HF.out.mono ?_
            rintro e W10 ⟨y, rfl, hyd, hyin, hb10⟩
            have RUN := Lib.hid (box_md W10 y hyin.at_.ones)
            have HSX := Lib.hid (HS9.out.on (below_on hb10 ((Below.refl _ _).alloc (Nat.le_refl _) (.cells (mrow y).toArray MdT)) hb10.size))
            clear hyd hyin hb10 HF
            go_upto_region 49 with (refine wpList_store_run _ rfl _ _ _ rfl _ _ rfl rfl (by exact RUN.out) ?_)
            clear RUN
            generalize W10.alloc (.cells (mrow y).toArray MdT) = W11 at *
            go_wp2_with fail
            refine (HAT.out W11 HSX.out).mono ?_
            rintro e W12 ⟨rfl, rfl⟩
            go_wp2_with fail
            go_roundw
            case rel => exact ⟨i + 1, M2, by omega, by go_num, HSX⟩
            case measure => simp [intOf]; omega
          · as_aux_lemma =>
            have HF := Lib.hid (find_told_no s WV HS9.out.tab (by rw [nms_dd]; exact hs))
            rw [posV_none hs] at HAT
            clear hs
            go_wp2_with fail
            refine HF.out.mono ?_
            rintro e W10 ⟨rfl, hb10⟩
            have RUN : Hid ((Instr.storeAt MdT (.pointer (some ⟨W10.heap.size, 0, none⟩)) (.agg noRow.toArray)).run Try.prog (W10.alloc (.cells noRow.toArray MdT)) = .ok () (W10.alloc (.cells noRow.toArray MdT))) := box_el W10 MdT 13 noRow noRow rfl rfl noRow_ones size_md
            have HSX := Lib.hid (HS9.out.on (below_on hb10 ((Below.refl _ _).alloc (Nat.le_refl _) (.cells noRow.toArray MdT)) hb10.size))
            clear hb10 HF
            go_upto_region 49 with (refine wpList_store_run _ rfl _ _ _ rfl _ _ rfl rfl (by exact RUN.out) ?_)
            clear RUN
            generalize W10.alloc (.cells noRow.toArray MdT) = W11 at *
            go_wp2_with fail
            refine (HAT.out W11 HSX.out).mono ?_
            rintro e W12 ⟨rfl, rfl⟩
            go_wp2_with fail
            go_roundw
            case rel => exact ⟨i + 1, M2, by omega, by go_num, HSX⟩
            case measure => simp [intOf]; omega
    · as_aux_lemma =>
      go_wp2_with fail
      go_ret
      exact ⟨rfl, HS1.out.below⟩
end Go.Proofs.Ytiofplejpgahdaa
