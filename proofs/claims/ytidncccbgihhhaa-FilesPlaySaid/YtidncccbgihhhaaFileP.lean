/-
  The walk of FilesPlay (layer 10): it returns true and changes nothing that was there. No conditions.
-/
import Derived.Test.YtidncccbgihhhaaPlayF
import Derived.Laws.Cover1
namespace Go.Proofs.Ytidncccbgihhhaa
open Go.ChangeShapes Go.WideShapes Go.ChangeAt Go.RowKit

set_option maxRecDepth 100000 in
set_option maxHeartbeats 1000000 in
theorem play_out (a : Option Addr) (n cap : Nat) (w : World) (h : 120 < n) :
    Calls Try.prog 3 #[.slice a n cap] w fun e w' => e = .returned (.bool true) ∧ Below w.heap.size w w' := by
  have f1 : decide ((120 : Int) < (n : Int)) = true := by simp; omega
  clear h
  go_enter Try.func3, Try.ntmps3
  go_wp2_with fail
  refine (up10 _).mono ?_
  rintro e w1 ⟨rfl, hb1⟩
  have HB1 := Lib.hid hb1
  clear hb1
  go_wp2_with fail
  refine (fnew_any 0 _).mono ?_
  rintro e w2 ⟨fb, mb, rfl, _, hb2, _, _⟩
  have HB2 := Lib.hid (below_on HB1.out hb2 HB1.out.size)
  clear hb2 HB1
  go_wp2_with fail
  go_ret
  exact ⟨rfl, HB2.out⟩

set_option maxRecDepth 100000 in
set_option maxHeartbeats 2000000 in
theorem play_main (a : Option Addr) (n cap : Nat) (w : World) (X : Nat → Int) (S : Nat → ByteArray) (V : Nat → Value) (B : Nat → List Nat) (hD : DeedsF w a n X S V B) (hn : n ≤ 120) :
    Calls Try.prog 3 #[.slice a n cap] w fun e w' => e = .returned (.bool true) ∧ Below w.heap.size w w' := by
  have f1 : decide ((120 : Int) < (n : Int)) = false := by simp; omega
  have HD := Lib.hid hD
  have HN := Lib.hid hn
  clear hD hn
  go_enter Try.func3, Try.ntmps3
  go_wp2_with fail
  refine (up10 _).mono ?_
  rintro e w1 ⟨rfl, hb1⟩
  have HB1 := Lib.hid hb1
  clear hb1
  go_wp2_with fail
  refine (fnew_any 0 _).mono ?_
  rintro e w2 ⟨fb, mb, rfl, hf2, hb2, hm2, _⟩
  have hB2 := below_on HB1.out hb2 HB1.out.size
  have bN : Below w2.heap.size w2 (w2.alloc (.cells #[.slice none 0 0] RFT)) := (Below.refl _ _).alloc (Nat.le_refl _) _
  have HP0 : Hid (PlayAt w (w2.alloc (.cells #[.slice none 0 0] RFT)) fb mb w2.heap.size (.slice none 0 0) [] []) :=
    ⟨hf2.on bN, ref_new w2, rfl, fun j hj => by
      rcases hj with rfl | hj
      · exact hB2.size
      · exact hj.elim, Nat.le_trans HB1.out.size hm2, below_on hB2 bN hB2.size, (fun p hp => by cases hp)⟩
  clear hf2 hb2 hm2 HB1 hB2 bN
  generalize hrb : w2.heap.size = rb at *
  go_wp2_with fail
  go_loopw [6] (fun i wr => ∃ (k : Nat) (lv : Value) (Rr Rf : RL), k ≤ n ∧ i = .int .i64 k ∧ PlayAt w wr fb mb rb lv Rr Rf) (fun i _ => n - (intOf i).toNat)
  case atStart => exact ⟨0, _, _, _, Nat.zero_le _, rfl, HP0.out⟩
  case round =>
    clear HP0 hrb
    obtain ⟨k, lv, Rr, Rf, hk, rfl, hP⟩ := hrel
    have HP := Lib.hid hP
    clear hP
    have hn := HN.out
    by_cases hlt : k < n
    · have hDr := HD.out.on HP.out.below
      have hss := hDr.ss k hlt
      have hbs := hDr.bs k hlt
      have hxs := hDr.xs k hlt
      rcases hDr.cells with h0 | ⟨b, off, rfl, hbl, hcs⟩
      · omega
      obtain ⟨hc0, hc1, hc2⟩ := hcs k hlt
      generalize S k = t at *
      generalize V k = vk at *
      generalize B k = lk at *
      generalize X k = xk at *
      obtain ⟨ak, ck, rfl, hck1, hck2, _⟩ := hbs.shape
      have HSS := Lib.hid hss
      have HBS := Lib.hid hbs
      obtain ⟨q, hq, HPK⟩ := pick_nat xk 3 hxs.1 hxs.2 (by omega) (by omega)
      have e1 : (k : Int) < (n : Int) := by omega
      have e2 : (0 : Int) ≤ (k : Int) := by omega
      clear hDr hss hbs hxs hbl hcs hck1 hck2
      by_cases hz : 100 < t.size
      · have g1 : decide ((100 : Int) < (t.size : Int)) = true := by simp; omega
        have HB := Lib.hid (HP.out.below.alloc HP.out.below.size (.cells (dcells xk t (.slice ak lk.length ck)).toArray DT))
        clear hz
        go_wp2_with fail
        go_ret
        exact ⟨rfl, HB.out⟩
      · have g1 : decide ((100 : Int) < (t.size : Int)) = false := by simp; omega
        have HZ : Hid (t.size ≤ 1000) := by show _ ≤ _; omega
        clear hz
        by_cases hw : 5000 < lk.length
        · have g2 : decide ((5000 : Int) < (lk.length : Int)) = true := by simp; omega
          have HB := Lib.hid (HP.out.below.alloc HP.out.below.size (.cells (dcells xk t (.slice ak lk.length ck)).toArray DT))
          clear hw
          go_wp2_with fail
          go_ret
          exact ⟨rfl, HB.out⟩
        · have g2 : decide ((5000 : Int) < (lk.length : Int)) = false := by simp; omega
          clear hw
          have bD : Below wr.heap.size wr (wr.alloc (.cells #[.int .i64 xk, .string t, .slice ak lk.length ck] DT)) := (Below.refl _ _).alloc (Nat.le_refl _) _
          have HX : Hid (RowAt (wr.alloc (.cells #[.int .i64 xk, .string t, .slice ak lk.length ck] DT)) wr.heap.size DT (dcells xk t (.slice ak lk.length ck))) := RowAt.new wr DT (dcells xk t (.slice ak lk.length ck))
          have HQ := Lib.hid (HP.out.on bD)
          have HBQ := Lib.hid (HBS.out.on bD)
          clear bD
          by_cases h2 : q = 2
          · have g3 : ((q : Int) == 2) = true := by rw [h2]; rfl
            clear h2
            go_wp2_with fail
            refine (HPK.out _).mono ?_
            rintro e w' ⟨rfl, rfl⟩
            generalize wr.alloc (.cells #[.int .i64 xk, .string t, .slice ak lk.length ck] DT) = wq at *
            generalize wr.heap.size = xb at *
            obtain ⟨hce, hle⟩ := same_del HQ.out.same t
            have HE := Lib.hid hle
            have HPW := Lib.hid (HQ.out.on (drew_below wq))
            have hcl := missC_le Rr t
            have HC1 := Lib.hid hce
            have HC2 := Lib.hid hcl
            clear hce hle hcl HP HBQ HQ
            go_wp2_with fail
            refine wp_region_held_drew (S := fun w' => (w'.cell? ⟨xb, 1, none⟩ = some (.string t) ∧ w'.cell? ⟨xb, 2, none⟩ = some (.slice ak lk.length ck)) ∧ RowAt w' xb DT (dcells xk t (.slice ak lk.length ck))) (by kernel_rfl) ?_ (fun hHeld => ?_)
            · exact deed_held HX.out.drew
            refine wpAnyH_take (i := 0) (v := ?_) rfl (by kernel_rfl) (by kernel_rfl) (by kernel_rfl) (fun _ _ _ h => h) (Or.inl ⟨by rfl, ?_⟩) (by assumption) ?_
            rotate_left
            · intro w hSw
              (try dsimp only at hSw)
              go_simp
              (try with_reducible rfl)
            try simp only [Act.put, List.getElem_toArray, List.getElem_cons_zero, List.setIfInBounds_toArray, List.set_cons_zero, List.set_cons_succ]
            refine wpAnyH_take (i := 1) (v := ?_) rfl (by kernel_rfl) (by kernel_rfl) (by kernel_rfl) (fun _ _ _ h => h) (Or.inl ⟨by rfl, ?_⟩) (by assumption) ?_
            rotate_left
            · intro w hSw
              (try dsimp only at hSw)
              go_simp
              (try with_reducible rfl)
            try simp only [Act.put, List.getElem_toArray, List.getElem_cons_zero, List.getElem_cons_succ, List.setIfInBounds_toArray, List.set_cons_zero, List.set_cons_succ]
            refine wpAnyH_take (i := 2) (v := ?_) rfl (by kernel_rfl) (by kernel_rfl) (by kernel_rfl) (fun _ _ _ h => h) (Or.inl ⟨by rfl, ?_⟩) (by assumption) ?_
            rotate_left
            · intro w hSw
              (try dsimp only at hSw)
              go_simp
              (try with_reducible rfl)
            try simp only [Act.put, List.getElem_toArray, List.getElem_cons_zero, List.getElem_cons_succ, List.setIfInBounds_toArray, List.set_cons_zero, List.set_cons_succ]
            refine wpAnyH_take (i := 5) (v := ?_) rfl (by kernel_rfl) (by kernel_rfl) (by kernel_rfl) (fun _ _ _ h => h) (Or.inl ⟨by rfl, ?_⟩) (by assumption) ?_
            rotate_left
            · intro w hSw
              (try dsimp only at hSw)
              go_simp
              (try with_reducible rfl)
            try simp only [Act.put, List.getElem_toArray, List.getElem_cons_zero, List.getElem_cons_succ, List.setIfInBounds_toArray, List.set_cons_zero, List.set_cons_succ]
            refine wpAnyH_take (i := 6) (v := ?_) rfl (by kernel_rfl) (by kernel_rfl) (by kernel_rfl) (fun _ _ _ h => h) (Or.inl ⟨by rfl, ?_⟩) (by assumption) ?_
            rotate_left
            · intro w hSw
              (try dsimp only at hSw)
              go_simp
              (try with_reducible rfl)
            try simp only [Act.put, List.getElem_toArray, List.getElem_cons_zero, List.getElem_cons_succ, List.setIfInBounds_toArray, List.set_cons_zero, List.set_cons_succ]
            refine wpAnyH_take (i := 7) (v := ?_) rfl (by kernel_rfl) (by kernel_rfl) (by kernel_rfl) (fun _ _ _ h => h) (Or.inl ⟨by rfl, ?_⟩) (by assumption) ?_
            rotate_left
            · intro w hSw
              (try dsimp only at hSw)
              go_simp
              (try with_reducible rfl)
            try simp only [Act.put, List.getElem_toArray, List.getElem_cons_zero, List.getElem_cons_succ, List.setIfInBounds_toArray, List.set_cons_zero, List.set_cons_succ]
            refine wpAnyH_ready (rs := [3]) (by kernel_rfl) (by simp) ?_
            refine AllReadyH.cons rfl (fun K hK => ?_) AllReadyH.nil
            go_simp
            refine (fdel_any 0 fb mb Rr t _ HPW.out.files HSS.out).mono ?_
            rintro e w5 ⟨rfl, hf5, hk5⟩
            first | show K _ _ | go_wp2_with fail
            refine hK.out _ _ ?_ (fun hHeld1 => ?_)
            · exact deed_held (HPW.out.deed1 hk5 hHeld.2)
            clear hK K
            try simp only [Act.put, List.getElem_toArray, List.getElem_cons_zero, List.getElem_cons_succ, List.setIfInBounds_toArray, List.set_cons_zero, List.set_cons_succ]
            refine wpAnyH_ready (rs := [4]) (by kernel_rfl) (by simp) ?_
            refine AllReadyH.cons rfl (fun K hK => ?_) AllReadyH.nil
            go_simp
            refine (code_any (missC Rr t) _ HC2.out).mono ?_
            rintro e w' ⟨rfl, rfl⟩
            first | show K _ _ | go_wp2_with fail
            refine hK.out _ _ ?_ (fun hHeld2 => ?_)
            · exact hHeld1
            clear hK K
            try simp only [Act.put, List.getElem_toArray, List.getElem_cons_zero, List.getElem_cons_succ, List.setIfInBounds_toArray, List.set_cons_zero, List.set_cons_succ]
            refine wpAnyH_ready (rs := [8]) (by kernel_rfl) (by simp) ?_
            refine AllReadyH.cons rfl (fun K hK => ?_) AllReadyH.nil
            go_simp
            refine (rdel_any rb lv Rf t _ (HPW.out.ref1 hk5) HZ.out).mono ?_
            rintro e w6 ⟨rfl, hs6⟩
            rw [← HC1.out]
            first | show K _ _ | go_wp2_with fail
            refine hK.out _ _ ?_ (fun hHeld3 => ?_)
            · exact deed_held (hs6.deed (HPW.out.ref1 hk5) hHeld2.2)
            clear hK K
            try simp only [Act.put, List.getElem_toArray, List.getElem_cons_zero, List.getElem_cons_succ, List.setIfInBounds_toArray, List.set_cons_zero, List.set_cons_succ]
            refine wpAnyH_take (i := 9) (v := ?_) rfl (by kernel_rfl) (by kernel_rfl) (by kernel_rfl) (fun _ _ _ h => h) (Or.inl ⟨by rfl, ?_⟩) (by assumption) ?_
            rotate_left
            · intro w hSw
              (try dsimp only at hSw)
              go_simp
              (try with_reducible rfl)
            try simp only [Act.put, List.getElem_toArray, List.getElem_cons_zero, List.getElem_cons_succ, List.setIfInBounds_toArray, List.set_cons_zero, List.set_cons_succ]
            refine wpAnyH_done (by kernel_rfl) ?_ _
            obtain ⟨lv', hP6⟩ := HPW.out.step hf5 hk5 hs6 HE.out (HPW.out.fine.del t)
            have HP6 := Lib.hid hP6
            have hcc : (((missC Rr t : Nat) : Int) != ((missC Rr t : Nat) : Int)) = false := by simp
            clear hHeld hHeld1 hHeld2 hHeld3 hf5 hk5 hs6 hP6
            go_wp2_with fail
            go_roundw
            case rel => exact ⟨k + 1, _, _, _, by omega, by go_num, HP6.out⟩
            case measure => simp [intOf]; omega
          · have g3 : ((q : Int) == 2) = false := by rw [beq_eq_false_iff_ne]; omega
            clear h2
            go_wp2_with fail
            refine (HPK.out _).mono ?_
            rintro e w' ⟨rfl, rfl⟩
            generalize wr.alloc (.cells #[.int .i64 xk, .string t, .slice ak lk.length ck] DT) = wq at *
            generalize wr.heap.size = xb at *
            have HE : Hid (∀ v v' : Value, low Prod.snd (putN Rr t lk.length (v, lk)) = low Prod.snd (putN Rf t lk.length (v', lk))) := fun v v' => (same_put HQ.out.same t lk.length v v' lk).2
            have HC1 := Lib.hid (same_put HQ.out.same t lk.length .nilIface .nilIface lk).1
            have HPW := Lib.hid (HQ.out.on (drew_below wq))
            have HBW := Lib.hid (HBQ.out.on (drew_below wq))
            have HC2 := Lib.hid (putC_le Rr t lk.length)
            clear HP HBQ HQ
            go_wp2_with fail
            refine wp_region_held_drew (S := fun w' => (w'.cell? ⟨xb, 1, none⟩ = some (.string t) ∧ w'.cell? ⟨xb, 2, none⟩ = some (.slice ak lk.length ck)) ∧ RowAt w' xb DT (dcells xk t (.slice ak lk.length ck))) (by kernel_rfl) ?_ (fun hHeld => ?_)
            · exact deed_held HX.out.drew
            refine wpAnyH_take (i := 0) (v := ?_) rfl (by kernel_rfl) (by kernel_rfl) (by kernel_rfl) (fun _ _ _ h => h) (Or.inl ⟨by rfl, ?_⟩) (by assumption) ?_
            rotate_left
            · intro w hSw
              (try dsimp only at hSw)
              go_simp
              (try with_reducible rfl)
            try simp only [Act.put, List.getElem_toArray, List.getElem_cons_zero, List.setIfInBounds_toArray, List.set_cons_zero, List.set_cons_succ]
            refine wpAnyH_take (i := 1) (v := ?_) rfl (by kernel_rfl) (by kernel_rfl) (by kernel_rfl) (fun _ _ _ h => h) (Or.inl ⟨by rfl, ?_⟩) (by assumption) ?_
            rotate_left
            · intro w hSw
              (try dsimp only at hSw)
              go_simp
              (try with_reducible rfl)
            try simp only [Act.put, List.getElem_toArray, List.getElem_cons_zero, List.getElem_cons_succ, List.setIfInBounds_toArray, List.set_cons_zero, List.set_cons_succ]
            refine wpAnyH_take (i := 2) (v := ?_) rfl (by kernel_rfl) (by kernel_rfl) (by kernel_rfl) (fun _ _ _ h => h) (Or.inl ⟨by rfl, ?_⟩) (by assumption) ?_
            rotate_left
            · intro w hSw
              (try dsimp only at hSw)
              go_simp
              (try with_reducible rfl)
            try simp only [Act.put, List.getElem_toArray, List.getElem_cons_zero, List.getElem_cons_succ, List.setIfInBounds_toArray, List.set_cons_zero, List.set_cons_succ]
            refine wpAnyH_take (i := 3) (v := ?_) rfl (by kernel_rfl) (by kernel_rfl) (by kernel_rfl) (fun _ _ _ h => h) (Or.inl ⟨by rfl, ?_⟩) (by assumption) ?_
            rotate_left
            · intro w hSw
              (try dsimp only at hSw)
              go_simp
              (try with_reducible rfl)
            try simp only [Act.put, List.getElem_toArray, List.getElem_cons_zero, List.getElem_cons_succ, List.setIfInBounds_toArray, List.set_cons_zero, List.set_cons_succ]
            refine wpAnyH_take (i := 4) (v := ?_) rfl (by kernel_rfl) (by kernel_rfl) (by kernel_rfl) (fun _ _ _ h => h) (Or.inl ⟨by rfl, ?_⟩) (by assumption) ?_
            rotate_left
            · intro w hSw
              (try dsimp only at hSw)
              go_simp
              (try with_reducible rfl)
            try simp only [Act.put, List.getElem_toArray, List.getElem_cons_zero, List.getElem_cons_succ, List.setIfInBounds_toArray, List.set_cons_zero, List.set_cons_succ]
            refine wpAnyH_take (i := 7) (v := ?_) rfl (by kernel_rfl) (by kernel_rfl) (by kernel_rfl) (fun _ _ _ h => h) (Or.inl ⟨by rfl, ?_⟩) (by assumption) ?_
            rotate_left
            · intro w hSw
              (try dsimp only at hSw)
              go_simp
              (try with_reducible rfl)
            try simp only [Act.put, List.getElem_toArray, List.getElem_cons_zero, List.getElem_cons_succ, List.setIfInBounds_toArray, List.set_cons_zero, List.set_cons_succ]
            refine wpAnyH_take (i := 8) (v := ?_) rfl (by kernel_rfl) (by kernel_rfl) (by kernel_rfl) (fun _ _ _ h => h) (Or.inl ⟨by rfl, ?_⟩) (by assumption) ?_
            rotate_left
            · intro w hSw
              (try dsimp only at hSw)
              go_simp
              (try with_reducible rfl)
            try simp only [Act.put, List.getElem_toArray, List.getElem_cons_zero, List.getElem_cons_succ, List.setIfInBounds_toArray, List.set_cons_zero, List.set_cons_succ]
            refine wpAnyH_take (i := 9) (v := ?_) rfl (by kernel_rfl) (by kernel_rfl) (by kernel_rfl) (fun _ _ _ h => h) (Or.inl ⟨by rfl, ?_⟩) (by assumption) ?_
            rotate_left
            · intro w hSw
              (try dsimp only at hSw)
              go_simp
              (try with_reducible rfl)
            try simp only [Act.put, List.getElem_toArray, List.getElem_cons_zero, List.getElem_cons_succ, List.setIfInBounds_toArray, List.set_cons_zero, List.set_cons_succ]
            refine wpAnyH_take (i := 10) (v := ?_) rfl (by kernel_rfl) (by kernel_rfl) (by kernel_rfl) (fun _ _ _ h => h) (Or.inl ⟨by rfl, ?_⟩) (by assumption) ?_
            rotate_left
            · intro w hSw
              (try dsimp only at hSw)
              go_simp
              (try with_reducible rfl)
            try simp only [Act.put, List.getElem_toArray, List.getElem_cons_zero, List.getElem_cons_succ, List.setIfInBounds_toArray, List.set_cons_zero, List.set_cons_succ]
            refine wpAnyH_take (i := 11) (v := ?_) rfl (by kernel_rfl) (by kernel_rfl) (by kernel_rfl) (fun _ _ _ h => h) (Or.inl ⟨by rfl, ?_⟩) (by assumption) ?_
            rotate_left
            · intro w hSw
              (try dsimp only at hSw)
              go_simp
              (try with_reducible rfl)
            try simp only [Act.put, List.getElem_toArray, List.getElem_cons_zero, List.getElem_cons_succ, List.setIfInBounds_toArray, List.set_cons_zero, List.set_cons_succ]
            refine wpAnyH_ready (rs := [5]) (by kernel_rfl) (by simp) ?_
            refine AllReadyH.cons rfl (fun K hK => ?_) AllReadyH.nil
            go_simp
            refine (put_any 0 fb mb Rr t _ lk _ HPW.out.files (Nat.zero_le _) HSS.out HBW.out).mono ?_
            rintro e w5 ⟨rfl, v5, hf5, hk5⟩
            first | show K _ _ | go_wp2_with fail
            refine hK.out _ _ ?_ (fun hHeld1 => ?_)
            · exact deed_held (HPW.out.deed1 hk5 hHeld.2)
            clear hK K
            try simp only [Act.put, List.getElem_toArray, List.getElem_cons_zero, List.getElem_cons_succ, List.setIfInBounds_toArray, List.set_cons_zero, List.set_cons_succ]
            refine wpAnyH_ready (rs := [6]) (by kernel_rfl) (by simp) ?_
            refine AllReadyH.cons rfl (fun K hK => ?_) AllReadyH.nil
            go_simp
            refine (code_any (putC Rr t lk.length) _ HC2.out).mono ?_
            rintro e w' ⟨rfl, rfl⟩
            first | show K _ _ | go_wp2_with fail
            refine hK.out _ _ ?_ (fun hHeld2 => ?_)
            · exact hHeld1
            clear hK K
            try simp only [Act.put, List.getElem_toArray, List.getElem_cons_zero, List.getElem_cons_succ, List.setIfInBounds_toArray, List.set_cons_zero, List.set_cons_succ]
            refine wpAnyH_ready (rs := [12]) (by kernel_rfl) (by simp) ?_
            refine AllReadyH.cons rfl (fun K hK => ?_) AllReadyH.nil
            go_simp
            refine (rput_any rb lv Rf t _ lk _ (HPW.out.ref1 hk5) HZ.out (HBW.out.keep_map hk5 HPW.out.files)).mono ?_
            rintro e w6 ⟨rfl, v6, hs6⟩
            rw [← HC1.out]
            first | show K _ _ | go_wp2_with fail
            refine hK.out _ _ ?_ (fun hHeld3 => ?_)
            · exact deed_held (hs6.deed (HPW.out.ref1 hk5) hHeld2.2)
            clear hK K
            try simp only [Act.put, List.getElem_toArray, List.getElem_cons_zero, List.getElem_cons_succ, List.setIfInBounds_toArray, List.set_cons_zero, List.set_cons_succ]
            refine wpAnyH_take (i := 13) (v := ?_) rfl (by kernel_rfl) (by kernel_rfl) (by kernel_rfl) (fun _ _ _ h => h) (Or.inl ⟨by rfl, ?_⟩) (by assumption) ?_
            rotate_left
            · intro w hSw
              (try dsimp only at hSw)
              go_simp
              (try with_reducible rfl)
            try simp only [Act.put, List.getElem_toArray, List.getElem_cons_zero, List.getElem_cons_succ, List.setIfInBounds_toArray, List.set_cons_zero, List.set_cons_succ]
            refine wpAnyH_done (by kernel_rfl) ?_ _
            obtain ⟨lv', hP6⟩ := HPW.out.step hf5 hk5 hs6 (HE.out _ _) (HPW.out.fine.put t _ lk)
            have HP6 := Lib.hid hP6
            have hcc : (((putC Rr t lk.length : Nat) : Int) != ((putC Rr t lk.length : Nat) : Int)) = false := by simp
            clear hHeld hHeld1 hHeld2 hHeld3 hf5 hk5 hs6 hP6
            go_wp2_with fail
            go_roundw
            case rel => exact ⟨k + 1, _, _, _, by omega, by go_num, HP6.out⟩
            case measure => simp [intOf]; omega
    · obtain rfl : k = n := by omega
      go_wp2_with fail
      refine (names_any 0 fb mb Rr wr HP.out.files).mono ?_
      rintro e w3 ⟨nv, l, rfl, hnm, hnr, hb3⟩
      have HP3 := Lib.hid (HP.out.on hb3)
      have c1 := HP3.out.ref.cell
      have hlen : l.length = Rf.length := by rw [hnm.1.length_eq, nms_length, same_length HP.out.same]
      obtain ⟨na, nc, rfl, hn1, hn2⟩ := hnr.shape
      obtain ⟨la, lc, rfl, _⟩ := HP3.out.ref.row.shape
      have hll := HP3.out.ref.le
      have HNR := Lib.hid hnr
      have HNM := Lib.hid hnm
      have HLN := Lib.hid hlen
      clear hb3 hnm hnr HP hn1 hn2
      rw [← hlen] at c1 hll
      obtain ⟨N, hN⟩ : ∃ N, N = l.length := ⟨_, rfl⟩
      have HNN := Lib.hid hN
      rw [← hN] at c1 hll
      rw [← hN]
      clear hN hlen
      go_wp2_with fail
      go_loopw [9] (fun i wr => Drawn w3 wr ∧ ∃ k : Nat, k ≤ N ∧ i = .int .i64 k) (fun i _ => N - (intOf i).toNat)
      case atStart => exact ⟨Drawn.refl _, 0, Nat.zero_le _, rfl⟩
      case round =>
        rename_i wy _ _
        obtain ⟨hdr, k, hk, rfl⟩ := hrel
        have HDR := Lib.hid hdr
        clear hdr
        by_cases hlt : k < N
        · obtain ⟨nb, ncap, hv, hnb, _, _, hcs⟩ := HNR.out.cell (by have := HNN.out; omega)
          rw [← HNN.out] at hv
          cases hv
          obtain ⟨x, hx⟩ : ∃ x, l[k]? = some x := ⟨_, List.getElem?_eq_getElem (by have := HNN.out; omega)⟩
          have e1 : (k : Int) < (N : Int) := by omega
          have e2 : (0 : Int) ≤ (k : Int) := by omega
          by_cases h0 : k = 0
          · have g1 : decide ((0 : Int) < (k : Int)) = false := by simp; omega
            have g2 : decide (0 < k) = false := by simp; omega
            clear h0 hcs hx
            go_wp2_with fail
            refine wp_region_held_drew (S := fun w' => Drawn w3 w') (by kernel_rfl) ?_ (fun hHeld => ?_)
            · exact HDR.out.more 1
            refine wpAnyH_take (i := 0) (v := ?_) rfl (by kernel_rfl) (by kernel_rfl) (by kernel_rfl) (fun _ _ _ h => h) (Or.inl ⟨by rfl, ?_⟩) (by assumption) ?_
            rotate_left
            · intro w hSw
              (try dsimp only at hSw)
              go_simp
              (try with_reducible rfl)
            try simp only [Act.put, List.getElem_toArray, List.getElem_cons_zero, List.setIfInBounds_toArray, List.set_cons_zero, List.set_cons_succ]
            refine wpAnyH_take (i := 1) (v := ?_) rfl (by kernel_rfl) (by kernel_rfl) (by kernel_rfl) (fun _ _ _ h => h) (Or.inl ⟨by rfl, ?_⟩) (by assumption) ?_
            rotate_left
            · intro w hSw
              (try dsimp only at hSw)
              go_simp
              (try with_reducible rfl)
            try simp only [Act.put, List.getElem_toArray, List.getElem_cons_zero, List.getElem_cons_succ, List.setIfInBounds_toArray, List.set_cons_zero, List.set_cons_succ]
            refine wpAnyH_take (i := 2) (v := ?_) rfl (by kernel_rfl) (by kernel_rfl) (by kernel_rfl) (fun _ _ _ h => h) (Or.inl ⟨by rfl, ?_⟩) (by assumption) ?_
            rotate_left
            · intro w hSw
              (try dsimp only at hSw)
              go_simp
              (try with_reducible rfl)
            try simp only [Act.put, List.getElem_toArray, List.getElem_cons_zero, List.getElem_cons_succ, List.setIfInBounds_toArray, List.set_cons_zero, List.set_cons_succ]
            refine wpAnyH_take (i := 3) (v := undef) rfl (by kernel_rfl) (by kernel_rfl) (by kernel_rfl) (fun _ _ _ h => h) (Or.inr ⟨by rfl, rfl⟩) (by assumption) ?_
            try simp only [Act.put, List.getElem_toArray, List.getElem_cons_zero, List.getElem_cons_succ, List.setIfInBounds_toArray, List.set_cons_zero, List.set_cons_succ]
            refine wpAnyH_take (i := 4) (v := undef) rfl (by kernel_rfl) (by kernel_rfl) (by kernel_rfl) (fun _ _ _ h => h) (Or.inr ⟨by rfl, rfl⟩) (by assumption) ?_
            try simp only [Act.put, List.getElem_toArray, List.getElem_cons_zero, List.getElem_cons_succ, List.setIfInBounds_toArray, List.set_cons_zero, List.set_cons_succ]
            refine wpAnyH_take (i := 5) (v := undef) rfl (by kernel_rfl) (by kernel_rfl) (by kernel_rfl) (fun _ _ _ h => h) (Or.inr ⟨by rfl, rfl⟩) (by assumption) ?_
            try simp only [Act.put, List.getElem_toArray, List.getElem_cons_zero, List.getElem_cons_succ, List.setIfInBounds_toArray, List.set_cons_zero, List.set_cons_succ]
            refine wpAnyH_take (i := 6) (v := undef) rfl (by kernel_rfl) (by kernel_rfl) (by kernel_rfl) (fun _ _ _ h => h) (Or.inr ⟨by rfl, rfl⟩) (by assumption) ?_
            try simp only [Act.put, List.getElem_toArray, List.getElem_cons_zero, List.getElem_cons_succ, List.setIfInBounds_toArray, List.set_cons_zero, List.set_cons_succ]
            refine wpAnyH_take (i := 7) (v := undef) rfl (by kernel_rfl) (by kernel_rfl) (by kernel_rfl) (fun _ _ _ h => h) (Or.inr ⟨by rfl, rfl⟩) (by assumption) ?_
            try simp only [Act.put, List.getElem_toArray, List.getElem_cons_zero, List.getElem_cons_succ, List.setIfInBounds_toArray, List.set_cons_zero, List.set_cons_succ]
            refine wpAnyH_take (i := 8) (v := undef) rfl (by kernel_rfl) (by kernel_rfl) (by kernel_rfl) (fun _ _ _ h => h) (Or.inr ⟨by rfl, rfl⟩) (by assumption) ?_
            try simp only [Act.put, List.getElem_toArray, List.getElem_cons_zero, List.getElem_cons_succ, List.setIfInBounds_toArray, List.set_cons_zero, List.set_cons_succ]
            refine wpAnyH_take (i := 9) (v := undef) rfl (by kernel_rfl) (by kernel_rfl) (by kernel_rfl) (fun _ _ _ h => h) (Or.inr ⟨by rfl, rfl⟩) (by assumption) ?_
            try simp only [Act.put, List.getElem_toArray, List.getElem_cons_zero, List.getElem_cons_succ, List.setIfInBounds_toArray, List.set_cons_zero, List.set_cons_succ]
            refine wpAnyH_take (i := 10) (v := undef) rfl (by kernel_rfl) (by kernel_rfl) (by kernel_rfl) (fun _ _ _ h => h) (Or.inr ⟨by rfl, rfl⟩) (by assumption) ?_
            try simp only [Act.put, List.getElem_toArray, List.getElem_cons_zero, List.getElem_cons_succ, List.setIfInBounds_toArray, List.set_cons_zero, List.set_cons_succ]
            refine wpAnyH_take (i := 11) (v := undef) rfl (by kernel_rfl) (by kernel_rfl) (by kernel_rfl) (fun _ _ _ h => h) (Or.inr ⟨by rfl, rfl⟩) (by assumption) ?_
            try simp only [Act.put, List.getElem_toArray, List.getElem_cons_zero, List.getElem_cons_succ, List.setIfInBounds_toArray, List.set_cons_zero, List.set_cons_succ]
            refine wpAnyH_take (i := 12) (v := undef) rfl (by kernel_rfl) (by kernel_rfl) (by kernel_rfl) (fun _ _ _ h => h) (Or.inr ⟨by rfl, rfl⟩) (by assumption) ?_
            try simp only [Act.put, List.getElem_toArray, List.getElem_cons_zero, List.getElem_cons_succ, List.setIfInBounds_toArray, List.set_cons_zero, List.set_cons_succ]
            refine wpAnyH_take (i := 13) (v := ?_) rfl (by kernel_rfl) (by kernel_rfl) (by kernel_rfl) (fun _ _ _ h => h) (Or.inl ⟨by rfl, ?_⟩) (by assumption) ?_
            rotate_left
            · intro w hSw
              (try dsimp only at hSw)
              go_simp
              (try with_reducible rfl)
            try simp only [Act.put, List.getElem_toArray, List.getElem_cons_zero, List.getElem_cons_succ, List.setIfInBounds_toArray, List.set_cons_zero, List.set_cons_succ]
            refine wpAnyH_done (by kernel_rfl) ?_ _
            have HDE := Lib.hid hHeld
            clear hHeld
            go_wp2_with fail
            go_roundw
            case rel => exact ⟨HDE.out, k + 1, by omega, by go_num⟩
            case measure => simp [intOf]; omega
          · obtain ⟨y, hy⟩ : ∃ y, l[k - 1]? = some y := ⟨_, List.getElem?_eq_getElem (by have := HNN.out; omega)⟩
            have hcx : wr.cell? ⟨nb, k, none⟩ = some (.string x) := by rw [HDR.out.cell, hcs _ (by have := HNN.out; omega)]; simp [svs, hx]
            have hcy : wr.cell? ⟨nb, k - 1, none⟩ = some (.string y) := by rw [HDR.out.cell, hcs _ (by have := HNN.out; omega)]; simp [svs, hy]
            have hri : (Op.bytesLess x.toList y.toList || x.toList == y.toList) = false := HNM.out.2 (k - 1) x.toList y.toList (by simp [hy]) (by rw [show k - 1 + 1 = k by omega]; simp [hx])
            obtain ⟨hr1, hr2⟩ := Bool.or_eq_false_iff.1 hri
            clear hri
            have g1 : decide ((0 : Int) < (k : Int)) = true := by simp; omega
            have g2 : decide (0 < k) = true := by simp; omega
            have j1 : IntKind.i64.wrap ((k : Int) - 1) = (k : Int) - 1 := IntWalk.i64_in _ (by omega)
            have j2 : ((k : Int) - 1).toNat = k - 1 := by omega
            have j3 : (0 : Int) ≤ (k : Int) - 1 := by omega
            have j4 : (k : Int) - 1 < (N : Int) := by omega
            have j5 : (1 : Int) ≤ (k : Int) := by omega
            have j6 : 1 ≤ k := by omega
            clear h0 hcs hx hy
            go_wp2_with fail
            refine wp_region_held_drew (S := fun w' => (w'.cell? ⟨nb, k, none⟩ = some (.string x) ∧ w'.cell? ⟨nb, k - 1, none⟩ = some (.string y)) ∧ Drawn w3 w') (by kernel_rfl) ?_ (fun hHeld => ?_)
            · exact ⟨⟨hcx, hcy⟩, HDR.out.more 1⟩
            refine wpAnyH_take (i := 0) (v := ?_) rfl (by kernel_rfl) (by kernel_rfl) (by kernel_rfl) (fun _ _ _ h => h) (Or.inl ⟨by rfl, ?_⟩) (by assumption) ?_
            rotate_left
            · intro w hSw
              (try dsimp only at hSw)
              go_simp
              (try with_reducible rfl)
            try simp only [Act.put, List.getElem_toArray, List.getElem_cons_zero, List.setIfInBounds_toArray, List.set_cons_zero, List.set_cons_succ]
            refine wpAnyH_take (i := 1) (v := ?_) rfl (by kernel_rfl) (by kernel_rfl) (by kernel_rfl) (fun _ _ _ h => h) (Or.inl ⟨by rfl, ?_⟩) (by assumption) ?_
            rotate_left
            · intro w hSw
              (try dsimp only at hSw)
              go_simp
              (try with_reducible rfl)
            try simp only [Act.put, List.getElem_toArray, List.getElem_cons_zero, List.getElem_cons_succ, List.setIfInBounds_toArray, List.set_cons_zero, List.set_cons_succ]
            refine wpAnyH_take (i := 2) (v := ?_) rfl (by kernel_rfl) (by kernel_rfl) (by kernel_rfl) (fun _ _ _ h => h) (Or.inl ⟨by rfl, ?_⟩) (by assumption) ?_
            rotate_left
            · intro w hSw
              (try dsimp only at hSw)
              go_simp
              (try with_reducible rfl)
            try simp only [Act.put, List.getElem_toArray, List.getElem_cons_zero, List.getElem_cons_succ, List.setIfInBounds_toArray, List.set_cons_zero, List.set_cons_succ]
            refine wpAnyH_take (i := 3) (v := ?_) rfl (by kernel_rfl) (by kernel_rfl) (by kernel_rfl) (fun _ _ _ h => h) (Or.inl ⟨by rfl, ?_⟩) (by assumption) ?_
            rotate_left
            · intro w hSw
              (try dsimp only at hSw)
              go_simp
              (try with_reducible rfl)
            try simp only [Act.put, List.getElem_toArray, List.getElem_cons_zero, List.getElem_cons_succ, List.setIfInBounds_toArray, List.set_cons_zero, List.set_cons_succ]
            refine wpAnyH_take (i := 4) (v := ?_) rfl (by kernel_rfl) (by kernel_rfl) (by kernel_rfl) (fun _ _ _ h => h) (Or.inl ⟨by rfl, ?_⟩) (by assumption) ?_
            rotate_left
            · intro w hSw
              (try dsimp only at hSw)
              go_simp
              (try with_reducible rfl)
            try simp only [Act.put, List.getElem_toArray, List.getElem_cons_zero, List.getElem_cons_succ, List.setIfInBounds_toArray, List.set_cons_zero, List.set_cons_succ]
            refine wpAnyH_take (i := 5) (v := ?_) rfl (by kernel_rfl) (by kernel_rfl) (by kernel_rfl) (fun _ _ _ h => h) (Or.inl ⟨by rfl, ?_⟩) (by assumption) ?_
            rotate_left
            · intro w hSw
              (try dsimp only at hSw)
              go_simp
              (try with_reducible rfl)
            try simp only [Act.put, List.getElem_toArray, List.getElem_cons_zero, List.getElem_cons_succ, List.setIfInBounds_toArray, List.set_cons_zero, List.set_cons_succ]
            refine wpAnyH_take (i := 6) (v := ?_) rfl (by kernel_rfl) (by kernel_rfl) (by kernel_rfl) (fun _ _ _ h => h) (Or.inl ⟨by rfl, ?_⟩) (by assumption) ?_
            rotate_left
            · intro w hSw
              (try dsimp only at hSw)
              go_simp
              (try with_reducible rfl)
            try simp only [Act.put, List.getElem_toArray, List.getElem_cons_zero, List.getElem_cons_succ, List.setIfInBounds_toArray, List.set_cons_zero, List.set_cons_succ]
            refine wpAnyH_take (i := 7) (v := ?_) rfl (by kernel_rfl) (by kernel_rfl) (by kernel_rfl) (fun _ _ _ h => h) (Or.inl ⟨by rfl, ?_⟩) (by assumption) ?_
            rotate_left
            · intro w hSw
              (try dsimp only at hSw)
              go_simp
              (try with_reducible rfl)
            try simp only [Act.put, List.getElem_toArray, List.getElem_cons_zero, List.getElem_cons_succ, List.setIfInBounds_toArray, List.set_cons_zero, List.set_cons_succ]
            refine wpAnyH_take (i := 8) (v := ?_) rfl (by kernel_rfl) (by kernel_rfl) (by kernel_rfl) (fun _ _ _ h => h) (Or.inl ⟨by rfl, ?_⟩) (by assumption) ?_
            rotate_left
            · intro w hSw
              (try dsimp only at hSw)
              go_simp
              (try with_reducible rfl)
            try simp only [Act.put, List.getElem_toArray, List.getElem_cons_zero, List.getElem_cons_succ, List.setIfInBounds_toArray, List.set_cons_zero, List.set_cons_succ]
            refine wpAnyH_take (i := 9) (v := ?_) rfl (by kernel_rfl) (by kernel_rfl) (by kernel_rfl) (fun _ _ _ h => h) (Or.inl ⟨by rfl, ?_⟩) (by assumption) ?_
            rotate_left
            · intro w hSw
              (try dsimp only at hSw)
              go_simp
              (try with_reducible rfl)
            try simp only [Act.put, List.getElem_toArray, List.getElem_cons_zero, List.getElem_cons_succ, List.setIfInBounds_toArray, List.set_cons_zero, List.set_cons_succ]
            refine wpAnyH_take (i := 10) (v := ?_) rfl (by kernel_rfl) (by kernel_rfl) (by kernel_rfl) (fun _ _ _ h => h) (Or.inl ⟨by rfl, ?_⟩) (by assumption) ?_
            rotate_left
            · intro w hSw
              (try dsimp only at hSw)
              go_simp
              (try with_reducible rfl)
            try simp only [Act.put, List.getElem_toArray, List.getElem_cons_zero, List.getElem_cons_succ, List.setIfInBounds_toArray, List.set_cons_zero, List.set_cons_succ]
            refine wpAnyH_take (i := 11) (v := ?_) rfl (by kernel_rfl) (by kernel_rfl) (by kernel_rfl) (fun _ _ _ h => h) (Or.inl ⟨by rfl, ?_⟩) (by assumption) ?_
            rotate_left
            · intro w hSw
              (try dsimp only at hSw)
              go_simp
              (try with_reducible rfl)
            try simp only [Act.put, List.getElem_toArray, List.getElem_cons_zero, List.getElem_cons_succ, List.setIfInBounds_toArray, List.set_cons_zero, List.set_cons_succ]
            refine wpAnyH_take (i := 12) (v := ?_) rfl (by kernel_rfl) (by kernel_rfl) (by kernel_rfl) (fun _ _ _ h => h) (Or.inl ⟨by rfl, ?_⟩) (by assumption) ?_
            rotate_left
            · intro w hSw
              (try dsimp only at hSw)
              go_simp
              (try with_reducible rfl)
            try simp only [Act.put, List.getElem_toArray, List.getElem_cons_zero, List.getElem_cons_succ, List.setIfInBounds_toArray, List.set_cons_zero, List.set_cons_succ]
            refine wpAnyH_take (i := 13) (v := ?_) rfl (by kernel_rfl) (by kernel_rfl) (by kernel_rfl) (fun _ _ _ h => h) (Or.inl ⟨by rfl, ?_⟩) (by assumption) ?_
            rotate_left
            · intro w hSw
              (try dsimp only at hSw)
              go_simp
              (try with_reducible rfl)
            try simp only [Act.put, List.getElem_toArray, List.getElem_cons_zero, List.getElem_cons_succ, List.setIfInBounds_toArray, List.set_cons_zero, List.set_cons_succ]
            refine wpAnyH_done (by kernel_rfl) ?_ _
            have HDE := Lib.hid hHeld.2
            clear hHeld
            go_wp2_with fail
            go_roundw
            case rel => exact ⟨HDE.out, k + 1, by omega, by go_num⟩
            case measure => simp [intOf]; omega
        · obtain rfl : k = N := by omega
          have HPY := Lib.hid (HP3.out.on (HDR.out.below _))
          clear HP3 HDR HNR HNM c1
          go_wp2_with fail
          go_loopw [10] (fun i wr => ∃ k' : Nat, k' ≤ k ∧ i = .int .i64 k' ∧ PlayAt w wr fb mb rb (.slice la Rf.length lc) Rr Rf) (fun i _ => k - (intOf i).toNat)
          case atStart => exact ⟨0, Nat.zero_le _, rfl, HPY.out⟩
          case round =>
            clear HPY
            obtain ⟨m, hm, rfl, hP⟩ := hrel
            have HP := Lib.hid hP
            have c1 := hP.ref.cell
            have hlen : Rf.length = k := HLN.out.symm.trans HNN.out.symm
            rw [hlen] at c1
            clear hP
            by_cases hlt2 : m < k
            · obtain ⟨lb, lcap, hv, hlb, _, _, hcs⟩ := HP.out.ref.row.cell (by omega)
              obtain ⟨p, hp⟩ : ∃ p, Rf[m]? = some p := ⟨_, List.getElem?_eq_getElem (by omega)⟩
              have hq0 := hcs (m * 2) (by omega)
              have hq1 := hcs (m * 2 + 1) (by omega)
              rw [(rcs_at Rf m p hp).1] at hq0
              rw [(rcs_at Rf m p hp).2] at hq1
              rw [hlen] at hv
              cases hv
              obtain ⟨s, u, l0⟩ := p
              have hin := List.mem_of_getElem? hp
              obtain ⟨v0, hv0⟩ := same_at HP.out.same hin
              have hf1 : NameP s := (HP.out.fine _ hv0).1
              have hf2 : l0.length ≤ 4000 := (HP.out.fine _ hv0).2
              have hf3 := hf1.2.1
              have hur := HP.out.ref.rows _ hin
              have HU := Lib.hid (hur.1.bytes hur.2)
              have HG := Lib.hid (get_yes 0 fb mb Rr s v0 l0 wr HP.out.files (by simp only [maxLen]; omega) hf1 hv0 (by omega))
              have e1 : (m : Int) < (k : Int) := by omega
              have e2 : (0 : Int) ≤ (m : Int) := by omega
              have HQ0 := Lib.hid hq0
              have HQ1 := Lib.hid hq1
              have HLB := Lib.hid hlb
              clear hcs hp hin hv0 hf1 hf2 hf3 hur hq1 hlb
              simp only at hq0
              go_wp2_with fail
              refine HG.out.mono ?_
              rintro e w4 ⟨v4, rfl, hr4, _, hb4⟩
              have HP4 := Lib.hid (HP.out.on hb4)
              have HV4 := Lib.hid (hr4.bytes (HU.out.fit))
              have HU4 := Lib.hid (HU.out.on hb4)
              have HC4 := Lib.hid (HP4.out.ref.cell)
              have HC5 : Hid (w4.cell? ⟨lb, m * 2 + 1, none⟩ = some u) := (hb4.cell (p := ⟨lb, m * 2 + 1, none⟩) HLB.out).trans HQ1.out
              have hlb4 := Nat.lt_of_lt_of_le HLB.out hb4.size
              have HLB4 := Lib.hid hlb4
              have HLR := Lib.hid hlen
              rw [hlen] at HC4
              clear hr4 hb4 hq0 c1 HP hlb4 HU HG hlen
              go_wp2_with fail
              refine wp_region_held_drew (S := fun w' => Below w4.heap.size w4 w') (by kernel_rfl) ?_ (fun hHeld => ?_)
              · exact drew_below w4
              refine wpAnyH_take (i := 0) (v := ?_) rfl (by kernel_rfl) (by kernel_rfl) (by kernel_rfl) (fun _ _ _ h => h) (Or.inl ⟨by rfl, ?_⟩) (by assumption) ?_
              rotate_left
              · intro w hSw
                (try dsimp only at hSw)
                go_simp
                (try with_reducible rfl)
              try simp only [Act.put, List.getElem_toArray, List.getElem_cons_zero, List.setIfInBounds_toArray, List.set_cons_zero, List.set_cons_succ]
              refine wpAnyH_take (i := 1) (v := ?_) rfl (by kernel_rfl) (by kernel_rfl) (by kernel_rfl) (fun _ _ _ h => h) (Or.inl ⟨by rfl, ?_⟩) (by assumption) ?_
              rotate_left
              · intro w hSw
                (try dsimp only at hSw)
                go_simp
                (try with_reducible rfl)
              try simp only [Act.put, List.getElem_toArray, List.getElem_cons_zero, List.getElem_cons_succ, List.setIfInBounds_toArray, List.set_cons_zero, List.set_cons_succ]
              refine wpAnyH_take (i := 2) (v := ?_) rfl (by kernel_rfl) (by kernel_rfl) (by kernel_rfl) (fun _ _ _ h => h) (Or.inl ⟨by rfl, ?_⟩) (by assumption) ?_
              rotate_left
              · intro w hSw
                (try dsimp only at hSw)
                go_simp
                (try with_reducible rfl)
              try simp only [Act.put, List.getElem_toArray, List.getElem_cons_zero, List.getElem_cons_succ, List.setIfInBounds_toArray, List.set_cons_zero, List.set_cons_succ]
              refine wpAnyH_take (i := 3) (v := ?_) rfl (by kernel_rfl) (by kernel_rfl) (by kernel_rfl) (fun _ _ _ h => h) (Or.inl ⟨by rfl, ?_⟩) (by assumption) ?_
              rotate_left
              · intro w hSw
                (try dsimp only at hSw)
                go_simp
                (try with_reducible rfl)
              try simp only [Act.put, List.getElem_toArray, List.getElem_cons_zero, List.getElem_cons_succ, List.setIfInBounds_toArray, List.set_cons_zero, List.set_cons_succ]
              refine wpAnyH_take (i := 4) (v := ?_) rfl (by kernel_rfl) (by kernel_rfl) (by kernel_rfl) (fun _ _ _ h => h) (Or.inl ⟨by rfl, ?_⟩) (by assumption) ?_
              rotate_left
              · intro w hSw
                have hcv := (HV4.out.on hSw).string
                (try dsimp only at hSw)
                go_simp
                (try with_reducible rfl)
              try simp only [Act.put, List.getElem_toArray, List.getElem_cons_zero, List.getElem_cons_succ, List.setIfInBounds_toArray, List.set_cons_zero, List.set_cons_succ]
              refine wpAnyH_take (i := 5) (v := ?_) rfl (by kernel_rfl) (by kernel_rfl) (by kernel_rfl) (fun _ _ _ h => h) (Or.inl ⟨by rfl, ?_⟩) (by assumption) ?_
              rotate_left
              · intro w hSw
                (try dsimp only at hSw)
                go_simp
                (try with_reducible rfl)
              try simp only [Act.put, List.getElem_toArray, List.getElem_cons_zero, List.getElem_cons_succ, List.setIfInBounds_toArray, List.set_cons_zero, List.set_cons_succ]
              refine wpAnyH_take (i := 6) (v := ?_) rfl (by kernel_rfl) (by kernel_rfl) (by kernel_rfl) (fun _ _ _ h => h) (Or.inl ⟨by rfl, ?_⟩) (by assumption) ?_
              rotate_left
              · intro w hSw
                (try dsimp only at hSw)
                go_simp
                (try with_reducible rfl)
              try simp only [Act.put, List.getElem_toArray, List.getElem_cons_zero, List.getElem_cons_succ, List.setIfInBounds_toArray, List.set_cons_zero, List.set_cons_succ]
              refine wpAnyH_take (i := 7) (v := ?_) rfl (by kernel_rfl) (by kernel_rfl) (by kernel_rfl) (fun _ _ _ h => h) (Or.inl ⟨by rfl, ?_⟩) (by assumption) ?_
              rotate_left
              · intro w hSw
                (try dsimp only at hSw)
                go_simp
                (try with_reducible rfl)
              try simp only [Act.put, List.getElem_toArray, List.getElem_cons_zero, List.getElem_cons_succ, List.setIfInBounds_toArray, List.set_cons_zero, List.set_cons_succ]
              refine wpAnyH_take (i := 8) (v := ?_) rfl (by kernel_rfl) (by kernel_rfl) (by kernel_rfl) (fun _ _ _ h => h) (Or.inl ⟨by rfl, ?_⟩) (by assumption) ?_
              rotate_left
              · intro w hSw
                have hc := (hSw.cell (p := ⟨rb, 0, none⟩) HP4.out.ref.head.lt).trans HC4.out
                (try dsimp only at hSw)
                go_simp
                (try with_reducible rfl)
              try simp only [Act.put, List.getElem_toArray, List.getElem_cons_zero, List.getElem_cons_succ, List.setIfInBounds_toArray, List.set_cons_zero, List.set_cons_succ]
              refine wpAnyH_take (i := 9) (v := ?_) rfl (by kernel_rfl) (by kernel_rfl) (by kernel_rfl) (fun _ _ _ h => h) (Or.inl ⟨by rfl, ?_⟩) (by assumption) ?_
              rotate_left
              · intro w hSw
                (try dsimp only at hSw)
                go_simp
                (try with_reducible rfl)
              try simp only [Act.put, List.getElem_toArray, List.getElem_cons_zero, List.getElem_cons_succ, List.setIfInBounds_toArray, List.set_cons_zero, List.set_cons_succ]
              refine wpAnyH_take (i := 10) (v := ?_) rfl (by kernel_rfl) (by kernel_rfl) (by kernel_rfl) (fun _ _ _ h => h) (Or.inl ⟨by rfl, ?_⟩) (by assumption) ?_
              rotate_left
              · intro w hSw
                (try dsimp only at hSw)
                go_simp
                (try with_reducible rfl)
              try simp only [Act.put, List.getElem_toArray, List.getElem_cons_zero, List.getElem_cons_succ, List.setIfInBounds_toArray, List.set_cons_zero, List.set_cons_succ]
              refine wpAnyH_take (i := 11) (v := ?_) rfl (by kernel_rfl) (by kernel_rfl) (by kernel_rfl) (fun _ _ _ h => h) (Or.inl ⟨by rfl, ?_⟩) (by assumption) ?_
              rotate_left
              · intro w hSw
                (try dsimp only at hSw)
                go_simp
                (try with_reducible rfl)
              try simp only [Act.put, List.getElem_toArray, List.getElem_cons_zero, List.getElem_cons_succ, List.setIfInBounds_toArray, List.set_cons_zero, List.set_cons_succ]
              refine wpAnyH_take (i := 12) (v := ?_) rfl (by kernel_rfl) (by kernel_rfl) (by kernel_rfl) (fun _ _ _ h => h) (Or.inl ⟨by rfl, ?_⟩) (by assumption) ?_
              rotate_left
              · intro w hSw
                have hc := (hSw.cell (p := ⟨lb, m * 2 + 1, none⟩) HLB4.out).trans HC5.out
                (try dsimp only at hSw)
                go_simp
                (try with_reducible rfl)
              try simp only [Act.put, List.getElem_toArray, List.getElem_cons_zero, List.getElem_cons_succ, List.setIfInBounds_toArray, List.set_cons_zero, List.set_cons_succ]
              refine wpAnyH_take (i := 13) (v := ?_) rfl (by kernel_rfl) (by kernel_rfl) (by kernel_rfl) (fun _ _ _ h => h) (Or.inl ⟨by rfl, ?_⟩) (by assumption) ?_
              rotate_left
              · intro w hSw
                have hcv := (HU4.out.on hSw).string
                (try dsimp only at hSw)
                go_simp
                (try with_reducible rfl)
              try simp only [Act.put, List.getElem_toArray, List.getElem_cons_zero, List.getElem_cons_succ, List.setIfInBounds_toArray, List.set_cons_zero, List.set_cons_succ]
              refine wpAnyH_take (i := 14) (v := ?_) rfl (by kernel_rfl) (by kernel_rfl) (by kernel_rfl) (fun _ _ _ h => h) (Or.inl ⟨by rfl, ?_⟩) (by assumption) ?_
              rotate_left
              · intro w hSw
                (try dsimp only at hSw)
                go_simp
                (try with_reducible rfl)
              try simp only [Act.put, List.getElem_toArray, List.getElem_cons_zero, List.getElem_cons_succ, List.setIfInBounds_toArray, List.set_cons_zero, List.set_cons_succ]
              refine wpAnyH_take (i := 15) (v := ?_) rfl (by kernel_rfl) (by kernel_rfl) (by kernel_rfl) (fun _ _ _ h => h) (Or.inl ⟨by rfl, ?_⟩) (by assumption) ?_
              rotate_left
              · intro w hSw
                (try dsimp only at hSw)
                go_simp
                (try with_reducible rfl)
              try simp only [Act.put, List.getElem_toArray, List.getElem_cons_zero, List.getElem_cons_succ, List.setIfInBounds_toArray, List.set_cons_zero, List.set_cons_succ]
              refine wpAnyH_done (by kernel_rfl) ?_ _
              have HPE := Lib.hid (HP4.out.on hHeld)
              clear hHeld
              go_wp2_with fail
              go_roundw
              case rel => exact ⟨m + 1, by omega, by go_num, HPE.out⟩
              case measure => simp [intOf]; omega
            · obtain rfl : m = k := by omega
              have HBE := Lib.hid HP.out.below
              go_wp2_with fail
              go_ret
              exact ⟨rfl, HBE.out⟩

theorem filesPlay_walk (a : Option Addr) (n cap : Nat) (w : World) (hD : ∃ X S V B, DeedsF w a n X S V B) :
    Calls Try.prog 3 #[.slice a n cap] w fun e w' => e = .returned (.bool true) ∧ Below w.heap.size w w' := by
  obtain ⟨X, S, V, B, hD⟩ := hD
  by_cases h : 120 < n
  · exact play_out a n cap w h
  · exact play_main a n cap w X S V B hD (by omega)
end Go.Proofs.Ytidncccbgihhhaa
