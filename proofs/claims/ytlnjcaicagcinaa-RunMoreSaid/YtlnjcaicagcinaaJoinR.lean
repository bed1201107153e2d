/-
  The walk of RunMore (layer 8): it returns true and changes nothing that was there. No conditions.
-/
import Derived.Test.YtlnjcaicagcinaaJoinL
import Derived.Deep.RegionHeld3
namespace Go.Proofs.Ytlnjcaicagcinaa
open Go.ChangeShapes Go.WideShapes Go.ChangeAt Go.RowKit

/- what Begun lays is the same each time -/
theorem begs_fun (B : List Blk) : ∀ (n : Nat) (L L' : List ZR) (l l' : List Nat), Begs B n L l → Begs B n L' l' → L.map ZR.z = L'.map ZR.z ∧ l = l'
  | 0, L, L', l, l', h, h' => by
    obtain ⟨rfl, rfl⟩ := h
    obtain ⟨rfl, rfl⟩ := h'
    exact ⟨rfl, rfl⟩
  | n + 1, L, L', l, l', h, h' => by
    obtain ⟨L0, l0, d, hb, hd, ha, rfl⟩ := h
    obtain ⟨L1, l1, d', hb', hd', ha', rfl⟩ := h'
    rw [hd] at hd'
    cases hd'
    obtain ⟨e1, rfl⟩ := begs_fun B n L0 L1 l0 l1 hb hb'
    refine ⟨?_, rfl⟩
    rcases ha with ⟨hm, A, C, hs, e⟩ | ⟨hn, e⟩
    · rcases ha' with ⟨hm', A', C', hs', e'⟩ | ⟨hn', e'⟩
      · rw [e1] at hs
        obtain ⟨rfl, rfl⟩ := split_one hs hs'
        rw [e, e']
      · rw [e1] at hm
        exact absurd hm hn'
    · rcases ha' with ⟨hm', A', C', hs', e'⟩ | ⟨hn', e'⟩
      · rw [e1] at hn
        exact absurd hm' hn
      · rw [e, e', e1]
theorem callOf_more (Z : List ZV) (p : Int) (l : List Nat) (fuel more : Int) (h0 : 0 ≤ fuel) (h1 : fuel ≤ 400) (h2 : 0 ≤ more) (h3 : more ≤ 400) :
    (callOf Z p l fuel).n ≤ fuel ∧ (callOf Z p l fuel).n ≤ (callOf Z p l (fuel + more)).n ∧ ((callOf Z p l fuel).e = 2 → (callOf Z p l fuel).n = fuel) ∧ ((callOf Z p l fuel).e ≠ 2 → callOf Z p l (fuel + more) = callOf Z p l fuel) := by
  unfold callOf
  have e1 : most (fuel + more) = most fuel + more.toNat := by unfold most; omega
  have e2 : ((most fuel : Nat) : Int) = fuel := by unfold most; omega
  rw [e1]
  obtain ⟨s1, s2, s3, s4⟩ := runOf_steps Z (most fuel) regs0 p l 0
  exact ⟨by omega, runOf_grows Z _ _ _ _ _ _, fun h => by have := s3 h; omega, fun h => runOf_more Z _ _ _ _ _ _ h⟩

set_option maxRecDepth 100000 in
set_option maxHeartbeats 8000000 in
theorem runMore_main (a : Option Addr) (n cap : Nat) (at_ fuel more : Int) (B : List Blk) (w : World) (h : Blks w a n B) (hf : FewB B) (h0 : 0 ≤ fuel) (h400 : fuel ≤ 400) (h1 : 0 ≤ more) (h401 : more ≤ 400) :
    Calls Try.prog 3 #[.slice a n cap, .int .i64 at_, .int .i64 fuel, .int .i64 more] w fun e w' => e = .returned (.bool true) ∧ Below w.heap.size w w' := by
  have HB := Lib.hid h
  have HF := Lib.hid hf
  have e1 : (if FewB B then (1 : Int) else 0) = 1 := if_pos hf
  have i1 : ¬ fuel < 0 := by omega
  have i2 : ¬ 400 < fuel := by omega
  have i3 : ¬ more < 0 := by omega
  have i4 : ¬ 400 < more := by omega
  have HMore := Lib.hid (fun Z l => callOf_more Z at_ l fuel more h0 h400 h1 h401)
  clear h hf
  go_enter Try.func3, Try.ntmps3
  go_wp2_with fail
  refine (up08 _).mono ?_
  rintro e w1 ⟨rfl, hb1⟩
  go_wp2_with fail
  refine (few7_any a n cap B _ (HB.out.on hb1)).mono ?_
  rintro e w2 ⟨rfl, rfl⟩
  rw [e1]
  clear e1
  have HBg := Lib.hid (begun_any a n cap B w1 (HB.out.on hb1) HF.out)
  have B1 := Lib.hid hb1
  clear hb1
  go_wp2_with fail
  refine HBg.out.mono ?_
  rintro e w3 ⟨mp, g, zp, mb, xp, xb, L, M, mv, l, rfl, hduo, hbegs, -⟩
  have b3 : Below w.heap.size w w3 := B1.out.trans (hduo.both.zoo.below.mono B1.out.size)
  have HBg2 := Lib.hid (begun_any a n cap B w3 (HB.out.on b3) HF.out)
  obtain ⟨lv, hz, -⟩ := hduo.both.zoo.is
  have HM3 := Lib.hid hduo.mem
  have HZ3 := Lib.hid hz
  have HLow := Lib.hid (And.intro B1.out.size hduo.low.2.1)
  have HBe := Lib.hid hbegs
  have HLl := Lib.hid hduo.len
  have B3 := Lib.hid b3
  clear hz hbegs hduo HBg b3
  go_wp2_with fail
  refine HBg2.out.mono ?_
  rintro e w4 ⟨mp2, g2, zp2, mb2, xp2, xb2, L2, M2, mv2, l2, rfl, hduo, hbegs, -⟩
  obtain ⟨eL, rfl⟩ := begs_fun B n L L2 l l2 HBe.out hbegs
  obtain ⟨lv2, hz, -⟩ := hduo.both.zoo.is
  have K4 : Hid (Kept No w3 w4) := Kept.of_below hduo.both.zoo.below
  have HM4 := Lib.hid (HM3.out.keep K4.out (fun h => h) (fun h => h))
  have HZ4 := Lib.hid (HZ3.out.keep_row K4.out fun _ h => h.elim)
  have HN4 := Lib.hid hduo.mem
  have HY4 := Lib.hid hz
  have NE : Hid (g2 ≠ g) := by show _ ≠ _; have h1 := hduo.low.2.1; have h2 := HM3.out.row.lt; omega
  have HL2 := Lib.hid hduo.low.2.1
  have HE := Lib.hid eL
  clear hz hbegs hduo HBg2 HBe HM3 HZ3 eL
  go_wp2_with fail
  refine (call_any HM4.out HZ4.out at_ fuel).mono ?_
  rintro e w5 ⟨rfl, m5, k5⟩
  have hol : (callOf (L.map ZR.z) at_ l fuel).l.length = 2048 := by unfold callOf; rw [runOf_len]; exact HLl.out
  obtain ⟨hm1, hm2, hm3, hm4⟩ := HMore.out (L.map ZR.z) l
  obtain ⟨w6, hw6⟩ : ∃ w6, w6 = w5.alloc (.cells #[.int .i64 (callOf (L.map ZR.z) at_ l fuel).e, .int .i64 (callOf (L.map ZR.z) at_ l fuel).t, .int .i64 (callOf (L.map ZR.z) at_ l fuel).n] OT) := ⟨_, rfl⟩
  have k6 : Kept (· = g) w4 w6 := by rw [hw6]; exact k5.alloc _
  have q6 : Kept No w5 w6 := by rw [hw6]; exact (Kept.refl _ _).alloc _
  have r6 : RowAt w6 w5.heap.size OT [.int .i64 (callOf (L.map ZR.z) at_ l fuel).e, .int .i64 (callOf (L.map ZR.z) at_ l fuel).t, .int .i64 (callOf (L.map ZR.z) at_ l fuel).n] := by rw [hw6]; exact RowAt.new w5 OT _
  have m6 := m5.keep q6 (fun h => h) (fun h => h)
  have n6 := HN4.out.keep k6 (RowAt.ne_type (mhead HN4.out) (brow HM4.out.row) (by decide)) NE.out
  have hc := call_any n6 (zat_g HY4.out HM4.out k6) at_ (fuel + more)
  rw [← HE.out] at hc
  have HC := Lib.hid hc
  have M6 := Lib.hid m6
  have N6 := Lib.hid n6
  have R6 := Lib.hid r6
  have K6 := Lib.hid k6
  have HOl := Lib.hid hol
  clear hc m6 n6 r6 k6 q6 m5 k5 hol HMore
  by_cases he : (callOf (L.map ZR.z) at_ l fuel).e = 2
  · as_aux_lemma =>
    have hn := hm3 he
    have c1 : ¬ fuel < (callOf (L.map ZR.z) at_ l fuel).n := by omega
    have c2 : ¬ (callOf (L.map ZR.z) at_ l (fuel + more)).n < (callOf (L.map ZR.z) at_ l fuel).n := by omega
    clear hm1 hm2 hm3 hm4
    generalize callOf (L.map ZR.z) at_ l fuel = o at *
    generalize callOf (L.map ZR.z) at_ l (fuel + more) = o2 at *
    obtain ⟨oe, ot, on, ol⟩ := o
    simp only at *
    subst he hn
    go_wp2_with fail
    rw [← hw6]
    clear hw6
    refine HC.out.mono ?_
    rintro e w7 ⟨rfl, m7, k7⟩
    have r7 := RowAt.new w7 OT [.int .i64 o2.e, .int .i64 o2.t, .int .i64 o2.n]
    have s7 := R6.out.keep (k7.alloc (.cells #[.int .i64 o2.e, .int .i64 o2.t, .int .i64 o2.n] OT)) (RowAt.ne_type R6.out (brow N6.out.row) (by decide))
    have K8 : Hid (Kept (fun j => j = g ∨ j = g2) w4 (w7.alloc (.cells #[.int .i64 o2.e, .int .i64 o2.t, .int .i64 o2.n] OT))) := (K6.out.wide2 fun _ e => .inl e).trans ((k7.alloc _).wide2 fun _ e => .inr e)
    obtain ⟨a0, a1, a2⟩ := cells3 s7
    obtain ⟨a3, a4, a5⟩ := cells3 r7
    clear m7 k7 r7 s7
    go_wp2_with fail
    go_ret
    refine ⟨rfl, (K8.out.below (B3.out.trans (K4.out.none.mono B3.out.size)) (Nat.le_trans B3.out.size K4.out.more) fun j _ hj => ?_)⟩
    have h1 := HLow.out.1
    have h2 := HLow.out.2
    have h3 := HL2.out
    have h4 := B3.out.size
    rcases hj with hj | hj <;> omega
  · have he2 := hm4 he
    rw [he2] at HC
    have c1 : ¬ fuel < (callOf (L.map ZR.z) at_ l fuel).n := by omega
    have c3 : ((callOf (L.map ZR.z) at_ l fuel).e == 2) = false := by simpa using he
    clear hm1 hm2 hm3 hm4 he he2
    generalize callOf (L.map ZR.z) at_ l fuel = o at *
    go_wp2_with fail
    rw [← hw6]
    clear hw6
    refine HC.out.mono ?_
    rintro e w7 ⟨rfl, m7, k7⟩
    have r7 := RowAt.new w7 OT [.int .i64 o.e, .int .i64 o.t, .int .i64 o.n]
    have s7 := R6.out.keep (k7.alloc (.cells #[.int .i64 o.e, .int .i64 o.t, .int .i64 o.n] OT)) (RowAt.ne_type R6.out (brow N6.out.row) (by decide))
    have p7 := M6.out.keep (k7.alloc (.cells #[.int .i64 o.e, .int .i64 o.t, .int .i64 o.n] OT)) (RowAt.ne_type (mhead M6.out) (brow N6.out.row) (by decide)) (fun e => NE.out e.symm)
    have n7 := m7.keep ((Kept.refl No w7).alloc (.cells #[.int .i64 o.e, .int .i64 o.t, .int .i64 o.n] OT)) (fun h => h) (fun h => h)
    have K8 : Hid (Kept (fun j => j = g ∨ j = g2) w4 (w7.alloc (.cells #[.int .i64 o.e, .int .i64 o.t, .int .i64 o.n] OT))) := (K6.out.wide2 fun _ e => .inl e).trans ((k7.alloc _).wide2 fun _ e => .inr e)
    obtain ⟨a0, a1, a2⟩ := cells3 s7
    obtain ⟨a3, a4, a5⟩ := cells3 r7
    have P7 := Lib.hid p7
    have N7 := Lib.hid n7
    have R7 := Lib.hid r7
    have S7 := Lib.hid s7
    clear m7 k7 r7 s7 p7 n7 HC M6 N6 R6
    go_wp2_with fail
    obtain ⟨w8, hw8⟩ : ∃ w8, w8 = w7.alloc (.cells #[.int .i64 o.e, .int .i64 o.t, .int .i64 o.n] OT) := ⟨_, rfl⟩
    rw [← hw8] at K8 P7 N7 R7 S7
    rw [← hw8]
    clear hw8 a0 a1 a2 a3 a4 a5
    generalize w5.heap.size = oa at *
    generalize w7.heap.size = ob at *
    have HS := Lib.hid (fun v (kv : Kept No w8 v) => (⟨⟨S7.out.keep kv (fun h => h), R7.out.keep kv (fun h => h)⟩, kv⟩ : (RowAt v oa OT [.int .i64 o.e, .int .i64 o.t, .int .i64 o.n] ∧ RowAt v ob OT [.int .i64 o.e, .int .i64 o.t, .int .i64 o.n]) ∧ Kept No w8 v))
    refine wp_region_held_drew (S := fun w' => (RowAt w' oa OT [.int .i64 o.e, .int .i64 o.t, .int .i64 o.n] ∧ RowAt w' ob OT [.int .i64 o.e, .int .i64 o.t, .int .i64 o.n]) ∧ Kept No w8 w') (by kernel_rfl) ?_ (fun hHeld => ?_)
    · exact HS.out _ (Kept.refl _ _).drew
    refine wpAnyH_take (i := 0) (v := ?_) rfl (by kernel_rfl) (by kernel_rfl) (by kernel_rfl) (fun _ _ _ h => h) (Or.inl ⟨by rfl, ?_⟩) (by assumption) ?_
    rotate_left
    · intro w hSw
      (try dsimp only at hSw)
      go_simp
      (try with_reducible rfl)
    try simp only [Act.put, List.getElem_toArray, List.getElem_cons_zero, List.setIfInBounds_toArray, List.set_cons_zero, List.set_cons_succ]
    refine wpAnyH_take (i := 1) (v := ?_) rfl (by kernel_rfl) (by kernel_rfl) (by kernel_rfl) (fun _ _ _ h => h) (Or.inl ⟨by rfl, ?_⟩) (by assumption) ?_
    rotate_left
    · intro w hSw
      (try dsimp only at hSw)
      go_simp
      (try with_reducible rfl)
    try simp only [Act.put, List.getElem_toArray, List.getElem_cons_zero, List.getElem_cons_succ, List.setIfInBounds_toArray, List.set_cons_zero, List.set_cons_succ]
    refine wpAnyH_take (i := 2) (v := _) rfl (by kernel_rfl) (by kernel_rfl) (by kernel_rfl) (fun _ _ _ h => h) (yieldsIf_load_mid (by rfl) _ _ rfl _ _ rfl _ _ (fun w hSw => hSw.1.1.range) (Try.underlying31) rfl (by rw [size_ot]; rfl)) (by assumption) ?_
    try simp only [Act.put, List.getElem_toArray, List.getElem_cons_zero, List.getElem_cons_succ, List.setIfInBounds_toArray, List.set_cons_zero, List.set_cons_succ]
    refine wpAnyH_take (i := 3) (v := _) rfl (by kernel_rfl) (by kernel_rfl) (by kernel_rfl) (fun _ _ _ h => h) (yieldsIf_load_mid (by rfl) _ _ rfl _ _ rfl _ _ (fun w hSw => hSw.1.2.range) (Try.underlying31) rfl (by rw [size_ot]; rfl)) (by assumption) ?_
    try simp only [Act.put, List.getElem_toArray, List.getElem_cons_zero, List.getElem_cons_succ, List.setIfInBounds_toArray, List.set_cons_zero, List.set_cons_succ]
    refine wpAnyH_take (i := 4) (v := ?_) rfl (by kernel_rfl) (by kernel_rfl) (by kernel_rfl) (fun _ _ _ h => h) (Or.inl ⟨by rfl, ?_⟩) (by assumption) ?_
    rotate_left
    · intro w hSw
      (try dsimp only at hSw)
      go_simp
      (try with_reducible rfl)
    try simp only [Act.put, List.getElem_toArray, List.getElem_cons_zero, List.getElem_cons_succ, List.setIfInBounds_toArray, List.set_cons_zero, List.set_cons_succ]
    refine wpAnyH_take (i := 5) (v := ?_) rfl (by kernel_rfl) (by kernel_rfl) (by kernel_rfl) (fun _ _ _ h => h) (Or.inl ⟨by rfl, ?_⟩) (by assumption) ?_
    rotate_left
    · intro w hSw
      (try dsimp only at hSw)
      go_simp
      (try with_reducible rfl)
    try simp only [Act.put, List.getElem_toArray, List.getElem_cons_zero, List.getElem_cons_succ, List.setIfInBounds_toArray, List.set_cons_zero, List.set_cons_succ]
    refine wpAnyH_take (i := 6) (v := ?_) rfl (by kernel_rfl) (by kernel_rfl) (by kernel_rfl) (fun _ _ _ h => h) (Or.inl ⟨by rfl, ?_⟩) (by assumption) ?_
    rotate_left
    · intro w hSw
      (try dsimp only at hSw)
      go_simp
      (try with_reducible rfl)
    try simp only [Act.put, List.getElem_toArray, List.getElem_cons_zero, List.getElem_cons_succ, List.setIfInBounds_toArray, List.set_cons_zero, List.set_cons_succ]
    refine wpAnyH_take (i := 7) (v := ?_) rfl (by kernel_rfl) (by kernel_rfl) (by kernel_rfl) (fun _ _ _ h => h) (Or.inl ⟨by rfl, ?_⟩) (by assumption) ?_
    rotate_left
    · intro w hSw
      (try dsimp only at hSw)
      go_simp
      (try with_reducible rfl)
    try simp only [Act.put, List.getElem_toArray, List.getElem_cons_zero, List.getElem_cons_succ, List.setIfInBounds_toArray, List.set_cons_zero, List.set_cons_succ]
    refine wpAnyH_take (i := 10) (v := ?_) rfl (by kernel_rfl) (by kernel_rfl) (by kernel_rfl) (fun _ _ _ h => h) (Or.inl ⟨by rfl, ?_⟩) (by assumption) ?_
    rotate_left
    · intro w hSw
      (try dsimp only at hSw)
      go_simp
      (try with_reducible rfl)
    try simp only [Act.put, List.getElem_toArray, List.getElem_cons_zero, List.getElem_cons_succ, List.setIfInBounds_toArray, List.set_cons_zero, List.set_cons_succ]
    refine wpAnyH_ready (rs := [8]) (by kernel_rfl) (by simp) ?_
    refine AllReadyH.cons rfl (fun K hK => ?_) AllReadyH.nil
    go_simp
    refine (bytes_all (P7.out.keep hHeld.2 (fun h => h) (fun h => h)) HOl.out).mono ?_
    rintro e wE ⟨rfl, hbE, kE⟩
    have hbE2 : ByteRow wE w8.heap.size o.l := hbE
    have HBE := Lib.hid hbE2
    have KE := Lib.hid (hHeld.2.trans kE)
    clear hbE hbE2 kE
    first | show K _ _ | go_wp2_with fail
    refine hK.out _ _ ?_ (fun hHeld1 => ?_)
    · exact HS.out _ KE.out
    clear hK K
    try simp only [Act.put, List.getElem_toArray, List.getElem_cons_zero, List.getElem_cons_succ, List.setIfInBounds_toArray, List.set_cons_zero, List.set_cons_succ]
    refine held_now (fun w' => ByteRow w' w8.heap.size o.l ∧ Kept No wE w') (fun _ h => HS.out _ (KE.out.trans h.2)) ?_ (fun hHeld2 => ?_)
    · exact ⟨HBE.out, Kept.refl _ _⟩
    refine wpAnyH_take (i := 9) (v := ?_) rfl (by kernel_rfl) (by kernel_rfl) (by kernel_rfl) (fun _ _ _ h => h) (Or.inl ⟨by rfl, ?_⟩) (by assumption) ?_
    rotate_left
    · intro w hSw
      have hcv := row_string hSw.1 0 2048 2048 (by rw [HOl.out]; omega) 2048 rfl
      (try dsimp only at hSw)
      go_simp
      (try with_reducible rfl)
    try simp only [Act.put, List.getElem_toArray, List.getElem_cons_zero, List.getElem_cons_succ, List.setIfInBounds_toArray, List.set_cons_zero, List.set_cons_succ]
    refine wpAnyH_ready (rs := [11]) (by kernel_rfl) (by simp) ?_
    refine AllReadyH.cons rfl (fun K hK => ?_) AllReadyH.nil
    go_simp
    refine (bytes_all (N7.out.keep KE.out (fun h => h) (fun h => h)) HOl.out).mono ?_
    rintro e wF ⟨rfl, hbF, kF⟩
    have hcv := row_string hbF 0 2048 2048 (by rw [HOl.out]; omega) 2048 rfl
    have KF := Lib.hid kF
    clear hbF kF
    first | show K _ _ | go_wp2_with fail
    refine hK.out _ _ ?_ (fun hHeld3 => ?_)
    · exact ⟨HBE.out.keep KF.out (fun h => h), KF.out⟩
    clear hK K
    try simp only [Act.put, List.getElem_toArray, List.getElem_cons_zero, List.getElem_cons_succ, List.setIfInBounds_toArray, List.set_cons_zero, List.set_cons_succ]
    refine wpAnyH_ready (rs := [12]) (by kernel_rfl) (by simp) ?_
    refine AllReadyH.cons rfl (fun K hK => ?_) AllReadyH.nil
    go_simp
    refine hK.out _ _ ?_ (fun hHeld4 => ?_)
    · exact hHeld3
    clear hK K
    try simp only [Act.put, List.getElem_toArray, List.getElem_cons_zero, List.getElem_cons_succ, List.setIfInBounds_toArray, List.set_cons_zero, List.set_cons_succ]
    refine wpAnyH_take (i := 13) (v := ?_) rfl (by kernel_rfl) (by kernel_rfl) (by kernel_rfl) (fun _ _ _ h => h) (Or.inl ⟨by rfl, ?_⟩) (by assumption) ?_
    rotate_left
    · intro w hSw
      (try dsimp only at hSw)
      go_simp
      (try with_reducible rfl)
    try simp only [Act.put, List.getElem_toArray, List.getElem_cons_zero, List.getElem_cons_succ, List.setIfInBounds_toArray, List.set_cons_zero, List.set_cons_succ]
    refine wpAnyH_take (i := 14) (v := ?_) rfl (by kernel_rfl) (by kernel_rfl) (by kernel_rfl) (fun _ _ _ h => h) (Or.inl ⟨by rfl, ?_⟩) (by assumption) ?_
    rotate_left
    · intro w hSw
      (try dsimp only at hSw)
      go_simp
      (try with_reducible rfl)
    try simp only [Act.put, List.getElem_toArray, List.getElem_cons_zero, List.getElem_cons_succ, List.setIfInBounds_toArray, List.set_cons_zero, List.set_cons_succ]
    refine wpAnyH_take (i := 15) (v := ?_) rfl (by kernel_rfl) (by kernel_rfl) (by kernel_rfl) (fun _ _ _ h => h) (Or.inl ⟨by rfl, ?_⟩) (by assumption) ?_
    rotate_left
    · intro w hSw
      (try dsimp only at hSw)
      go_simp
      (try with_reducible rfl)
    try simp only [Act.put, List.getElem_toArray, List.getElem_cons_zero, List.getElem_cons_succ, List.setIfInBounds_toArray, List.set_cons_zero, List.set_cons_succ]
    refine wpAnyH_done (by kernel_rfl) ?_ _
    clear hHeld hHeld1 hHeld2 hHeld3 hHeld4 hcv
    go_wp2_with fail
    go_ret
    refine ⟨rfl, ((K8.out.trans (KE.out.trans KF.out).up).below (B3.out.trans (K4.out.none.mono B3.out.size)) (Nat.le_trans B3.out.size K4.out.more) fun j _ hj => ?_)⟩
    have h1 := HLow.out.1
    have h2 := HLow.out.2
    have h3 := HL2.out
    have h4 := B3.out.size
    rcases hj with hj | hj <;> omega

set_option maxRecDepth 100000 in
set_option maxHeartbeats 8000000 in
theorem runMore_not (a : Option Addr) (n cap : Nat) (at_ fuel more : Int) (B : List Blk) (w : World) (h : Blks w a n B) (hno : ¬ FewB B ∨ fuel < 0 ∨ 400 < fuel ∨ more < 0 ∨ 400 < more) :
    Calls Try.prog 3 #[.slice a n cap, .int .i64 at_, .int .i64 fuel, .int .i64 more] w fun e w' => e = .returned (.bool true) ∧ Below w.heap.size w w' := by
  have HB := Lib.hid h
  clear h
  by_cases hf : FewB B
  · have e1 : (if FewB B then (1 : Int) else 0) = 1 := if_pos hf
    by_cases h1 : fuel < 0
    · clear hno hf
      go_enter Try.func3, Try.ntmps3
      go_wp2_with fail
      refine (up08 _).mono ?_
      rintro e w1 ⟨rfl, hb1⟩
      go_wp2_with fail
      refine (few7_any a n cap B _ (HB.out.on hb1)).mono ?_
      rintro e w2 ⟨rfl, rfl⟩
      rw [e1]
      go_wp2_with fail
      go_ret
      exact ⟨rfl, hb1⟩
    · by_cases h2 : 400 < fuel
      · clear hno hf
        go_enter Try.func3, Try.ntmps3
        go_wp2_with fail
        refine (up08 _).mono ?_
        rintro e w1 ⟨rfl, hb1⟩
        go_wp2_with fail
        refine (few7_any a n cap B _ (HB.out.on hb1)).mono ?_
        rintro e w2 ⟨rfl, rfl⟩
        rw [e1]
        go_wp2_with fail
        go_ret
        exact ⟨rfl, hb1⟩
      · by_cases h3 : more < 0
        · clear hno hf
          go_enter Try.func3, Try.ntmps3
          go_wp2_with fail
          refine (up08 _).mono ?_
          rintro e w1 ⟨rfl, hb1⟩
          go_wp2_with fail
          refine (few7_any a n cap B _ (HB.out.on hb1)).mono ?_
          rintro e w2 ⟨rfl, rfl⟩
          rw [e1]
          go_wp2_with fail
          go_ret
          exact ⟨rfl, hb1⟩
        · have h4 : 400 < more := by
            rcases hno with h | h | h | h | h
            · exact absurd hf h
            · omega
            · omega
            · omega
            · exact h
          clear hno hf
          go_enter Try.func3, Try.ntmps3
          go_wp2_with fail
          refine (up08 _).mono ?_
          rintro e w1 ⟨rfl, hb1⟩
          go_wp2_with fail
          refine (few7_any a n cap B _ (HB.out.on hb1)).mono ?_
          rintro e w2 ⟨rfl, rfl⟩
          rw [e1]
          go_wp2_with fail
          go_ret
          exact ⟨rfl, hb1⟩
  · have e1 : (if FewB B then (1 : Int) else 0) = 0 := if_neg hf
    clear hno hf
    go_enter Try.func3, Try.ntmps3
    go_wp2_with fail
    refine (up08 _).mono ?_
    rintro e w1 ⟨rfl, hb1⟩
    go_wp2_with fail
    refine (few7_any a n cap B _ (HB.out.on hb1)).mono ?_
    rintro e w2 ⟨rfl, rfl⟩
    rw [e1]
    go_wp2_with fail
    go_ret
    exact ⟨rfl, hb1⟩

theorem runMore_walk (a : Option Addr) (n cap : Nat) (at_ fuel more : Int) (w : World) (hB : ∃ B, Blks w a n B) (_hat : (Lit.int .i64 at_).wf = true) (_hfl : (Lit.int .i64 fuel).wf = true) (_hmo : (Lit.int .i64 more).wf = true) :
    Calls Try.prog 3 #[.slice a n cap, .int .i64 at_, .int .i64 fuel, .int .i64 more] w fun e w' => e = .returned (.bool true) ∧ Below w.heap.size w w' := by
  obtain ⟨B, hB⟩ := hB
  by_cases hc : FewB B ∧ 0 ≤ fuel ∧ fuel ≤ 400 ∧ 0 ≤ more ∧ more ≤ 400
  · exact runMore_main a n cap at_ fuel more B w hB hc.1 hc.2.1 hc.2.2.1 hc.2.2.2.1 hc.2.2.2.2
  · refine runMore_not a n cap at_ fuel more B w hB ?_
    by_cases h1 : FewB B
    · have : ¬ (0 ≤ fuel ∧ fuel ≤ 400 ∧ 0 ≤ more ∧ more ≤ 400) := fun h => hc ⟨h1, h⟩
      omega
    · exact .inl h1
end Go.Proofs.Ytlnjcaicagcinaa
