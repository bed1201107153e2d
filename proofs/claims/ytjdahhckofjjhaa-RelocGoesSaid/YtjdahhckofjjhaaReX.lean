/-
  The walk of RelocGoes (layer 17): true at any numbers. No conditions.
-/
import Derived.Test.YtjdahhckofjjhaaReU
namespace Go.Proofs.Ytjdahhckofjjhaa
open Go.ChangeShapes Go.WideShapes Go.ChangeAt Go.RowKit

theorem make_words (n : Nat) (hn : n ≤ 100000) (w : World) : (Instr.makeSlice 22 (.int .i64 n) (.int .i64 n)).run Try.prog w = .ok (.slice (some ⟨w.heap.size, 0, none⟩) n n) (w.alloc (.cells (rows wordRow (List.replicate n 0)).toArray WdT)) := by
  have h := run_make_row' (P := Try.prog) 22 WdT (.int .u32 0) 4 Try.underlying22 info_wd rfl .i64 .i64 n (by omega) (by omega) w
  have e : madeCells #[Value.int .u32 0] n = (rows wordRow (List.replicate n 0)).toArray := by
    rw [rows_words]
    apply Array.ext
    · simp [size_madeCells]
    · intro i h1 h2
      simp [madeCells, Nat.mod_one]
  rw [e] at h
  exact h
theorem lk_new (w wr : World) (n : Nat) (hn : n ≤ 100000) (hb : Below w.heap.size w wr) : Lk w (wr.alloc (.cells (rows wordRow (List.replicate n 0)).toArray WdT)) wr.heap.size n n (List.replicate n 0) := by
  refine ⟨⟨.inr ⟨wr.heap.size, n, [], rfl, by rw [List.append_nil]; exact RowAt.new wr WdT _, by simp, Nat.le_refl _, Nat.le_trans hn (by decide)⟩, by rw [rows_length 1 wordRow_len, List.length_replicate], fun u hu => by obtain ⟨x, _, hx⟩ := List.mem_flatMap.1 hu; exact wordRow_one x u hx⟩, List.length_replicate, fun x hx => by rw [List.eq_of_mem_replicate hx]; decide, hb.size, ?_⟩
  exact below_on hb ((Below.refl _ _).alloc (Nat.le_refl _) _) hb.size
/- the instruction's word -/
theorem word_parts {o a : Nat} (ho : o < 64) (ha : a < 16) : getN (insN o a 0 0) 26 6 = o ∧ getN (insN o a 0 0) 22 4 = a ∧ getN (insN o a 0 0) 18 4 = 0 ∧ signI (getN (insN o a 0 0) 0 18) 18 = 0 :=
  ⟨getN_26 o a 0 0 ho ha (by decide) (by decide), getN_22 o a 0 0 ha (by decide) (by decide), getN_18 o a 0 0 (by decide) (by decide), by rw [getN_0 o a 0 0 (by decide)]; decide⟩
theorem may_far {o a : Nat} (ho : o = 1 ∨ o = 20) (ha : a < 16) {n : Int} (h1 : -131072 ≤ n) (h2 : n ≤ 131071) : MayP (o : Int) (a : Int) (0 : Int) n := by
  unfold MayP isOpP isRegP isNumP
  rcases ho with rfl | rfl <;> omega
theorem linked {o a at_ : Nat} {from_ tgt : Int} {code : List Nat} {N : Int} (ho : o = 1 ∨ o = 20) (ha : a < 16) (hx : code[at_]? = some (insN o a 0 0)) (hN : N = if o = 20 then (tgt - from_ - 4 * (at_ : Int) - 4).tdiv 4 else tgt) (h1 : -131072 ≤ N) (h2 : N ≤ 131071) : linkV from_ code [((at_ : Nat), tgt)] = some (code.set at_ (insN o a 0 (lowN N))) := by
  obtain ⟨p1, p2, p3, p4⟩ := word_parts (o := o) (by omega) ha
  have hi : InsP (insN o a 0 0) := by
    unfold InsP
    rw [p1, p2, p3, p4]
    exact may_far ho ha (by decide) (by decide)
  have hr : relN (getN (insN o a 0 0) 26 6) from_ ((at_ : Nat) : Int) tgt = some N := by
    rw [p1]
    unfold relN
    rcases ho with rfl | rfl
    · rw [if_neg (by decide), if_pos rfl, hN, if_neg (by decide)]
    · rw [if_pos rfl, hN, if_pos rfl]
  have hm : MayP (getN (insN o a 0 0) 26 6 : Nat) (getN (insN o a 0 0) 22 4 : Nat) (getN (insN o a 0 0) 18 4 : Nat) N := by
    rw [p1, p2, p3]
    exact may_far ho ha h1 h2
  have h := link_on (from_ := from_) (l := []) (tg := tgt) hx hi hr hm
  have e : newW (insN o a 0 0) N = insN o a 0 (lowN N) := by unfold newW; rw [p1, p2, p3]
  rw [e] at h
  exact h.trans (by rw [linkV])
theorem got_back {o a : Nat} (ho : o = 1 ∨ o = 20) (ha : a < 16) {N : Int} (h1 : -131072 ≤ N) (h2 : N ≤ 131071) : getN (insN o a 0 (lowN N)) 26 6 = o ∧ getN (insN o a 0 (lowN N)) 22 4 = a ∧ getN (insN o a 0 (lowN N)) 18 4 = 0 ∧ signI (getN (insN o a 0 (lowN N)) 0 18) 18 = N ∧ InsP (insN o a 0 (lowN N)) := by
  have p1 := getN_26 o a 0 (lowN N) (by omega) ha (by decide) (lowN_lt N)
  have p2 := getN_22 o a 0 (lowN N) ha (by decide) (lowN_lt N)
  have p3 := getN_18 o a 0 (lowN N) (by decide) (lowN_lt N)
  have p4 : signI (getN (insN o a 0 (lowN N)) 0 18) 18 = N := by rw [getN_0 o a 0 (lowN N) (lowN_lt N)]; exact signI_low N h1 h2
  refine ⟨p1, p2, p3, p4, ?_⟩
  unfold InsP
  rw [p1, p2, p3, p4]
  exact may_far ho ha h1 h2
/- behind the instruction: code laid, linked, compared -/
set_option maxRecDepth 100000 in
set_option maxHeartbeats 8000000 in
theorem relocGoes_set (n at_ from_ tgt a : Int) (w : World) (h1 : 1 ≤ n) (h2 : n ≤ 100) (h3 : 0 ≤ at_) (h4 : at_ < n) (h5 : 0 ≤ from_) (h6 : from_ ≤ 60000) (h7 : 0 ≤ tgt) (h8 : tgt ≤ 65536) (h9 : 0 ≤ a) (h10 : a ≤ 15) :
    Calls Try.prog 4 #[.int .i64 n, .int .i64 at_, .int .i64 from_, .int .i64 tgt, .int .i64 a, .bool true] w fun e w' => e = .returned (.bool true) ∧ Below w.heap.size w w' := by
  obtain ⟨n, rfl⟩ := Int.eq_ofNat_of_zero_le (show 0 ≤ n by omega)
  obtain ⟨at_, rfl⟩ := Int.eq_ofNat_of_zero_le h3
  obtain ⟨a, rfl⟩ := Int.eq_ofNat_of_zero_le h9
  have g1 : decide ((100 : Int) < (n : Int)) = false := by simp; omega
  have g2 : decide ((at_ : Int) < 0) = false := by simp
  have g3 : decide ((n : Int) ≤ (at_ : Int)) = false := by simp; omega
  have g4 : decide (from_ < 0) = false := by simp; omega
  have g5 : decide (60000 < from_) = false := by simp; omega
  have g6 : decide (tgt < 0) = false := by simp; omega
  have g7 : decide (65536 < tgt) = false := by simp; omega
  have g8 : decide ((a : Int) < 0) = false := by simp
  have g9 : decide ((15 : Int) < (a : Int)) = false := by simp; omega
  have n100 : n ≤ 100 := by omega
  have hmk := make_words n (by omega)
  go_enter Try.func4, Try.ntmps4
  go_wp2_with fail
  refine (up17 w).mono ?_
  rintro e w1 ⟨rfl, hb1⟩
  have HB := Lib.hid hb1
  clear hb1
  have RUN := Lib.hid (box_ins17 w1 20 (a : Nat) 0 0)
  have hbi : Below w1.heap.size w1 (w1.alloc (.cells #[.int .i64 20, .int .i64 (a : Nat), .int .i64 0, .int .i64 0] IsT)) := (Below.refl _ _).alloc (Nat.le_refl _) _
  have HI2 : Hid (RowAt (w1.alloc (.cells #[.int .i64 20, .int .i64 (a : Nat), .int .i64 0, .int .i64 0] IsT)) w1.heap.size IsT [.int .i64 20, .int .i64 (a : Nat), .int .i64 0, .int .i64 0]) := RowAt.new w1 IsT _
  have HB2 := Lib.hid (below_on HB.out hbi HB.out.size)
  have HIW : Hid (w.heap.size ≤ w1.heap.size) := HB.out.size
  clear hbi HB
  go_upto_region 5 with (refine wpList_store_run _ rfl _ _ _ rfl _ _ rfl rfl (by exact RUN.out) ?_)
  clear RUN g1 g2 g3 g4 g5 g6 g7 g8 g9
  generalize w1.alloc (.cells #[.int .i64 20, .int .i64 (a : Nat), .int .i64 0, .int .i64 0] IsT) = w2 at *
  generalize w1.heap.size = ib at *
  have e0 : w2.cell? ⟨ib, 0, none⟩ = some (.int .i64 20) := HI2.out.cell 0
  have f0 : w2.frozen? ⟨ib, 0, none⟩ = false := HI2.out.free 0
  have HI3 : Hid (RowAt (w2.setCell ⟨ib, 0, none⟩ (.int .i64 1)) ib IsT [.int .i64 1, .int .i64 (a : Nat), .int .i64 0, .int .i64 0]) := HI2.out.setCell 0 (.int .i64 1)
  have HB3 : Hid (Below w.heap.size w (w2.setCell ⟨ib, 0, none⟩ (.int .i64 1))) := (kept_set w2 ib 0 _).below HB2.out HB2.out.size fun k _ e => by subst e; exact HIW.out
  clear HI2 HB2
  go_upto_region 7 with fail
  clear e0 f0
  generalize w2.setCell ⟨ib, 0, none⟩ (.int .i64 1) = w3 at *
  obtain ⟨o, ho⟩ : ∃ o : Nat, o = 1 := ⟨_, rfl⟩
  have HO : Hid (o = 1 ∨ o = 20) := .inl ho
  obtain ⟨N, hN⟩ : ∃ N, N = tgt := ⟨_, rfl⟩
  have HN : Hid (N = if o = 20 then (tgt - from_ - 4 * (at_ : Int) - 4).tdiv 4 else tgt) := by show N = _; rw [if_neg (by omega), hN]
  have HNR : Hid (-131072 ≤ N ∧ N ≤ 131071) := by show _ ∧ _; omega
  have HNT := Lib.hid hN
  have HLK0 := Lib.hid (lk_new w w3 n (by omega) HB3.out)
  have HI4 : Hid (RowAt (w3.alloc (.cells (rows wordRow (List.replicate n 0)).toArray WdT)) ib IsT [.int .i64 (o : Nat), .int .i64 (a : Nat), .int .i64 0, .int .i64 0]) := by rw [ho]; exact HI3.out.keep (Kept.of_below (S := fun _ => False) ((Below.refl _ _).alloc (Nat.le_refl _) _)) (fun e => e)
  have HNE : Hid (ib ≠ w3.heap.size) := fun e => by have := HI3.out.lt; omega
  clear HI3 HB3 ho hN
  go_upto_region 8 with fail
  clear hmk
  generalize w3.alloc (.cells (rows wordRow (List.replicate n 0)).toArray WdT) = w4 at *
  generalize w3.heap.size = cb at *
  go_wp2_with fail
  go_loopw [16] (fun i wr => ∃ (m : Nat) (cur : List Nat), m ≤ n ∧ i = .int .i64 (m : Nat) ∧ Lk w wr cb n n cur ∧ RowAt wr ib IsT [.int .i64 (o : Nat), .int .i64 (a : Nat), .int .i64 0, .int .i64 0]) (fun i _ => n - (intOf i).toNat)
  case atStart => exact ⟨0, _, Nat.zero_le _, rfl, HLK0.out, HI4.out⟩
  case round =>
    clear HLK0 HI4
    obtain ⟨m, cur, hm, rfl, hLK, hI⟩ := hrel
    have HLK := Lib.hid hLK
    have HI := Lib.hid hI
    clear hLK hI
    by_cases hlt : m < n
    · as_aux_lemma =>
      obtain ⟨y, hy⟩ : ∃ y, cur[m]? = some y := ⟨_, List.getElem?_eq_getElem (by have := HLK.out.len; omega)⟩
      have cc := HLK.out.cell hy
      have cf := HLK.out.free m
      have i1 : (m : Int) < (n : Int) := by omega
      have i2 : (0 : Int) ≤ (m : Int) := by omega
      have HLT : Hid (m < n) := hlt
      have HLK2 : Hid (Lk w (wr.setCell ⟨cb, m, none⟩ (.int .u32 ((m : Int) * 77))) cb n n (cur.set m (m * 77))) := by
        have := HLK.out.set hlt (y := m * 77) (by omega)
        rw [Int.natCast_mul] at this
        exact this
      have HI2 := Lib.hid (HI.out.keep (kept_set wr cb m (.int .u32 ((m : Int) * 77))) HNE.out)
      clear hy hlt hm HLK HI
      go_upto_region 10 with fail
      clear cc cf
      go_wp2_with fail
      go_roundw
      case rel => exact ⟨m + 1, _, HLT.out, by go_num, HLK2.out, HI2.out⟩
      case measure => have := HLT.out; simp [intOf]; omega
    · have i1 : ¬ (m : Int) < (n : Int) := by omega
      have HPI : Hid (∀ w : World, Calls Try.prog 8 #[.agg #[.int .i64 (o : Nat), .int .i64 (a : Nat), .int .i64 0, .int .i64 0]] w fun e w' => e = .returned (.int .u32 ((insN o a 0 0 : Nat) : Int)) ∧ Below w.heap.size w w') := fun w => refPutIns_any o a 0 0 w (by have := HO.out; omega) (by omega) (by decide) (by decide) (by decide)
      have HX4 : Hid (insN o a 0 0 < 4294967296) := insN_lt o a 0 0 (by have := HO.out; omega) (by omega) (by decide) (by decide)
      obtain ⟨x0, hx0⟩ : ∃ x0, x0 = insN o a 0 0 := ⟨_, rfl⟩
      have HX0 := Lib.hid hx0
      rw [← hx0] at HPI HX4
      obtain ⟨y, hy⟩ : ∃ y, cur[at_]? = some y := ⟨_, List.getElem?_eq_getElem (by have := HLK.out.len; omega)⟩
      have HY := Lib.hid hy
      have HAN : Hid (at_ < n) := by show at_ < n; omega
      clear hlt hm hx0 hy
      go_wp2_with (refine load_row_on rfl _ _ rfl ib rfl IsT #[.int .i64 (o : Nat), .int .i64 (a : Nat), .int .i64 0, .int .i64 0] (0, 0) _ HI.out Try.underlying39 rfl (by rw [size_it]; rfl) ?_)
      refine (HPI.out _).mono ?_
      rintro e w5 ⟨rfl, hb5⟩
      have HLK5 := Lib.hid (HLK.out.on hb5)
      have HI5 := Lib.hid (HI.out.keep (Kept.of_below (S := fun _ => False) hb5) (fun e => e))
      have cc := HLK5.out.cell HY.out
      have cf := HLK5.out.free at_
      have HLK6 := Lib.hid (HLK5.out.set HAN.out HX4.out)
      have HI6 := Lib.hid (HI5.out.keep (kept_set w5 cb at_ (.int .u32 ((x0 : Nat) : Int))) HNE.out)
      have j1 : (at_ : Int) < (n : Int) := by have := HAN.out; omega
      have j2 : (0 : Int) ≤ (at_ : Int) := by omega
      clear hb5 HLK HI HLK5 HI5 HPI HY
      go_upto_region 13 with fail
      clear cc cf
      generalize w5.setCell ⟨cb, at_, none⟩ (.int .u32 ((x0 : Nat) : Int)) = w6 at *
      obtain ⟨cur1, hc1⟩ : ∃ c, c = cur.set at_ x0 := ⟨_, rfl⟩
      rw [← hc1] at HLK6
      have HCX : Hid (cur1[at_]? = some x0) := by
        show _ = _
        have hl := HLK6.out.len
        rw [hc1] at hl ⊢
        rw [List.getElem?_set_self (by rw [List.length_set] at hl; have := HAN.out; omega)]
      clear hc1
      have HANS : Hid (linkV from_ cur1 [((at_ : Nat), tgt)] = some (cur1.set at_ (insN o a 0 (lowN N)))) := linked HO.out (by omega) (by rw [HCX.out, HX0.out]) HN.out HNR.out.1 HNR.out.2
      have hbx : Below w6.heap.size w6 (w6.alloc (.cells #[.int .i64 (at_ : Nat), .int .i64 tgt] RxT)) := (Below.refl _ _).alloc (Nat.le_refl _) _
      have HLK7 := Lib.hid (HLK6.out.on hbx)
      have HI7 := Lib.hid (HI6.out.keep (Kept.of_below (S := fun _ => False) hbx) (fun e => e))
      have HCL : Hid (Calls Try.prog 6 #[.slice (some ⟨cb, 0, none⟩) n n, .int .i64 from_, .slice (some ⟨w6.heap.size, 0, none⟩) 1 1] (w6.alloc (.cells #[.int .i64 (at_ : Nat), .int .i64 tgt] RxT)) fun e w' => LinkTold .nilIface formV (w6.alloc (.cells #[.int .i64 (at_ : Nat), .int .i64 tgt] RxT)) (some (cur1.set at_ (insN o a 0 (lowN N)))) e w') := by
        have := plink_any (.slice (some ⟨cb, 0, none⟩) n n) (.slice (some ⟨w6.heap.size, 0, none⟩) 1 1) cur1 from_ [((at_ : Nat), tgt)] (w6.alloc (.cells #[.int .i64 (at_ : Nat), .int .i64 tgt] RxT)) (by have h := HLK7.out.row; have hl := HLK7.out.len; rw [← hl] at h ⊢; exact h.els wordRow_len) HLK7.out.fit (one_fix w6 RxT (at_ : Nat) tgt) (by have := HLK7.out.len; omega) (by simp) (by omega) (by omega) (fun i x hx => by cases i with | zero => simp at hx; subst hx; exact ⟨by simp only; omega, by simp only; omega⟩ | succ i => simp at hx)
        rw [HANS.out] at this
        exact this
      clear hbx HLK6 HI6 HANS
      go_wp2_with fail
      refine HCL.out.mono ?_
      rintro e w8 ⟨⟨v8, rfl, he8, _⟩, hb8⟩
      have HLK8 := Lib.hid (HLK7.out.on hb8)
      have HI8 := Lib.hid (HI7.out.keep (Kept.of_below (S := fun _ => False) hb8) (fun e => e))
      have HE8 := Lib.hid he8
      obtain ⟨p8, c8, hv8, _⟩ := he8.shape
      rw [List.length_set, HLK8.out.len] at hv8
      subst hv8
      clear hb8 he8 HLK7 HI7 HCL
      go_wp2_with fail
      go_loopw [19] (fun i wr => Drawn w8 wr ∧ ∃ m : Nat, m ≤ n ∧ i = .int .i64 (m : Nat)) (fun i _ => n - (intOf i).toNat)
      case atStart => exact ⟨Drawn.refl _, 0, Nat.zero_le _, rfl⟩
      case round =>
        obtain ⟨hd, m, hm, rfl⟩ := hrel
        have HD := Lib.hid hd
        clear hd
        by_cases hlt : m < n
        · have k1 : (m : Int) < (n : Int) := by omega
          have k2 : (0 : Int) ≤ (m : Int) := by omega
          have HLT : Hid (m < n) := hlt
          by_cases hma : m = at_
          · as_aux_lemma =>
            have t1 : ((m : Int) != (at_ : Int)) = false := by simp [hma]
            clear hma hlt hm
            go_wp2_with fail
            refine wp_region_held_drew (S := fun w' => Drawn w8 w') (by kernel_rfl) ?_ (fun hHeld => ?_)
            · exact HD.out.more 1
            refine wpAnyH_take (i := 0) (v := ?_) rfl (by kernel_rfl) (by kernel_rfl) (by kernel_rfl) (fun _ _ _ h => h) (Or.inl ⟨by rfl, ?_⟩) (by assumption) ?_
            rotate_left
            · intro w hSw
              (try dsimp only at hSw)
              go_simp
              (try with_reducible rfl)
            try simp only [Act.put, List.getElem_toArray, List.getElem_cons_zero, List.setIfInBounds_toArray, List.set_cons_zero, List.set_cons_succ]
            refine wpAnyH_take (i := 1) (v := ?_) rfl (by kernel_rfl) (by kernel_rfl) (by kernel_rfl) (fun _ _ _ h => h) (Or.inl ⟨by rfl, ?_⟩) (by assumption) ?_
            rotate_left
            · intro w hSw
              (try dsimp only at hSw)
              go_simp
              (try with_reducible rfl)
            try simp only [Act.put, List.getElem_toArray, List.getElem_cons_zero, List.getElem_cons_succ, List.setIfInBounds_toArray, List.set_cons_zero, List.set_cons_succ]
            refine wpAnyH_take (i := 2) (v := ?_) rfl (by kernel_rfl) (by kernel_rfl) (by kernel_rfl) (fun _ _ _ h => h) (Or.inl ⟨by rfl, ?_⟩) (by assumption) ?_
            rotate_left
            · intro w hSw
              (try dsimp only at hSw)
              go_simp
              (try with_reducible rfl)
            try simp only [Act.put, List.getElem_toArray, List.getElem_cons_zero, List.getElem_cons_succ, List.setIfInBounds_toArray, List.set_cons_zero, List.set_cons_succ]
            refine wpAnyH_take (i := 3) (v := ?_) rfl (by kernel_rfl) (by kernel_rfl) (by kernel_rfl) (fun _ _ _ h => h) (Or.inl ⟨by rfl, ?_⟩) (by assumption) ?_
            rotate_left
            · intro w hSw
              (try dsimp only at hSw)
              go_simp
              (try with_reducible rfl)
            try simp only [Act.put, List.getElem_toArray, List.getElem_cons_zero, List.getElem_cons_succ, List.setIfInBounds_toArray, List.set_cons_zero, List.set_cons_succ]
            refine wpAnyH_take (i := 4) (v := undef) rfl (by kernel_rfl) (by kernel_rfl) (by kernel_rfl) (fun _ _ _ h => h) (Or.inr ⟨by rfl, rfl⟩) (by assumption) ?_
            try simp only [Act.put, List.getElem_toArray, List.getElem_cons_zero, List.getElem_cons_succ, List.setIfInBounds_toArray, List.set_cons_zero, List.set_cons_succ]
            refine wpAnyH_take (i := 5) (v := undef) rfl (by kernel_rfl) (by kernel_rfl) (by kernel_rfl) (fun _ _ _ h => h) (Or.inr ⟨by rfl, rfl⟩) (by assumption) ?_
            try simp only [Act.put, List.getElem_toArray, List.getElem_cons_zero, List.getElem_cons_succ, List.setIfInBounds_toArray, List.set_cons_zero, List.set_cons_succ]
            refine wpAnyH_take (i := 6) (v := undef) rfl (by kernel_rfl) (by kernel_rfl) (by kernel_rfl) (fun _ _ _ h => h) (Or.inr ⟨by rfl, rfl⟩) (by assumption) ?_
            try simp only [Act.put, List.getElem_toArray, List.getElem_cons_zero, List.getElem_cons_succ, List.setIfInBounds_toArray, List.set_cons_zero, List.set_cons_succ]
            refine wpAnyH_take (i := 7) (v := undef) rfl (by kernel_rfl) (by kernel_rfl) (by kernel_rfl) (fun _ _ _ h => h) (Or.inr ⟨by rfl, rfl⟩) (by assumption) ?_
            try simp only [Act.put, List.getElem_toArray, List.getElem_cons_zero, List.getElem_cons_succ, List.setIfInBounds_toArray, List.set_cons_zero, List.set_cons_succ]
            refine wpAnyH_take (i := 8) (v := undef) rfl (by kernel_rfl) (by kernel_rfl) (by kernel_rfl) (fun _ _ _ h => h) (Or.inr ⟨by rfl, rfl⟩) (by assumption) ?_
            try simp only [Act.put, List.getElem_toArray, List.getElem_cons_zero, List.getElem_cons_succ, List.setIfInBounds_toArray, List.set_cons_zero, List.set_cons_succ]
            refine wpAnyH_take (i := 9) (v := undef) rfl (by kernel_rfl) (by kernel_rfl) (by kernel_rfl) (fun _ _ _ h => h) (Or.inr ⟨by rfl, rfl⟩) (by assumption) ?_
            try simp only [Act.put, List.getElem_toArray, List.getElem_cons_zero, List.getElem_cons_succ, List.setIfInBounds_toArray, List.set_cons_zero, List.set_cons_succ]
            refine wpAnyH_take (i := 10) (v := undef) rfl (by kernel_rfl) (by kernel_rfl) (by kernel_rfl) (fun _ _ _ h => h) (Or.inr ⟨by rfl, rfl⟩) (by assumption) ?_
            try simp only [Act.put, List.getElem_toArray, List.getElem_cons_zero, List.getElem_cons_succ, List.setIfInBounds_toArray, List.set_cons_zero, List.set_cons_succ]
            refine wpAnyH_take (i := 11) (v := undef) rfl (by kernel_rfl) (by kernel_rfl) (by kernel_rfl) (fun _ _ _ h => h) (Or.inr ⟨by rfl, rfl⟩) (by assumption) ?_
            try simp only [Act.put, List.getElem_toArray, List.getElem_cons_zero, List.getElem_cons_succ, List.setIfInBounds_toArray, List.set_cons_zero, List.set_cons_succ]
            refine wpAnyH_take (i := 12) (v := undef) rfl (by kernel_rfl) (by kernel_rfl) (by kernel_rfl) (fun _ _ _ h => h) (Or.inr ⟨by rfl, rfl⟩) (by assumption) ?_
            try simp only [Act.put, List.getElem_toArray, List.getElem_cons_zero, List.getElem_cons_succ, List.setIfInBounds_toArray, List.set_cons_zero, List.set_cons_succ]
            refine wpAnyH_take (i := 13) (v := ?_) rfl (by kernel_rfl) (by kernel_rfl) (by kernel_rfl) (fun _ _ _ h => h) (Or.inl ⟨by rfl, ?_⟩) (by assumption) ?_
            rotate_left
            · intro w hSw
              (try dsimp only at hSw)
              go_simp
              (try with_reducible rfl)
            try simp only [Act.put, List.getElem_toArray, List.getElem_cons_zero, List.getElem_cons_succ, List.setIfInBounds_toArray, List.set_cons_zero, List.set_cons_succ]
            refine wpAnyH_done (by kernel_rfl) ?_ _
            have HD2 := Lib.hid hHeld
            clear hHeld HD t1
            go_wp2_with fail
            go_roundw
            case rel => exact ⟨HD2.out, m + 1, HLT.out, by go_num⟩
            case measure => have := HLT.out; simp [intOf]; omega
          · as_aux_lemma =>
            have t1 : ((m : Int) != (at_ : Int)) = true := by simp; omega
            obtain ⟨x, hx⟩ : ∃ x, cur1[m]? = some x := ⟨_, List.getElem?_eq_getElem (by have := HLK8.out.len; omega)⟩
            obtain ⟨b2, o2, q2, e2, _, g2⟩ := HE8.out.cell1 (i := m) (x := x) (c0 := .int .u32 ((x : Nat) : Int)) (by rw [List.getElem?_set_ne (by omega)]; exact hx) rfl
            rw [List.length_set, HLK8.out.len] at e2
            have eb : p8 = some ⟨b2, o2, none⟩ := by cases e2; rfl
            subst eb
            have d1 := (HD.out.cell ⟨cb, m, none⟩).trans (HLK8.out.cell hx)
            have d2 := (HD.out.cell ⟨b2, o2 + m, none⟩).trans g2
            clear e2 g2 hx hma hlt hm
            go_wp2_with fail
            refine wp_region_held_drew (S := fun w' => (w'.cell? ⟨cb, m, none⟩ = some (.int .u32 ((x : Nat) : Int)) ∧ w'.cell? ⟨b2, o2 + m, none⟩ = some (.int .u32 ((x : Nat) : Int))) ∧ Drawn w8 w') (by kernel_rfl) ?_ (fun hHeld => ?_)
            · exact ⟨⟨d1, d2⟩, HD.out.more 1⟩
            refine wpAnyH_take (i := 0) (v := ?_) rfl (by kernel_rfl) (by kernel_rfl) (by kernel_rfl) (fun _ _ _ h => h) (Or.inl ⟨by rfl, ?_⟩) (by assumption) ?_
            rotate_left
            · intro w hSw
              (try dsimp only at hSw)
              go_simp
              (try with_reducible rfl)
            try simp only [Act.put, List.getElem_toArray, List.getElem_cons_zero, List.setIfInBounds_toArray, List.set_cons_zero, List.set_cons_succ]
            refine wpAnyH_take (i := 1) (v := ?_) rfl (by kernel_rfl) (by kernel_rfl) (by kernel_rfl) (fun _ _ _ h => h) (Or.inl ⟨by rfl, ?_⟩) (by assumption) ?_
            rotate_left
            · intro w hSw
              (try dsimp only at hSw)
              go_simp
              (try with_reducible rfl)
            try simp only [Act.put, List.getElem_toArray, List.getElem_cons_zero, List.getElem_cons_succ, List.setIfInBounds_toArray, List.set_cons_zero, List.set_cons_succ]
            refine wpAnyH_take (i := 2) (v := ?_) rfl (by kernel_rfl) (by kernel_rfl) (by kernel_rfl) (fun _ _ _ h => h) (Or.inl ⟨by rfl, ?_⟩) (by assumption) ?_
            rotate_left
            · intro w hSw
              (try dsimp only at hSw)
              go_simp
              (try with_reducible rfl)
            try simp only [Act.put, List.getElem_toArray, List.getElem_cons_zero, List.getElem_cons_succ, List.setIfInBounds_toArray, List.set_cons_zero, List.set_cons_succ]
            refine wpAnyH_take (i := 3) (v := ?_) rfl (by kernel_rfl) (by kernel_rfl) (by kernel_rfl) (fun _ _ _ h => h) (Or.inl ⟨by rfl, ?_⟩) (by assumption) ?_
            rotate_left
            · intro w hSw
              (try dsimp only at hSw)
              go_simp
              (try with_reducible rfl)
            try simp only [Act.put, List.getElem_toArray, List.getElem_cons_zero, List.getElem_cons_succ, List.setIfInBounds_toArray, List.set_cons_zero, List.set_cons_succ]
            refine wpAnyH_take (i := 4) (v := ?_) rfl (by kernel_rfl) (by kernel_rfl) (by kernel_rfl) (fun _ _ _ h => h) (Or.inl ⟨by rfl, ?_⟩) (by assumption) ?_
            rotate_left
            · intro w hSw
              (try dsimp only at hSw)
              go_simp
              (try with_reducible rfl)
            try simp only [Act.put, List.getElem_toArray, List.getElem_cons_zero, List.getElem_cons_succ, List.setIfInBounds_toArray, List.set_cons_zero, List.set_cons_succ]
            refine wpAnyH_take (i := 5) (v := ?_) rfl (by kernel_rfl) (by kernel_rfl) (by kernel_rfl) (fun _ _ _ h => h) (Or.inl ⟨by rfl, ?_⟩) (by assumption) ?_
            rotate_left
            · intro w hSw
              (try dsimp only at hSw)
              go_simp
              (try with_reducible rfl)
            try simp only [Act.put, List.getElem_toArray, List.getElem_cons_zero, List.getElem_cons_succ, List.setIfInBounds_toArray, List.set_cons_zero, List.set_cons_succ]
            refine wpAnyH_take (i := 6) (v := ?_) rfl (by kernel_rfl) (by kernel_rfl) (by kernel_rfl) (fun _ _ _ h => h) (Or.inl ⟨by rfl, ?_⟩) (by assumption) ?_
            rotate_left
            · intro w hSw
              (try dsimp only at hSw)
              go_simp
              (try with_reducible rfl)
            try simp only [Act.put, List.getElem_toArray, List.getElem_cons_zero, List.getElem_cons_succ, List.setIfInBounds_toArray, List.set_cons_zero, List.set_cons_succ]
            refine wpAnyH_take (i := 7) (v := ?_) rfl (by kernel_rfl) (by kernel_rfl) (by kernel_rfl) (fun _ _ _ h => h) (Or.inl ⟨by rfl, ?_⟩) (by assumption) ?_
            rotate_left
            · intro w hSw
              (try dsimp only at hSw)
              go_simp
              (try with_reducible rfl)
            try simp only [Act.put, List.getElem_toArray, List.getElem_cons_zero, List.getElem_cons_succ, List.setIfInBounds_toArray, List.set_cons_zero, List.set_cons_succ]
            refine wpAnyH_take (i := 8) (v := ?_) rfl (by kernel_rfl) (by kernel_rfl) (by kernel_rfl) (fun _ _ _ h => h) (Or.inl ⟨by rfl, ?_⟩) (by assumption) ?_
            rotate_left
            · intro w hSw
              (try dsimp only at hSw)
              go_simp
              (try with_reducible rfl)
            try simp only [Act.put, List.getElem_toArray, List.getElem_cons_zero, List.getElem_cons_succ, List.setIfInBounds_toArray, List.set_cons_zero, List.set_cons_succ]
            refine wpAnyH_take (i := 9) (v := ?_) rfl (by kernel_rfl) (by kernel_rfl) (by kernel_rfl) (fun _ _ _ h => h) (Or.inl ⟨by rfl, ?_⟩) (by assumption) ?_
            rotate_left
            · intro w hSw
              (try dsimp only at hSw)
              go_simp
              (try with_reducible rfl)
            try simp only [Act.put, List.getElem_toArray, List.getElem_cons_zero, List.getElem_cons_succ, List.setIfInBounds_toArray, List.set_cons_zero, List.set_cons_succ]
            refine wpAnyH_take (i := 10) (v := ?_) rfl (by kernel_rfl) (by kernel_rfl) (by kernel_rfl) (fun _ _ _ h => h) (Or.inl ⟨by rfl, ?_⟩) (by assumption) ?_
            rotate_left
            · intro w hSw
              (try dsimp only at hSw)
              go_simp
              (try with_reducible rfl)
            try simp only [Act.put, List.getElem_toArray, List.getElem_cons_zero, List.getElem_cons_succ, List.setIfInBounds_toArray, List.set_cons_zero, List.set_cons_succ]
            refine wpAnyH_take (i := 11) (v := ?_) rfl (by kernel_rfl) (by kernel_rfl) (by kernel_rfl) (fun _ _ _ h => h) (Or.inl ⟨by rfl, ?_⟩) (by assumption) ?_
            rotate_left
            · intro w hSw
              (try dsimp only at hSw)
              go_simp
              (try with_reducible rfl)
            try simp only [Act.put, List.getElem_toArray, List.getElem_cons_zero, List.getElem_cons_succ, List.setIfInBounds_toArray, List.set_cons_zero, List.set_cons_succ]
            refine wpAnyH_take (i := 12) (v := ?_) rfl (by kernel_rfl) (by kernel_rfl) (by kernel_rfl) (fun _ _ _ h => h) (Or.inl ⟨by rfl, ?_⟩) (by assumption) ?_
            rotate_left
            · intro w hSw
              (try dsimp only at hSw)
              go_simp
              (try with_reducible rfl)
            try simp only [Act.put, List.getElem_toArray, List.getElem_cons_zero, List.getElem_cons_succ, List.setIfInBounds_toArray, List.set_cons_zero, List.set_cons_succ]
            refine wpAnyH_take (i := 13) (v := ?_) rfl (by kernel_rfl) (by kernel_rfl) (by kernel_rfl) (fun _ _ _ h => h) (Or.inl ⟨by rfl, ?_⟩) (by assumption) ?_
            rotate_left
            · intro w hSw
              (try dsimp only at hSw)
              go_simp
              (try with_reducible rfl)
            try simp only [Act.put, List.getElem_toArray, List.getElem_cons_zero, List.getElem_cons_succ, List.setIfInBounds_toArray, List.set_cons_zero, List.set_cons_succ]
            refine wpAnyH_done (by kernel_rfl) ?_ _
            have HD2 := Lib.hid hHeld.2
            clear hHeld d1 d2 HD t1
            go_wp2_with fail
            go_roundw
            case rel => exact ⟨HD2.out, m + 1, HLT.out, by go_num⟩
            case measure => have := HLT.out; simp [intOf]; omega
        · have k1 : ¬ (m : Int) < (n : Int) := by omega
          obtain ⟨b2, o2, q2, e2, _, g2⟩ := HE8.out.cell1 (i := at_) (x := insN o a 0 (lowN N)) (c0 := .int .u32 ((insN o a 0 (lowN N) : Nat) : Int)) (by rw [List.getElem?_set_self (by rw [HLK8.out.len]; exact HAN.out)]) rfl
          rw [List.length_set, HLK8.out.len] at e2
          have eb : p8 = some ⟨b2, o2, none⟩ := by cases e2; rfl
          subst eb
          have d2 := (HD.out.cell ⟨b2, o2 + at_, none⟩).trans g2
          have HLK9 := Lib.hid (HLK8.out.on (HD.out.below _))
          have HI9 := Lib.hid (HI8.out.keep (Kept.of_below (S := fun _ => False) (HD.out.below _)) (fun e => e))
          obtain ⟨r1, r2, r3, r4, r5⟩ := got_back HO.out (show a < 16 by omega) HNR.out.1 HNR.out.2
          have HGI : Hid (∀ w : World, Calls Try.prog 9 #[.int .u32 ((insN o a 0 (lowN N) : Nat) : Int)] w fun e w' => e = .returned (.tuple #[.agg #[.int .i64 (o : Nat), .int .i64 (a : Nat), .int .i64 0, .int .i64 N], .bool true]) ∧ Below w.heap.size w w') := fun w => by
            have := refGetIns_yes (insN o a 0 (lowN N)) w (insN_lt _ _ _ _ (by have := HO.out; omega) (by omega) (by decide) (lowN_lt N)) r5
            rw [r1, r2, r3, r4] at this
            exact this
          generalize insN o a 0 (lowN N) = xN at *
          clear hlt hm e2 g2 r1 r2 r3 r4 r5 HD HE8 HLK8 HI8
          go_wp2_with fail
          refine (HGI.out _).mono ?_
          rintro e wa ⟨rfl, hba⟩
          have RUN := Lib.hid (box_ins17 wa (o : Nat) (a : Nat) 0 N)
          have hbi : Below wa.heap.size wa (wa.alloc (.cells #[.int .i64 (o : Nat), .int .i64 (a : Nat), .int .i64 0, .int .i64 N] IsT)) := (Below.refl _ _).alloc (Nat.le_refl _) _
          have RES := Lib.hid ((HLK9.out.on hba).on hbi).below
          have HIA := Lib.hid ((HI9.out.keep (Kept.of_below (S := fun _ => False) hba) (fun e => e)).keep (Kept.of_below (S := fun _ => False) hbi) (fun e => e))
          have HJA : Hid (RowAt (wa.alloc (.cells #[.int .i64 (o : Nat), .int .i64 (a : Nat), .int .i64 0, .int .i64 N] IsT)) wa.heap.size IsT [.int .i64 (o : Nat), .int .i64 (a : Nat), .int .i64 0, .int .i64 N]) := RowAt.new wa IsT _
          clear hba hbi HLK9 HI9 HGI d2
          go_upto_region 22 with (refine wpList_store_run _ rfl _ _ _ rfl _ _ rfl rfl (by exact RUN.out) ?_)
          clear RUN
          generalize wa.alloc (.cells #[.int .i64 (o : Nat), .int .i64 (a : Nat), .int .i64 0, .int .i64 N] IsT) = wb at *
          generalize wa.heap.size = jb at *
          have q0 : wb.cell? ⟨ib, 0, none⟩ = some (.int .i64 (o : Nat)) := HIA.out.cell 0
          have s0 : wb.cell? ⟨jb, 0, none⟩ = some (.int .i64 (o : Nat)) := HJA.out.cell 0
          have s1 : wb.cell? ⟨jb, 1, none⟩ = some (.int .i64 (a : Nat)) := HJA.out.cell 1
          have s2 : wb.cell? ⟨jb, 2, none⟩ = some (.int .i64 0) := HJA.out.cell 2
          have s3 : wb.cell? ⟨jb, 3, none⟩ = some (.int .i64 N) := HJA.out.cell 3
          clear HIA HJA
          have t9 : (N == tgt) = true := by rw [HNT.out]; simp
          go_wp2_with fail
          go_ret
          exact ⟨rfl, RES.out⟩
set_option maxRecDepth 100000 in
set_option maxHeartbeats 8000000 in
theorem relocGoes_call (n at_ from_ tgt a : Int) (w : World) (h1 : 1 ≤ n) (h2 : n ≤ 100) (h3 : 0 ≤ at_) (h4 : at_ < n) (h5 : 0 ≤ from_) (h6 : from_ ≤ 60000) (h7 : 0 ≤ tgt) (h8 : tgt ≤ 65536) (h9 : 0 ≤ a) (h10 : a ≤ 15) :
    Calls Try.prog 4 #[.int .i64 n, .int .i64 at_, .int .i64 from_, .int .i64 tgt, .int .i64 a, .bool false] w fun e w' => e = .returned (.bool true) ∧ Below w.heap.size w w' := by
  obtain ⟨n, rfl⟩ := Int.eq_ofNat_of_zero_le (show 0 ≤ n by omega)
  obtain ⟨at_, rfl⟩ := Int.eq_ofNat_of_zero_le h3
  obtain ⟨a, rfl⟩ := Int.eq_ofNat_of_zero_le h9
  have g1 : decide ((100 : Int) < (n : Int)) = false := by simp; omega
  have g2 : decide ((at_ : Int) < 0) = false := by simp
  have g3 : decide ((n : Int) ≤ (at_ : Int)) = false := by simp; omega
  have g4 : decide (from_ < 0) = false := by simp; omega
  have g5 : decide (60000 < from_) = false := by simp; omega
  have g6 : decide (tgt < 0) = false := by simp; omega
  have g7 : decide (65536 < tgt) = false := by simp; omega
  have g8 : decide ((a : Int) < 0) = false := by simp
  have g9 : decide ((15 : Int) < (a : Int)) = false := by simp; omega
  have n100 : n ≤ 100 := by omega
  have hmk := make_words n (by omega)
  go_enter Try.func4, Try.ntmps4
  go_wp2_with fail
  refine (up17 w).mono ?_
  rintro e w1 ⟨rfl, hb1⟩
  have HB := Lib.hid hb1
  clear hb1
  have RUN := Lib.hid (box_ins17 w1 20 (a : Nat) 0 0)
  have hbi : Below w1.heap.size w1 (w1.alloc (.cells #[.int .i64 20, .int .i64 (a : Nat), .int .i64 0, .int .i64 0] IsT)) := (Below.refl _ _).alloc (Nat.le_refl _) _
  have HI2 : Hid (RowAt (w1.alloc (.cells #[.int .i64 20, .int .i64 (a : Nat), .int .i64 0, .int .i64 0] IsT)) w1.heap.size IsT [.int .i64 20, .int .i64 (a : Nat), .int .i64 0, .int .i64 0]) := RowAt.new w1 IsT _
  have HB2 := Lib.hid (below_on HB.out hbi HB.out.size)
  have HIW : Hid (w.heap.size ≤ w1.heap.size) := HB.out.size
  clear hbi HB
  go_upto_region 5 with (refine wpList_store_run _ rfl _ _ _ rfl _ _ rfl rfl (by exact RUN.out) ?_)
  clear RUN g1 g2 g3 g4 g5 g6 g7 g8 g9
  generalize w1.alloc (.cells #[.int .i64 20, .int .i64 (a : Nat), .int .i64 0, .int .i64 0] IsT) = w2 at *
  generalize w1.heap.size = ib at *
  go_upto_region 7 with fail
  generalize w2 = w3 at *
  have HI3 := HI2
  have HB3 := HB2
  clear HI2 HB2
  obtain ⟨o, ho⟩ : ∃ o : Nat, o = 20 := ⟨_, rfl⟩
  have HO : Hid (o = 1 ∨ o = 20) := .inr ho
  obtain ⟨N, hN⟩ : ∃ N, N = (tgt - from_ - 4 * (at_ : Int) - 4).tdiv 4 := ⟨_, rfl⟩
  have HN : Hid (N = if o = 20 then (tgt - from_ - 4 * (at_ : Int) - 4).tdiv 4 else tgt) := by show N = _; rw [if_pos ho, hN]
  have HNR : Hid (-131072 ≤ N ∧ N ≤ 131071) := by
    have h := Int.mul_tdiv_add_tmod (tgt - from_ - 4 * (at_ : Int) - 4) 4
    have h1 := Int.tmod_lt_of_pos (tgt - from_ - 4 * (at_ : Int) - 4) (show (0 : Int) < 4 by decide)
    have h2 := Int.lt_tmod_of_pos (tgt - from_ - 4 * (at_ : Int) - 4) (show (0 : Int) < 4 by decide)
    rw [← hN] at h
    show _ ∧ _
    omega
  have HNT := Lib.hid hN
  have HLK0 := Lib.hid (lk_new w w3 n (by omega) HB3.out)
  have HI4 : Hid (RowAt (w3.alloc (.cells (rows wordRow (List.replicate n 0)).toArray WdT)) ib IsT [.int .i64 (o : Nat), .int .i64 (a : Nat), .int .i64 0, .int .i64 0]) := by rw [ho]; exact HI3.out.keep (Kept.of_below (S := fun _ => False) ((Below.refl _ _).alloc (Nat.le_refl _) _)) (fun e => e)
  have HNE : Hid (ib ≠ w3.heap.size) := fun e => by have := HI3.out.lt; omega
  clear HI3 HB3 ho hN
  go_upto_region 8 with fail
  clear hmk
  generalize w3.alloc (.cells (rows wordRow (List.replicate n 0)).toArray WdT) = w4 at *
  generalize w3.heap.size = cb at *
  go_wp2_with fail
  go_loopw [16] (fun i wr => ∃ (m : Nat) (cur : List Nat), m ≤ n ∧ i = .int .i64 (m : Nat) ∧ Lk w wr cb n n cur ∧ RowAt wr ib IsT [.int .i64 (o : Nat), .int .i64 (a : Nat), .int .i64 0, .int .i64 0]) (fun i _ => n - (intOf i).toNat)
  case atStart => exact ⟨0, _, Nat.zero_le _, rfl, HLK0.out, HI4.out⟩
  case round =>
    clear HLK0 HI4
    obtain ⟨m, cur, hm, rfl, hLK, hI⟩ := hrel
    have HLK := Lib.hid hLK
    have HI := Lib.hid hI
    clear hLK hI
    by_cases hlt : m < n
    · as_aux_lemma =>
      obtain ⟨y, hy⟩ : ∃ y, cur[m]? = some y := ⟨_, List.getElem?_eq_getElem (by have := HLK.out.len; omega)⟩
      have cc := HLK.out.cell hy
      have cf := HLK.out.free m
      have i1 : (m : Int) < (n : Int) := by omega
      have i2 : (0 : Int) ≤ (m : Int) := by omega
      have HLT : Hid (m < n) := hlt
      have HLK2 : Hid (Lk w (wr.setCell ⟨cb, m, none⟩ (.int .u32 ((m : Int) * 77))) cb n n (cur.set m (m * 77))) := by
        have := HLK.out.set hlt (y := m * 77) (by omega)
        rw [Int.natCast_mul] at this
        exact this
      have HI2 := Lib.hid (HI.out.keep (kept_set wr cb m (.int .u32 ((m : Int) * 77))) HNE.out)
      clear hy hlt hm HLK HI
      go_upto_region 10 with fail
      clear cc cf
      go_wp2_with fail
      go_roundw
      case rel => exact ⟨m + 1, _, HLT.out, by go_num, HLK2.out, HI2.out⟩
      case measure => have := HLT.out; simp [intOf]; omega
    · have i1 : ¬ (m : Int) < (n : Int) := by omega
      have HPI : Hid (∀ w : World, Calls Try.prog 8 #[.agg #[.int .i64 (o : Nat), .int .i64 (a : Nat), .int .i64 0, .int .i64 0]] w fun e w' => e = .returned (.int .u32 ((insN o a 0 0 : Nat) : Int)) ∧ Below w.heap.size w w') := fun w => refPutIns_any o a 0 0 w (by have := HO.out; omega) (by omega) (by decide) (by decide) (by decide)
      have HX4 : Hid (insN o a 0 0 < 4294967296) := insN_lt o a 0 0 (by have := HO.out; omega) (by omega) (by decide) (by decide)
      obtain ⟨x0, hx0⟩ : ∃ x0, x0 = insN o a 0 0 := ⟨_, rfl⟩
      have HX0 := Lib.hid hx0
      rw [← hx0] at HPI HX4
      obtain ⟨y, hy⟩ : ∃ y, cur[at_]? = some y := ⟨_, List.getElem?_eq_getElem (by have := HLK.out.len; omega)⟩
      have HY := Lib.hid hy
      have HAN : Hid (at_ < n) := by show at_ < n; omega
      clear hlt hm hx0 hy
      go_wp2_with (refine load_row_on rfl _ _ rfl ib rfl IsT #[.int .i64 (o : Nat), .int .i64 (a : Nat), .int .i64 0, .int .i64 0] (0, 0) _ HI.out Try.underlying39 rfl (by rw [size_it]; rfl) ?_)
      refine (HPI.out _).mono ?_
      rintro e w5 ⟨rfl, hb5⟩
      have HLK5 := Lib.hid (HLK.out.on hb5)
      have HI5 := Lib.hid (HI.out.keep (Kept.of_below (S := fun _ => False) hb5) (fun e => e))
      have cc := HLK5.out.cell HY.out
      have cf := HLK5.out.free at_
      have HLK6 := Lib.hid (HLK5.out.set HAN.out HX4.out)
      have HI6 := Lib.hid (HI5.out.keep (kept_set w5 cb at_ (.int .u32 ((x0 : Nat) : Int))) HNE.out)
      have j1 : (at_ : Int) < (n : Int) := by have := HAN.out; omega
      have j2 : (0 : Int) ≤ (at_ : Int) := by omega
      clear hb5 HLK HI HLK5 HI5 HPI HY
      go_upto_region 13 with fail
      clear cc cf
      generalize w5.setCell ⟨cb, at_, none⟩ (.int .u32 ((x0 : Nat) : Int)) = w6 at *
      obtain ⟨cur1, hc1⟩ : ∃ c, c = cur.set at_ x0 := ⟨_, rfl⟩
      rw [← hc1] at HLK6
      have HCX : Hid (cur1[at_]? = some x0) := by
        show _ = _
        have hl := HLK6.out.len
        rw [hc1] at hl ⊢
        rw [List.getElem?_set_self (by rw [List.length_set] at hl; have := HAN.out; omega)]
      clear hc1
      have HANS : Hid (linkV from_ cur1 [((at_ : Nat), tgt)] = some (cur1.set at_ (insN o a 0 (lowN N)))) := linked HO.out (by omega) (by rw [HCX.out, HX0.out]) HN.out HNR.out.1 HNR.out.2
      have hbx : Below w6.heap.size w6 (w6.alloc (.cells #[.int .i64 (at_ : Nat), .int .i64 tgt] RxT)) := (Below.refl _ _).alloc (Nat.le_refl _) _
      have HLK7 := Lib.hid (HLK6.out.on hbx)
      have HI7 := Lib.hid (HI6.out.keep (Kept.of_below (S := fun _ => False) hbx) (fun e => e))
      have HCL : Hid (Calls Try.prog 6 #[.slice (some ⟨cb, 0, none⟩) n n, .int .i64 from_, .slice (some ⟨w6.heap.size, 0, none⟩) 1 1] (w6.alloc (.cells #[.int .i64 (at_ : Nat), .int .i64 tgt] RxT)) fun e w' => LinkTold .nilIface formV (w6.alloc (.cells #[.int .i64 (at_ : Nat), .int .i64 tgt] RxT)) (some (cur1.set at_ (insN o a 0 (lowN N)))) e w') := by
        have := plink_any (.slice (some ⟨cb, 0, none⟩) n n) (.slice (some ⟨w6.heap.size, 0, none⟩) 1 1) cur1 from_ [((at_ : Nat), tgt)] (w6.alloc (.cells #[.int .i64 (at_ : Nat), .int .i64 tgt] RxT)) (by have h := HLK7.out.row; have hl := HLK7.out.len; rw [← hl] at h ⊢; exact h.els wordRow_len) HLK7.out.fit (one_fix w6 RxT (at_ : Nat) tgt) (by have := HLK7.out.len; omega) (by simp) (by omega) (by omega) (fun i x hx => by cases i with | zero => simp at hx; subst hx; exact ⟨by simp only; omega, by simp only; omega⟩ | succ i => simp at hx)
        rw [HANS.out] at this
        exact this
      clear hbx HLK6 HI6 HANS
      go_wp2_with fail
      refine HCL.out.mono ?_
      rintro e w8 ⟨⟨v8, rfl, he8, _⟩, hb8⟩
      have HLK8 := Lib.hid (HLK7.out.on hb8)
      have HI8 := Lib.hid (HI7.out.keep (Kept.of_below (S := fun _ => False) hb8) (fun e => e))
      have HE8 := Lib.hid he8
      obtain ⟨p8, c8, hv8, _⟩ := he8.shape
      rw [List.length_set, HLK8.out.len] at hv8
      subst hv8
      clear hb8 he8 HLK7 HI7 HCL
      go_wp2_with fail
      go_loopw [19] (fun i wr => Drawn w8 wr ∧ ∃ m : Nat, m ≤ n ∧ i = .int .i64 (m : Nat)) (fun i _ => n - (intOf i).toNat)
      case atStart => exact ⟨Drawn.refl _, 0, Nat.zero_le _, rfl⟩
      case round =>
        obtain ⟨hd, m, hm, rfl⟩ := hrel
        have HD := Lib.hid hd
        clear hd
        by_cases hlt : m < n
        · have k1 : (m : Int) < (n : Int) := by omega
          have k2 : (0 : Int) ≤ (m : Int) := by omega
          have HLT : Hid (m < n) := hlt
          by_cases hma : m = at_
          · as_aux_lemma =>
            have t1 : ((m : Int) != (at_ : Int)) = false := by simp [hma]
            clear hma hlt hm
            go_wp2_with fail
            refine wp_region_held_drew (S := fun w' => Drawn w8 w') (by kernel_rfl) ?_ (fun hHeld => ?_)
            · exact HD.out.more 1
            refine wpAnyH_take (i := 0) (v := ?_) rfl (by kernel_rfl) (by kernel_rfl) (by kernel_rfl) (fun _ _ _ h => h) (Or.inl ⟨by rfl, ?_⟩) (by assumption) ?_
            rotate_left
            · intro w hSw
              (try dsimp only at hSw)
              go_simp
              (try with_reducible rfl)
            try simp only [Act.put, List.getElem_toArray, List.getElem_cons_zero, List.setIfInBounds_toArray, List.set_cons_zero, List.set_cons_succ]
            refine wpAnyH_take (i := 1) (v := ?_) rfl (by kernel_rfl) (by kernel_rfl) (by kernel_rfl) (fun _ _ _ h => h) (Or.inl ⟨by rfl, ?_⟩) (by assumption) ?_
            rotate_left
            · intro w hSw
              (try dsimp only at hSw)
              go_simp
              (try with_reducible rfl)
            try simp only [Act.put, List.getElem_toArray, List.getElem_cons_zero, List.getElem_cons_succ, List.setIfInBounds_toArray, List.set_cons_zero, List.set_cons_succ]
            refine wpAnyH_take (i := 2) (v := ?_) rfl (by kernel_rfl) (by kernel_rfl) (by kernel_rfl) (fun _ _ _ h => h) (Or.inl ⟨by rfl, ?_⟩) (by assumption) ?_
            rotate_left
            · intro w hSw
              (try dsimp only at hSw)
              go_simp
              (try with_reducible rfl)
            try simp only [Act.put, List.getElem_toArray, List.getElem_cons_zero, List.getElem_cons_succ, List.setIfInBounds_toArray, List.set_cons_zero, List.set_cons_succ]
            refine wpAnyH_take (i := 3) (v := ?_) rfl (by kernel_rfl) (by kernel_rfl) (by kernel_rfl) (fun _ _ _ h => h) (Or.inl ⟨by rfl, ?_⟩) (by assumption) ?_
            rotate_left
            · intro w hSw
              (try dsimp only at hSw)
              go_simp
              (try with_reducible rfl)
            try simp only [Act.put, List.getElem_toArray, List.getElem_cons_zero, List.getElem_cons_succ, List.setIfInBounds_toArray, List.set_cons_zero, List.set_cons_succ]
            refine wpAnyH_take (i := 4) (v := undef) rfl (by kernel_rfl) (by kernel_rfl) (by kernel_rfl) (fun _ _ _ h => h) (Or.inr ⟨by rfl, rfl⟩) (by assumption) ?_
            try simp only [Act.put, List.getElem_toArray, List.getElem_cons_zero, List.getElem_cons_succ, List.setIfInBounds_toArray, List.set_cons_zero, List.set_cons_succ]
            refine wpAnyH_take (i := 5) (v := undef) rfl (by kernel_rfl) (by kernel_rfl) (by kernel_rfl) (fun _ _ _ h => h) (Or.inr ⟨by rfl, rfl⟩) (by assumption) ?_
            try simp only [Act.put, List.getElem_toArray, List.getElem_cons_zero, List.getElem_cons_succ, List.setIfInBounds_toArray, List.set_cons_zero, List.set_cons_succ]
            refine wpAnyH_take (i := 6) (v := undef) rfl (by kernel_rfl) (by kernel_rfl) (by kernel_rfl) (fun _ _ _ h => h) (Or.inr ⟨by rfl, rfl⟩) (by assumption) ?_
            try simp only [Act.put, List.getElem_toArray, List.getElem_cons_zero, List.getElem_cons_succ, List.setIfInBounds_toArray, List.set_cons_zero, List.set_cons_succ]
            refine wpAnyH_take (i := 7) (v := undef) rfl (by kernel_rfl) (by kernel_rfl) (by kernel_rfl) (fun _ _ _ h => h) (Or.inr ⟨by rfl, rfl⟩) (by assumption) ?_
            try simp only [Act.put, List.getElem_toArray, List.getElem_cons_zero, List.getElem_cons_succ, List.setIfInBounds_toArray, List.set_cons_zero, List.set_cons_succ]
            refine wpAnyH_take (i := 8) (v := undef) rfl (by kernel_rfl) (by kernel_rfl) (by kernel_rfl) (fun _ _ _ h => h) (Or.inr ⟨by rfl, rfl⟩) (by assumption) ?_
            try simp only [Act.put, List.getElem_toArray, List.getElem_cons_zero, List.getElem_cons_succ, List.setIfInBounds_toArray, List.set_cons_zero, List.set_cons_succ]
            refine wpAnyH_take (i := 9) (v := undef) rfl (by kernel_rfl) (by kernel_rfl) (by kernel_rfl) (fun _ _ _ h => h) (Or.inr ⟨by rfl, rfl⟩) (by assumption) ?_
            try simp only [Act.put, List.getElem_toArray, List.getElem_cons_zero, List.getElem_cons_succ, List.setIfInBounds_toArray, List.set_cons_zero, List.set_cons_succ]
            refine wpAnyH_take (i := 10) (v := undef) rfl (by kernel_rfl) (by kernel_rfl) (by kernel_rfl) (fun _ _ _ h => h) (Or.inr ⟨by rfl, rfl⟩) (by assumption) ?_
            try simp only [Act.put, List.getElem_toArray, List.getElem_cons_zero, List.getElem_cons_succ, List.setIfInBounds_toArray, List.set_cons_zero, List.set_cons_succ]
            refine wpAnyH_take (i := 11) (v := undef) rfl (by kernel_rfl) (by kernel_rfl) (by kernel_rfl) (fun _ _ _ h => h) (Or.inr ⟨by rfl, rfl⟩) (by assumption) ?_
            try simp only [Act.put, List.getElem_toArray, List.getElem_cons_zero, List.getElem_cons_succ, List.setIfInBounds_toArray, List.set_cons_zero, List.set_cons_succ]
            refine wpAnyH_take (i := 12) (v := undef) rfl (by kernel_rfl) (by kernel_rfl) (by kernel_rfl) (fun _ _ _ h => h) (Or.inr ⟨by rfl, rfl⟩) (by assumption) ?_
            try simp only [Act.put, List.getElem_toArray, List.getElem_cons_zero, List.getElem_cons_succ, List.setIfInBounds_toArray, List.set_cons_zero, List.set_cons_succ]
            refine wpAnyH_take (i := 13) (v := ?_) rfl (by kernel_rfl) (by kernel_rfl) (by kernel_rfl) (fun _ _ _ h => h) (Or.inl ⟨by rfl, ?_⟩) (by assumption) ?_
            rotate_left
            · intro w hSw
              (try dsimp only at hSw)
              go_simp
              (try with_reducible rfl)
            try simp only [Act.put, List.getElem_toArray, List.getElem_cons_zero, List.getElem_cons_succ, List.setIfInBounds_toArray, List.set_cons_zero, List.set_cons_succ]
            refine wpAnyH_done (by kernel_rfl) ?_ _
            have HD2 := Lib.hid hHeld
            clear hHeld HD t1
            go_wp2_with fail
            go_roundw
            case rel => exact ⟨HD2.out, m + 1, HLT.out, by go_num⟩
            case measure => have := HLT.out; simp [intOf]; omega
          · as_aux_lemma =>
            have t1 : ((m : Int) != (at_ : Int)) = true := by simp; omega
            obtain ⟨x, hx⟩ : ∃ x, cur1[m]? = some x := ⟨_, List.getElem?_eq_getElem (by have := HLK8.out.len; omega)⟩
            obtain ⟨b2, o2, q2, e2, _, g2⟩ := HE8.out.cell1 (i := m) (x := x) (c0 := .int .u32 ((x : Nat) : Int)) (by rw [List.getElem?_set_ne (by omega)]; exact hx) rfl
            rw [List.length_set, HLK8.out.len] at e2
            have eb : p8 = some ⟨b2, o2, none⟩ := by cases e2; rfl
            subst eb
            have d1 := (HD.out.cell ⟨cb, m, none⟩).trans (HLK8.out.cell hx)
            have d2 := (HD.out.cell ⟨b2, o2 + m, none⟩).trans g2
            clear e2 g2 hx hma hlt hm
            go_wp2_with fail
            refine wp_region_held_drew (S := fun w' => (w'.cell? ⟨cb, m, none⟩ = some (.int .u32 ((x : Nat) : Int)) ∧ w'.cell? ⟨b2, o2 + m, none⟩ = some (.int .u32 ((x : Nat) : Int))) ∧ Drawn w8 w') (by kernel_rfl) ?_ (fun hHeld => ?_)
            · exact ⟨⟨d1, d2⟩, HD.out.more 1⟩
            refine wpAnyH_take (i := 0) (v := ?_) rfl (by kernel_rfl) (by kernel_rfl) (by kernel_rfl) (fun _ _ _ h => h) (Or.inl ⟨by rfl, ?_⟩) (by assumption) ?_
            rotate_left
            · intro w hSw
              (try dsimp only at hSw)
              go_simp
              (try with_reducible rfl)
            try simp only [Act.put, List.getElem_toArray, List.getElem_cons_zero, List.setIfInBounds_toArray, List.set_cons_zero, List.set_cons_succ]
            refine wpAnyH_take (i := 1) (v := ?_) rfl (by kernel_rfl) (by kernel_rfl) (by kernel_rfl) (fun _ _ _ h => h) (Or.inl ⟨by rfl, ?_⟩) (by assumption) ?_
            rotate_left
            · intro w hSw
              (try dsimp only at hSw)
              go_simp
              (try with_reducible rfl)
            try simp only [Act.put, List.getElem_toArray, List.getElem_cons_zero, List.getElem_cons_succ, List.setIfInBounds_toArray, List.set_cons_zero, List.set_cons_succ]
            refine wpAnyH_take (i := 2) (v := ?_) rfl (by kernel_rfl) (by kernel_rfl) (by kernel_rfl) (fun _ _ _ h => h) (Or.inl ⟨by rfl, ?_⟩) (by assumption) ?_
            rotate_left
            · intro w hSw
              (try dsimp only at hSw)
              go_simp
              (try with_reducible rfl)
            try simp only [Act.put, List.getElem_toArray, List.getElem_cons_zero, List.getElem_cons_succ, List.setIfInBounds_toArray, List.set_cons_zero, List.set_cons_succ]
            refine wpAnyH_take (i := 3) (v := ?_) rfl (by kernel_rfl) (by kernel_rfl) (by kernel_rfl) (fun _ _ _ h => h) (Or.inl ⟨by rfl, ?_⟩) (by assumption) ?_
            rotate_left
            · intro w hSw
              (try dsimp only at hSw)
              go_simp
              (try with_reducible rfl)
            try simp only [Act.put, List.getElem_toArray, List.getElem_cons_zero, List.getElem_cons_succ, List.setIfInBounds_toArray, List.set_cons_zero, List.set_cons_succ]
            refine wpAnyH_take (i := 4) (v := ?_) rfl (by kernel_rfl) (by kernel_rfl) (by kernel_rfl) (fun _ _ _ h => h) (Or.inl ⟨by rfl, ?_⟩) (by assumption) ?_
            rotate_left
            · intro w hSw
              (try dsimp only at hSw)
              go_simp
              (try with_reducible rfl)
            try simp only [Act.put, List.getElem_toArray, List.getElem_cons_zero, List.getElem_cons_succ, List.setIfInBounds_toArray, List.set_cons_zero, List.set_cons_succ]
            refine wpAnyH_take (i := 5) (v := ?_) rfl (by kernel_rfl) (by kernel_rfl) (by kernel_rfl) (fun _ _ _ h => h) (Or.inl ⟨by rfl, ?_⟩) (by assumption) ?_
            rotate_left
            · intro w hSw
              (try dsimp only at hSw)
              go_simp
              (try with_reducible rfl)
            try simp only [Act.put, List.getElem_toArray, List.getElem_cons_zero, List.getElem_cons_succ, List.setIfInBounds_toArray, List.set_cons_zero, List.set_cons_succ]
            refine wpAnyH_take (i := 6) (v := ?_) rfl (by kernel_rfl) (by kernel_rfl) (by kernel_rfl) (fun _ _ _ h => h) (Or.inl ⟨by rfl, ?_⟩) (by assumption) ?_
            rotate_left
            · intro w hSw
              (try dsimp only at hSw)
              go_simp
              (try with_reducible rfl)
            try simp only [Act.put, List.getElem_toArray, List.getElem_cons_zero, List.getElem_cons_succ, List.setIfInBounds_toArray, List.set_cons_zero, List.set_cons_succ]
            refine wpAnyH_take (i := 7) (v := ?_) rfl (by kernel_rfl) (by kernel_rfl) (by kernel_rfl) (fun _ _ _ h => h) (Or.inl ⟨by rfl, ?_⟩) (by assumption) ?_
            rotate_left
            · intro w hSw
              (try dsimp only at hSw)
              go_simp
              (try with_reducible rfl)
            try simp only [Act.put, List.getElem_toArray, List.getElem_cons_zero, List.getElem_cons_succ, List.setIfInBounds_toArray, List.set_cons_zero, List.set_cons_succ]
            refine wpAnyH_take (i := 8) (v := ?_) rfl (by kernel_rfl) (by kernel_rfl) (by kernel_rfl) (fun _ _ _ h => h) (Or.inl ⟨by rfl, ?_⟩) (by assumption) ?_
            rotate_left
            · intro w hSw
              (try dsimp only at hSw)
              go_simp
              (try with_reducible rfl)
            try simp only [Act.put, List.getElem_toArray, List.getElem_cons_zero, List.getElem_cons_succ, List.setIfInBounds_toArray, List.set_cons_zero, List.set_cons_succ]
            refine wpAnyH_take (i := 9) (v := ?_) rfl (by kernel_rfl) (by kernel_rfl) (by kernel_rfl) (fun _ _ _ h => h) (Or.inl ⟨by rfl, ?_⟩) (by assumption) ?_
            rotate_left
            · intro w hSw
              (try dsimp only at hSw)
              go_simp
              (try with_reducible rfl)
            try simp only [Act.put, List.getElem_toArray, List.getElem_cons_zero, List.getElem_cons_succ, List.setIfInBounds_toArray, List.set_cons_zero, List.set_cons_succ]
            refine wpAnyH_take (i := 10) (v := ?_) rfl (by kernel_rfl) (by kernel_rfl) (by kernel_rfl) (fun _ _ _ h => h) (Or.inl ⟨by rfl, ?_⟩) (by assumption) ?_
            rotate_left
            · intro w hSw
              (try dsimp only at hSw)
              go_simp
              (try with_reducible rfl)
            try simp only [Act.put, List.getElem_toArray, List.getElem_cons_zero, List.getElem_cons_succ, List.setIfInBounds_toArray, List.set_cons_zero, List.set_cons_succ]
            refine wpAnyH_take (i := 11) (v := ?_) rfl (by kernel_rfl) (by kernel_rfl) (by kernel_rfl) (fun _ _ _ h => h) (Or.inl ⟨by rfl, ?_⟩) (by assumption) ?_
            rotate_left
            · intro w hSw
              (try dsimp only at hSw)
              go_simp
              (try with_reducible rfl)
            try simp only [Act.put, List.getElem_toArray, List.getElem_cons_zero, List.getElem_cons_succ, List.setIfInBounds_toArray, List.set_cons_zero, List.set_cons_succ]
            refine wpAnyH_take (i := 12) (v := ?_) rfl (by kernel_rfl) (by kernel_rfl) (by kernel_rfl) (fun _ _ _ h => h) (Or.inl ⟨by rfl, ?_⟩) (by assumption) ?_
            rotate_left
            · intro w hSw
              (try dsimp only at hSw)
              go_simp
              (try with_reducible rfl)
            try simp only [Act.put, List.getElem_toArray, List.getElem_cons_zero, List.getElem_cons_succ, List.setIfInBounds_toArray, List.set_cons_zero, List.set_cons_succ]
            refine wpAnyH_take (i := 13) (v := ?_) rfl (by kernel_rfl) (by kernel_rfl) (by kernel_rfl) (fun _ _ _ h => h) (Or.inl ⟨by rfl, ?_⟩) (by assumption) ?_
            rotate_left
            · intro w hSw
              (try dsimp only at hSw)
              go_simp
              (try with_reducible rfl)
            try simp only [Act.put, List.getElem_toArray, List.getElem_cons_zero, List.getElem_cons_succ, List.setIfInBounds_toArray, List.set_cons_zero, List.set_cons_succ]
            refine wpAnyH_done (by kernel_rfl) ?_ _
            have HD2 := Lib.hid hHeld.2
            clear hHeld d1 d2 HD t1
            go_wp2_with fail
            go_roundw
            case rel => exact ⟨HD2.out, m + 1, HLT.out, by go_num⟩
            case measure => have := HLT.out; simp [intOf]; omega
        · have k1 : ¬ (m : Int) < (n : Int) := by omega
          obtain ⟨b2, o2, q2, e2, _, g2⟩ := HE8.out.cell1 (i := at_) (x := insN o a 0 (lowN N)) (c0 := .int .u32 ((insN o a 0 (lowN N) : Nat) : Int)) (by rw [List.getElem?_set_self (by rw [HLK8.out.len]; exact HAN.out)]) rfl
          rw [List.length_set, HLK8.out.len] at e2
          have eb : p8 = some ⟨b2, o2, none⟩ := by cases e2; rfl
          subst eb
          have d2 := (HD.out.cell ⟨b2, o2 + at_, none⟩).trans g2
          have HLK9 := Lib.hid (HLK8.out.on (HD.out.below _))
          have HI9 := Lib.hid (HI8.out.keep (Kept.of_below (S := fun _ => False) (HD.out.below _)) (fun e => e))
          obtain ⟨r1, r2, r3, r4, r5⟩ := got_back HO.out (show a < 16 by omega) HNR.out.1 HNR.out.2
          have HGI : Hid (∀ w : World, Calls Try.prog 9 #[.int .u32 ((insN o a 0 (lowN N) : Nat) : Int)] w fun e w' => e = .returned (.tuple #[.agg #[.int .i64 (o : Nat), .int .i64 (a : Nat), .int .i64 0, .int .i64 N], .bool true]) ∧ Below w.heap.size w w') := fun w => by
            have := refGetIns_yes (insN o a 0 (lowN N)) w (insN_lt _ _ _ _ (by have := HO.out; omega) (by omega) (by decide) (lowN_lt N)) r5
            rw [r1, r2, r3, r4] at this
            exact this
          generalize insN o a 0 (lowN N) = xN at *
          clear hlt hm e2 g2 r1 r2 r3 r4 r5 HD HE8 HLK8 HI8
          go_wp2_with fail
          refine (HGI.out _).mono ?_
          rintro e wa ⟨rfl, hba⟩
          have RUN := Lib.hid (box_ins17 wa (o : Nat) (a : Nat) 0 N)
          have hbi : Below wa.heap.size wa (wa.alloc (.cells #[.int .i64 (o : Nat), .int .i64 (a : Nat), .int .i64 0, .int .i64 N] IsT)) := (Below.refl _ _).alloc (Nat.le_refl _) _
          have RES := Lib.hid ((HLK9.out.on hba).on hbi).below
          have HIA := Lib.hid ((HI9.out.keep (Kept.of_below (S := fun _ => False) hba) (fun e => e)).keep (Kept.of_below (S := fun _ => False) hbi) (fun e => e))
          have HJA : Hid (RowAt (wa.alloc (.cells #[.int .i64 (o : Nat), .int .i64 (a : Nat), .int .i64 0, .int .i64 N] IsT)) wa.heap.size IsT [.int .i64 (o : Nat), .int .i64 (a : Nat), .int .i64 0, .int .i64 N]) := RowAt.new wa IsT _
          clear hba hbi HLK9 HI9 HGI d2
          go_upto_region 22 with (refine wpList_store_run _ rfl _ _ _ rfl _ _ rfl rfl (by exact RUN.out) ?_)
          clear RUN
          generalize wa.alloc (.cells #[.int .i64 (o : Nat), .int .i64 (a : Nat), .int .i64 0, .int .i64 N] IsT) = wb at *
          generalize wa.heap.size = jb at *
          have q0 : wb.cell? ⟨ib, 0, none⟩ = some (.int .i64 (o : Nat)) := HIA.out.cell 0
          have s0 : wb.cell? ⟨jb, 0, none⟩ = some (.int .i64 (o : Nat)) := HJA.out.cell 0
          have s1 : wb.cell? ⟨jb, 1, none⟩ = some (.int .i64 (a : Nat)) := HJA.out.cell 1
          have s2 : wb.cell? ⟨jb, 2, none⟩ = some (.int .i64 0) := HJA.out.cell 2
          have s3 : wb.cell? ⟨jb, 3, none⟩ = some (.int .i64 N) := HJA.out.cell 3
          clear HIA HJA
          have hz := Int.mul_tdiv_add_tmod (tgt - from_ - 4 * (at_ : Int) - 4) 4
          rw [← HNT.out] at hz
          have hzz : tgt - (from_ + 4 * (at_ : Int) + 4) = tgt - from_ - 4 * (at_ : Int) - 4 := by omega
          have HN1 := HNR.out
          by_cases hmod : (tgt - (from_ + 4 * (at_ : Int) + 4)).tmod 4 = 0
          · have t8 : ((tgt - (from_ + 4 * (at_ : Int) + 4)).tmod 4 != 0) = false := by simp [hmod]
            have t9 : (from_ + 4 * (at_ : Int) + 4 + 4 * N == tgt) = true := by
              rw [hzz] at hmod
              rw [hmod] at hz
              simp
              omega
            obtain ⟨n1, n2⟩ := HN1
            clear hz hzz
            go_wp2_with fail
            go_ret
            exact ⟨rfl, RES.out⟩
          · have t8 : ((tgt - (from_ + 4 * (at_ : Int) + 4)).tmod 4 != 0) = true := by simp [hmod]
            clear hz hzz HN1
            go_wp2_with fail
            go_ret
            exact ⟨rfl, RES.out⟩
set_option maxRecDepth 100000 in
set_option maxHeartbeats 8000000 in
theorem relocGoes_none (n at_ from_ tgt a : Int) (s : Bool) (w : World) (h : ¬ (1 ≤ n ∧ n ≤ 100 ∧ 0 ≤ at_ ∧ at_ < n ∧ 0 ≤ from_ ∧ from_ ≤ 60000 ∧ 0 ≤ tgt ∧ tgt ≤ 65536 ∧ 0 ≤ a ∧ a ≤ 15)) :
    Calls Try.prog 4 #[.int .i64 n, .int .i64 at_, .int .i64 from_, .int .i64 tgt, .int .i64 a, .bool s] w fun e w' => e = .returned (.bool true) ∧ Below w.heap.size w w' := by
  go_enter Try.func4, Try.ntmps4
  go_wp2_with fail
  refine (up17 w).mono ?_
  rintro e w1 ⟨rfl, hb1⟩
  have HB := Lib.hid hb1
  clear hb1
  by_cases k1 : n < 1
  · 
    as_aux_lemma =>
    go_wp2_with fail
    go_ret
    exact ⟨rfl, HB.out⟩
  by_cases k2 : 100 < n
  · have k2' : decide (100 < n) = true := by simpa using k2
    as_aux_lemma =>
    go_wp2_with fail
    go_ret
    exact ⟨rfl, HB.out⟩
  have k2' : decide (100 < n) = false := by simpa using k2
  by_cases k3 : at_ < 0
  · have k3' : decide (at_ < 0) = true := by simpa using k3
    as_aux_lemma =>
    go_wp2_with fail
    go_ret
    exact ⟨rfl, HB.out⟩
  have k3' : decide (at_ < 0) = false := by simpa using k3
  by_cases k4 : n ≤ at_
  · have k4' : decide (n ≤ at_) = true := by simpa using k4
    as_aux_lemma =>
    go_wp2_with fail
    go_ret
    exact ⟨rfl, HB.out⟩
  have k4' : decide (n ≤ at_) = false := by simpa using k4
  by_cases k5 : from_ < 0
  · have k5' : decide (from_ < 0) = true := by simpa using k5
    as_aux_lemma =>
    go_wp2_with fail
    go_ret
    exact ⟨rfl, HB.out⟩
  have k5' : decide (from_ < 0) = false := by simpa using k5
  by_cases k6 : 60000 < from_
  · have k6' : decide (60000 < from_) = true := by simpa using k6
    as_aux_lemma =>
    go_wp2_with fail
    go_ret
    exact ⟨rfl, HB.out⟩
  have k6' : decide (60000 < from_) = false := by simpa using k6
  by_cases k7 : tgt < 0
  · have k7' : decide (tgt < 0) = true := by simpa using k7
    as_aux_lemma =>
    go_wp2_with fail
    go_ret
    exact ⟨rfl, HB.out⟩
  have k7' : decide (tgt < 0) = false := by simpa using k7
  by_cases k8 : 65536 < tgt
  · have k8' : decide (65536 < tgt) = true := by simpa using k8
    as_aux_lemma =>
    go_wp2_with fail
    go_ret
    exact ⟨rfl, HB.out⟩
  have k8' : decide (65536 < tgt) = false := by simpa using k8
  by_cases k9 : a < 0
  · have k9' : decide (a < 0) = true := by simpa using k9
    as_aux_lemma =>
    go_wp2_with fail
    go_ret
    exact ⟨rfl, HB.out⟩
  have k9' : decide (a < 0) = false := by simpa using k9
  by_cases k10 : 15 < a
  · have k10' : decide (15 < a) = true := by simpa using k10
    as_aux_lemma =>
    go_wp2_with fail
    go_ret
    exact ⟨rfl, HB.out⟩
  exact absurd (by omega) h
theorem relocGoes_all (n at_ from_ tgt a : Int) (s : Bool) (w : World) :
    Calls Try.prog 4 #[.int .i64 n, .int .i64 at_, .int .i64 from_, .int .i64 tgt, .int .i64 a, .bool s] w fun e w' => e = .returned (.bool true) ∧ Below w.heap.size w w' := by
  by_cases h : 1 ≤ n ∧ n ≤ 100 ∧ 0 ≤ at_ ∧ at_ < n ∧ 0 ≤ from_ ∧ from_ ≤ 60000 ∧ 0 ≤ tgt ∧ tgt ≤ 65536 ∧ 0 ≤ a ∧ a ≤ 15
  · obtain ⟨h1, h2, h3, h4, h5, h6, h7, h8, h9, h10⟩ := h
    cases s with
    | true => exact relocGoes_set n at_ from_ tgt a w h1 h2 h3 h4 h5 h6 h7 h8 h9 h10
    | false => exact relocGoes_call n at_ from_ tgt a w h1 h2 h3 h4 h5 h6 h7 h8 h9 h10
  · exact relocGoes_none n at_ from_ tgt a s w h
end Go.Proofs.Ytjdahhckofjjhaa
