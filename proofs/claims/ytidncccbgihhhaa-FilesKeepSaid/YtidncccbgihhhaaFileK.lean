/-
  The walk of FilesKeep (layer 10): it returns true and changes nothing that was there. No conditions.
-/
import Derived.Test.YtidncccbgihhhaaFilesU
import Derived.Test.YtidncccbgihhhaaDeedF
namespace Go.Proofs.Ytidncccbgihhhaa
open Go.ChangeShapes Go.WideShapes Go.ChangeAt Go.RowKit

theorem FilesAt.new_lo {lo lo' : Nat} {w : World} {fb mb : Nat} (h : FilesAt lo w fb mb []) : FilesAt lo' w fb mb [] := ⟨h.head, h.map, (fun p hp => by cases hp), h.le⟩
theorem SRow.some_ {w : World} {v : Value} {l : List Nat} (h : SRow BT 1 w v l.length (byteVals l)) (h0 : 0 < l.length) :
    ∃ b cap cs, v = .slice (some ⟨b, 0, none⟩) l.length cap ∧ RowAt w b BT cs ∧ w.cell? ⟨b, 0, none⟩ = some (.int .u8 ((l.getD 0 0 : Nat) : Int)) := by
  rcases h.is with ⟨_, e⟩ | ⟨b, cap, rest, rfl, hr, _⟩
  · omega
  · exact ⟨b, cap, _, rfl, hr, by rw [hr.cell, List.getElem?_append_left (by rw [byteVals_length]; exact h0), byteVals_at l 0 h0]⟩
theorem putC_first {s : ByteArray} {n : Nat} (hn : NameP s) (hl : n ≤ 4000) : putC ([] : RL) s n = 0 := by
  unfold putC
  rw [if_pos hn, if_neg (by omega), if_neg (fun h => by have := h.2; simp at this)]
theorem putC_bad {α : Type} {L : List (ByteArray × α)} {s : ByteArray} {n : Nat} (hn : ¬ NameP s) : putC L s n = 2 := by simp [putC, hn]
theorem putN_first {s : ByteArray} {n : Nat} (hn : NameP s) (hl : n ≤ 4000) (x : Value × List Nat) : putN ([] : RL) s n x = [(s, x)] := by
  unfold putN
  rw [if_pos (putC_first hn hl)]
  rfl
theorem putN_keep {α : Type} {L : List (ByteArray × α)} {s t : ByteArray} {x b : α} {n : Nat} (h : (s, x) ∈ L) (hne : t ≠ s) : (s, x) ∈ putN L t n b := by
  unfold putN
  split
  · exact put_other h (fun e => hne e.symm)
  · exact h
theorem missC_gone {α : Type} {L : List (ByteArray × α)} {s : ByteArray} (hn : NameP s) (hs : s ∈ nms L) : missC (delN L s) s = 2 + 1 := by
  unfold delN
  rw [if_pos (missC_yes hn hs)]
  exact missC_none hn fun h => (mem_nms_del.1 h).1 rfl
theorem drew_below (w : World) : Below w.heap.size w w.drew := (Drawn.of_n w 1).below _
theorem MapAt.no_cell {w : World} {mb : Nat} {R : RL} (h : MapAt w mb R) (j : Nat) : w.cell? ⟨mb, j, none⟩ = none := by
  obtain ⟨es, c, hb⟩ := h.obj
  simp [World.cell?, hb]
theorem signs_eq {s t : ByteArray} (h : s ≠ t) : (s.toList == t.toList) = false := by
  rw [ByteArray.toList_eq, ByteArray.toList_eq, beq_eq_false_iff_ne]
  exact fun e => h (WideShapes.bytes_inj e)

set_option maxRecDepth 100000 in
set_option maxHeartbeats 1000000 in
theorem keep_out (a : Option Addr) (n cap : Nat) (s : ByteArray) (a2 : Option Addr) (n2 cap2 : Nat) (w : World) (h : 30 < n ∨ 4000 < n2 ∨ n2 = 0) :
    Calls Try.prog 4 #[.slice a n cap, .string s, .slice a2 n2 cap2] w fun e w' => e = .returned (.bool true) ∧ Below w.heap.size w w' := by
  by_cases c1 : 30 < n
  · have f1 : (30 : Int) < (n : Int) := by omega
    clear h c1
    go_enter Try.func4, Try.ntmps4
    go_wp2_with fail
    refine (up10 _).mono ?_
    rintro e w1 ⟨rfl, hb1⟩
    have HB1 := Lib.hid hb1
    clear hb1
    go_wp2_with fail
    refine (fnew_any 0 _).mono ?_
    rintro e w2 ⟨fb, mb, rfl, _, hb2, _, _⟩
    have HB2 := Lib.hid (below_on HB1.out hb2 HB1.out.size)
    clear hb2 HB1
    go_wp2_with fail
    go_ret
    exact ⟨rfl, HB2.out⟩
  · by_cases c2 : 4000 < n2
    · have f1 : ¬ (30 : Int) < (n : Int) := by omega
      have f2 : (4000 : Int) < (n2 : Int) := by omega
      clear h c1 c2
      go_enter Try.func4, Try.ntmps4
      go_wp2_with fail
      refine (up10 _).mono ?_
      rintro e w1 ⟨rfl, hb1⟩
      have HB1 := Lib.hid hb1
      clear hb1
      go_wp2_with fail
      refine (fnew_any 0 _).mono ?_
      rintro e w2 ⟨fb, mb, rfl, _, hb2, _, _⟩
      have HB2 := Lib.hid (below_on HB1.out hb2 HB1.out.size)
      clear hb2 HB1
      go_wp2_with fail
      go_ret
      exact ⟨rfl, HB2.out⟩
    · obtain rfl : n2 = 0 := by omega
      have f1 : ¬ (30 : Int) < (n : Int) := by omega
      clear h c1 c2
      go_enter Try.func4, Try.ntmps4
      go_wp2_with fail
      refine (up10 _).mono ?_
      rintro e w1 ⟨rfl, hb1⟩
      have HB1 := Lib.hid hb1
      clear hb1
      go_wp2_with fail
      refine (fnew_any 0 _).mono ?_
      rintro e w2 ⟨fb, mb, rfl, _, hb2, _, _⟩
      have HB2 := Lib.hid (below_on HB1.out hb2 HB1.out.size)
      clear hb2 HB1
      go_wp2_with fail
      go_ret
      exact ⟨rfl, HB2.out⟩

set_option maxRecDepth 100000 in
set_option maxHeartbeats 2000000 in
theorem keep_main (a : Option Addr) (n cap : Nat) (s : ByteArray) (a2 : Option Addr) (cap2 : Nat) (l : List Nat) (w : World) (X : Nat → Int) (S : Nat → ByteArray) (V : Nat → Value) (B : Nat → List Nat)
    (hD : DeedsF w a n X S V B) (hs : s.size ≤ maxLen) (hb : BytesAt w (.slice a2 l.length cap2) l) (hn : n ≤ 30) (h0 : 0 < l.length) (h4 : l.length ≤ 4000) :
    Calls Try.prog 4 #[.slice a n cap, .string s, .slice a2 l.length cap2] w fun e w' => e = .returned (.bool true) ∧ Below w.heap.size w w' := by
  have f1 : decide ((30 : Int) < (n : Int)) = false := by simp; omega
  have f2 : decide ((4000 : Int) < (l.length : Int)) = false := by simp; omega
  have f3 : ((l.length : Int) == 0) = false := by rw [beq_eq_false_iff_ne]; omega
  have HD := Lib.hid hD
  have HS := Lib.hid hs
  have HX := Lib.hid hb
  have HN := Lib.hid hn
  have H0 := Lib.hid h0
  have H4 := Lib.hid h4
  have q1 := none_eql
  have q2 := name_eql
  clear hD hs hb hn h0 h4
  go_enter Try.func4, Try.ntmps4
  go_wp2_with fail
  refine (up10 _).mono ?_
  rintro e w1 ⟨rfl, hb1⟩
  have HB1 := Lib.hid hb1
  clear hb1
  go_wp2_with fail
  refine (fnew_any 0 _).mono ?_
  rintro e w2 ⟨fb, mb, rfl, hf2, hb2, hm2, _⟩
  have HM := Lib.hid (Nat.le_trans HB1.out.size hm2)
  have HB2 := Lib.hid (below_on HB1.out hb2 HB1.out.size)
  obtain ⟨v3, w3, hr3, r3, o3, b3, _⟩ := copy_run (HX.out.on HB2.out) (by have := H4.out; omega)
  have HF3 : Hid (FilesAt w3.heap.size w3 fb mb []) := hf2.new_lo.on b3
  have HB3 := Lib.hid (below_on HB2.out b3 HB2.out.size)
  have HR3 := Lib.hid r3
  obtain ⟨ob, ocap, ocs, rfl, hoc, _⟩ := r3.some_ H0.out
  have HO : Hid (w.heap.size ≤ ob) := Nat.le_trans HB2.out.size (o3 ob rfl)
  clear hf2 hb2 hm2 r3 o3 b3 hoc HB1 HB2
  go_wp2_with (at_builtin; refine Lib.wpList_append_run _ rfl _ _ _ _ rfl _ _ rfl rfl _ _ hr3 ?_)
  clear hr3 f1 f2 f3
  by_cases hn : NameP s
  · have HNM := Lib.hid hn
    refine (put_any w3.heap.size fb mb [] s _ l w3 HF3.out (Nat.le_refl _) HS.out (HR3.out.bytes HX.out.fit)).mono ?_
    rintro e w4 ⟨rfl, v4, hf4, hk4⟩
    rw [putC_first hn H4.out, errV_zero]
    rw [putN_first hn H4.out] at hf4
    have r4 := HR3.out.keep_rows hk4 fun j cs hj e => HF3.out.map.no_row hj e
    obtain ⟨ob', ocap', ocs, he, hoc, hc0⟩ := r4.some_ H0.out
    obtain rfl : ob = ob' := by cases he; rfl
    have hfr := hoc.free 0
    have hob : ob < w3.heap.size := HR3.out.own_lt ob rfl
    have HB4 := hk4.below HB3.out HB3.out.size fun k _ e => by have := HM.out; omega
    have HF5 : Hid (∀ u, FilesAt w3.heap.size (w4.setCell ⟨ob, 0, none⟩ u) fb mb [(s, (v4, l))]) := fun u =>
      hf4.keep (kept_set w4 ob 0 u) (fun e => by have := hf4.head; unfold RowAt at this hoc; rw [e, hoc] at this; cases this) (fun e => hf4.map.no_row hoc e.symm) (fun j cs hj hlo e => by omega)
    have HB5 : Hid (∀ u, Below w.heap.size w (w4.setCell ⟨ob, 0, none⟩ u)) := fun u => (kept_set w4 ob 0 u).below HB4 HB4.size fun k _ e => by have := HO.out; omega
    have HLO : Hid (∀ u, w3.heap.size ≤ (w4.setCell ⟨ob, 0, none⟩ u).heap.size) := fun u => by have := hk4.more; simpa using this
    clear hf4 hk4 r4 he hoc hob HB4 HB3 HF3 HR3 HO hn
    generalize w3.heap.size = lo at *
    go_wp2_with fail
    go_loopw [11] (fun i wr => ∃ (k : Nat) (R : RL) (v : Value), k ≤ n ∧ i = .int .i64 k ∧ FilesAt lo wr fb mb R ∧ (s, (v, l)) ∈ R ∧ lo ≤ wr.heap.size ∧ Below w.heap.size w wr) (fun i _ => n - (intOf i).toNat)
    case atStart => exact ⟨0, _, v4, Nat.zero_le _, rfl, HF5.out _, by simp, HLO.out _, HB5.out _⟩
    case round =>
      obtain ⟨k, R, v, hk, rfl, hf, hmem, hlo, hbw⟩ := hrel
      have HFr := Lib.hid hf
      have HMr := Lib.hid hmem
      have HLr := Lib.hid hlo
      have HBr := Lib.hid hbw
      clear hf hmem hlo hbw
      have hn := HN.out
      by_cases hlt : k < n
      · have hDr := HD.out.on (HBr.out)
        have hss := hDr.ss k hlt
        have hbs := hDr.bs k hlt
        have hxs := hDr.xs k hlt
        rcases hDr.cells with h0 | ⟨b, off, rfl, hbl, hcs⟩
        · omega
        obtain ⟨_, hc1, hc2⟩ := hcs k hlt
        generalize S k = t at *
        generalize V k = vk at *
        generalize B k = lk at *
        obtain ⟨ak, ck, rfl, _⟩ := hbs.shape
        have HSS := Lib.hid hss
        have HBS := Lib.hid hbs
        have e1 : (k : Int) < (n : Int) := by omega
        have e2 : (0 : Int) ≤ (k : Int) := by omega
        clear hDr hss hbs hxs hbl hcs
        by_cases ht : t = s
        · subst ht
          go_wp2_with fail
          go_roundw
          case rel => exact ⟨k + 1, R, v, by omega, by go_num, HFr.out, HMr.out, HLr.out, HBr.out⟩
          case measure => simp [intOf]; omega
        · have hq := signs_eq ht
          have HT := Lib.hid ht
          clear ht
          by_cases hz : t.size ≤ 100
          · by_cases hw : lk.length ≤ 5000
            · have e3 : (t.size : Int) ≤ 100 := by omega
              have e4 : (lk.length : Int) ≤ 5000 := by omega
              clear hz hw
              go_wp2_with fail
              refine wp_region_held_drew (S := fun w' => w'.cell? ⟨b, off + k * 3 + 1, none⟩ = some (.string t) ∧ w'.cell? ⟨b, off + k * 3 + 2, none⟩ = some (.slice ak lk.length ck)) (by kernel_rfl) ?_ (fun hHeld => ?_)
              · exact ⟨hc1, hc2⟩
              refine wpAnyH_take (i := 0) (v := ?_) rfl (by kernel_rfl) (by kernel_rfl) (by kernel_rfl) (fun _ _ _ h => h) (Or.inl ⟨by rfl, ?_⟩) (by assumption) ?_
              rotate_left
              · intro w hSw
                (try dsimp only at hSw)
                go_simp
                (try with_reducible rfl)
              try simp only [Act.put, List.getElem_toArray, List.getElem_cons_zero, List.setIfInBounds_toArray, List.set_cons_zero, List.set_cons_succ]
              refine wpAnyH_take (i := 1) (v := ?_) rfl (by kernel_rfl) (by kernel_rfl) (by kernel_rfl) (fun _ _ _ h => h) (Or.inl ⟨by rfl, ?_⟩) (by assumption) ?_
              rotate_left
              · intro w hSw
                (try dsimp only at hSw)
                go_simp
                (try with_reducible rfl)
              try simp only [Act.put, List.getElem_toArray, List.getElem_cons_zero, List.getElem_cons_succ, List.setIfInBounds_toArray, List.set_cons_zero, List.set_cons_succ]
              refine wpAnyH_take (i := 2) (v := ?_) rfl (by kernel_rfl) (by kernel_rfl) (by kernel_rfl) (fun _ _ _ h => h) (Or.inl ⟨by rfl, ?_⟩) (by assumption) ?_
              rotate_left
              · intro w hSw
                (try dsimp only at hSw)
                go_simp
                (try with_reducible rfl)
              try simp only [Act.put, List.getElem_toArray, List.getElem_cons_zero, List.getElem_cons_succ, List.setIfInBounds_toArray, List.set_cons_zero, List.set_cons_succ]
              refine wpAnyH_take (i := 3) (v := ?_) rfl (by kernel_rfl) (by kernel_rfl) (by kernel_rfl) (fun _ _ _ h => h) (Or.inl ⟨by rfl, ?_⟩) (by assumption) ?_
              rotate_left
              · intro w hSw
                (try dsimp only at hSw)
                go_simp
                (try with_reducible rfl)
              try simp only [Act.put, List.getElem_toArray, List.getElem_cons_zero, List.getElem_cons_succ, List.setIfInBounds_toArray, List.set_cons_zero, List.set_cons_succ]
              refine wpAnyH_take (i := 4) (v := ?_) rfl (by kernel_rfl) (by kernel_rfl) (by kernel_rfl) (fun _ _ _ h => h) (Or.inl ⟨by rfl, ?_⟩) (by assumption) ?_
              rotate_left
              · intro w hSw
                (try dsimp only at hSw)
                go_simp
                (try with_reducible rfl)
              try simp only [Act.put, List.getElem_toArray, List.getElem_cons_zero, List.getElem_cons_succ, List.setIfInBounds_toArray, List.set_cons_zero, List.set_cons_succ]
              refine wpAnyH_take (i := 5) (v := ?_) rfl (by kernel_rfl) (by kernel_rfl) (by kernel_rfl) (fun _ _ _ h => h) (Or.inl ⟨by rfl, ?_⟩) (by assumption) ?_
              rotate_left
              · intro w hSw
                (try dsimp only at hSw)
                go_simp
                (try with_reducible rfl)
              try simp only [Act.put, List.getElem_toArray, List.getElem_cons_zero, List.getElem_cons_succ, List.setIfInBounds_toArray, List.set_cons_zero, List.set_cons_succ]
              refine wpAnyH_take (i := 6) (v := ?_) rfl (by kernel_rfl) (by kernel_rfl) (by kernel_rfl) (fun _ _ _ h => h) (Or.inl ⟨by rfl, ?_⟩) (by assumption) ?_
              rotate_left
              · intro w hSw
                (try dsimp only at hSw)
                go_simp
                (try with_reducible rfl)
              try simp only [Act.put, List.getElem_toArray, List.getElem_cons_zero, List.getElem_cons_succ, List.setIfInBounds_toArray, List.set_cons_zero, List.set_cons_succ]
              refine wpAnyH_take (i := 7) (v := ?_) rfl (by kernel_rfl) (by kernel_rfl) (by kernel_rfl) (fun _ _ _ h => h) (Or.inl ⟨by rfl, ?_⟩) (by assumption) ?_
              rotate_left
              · intro w hSw
                (try dsimp only at hSw)
                go_simp
                (try with_reducible rfl)
              try simp only [Act.put, List.getElem_toArray, List.getElem_cons_zero, List.getElem_cons_succ, List.setIfInBounds_toArray, List.set_cons_zero, List.set_cons_succ]
              refine wpAnyH_take (i := 8) (v := ?_) rfl (by kernel_rfl) (by kernel_rfl) (by kernel_rfl) (fun _ _ _ h => h) (Or.inl ⟨by rfl, ?_⟩) (by assumption) ?_
              rotate_left
              · intro w hSw
                (try dsimp only at hSw)
                go_simp
                (try with_reducible rfl)
              try simp only [Act.put, List.getElem_toArray, List.getElem_cons_zero, List.getElem_cons_succ, List.setIfInBounds_toArray, List.set_cons_zero, List.set_cons_succ]
              refine wpAnyH_take (i := 9) (v := ?_) rfl (by kernel_rfl) (by kernel_rfl) (by kernel_rfl) (fun _ _ _ h => h) (Or.inl ⟨by rfl, ?_⟩) (by assumption) ?_
              rotate_left
              · intro w hSw
                (try dsimp only at hSw)
                go_simp
                (try with_reducible rfl)
              try simp only [Act.put, List.getElem_toArray, List.getElem_cons_zero, List.getElem_cons_succ, List.setIfInBounds_toArray, List.set_cons_zero, List.set_cons_succ]
              refine wpAnyH_take (i := 10) (v := ?_) rfl (by kernel_rfl) (by kernel_rfl) (by kernel_rfl) (fun _ _ _ h => h) (Or.inl ⟨by rfl, ?_⟩) (by assumption) ?_
              rotate_left
              · intro w hSw
                (try dsimp only at hSw)
                go_simp
                (try with_reducible rfl)
              try simp only [Act.put, List.getElem_toArray, List.getElem_cons_zero, List.getElem_cons_succ, List.setIfInBounds_toArray, List.set_cons_zero, List.set_cons_succ]
              refine wpAnyH_ready (rs := [11]) (by kernel_rfl) (by simp) ?_
              refine AllReadyH.cons rfl (fun K hK => ?_) AllReadyH.nil
              go_simp
              refine (put_any lo fb mb R t _ lk _ (HFr.out.on (drew_below wr)) HLr.out HSS.out (HBS.out.on (drew_below wr))).mono ?_
              rintro e w6 ⟨rfl, v6, hf6, hk6⟩
              first | show K _ _ | go_wp2_with fail
              refine hK.out _ _ ?_ (fun hHeld1 => ?_)
              · exact ⟨(hk6.cell (p := ⟨b, off + k * 3 + 1, none⟩) (cell_lt hc1) (fun e => by have := HFr.out.map.no_cell (off + k * 3 + 1); simp only at e; rw [← e] at this; rw [hc1] at this; cases this)).trans hc1, (hk6.cell (p := ⟨b, off + k * 3 + 2, none⟩) (cell_lt hc2) (fun e => by have := HFr.out.map.no_cell (off + k * 3 + 2); simp only at e; rw [← e] at this; rw [hc2] at this; cases this)).trans hc2⟩
              clear hK K
              try simp only [Act.put, List.getElem_toArray, List.getElem_cons_zero, List.getElem_cons_succ, List.setIfInBounds_toArray, List.set_cons_zero, List.set_cons_succ]
              refine wpAnyH_done (by kernel_rfl) ?_ _
              have HF6 := Lib.hid hf6
              have HL6 := Lib.hid (Nat.le_trans HLr.out hk6.more)
              have HB6 := Lib.hid (hk6.below (HBr.out.trans ((drew_below wr).mono HBr.out.size)) HBr.out.size fun j _ e => by have := HM.out; omega)
              have HM6 := Lib.hid (putN_keep (b := (v6, lk)) (n := lk.length) HMr.out HT.out)
              clear hf6 hk6 hHeld hHeld1
              go_wp2_with fail
              go_roundw
              case rel => exact ⟨k + 1, _, v, by omega, by go_num, HF6.out, HM6.out, HL6.out, HB6.out⟩
              case measure => simp [intOf]; omega
            · have e3 : (t.size : Int) ≤ 100 := by omega
              have e4 : ¬ (lk.length : Int) ≤ 5000 := by omega
              clear hz hw
              go_wp2_with fail
              go_roundw
              case rel => exact ⟨k + 1, R, v, by omega, by go_num, HFr.out, HMr.out, HLr.out, HBr.out⟩
              case measure => simp [intOf]; omega
          · have e3 : ¬ (t.size : Int) ≤ 100 := by omega
            clear hz
            go_wp2_with fail
            go_roundw
            case rel => exact ⟨k + 1, R, v, by omega, by go_num, HFr.out, HMr.out, HLr.out, HBr.out⟩
            case measure => simp [intOf]; omega
      · obtain rfl : k = n := by omega
        have HXr := Lib.hid (HX.out.on HBr.out)
        go_wp2_with fail
        refine (get_yes lo fb mb R s v l wr HFr.out HS.out HNM.out HMr.out (by have := H4.out; omega)).mono ?_
        rintro e w6 ⟨v6, rfl, hr6, ho6, hb6⟩
        have HF6 := Lib.hid (HFr.out.on hb6)
        have HB6 := Lib.hid (below_on HBr.out hb6 HBr.out.size)
        have hx6 := hr6.bytes HX.out.fit
        have s1 := hx6.string
        have s2 := (HXr.out.on hb6).string
        obtain ⟨xb, xcap, xcs, rfl, hxr, hxc⟩ := hr6.some_ H0.out
        have hxf := hxr.free 0
        have hxo : wr.heap.size ≤ xb := ho6 xb rfl
        have HF7 : Hid (∀ u, FilesAt lo (w6.setCell ⟨xb, 0, none⟩ u) fb mb R) := fun u => HFr.out.on ((kept_set w6 xb 0 u).below hb6 hb6.size fun j _ e => by omega)
        have HB7 : Hid (∀ u, Below w.heap.size w (w6.setCell ⟨xb, 0, none⟩ u)) := fun u => (kept_set w6 xb 0 u).below HB6.out HB6.out.size fun j _ e => by have := HBr.out.size; omega
        clear hr6 ho6 hb6 hx6 hxr hxo HF6 HB6 HXr
        go_wp2_with fail
        refine (get_yes lo fb mb R s v l _ (HF7.out _) HS.out HNM.out HMr.out (by have := H4.out; omega)).mono ?_
        rintro e w8 ⟨v8, rfl, hr8, _, hb8⟩
        have HF8 := Lib.hid ((HF7.out _).on hb8)
        have HB8 := Lib.hid (below_on (HB7.out _) hb8 (HB7.out _).size)
        have HY8 := Lib.hid (hr8.bytes HX.out.fit)
        clear s1 s2 hxc hxf hr8 hb8 HF7 HB7 HFr HBr HLr
        have hin : s ∈ nms R := mem_nms.2 ⟨_, HMr.out, rfl⟩
        have hm0 := missC_yes HNM.out hin
        have hm3 := missC_gone HNM.out hin
        clear hin
        go_wp2_with fail
        refine (fdel_any lo fb mb R s w8 HF8.out HS.out).mono ?_
        rintro e w9 ⟨rfl, hf9, hk9⟩
        rw [hm0, errV_zero]
        have HF9 := Lib.hid hf9
        have HB9 := Lib.hid (hk9.below HB8.out HB8.out.size fun j _ e => by have := HM.out; omega)
        have s1 := (HY8.out.keep_map hk9 HF8.out).string
        have s2 := (HX.out.on HB9.out).string
        have HM3 := Lib.hid hm3
        clear hf9 hk9 hm0 hm3 HF8 HB8 HY8
        go_wp2_with fail
        refine (get_no lo fb mb _ s w9 HF9.out HS.out 2 HM3.out).mono ?_
        rintro e w' ⟨rfl, rfl⟩
        rw [errV_succ]
        go_wp2_with fail
        go_ret
        exact ⟨rfl, HB9.out⟩
  · refine (put_any w3.heap.size fb mb [] s _ l w3 HF3.out (Nat.le_refl _) HS.out (HR3.out.bytes HX.out.fit)).mono ?_
    rintro e w4 ⟨rfl, v4, hf4, hk4⟩
    rw [putC_bad hn, errV_succ]
    have HB4 := Lib.hid (hk4.below HB3.out HB3.out.size fun k _ e => by have := HM.out; omega)
    clear hf4 hk4
    go_wp2_with fail
    go_ret
    exact ⟨rfl, HB4.out⟩

theorem filesKeep_walk (a : Option Addr) (n cap : Nat) (s : ByteArray) (a2 : Option Addr) (n2 cap2 : Nat) (w : World) (hD : ∃ X S V B, DeedsF w a n X S V B) (hs : s.size ≤ maxLen) (hb : ∃ l, BytesAt w (.slice a2 n2 cap2) l ∧ l.length = n2) :
    Calls Try.prog 4 #[.slice a n cap, .string s, .slice a2 n2 cap2] w fun e w' => e = .returned (.bool true) ∧ Below w.heap.size w w' := by
  obtain ⟨X, S, V, B, hD⟩ := hD
  obtain ⟨l, hb, rfl⟩ := hb
  by_cases h : 30 < n ∨ 4000 < l.length ∨ l.length = 0
  · exact keep_out a n cap s a2 l.length cap2 w h
  · exact keep_main a n cap s a2 cap2 l w X S V B hD hs hb (by omega) (by omega) (by omega)
end Go.Proofs.Ytidncccbgihhhaa
