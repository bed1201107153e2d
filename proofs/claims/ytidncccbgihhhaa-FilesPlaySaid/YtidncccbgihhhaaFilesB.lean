/-
  Contracts of files' Put and Names (layer 10). No conditions beyond those that each theorem names.
-/
import Derived.Test.YtidncccbgihhhaaFilesA
import Derived.Deep.RegionHeld3
namespace Go.Proofs.Ytidncccbgihhhaa
open Go.ChangeShapes Go.WideShapes Go.ChangeAt Go.RowKit

/- a store into a map whose run is known, as a step of a region that draws its order -/
theorem step_mapUpdate {P : Program} {ops : Array Oper} {o : Oper} {a : Act} {w : World} {K : Act → World → Prop} {Q : Exit → Act → World → Prop} {E : Prop} (hg : o.guard = none) (m x v : Operand) (t : TypeId)
    (hop : o.op = Op.mapUpdate t m x v) (vm vx vv : Value) (hm : a.eval m = vm) (hx : a.eval x = vx) (hv : a.eval v = vv) {w' : World}
    (hr : (Instr.mapUpdate t vm vx vv).run P w = .ok () w') (hK : K (a.put o.dst undef) w') : if Region.wanted o (yielded ops a.tmps) = true then Oper.wp P o a w K Q else E := by
  have hw : Region.wanted o (yielded ops a.tmps) = true := by simp [Region.wanted, hg]
  rw [if_pos hw]
  unfold Oper.wp
  simp [execOp, hop, hm, hx, hv, hr, Result.andThen]
  exact hK

set_option maxRecDepth 100000 in
theorem put_bad (fb : Nat) (s : ByteArray) (v : Value) (l : List Nat) (w : World) (hb : BytesAt w v l) (hn : ¬ NameP s) :
    Calls Try.prog 11 #[.pointer (some ⟨fb, 0, none⟩), .string s, v] w fun e w' => e = .returned (errV 2) ∧ w = w' := by
  have HN := Lib.hid hn
  obtain ⟨a, cap, rfl, _⟩ := hb.shape
  rw [errV_succ]
  clear hn hb
  go_enter Try.func11, Try.ntmps11
  go_wp2_with fail
  refine (may_no s _ HN.out).mono ?_
  rintro e w1 ⟨rfl, rfl⟩
  go_wp2_with fail
  go_ret
  exact ⟨rfl, rfl⟩
set_option maxRecDepth 100000 in
theorem put_large (fb : Nat) (s : ByteArray) (v : Value) (l : List Nat) (w : World) (hb : BytesAt w v l) (hn : NameP s) (hl : 4000 < l.length) :
    Calls Try.prog 11 #[.pointer (some ⟨fb, 0, none⟩), .string s, v] w fun e w' => e = .returned (errV 13) ∧ w = w' := by
  have HN := Lib.hid hn
  obtain ⟨a, cap, rfl, _⟩ := hb.shape
  rw [errV_succ]
  clear hn hb
  generalize l.length = n at *
  have f1 : (4000 : Int) < (n : Int) := by omega
  clear hl
  go_enter Try.func11, Try.ntmps11
  go_wp2_with fail
  refine (may_yes s _ HN.out).mono ?_
  rintro e w1 ⟨rfl, rfl⟩
  go_wp2_with fail
  go_ret
  exact ⟨rfl, rfl⟩
set_option maxRecDepth 100000 in
theorem put_full (lo : Nat) (fb mb : Nat) (R : RL) (s : ByteArray) (v : Value) (l : List Nat) (w : World) (h : FilesAt lo w fb mb R) (hs : s.size ≤ maxLen) (hb : BytesAt w v l) (hn : NameP s) (hl : l.length ≤ 4000) (hm : s ∉ nms R) (hf : 32 ≤ R.length) :
    Calls Try.prog 11 #[.pointer (some ⟨fb, 0, none⟩), .string s, v] w fun e w' => e = .returned (errV 8) ∧ w = w' := by
  have HN := Lib.hid hn
  have H := Lib.hid (has_any lo fb mb R s w h hs)
  rw [decide_eq_false hm] at H
  have c1 := h.cell
  have hlen := h.map.len 3
  have f2 : (32 : Int) ≤ (R.length : Int) := by omega
  obtain ⟨a, cap, rfl, _⟩ := hb.shape
  rw [errV_succ]
  clear hn hb h hs hm hf
  generalize l.length = n at *
  generalize R.length = m at *
  have f1 : ¬ (4000 : Int) < (n : Int) := by omega
  clear hl
  go_enter Try.func11, Try.ntmps11
  go_wp2_with fail
  refine (may_yes s _ HN.out).mono ?_
  rintro e w1 ⟨rfl, rfl⟩
  go_wp2_with fail
  refine H.out.mono ?_
  rintro e w1 ⟨rfl, rfl⟩
  go_wp2_with fail
  go_ret
  exact ⟨rfl, rfl⟩

abbrev Nil : Nat → Prop := fun _ => False
theorem Kept.nil {S : Nat → Prop} {a b : World} (h : Kept Nil a b) : Kept S a b := .of_below h.none
theorem FilesAt.put {lo : Nat} {w w1 w2 : World} {fb mb : Nat} {R : RL} {s : ByteArray} {v : Value} {l : List Nat} (h : FilesAt lo w fb mb R) (hlo : lo ≤ w.heap.size) (k1 : Kept Nil w w1) (hv : SRow BT 1 w1 v l.length (byteVals l)) (ho : ∀ j, own v j → w.heap.size ≤ j) (hf : ∀ x ∈ l, x < 256)
    (hM : MapAt w2 mb (putF R s (v, l))) (hK : Kept (· = mb) w1 w2) (hle : (putF R s (v, l)).length ≤ 32) : FilesAt lo w2 fb mb (putF R s (v, l)) ∧ Kept (· = mb) w w2 := by
  have hm1 := h.map.keep k1 (fun h => h)
  refine ⟨⟨(h.head.keep k1 (fun h => h)).keep hK h.ne, hM, fun p hp => ?_, hle⟩, k1.nil.trans hK⟩
  rcases mem_put hp with rfl | ⟨hp', _⟩
  · exact ⟨hv.keep_rows hK fun j cs hj e => hm1.no_row hj e, fun j hj => Nat.le_trans hlo (ho j hj), hf⟩
  · have hr := h.rows p hp'
    exact ⟨(hr.1.keep k1 fun _ _ h => h).keep_rows hK fun j cs hj e => hm1.no_row hj e, hr.2⟩

set_option maxRecDepth 100000 in
set_option maxHeartbeats 1000000 in
theorem put_yes (lo : Nat) (fb mb : Nat) (R : RL) (s : ByteArray) (v : Value) (l : List Nat) (w : World) (h : FilesAt lo w fb mb R) (hlo : lo ≤ w.heap.size) (hs : s.size ≤ maxLen) (hb : BytesAt w v l) (hn : NameP s) (hl : l.length ≤ 4000) (hm : s ∈ nms R ∨ R.length < 32) :
    Calls Try.prog 11 #[.pointer (some ⟨fb, 0, none⟩), .string s, v] w fun e w' => e = .returned .nilIface ∧ ∃ v', FilesAt lo w' fb mb (putF R s (v', l)) ∧ Kept (· = mb) w w' := by
  have HN := Lib.hid hn
  have H := Lib.hid (has_any lo fb mb R s w h hs)
  have c1 := h.cell
  have hlen := h.map.len 3
  have HF := Lib.hid h
  have HB := Lib.hid hb
  have HS := Lib.hid hs
  have HS16 : Hid (s.size ≤ 1000000) := by have := hn.2.1; show _ ≤ _; omega
  have HL6 : Hid (l.length ≤ 1000000) := by show _ ≤ _; omega
  have HR : Hid (R.length ≤ 1000) := by have := h.le; show _ ≤ _; omega
  have HLO := Lib.hid hlo
  have HLE : Hid (∀ v', (putF R s (v', l)).length ≤ 32) := fun v' => by
    rw [length_put]
    rcases hm with hm | hm
    · rw [if_pos hm]; exact h.le
    · split <;> omega
  obtain ⟨a, cap, rfl, _⟩ := hb.shape
  have f1 : ¬ (4000 : Int) < (l.length : Int) := by omega
  by_cases hm2 : s ∈ nms R
  · rw [decide_eq_true hm2] at H
    clear hn hb h hs hm hm2 hlo hl hlen
    go_enter Try.func11, Try.ntmps11
    go_wp2_with fail
    refine (may_yes s _ HN.out).mono ?_
    rintro e w1 ⟨rfl, rfl⟩
    go_wp2_with fail
    refine H.out.mono ?_
    rintro e w1 ⟨rfl, rfl⟩
    go_wp2_with fail
    refine wp_region_held_drew (S := fun w' => Kept (· = mb) w w') (by kernel_rfl) ?_ (fun hHeld => ?_)
    · exact (Kept.refl _ _).drew
    refine wpAnyH_take (i := 0) (v := ?_) rfl (by kernel_rfl) (by kernel_rfl) (by kernel_rfl) (fun _ _ _ h => h) (Or.inl ⟨by rfl, ?_⟩) (by assumption) ?_
    rotate_left
    · intro w hSw
      (try dsimp only at hSw)
      go_simp
      (try with_reducible rfl)
    try simp only [Act.put, List.getElem_toArray, List.getElem_cons_zero, List.setIfInBounds_toArray, List.set_cons_zero, List.set_cons_succ]
    refine wpAnyH_take (i := 1) (v := ?_) rfl (by kernel_rfl) (by kernel_rfl) (by kernel_rfl) (fun _ _ _ h => h) (Or.inl ⟨by rfl, ?_⟩) (by assumption) ?_
    rotate_left
    · intro w hSw
      (try dsimp only at hSw)
      go_simp
      (try with_reducible rfl)
    try simp only [Act.put, List.getElem_toArray, List.getElem_cons_zero, List.getElem_cons_succ, List.setIfInBounds_toArray, List.set_cons_zero, List.set_cons_succ]
    refine wpAnyH_take (i := 2) (v := ?_) rfl (by kernel_rfl) (by kernel_rfl) (by kernel_rfl) (fun _ _ _ h => h) (Or.inl ⟨by rfl, ?_⟩) (by assumption) ?_
    rotate_left
    · intro w hSw
      (try dsimp only at hSw)
      go_simp
      (try with_reducible rfl)
    try simp only [Act.put, List.getElem_toArray, List.getElem_cons_zero, List.getElem_cons_succ, List.setIfInBounds_toArray, List.set_cons_zero, List.set_cons_succ]
    refine wpAnyH_take (i := 3) (v := ?_) rfl (by kernel_rfl) (by kernel_rfl) (by kernel_rfl) (fun _ _ _ h => h) (Or.inl ⟨by rfl, ?_⟩) (by assumption) ?_
    rotate_left
    · intro w hSw
      have c2 := (HF.out.head.keep hSw HF.out.ne).cell 0
      (try dsimp only at hSw)
      go_simp
      (try with_reducible rfl)
    try simp only [Act.put, List.getElem_toArray, List.getElem_cons_zero, List.getElem_cons_succ, List.setIfInBounds_toArray, List.set_cons_zero, List.set_cons_succ]
    refine wpAnyH_take (i := 4) (v := ?_) rfl (by kernel_rfl) (by kernel_rfl) (by kernel_rfl) (fun _ _ _ h => h) (Or.inl ⟨by rfl, ?_⟩) (by assumption) ?_
    rotate_left
    · intro w hSw
      (try dsimp only at hSw)
      go_simp
      (try with_reducible rfl)
    try simp only [Act.put, List.getElem_toArray, List.getElem_cons_zero, List.getElem_cons_succ, List.setIfInBounds_toArray, List.set_cons_zero, List.set_cons_succ]
    refine wpAnyH_take (i := 6) (v := ?_) rfl (by kernel_rfl) (by kernel_rfl) (by kernel_rfl) (fun _ _ _ h => h) (Or.inl ⟨by rfl, ?_⟩) (by assumption) ?_
    rotate_left
    · intro w hSw
      (try dsimp only at hSw)
      go_simp
      (try with_reducible rfl)
    try simp only [Act.put, List.getElem_toArray, List.getElem_cons_zero, List.getElem_cons_succ, List.setIfInBounds_toArray, List.set_cons_zero, List.set_cons_succ]
    refine wpAnyH_ready (rs := [5]) (by kernel_rfl) (by simp) ?_
    refine AllReadyH.cons rfl (fun K hK => ?_) AllReadyH.nil
    go_simp
    refine (sclone_any s _ HS16.out).mono ?_
    rintro e w1 ⟨rfl, hb1⟩
    have k1 : Kept Nil w w1 := (Kept.refl _ _).drew.trans (Kept.of_below hb1)
    first | show K _ _ | go_wp2_with fail
    refine hK.out _ _ ?_ (fun hHeld1 => ?_)
    · exact k1.nil
    clear hK K
    try simp only [Act.put, List.getElem_toArray, List.getElem_cons_zero, List.getElem_cons_succ, List.setIfInBounds_toArray, List.set_cons_zero, List.set_cons_succ]
    refine wpAnyH_ready (rs := [7]) (by kernel_rfl) (by simp) ?_
    refine AllReadyH.cons rfl (fun K hK => ?_) AllReadyH.nil
    go_simp
    refine (bclone_any _ l _ (HB.out.on k1.none) HL6.out).mono ?_
    rintro e w2 ⟨v', rfl, hv, ho, hb2⟩
    have k2 : Kept Nil w w2 := k1.trans (Kept.of_below hb2)
    first | show K _ _ | go_wp2_with fail
    refine hK.out _ _ ?_ (fun hHeld2 => ?_)
    · exact k2.nil
    clear hK K
    try simp only [Act.put, List.getElem_toArray, List.getElem_cons_zero, List.getElem_cons_succ, List.setIfInBounds_toArray, List.set_cons_zero, List.set_cons_succ]
    refine wpAnyH_ready (rs := [8]) (by kernel_rfl) (by simp) ?_
    refine AllReadyH.cons rfl (fun K hK => ?_) AllReadyH.nil
    obtain ⟨w3, hput, hM3, hK3, _⟩ := (HF.out.map.keep k2 (fun h => h)).put HS.out v' l HR.out
    have hFF := HF.out.put HLO.out k2 hv (fun j hj => Nat.le_trans k1.more (ho j hj)) HB.out.fit hM3 hK3 (HLE.out v')
    refine step_mapUpdate rfl (.tmp 31) (.tmp 33) (.tmp 35) MF rfl _ _ _ (by simp [Act.eval]) (by simp [Act.eval]) (by simp [Act.eval]) hput ?_
    refine hK.out _ _ ?_ (fun hHeld3 => ?_)
    · exact hFF.2
    clear hK K
    refine wpAnyH_done (by kernel_rfl) ?_ _
    clear hHeld hHeld1 hHeld2 hHeld3 hv ho hM3 hK3 hput hb1 hb2 k1 k2
    have RES := Lib.hid hFF
    clear hFF
    go_wp2_with fail
    go_ret
    exact ⟨rfl, v', RES.out⟩
  · have f2 : ¬ (32 : Int) ≤ (R.length : Int) := by
      rcases hm with hm | hm
      · exact absurd hm hm2
      · omega
    rw [decide_eq_false hm2] at H
    clear hn hb h hs hm hm2 hlo hl
    go_enter Try.func11, Try.ntmps11
    go_wp2_with fail
    refine (may_yes s _ HN.out).mono ?_
    rintro e w1 ⟨rfl, rfl⟩
    go_wp2_with fail
    refine H.out.mono ?_
    rintro e w1 ⟨rfl, rfl⟩
    go_wp2_with fail
    refine wp_region_held_drew (S := fun w' => Kept (· = mb) w w') (by kernel_rfl) ?_ (fun hHeld => ?_)
    · exact (Kept.refl _ _).drew
    refine wpAnyH_take (i := 0) (v := ?_) rfl (by kernel_rfl) (by kernel_rfl) (by kernel_rfl) (fun _ _ _ h => h) (Or.inl ⟨by rfl, ?_⟩) (by assumption) ?_
    rotate_left
    · intro w hSw
      (try dsimp only at hSw)
      go_simp
      (try with_reducible rfl)
    try simp only [Act.put, List.getElem_toArray, List.getElem_cons_zero, List.setIfInBounds_toArray, List.set_cons_zero, List.set_cons_succ]
    refine wpAnyH_take (i := 1) (v := ?_) rfl (by kernel_rfl) (by kernel_rfl) (by kernel_rfl) (fun _ _ _ h => h) (Or.inl ⟨by rfl, ?_⟩) (by assumption) ?_
    rotate_left
    · intro w hSw
      (try dsimp only at hSw)
      go_simp
      (try with_reducible rfl)
    try simp only [Act.put, List.getElem_toArray, List.getElem_cons_zero, List.getElem_cons_succ, List.setIfInBounds_toArray, List.set_cons_zero, List.set_cons_succ]
    refine wpAnyH_take (i := 2) (v := ?_) rfl (by kernel_rfl) (by kernel_rfl) (by kernel_rfl) (fun _ _ _ h => h) (Or.inl ⟨by rfl, ?_⟩) (by assumption) ?_
    rotate_left
    · intro w hSw
      (try dsimp only at hSw)
      go_simp
      (try with_reducible rfl)
    try simp only [Act.put, List.getElem_toArray, List.getElem_cons_zero, List.getElem_cons_succ, List.setIfInBounds_toArray, List.set_cons_zero, List.set_cons_succ]
    refine wpAnyH_take (i := 3) (v := ?_) rfl (by kernel_rfl) (by kernel_rfl) (by kernel_rfl) (fun _ _ _ h => h) (Or.inl ⟨by rfl, ?_⟩) (by assumption) ?_
    rotate_left
    · intro w hSw
      have c2 := (HF.out.head.keep hSw HF.out.ne).cell 0
      (try dsimp only at hSw)
      go_simp
      (try with_reducible rfl)
    try simp only [Act.put, List.getElem_toArray, List.getElem_cons_zero, List.getElem_cons_succ, List.setIfInBounds_toArray, List.set_cons_zero, List.set_cons_succ]
    refine wpAnyH_take (i := 4) (v := ?_) rfl (by kernel_rfl) (by kernel_rfl) (by kernel_rfl) (fun _ _ _ h => h) (Or.inl ⟨by rfl, ?_⟩) (by assumption) ?_
    rotate_left
    · intro w hSw
      (try dsimp only at hSw)
      go_simp
      (try with_reducible rfl)
    try simp only [Act.put, List.getElem_toArray, List.getElem_cons_zero, List.getElem_cons_succ, List.setIfInBounds_toArray, List.set_cons_zero, List.set_cons_succ]
    refine wpAnyH_take (i := 6) (v := ?_) rfl (by kernel_rfl) (by kernel_rfl) (by kernel_rfl) (fun _ _ _ h => h) (Or.inl ⟨by rfl, ?_⟩) (by assumption) ?_
    rotate_left
    · intro w hSw
      (try dsimp only at hSw)
      go_simp
      (try with_reducible rfl)
    try simp only [Act.put, List.getElem_toArray, List.getElem_cons_zero, List.getElem_cons_succ, List.setIfInBounds_toArray, List.set_cons_zero, List.set_cons_succ]
    refine wpAnyH_ready (rs := [5]) (by kernel_rfl) (by simp) ?_
    refine AllReadyH.cons rfl (fun K hK => ?_) AllReadyH.nil
    go_simp
    refine (sclone_any s _ HS16.out).mono ?_
    rintro e w1 ⟨rfl, hb1⟩
    have k1 : Kept Nil w w1 := (Kept.refl _ _).drew.trans (Kept.of_below hb1)
    first | show K _ _ | go_wp2_with fail
    refine hK.out _ _ ?_ (fun hHeld1 => ?_)
    · exact k1.nil
    clear hK K
    try simp only [Act.put, List.getElem_toArray, List.getElem_cons_zero, List.getElem_cons_succ, List.setIfInBounds_toArray, List.set_cons_zero, List.set_cons_succ]
    refine wpAnyH_ready (rs := [7]) (by kernel_rfl) (by simp) ?_
    refine AllReadyH.cons rfl (fun K hK => ?_) AllReadyH.nil
    go_simp
    refine (bclone_any _ l _ (HB.out.on k1.none) HL6.out).mono ?_
    rintro e w2 ⟨v', rfl, hv, ho, hb2⟩
    have k2 : Kept Nil w w2 := k1.trans (Kept.of_below hb2)
    first | show K _ _ | go_wp2_with fail
    refine hK.out _ _ ?_ (fun hHeld2 => ?_)
    · exact k2.nil
    clear hK K
    try simp only [Act.put, List.getElem_toArray, List.getElem_cons_zero, List.getElem_cons_succ, List.setIfInBounds_toArray, List.set_cons_zero, List.set_cons_succ]
    refine wpAnyH_ready (rs := [8]) (by kernel_rfl) (by simp) ?_
    refine AllReadyH.cons rfl (fun K hK => ?_) AllReadyH.nil
    obtain ⟨w3, hput, hM3, hK3, _⟩ := (HF.out.map.keep k2 (fun h => h)).put HS.out v' l HR.out
    have hFF := HF.out.put HLO.out k2 hv (fun j hj => Nat.le_trans k1.more (ho j hj)) HB.out.fit hM3 hK3 (HLE.out v')
    refine step_mapUpdate rfl (.tmp 31) (.tmp 33) (.tmp 35) MF rfl _ _ _ (by simp [Act.eval]) (by simp [Act.eval]) (by simp [Act.eval]) hput ?_
    refine hK.out _ _ ?_ (fun hHeld3 => ?_)
    · exact hFF.2
    clear hK K
    refine wpAnyH_done (by kernel_rfl) ?_ _
    clear hHeld hHeld1 hHeld2 hHeld3 hv ho hM3 hK3 hput hb1 hb2 k1 k2
    have RES := Lib.hid hFF
    clear hFF
    go_wp2_with fail
    go_ret
    exact ⟨rfl, v', RES.out⟩

theorem put_any (lo : Nat) (fb mb : Nat) (R : RL) (s : ByteArray) (v : Value) (l : List Nat) (w : World) (h : FilesAt lo w fb mb R) (hlo : lo ≤ w.heap.size) (hs : s.size ≤ maxLen) (hb : BytesAt w v l) :
    Calls Try.prog 11 #[.pointer (some ⟨fb, 0, none⟩), .string s, v] w fun e w' => e = .returned (errV (putC R s l.length)) ∧ ∃ v', FilesAt lo w' fb mb (putN R s l.length (v', l)) ∧ Kept (· = mb) w w' := by
  have no : ∀ c, putC R s l.length = c + 1 → ∃ v', FilesAt lo w fb mb (putN R s l.length (v', l)) ∧ Kept (· = mb) w w := fun c hc => ⟨v, by unfold putN; rw [if_neg (by rw [hc]; omega)]; exact h, Kept.refl _ _⟩
  by_cases hn : NameP s
  · by_cases hl : 4000 < l.length
    · have hc : putC R s l.length = 13 := by simp [putC, hn, hl]
      rw [hc]
      refine (put_large fb s v l w hb hn hl).mono ?_
      rintro e w' ⟨rfl, rfl⟩
      exact ⟨rfl, no 12 hc⟩
    · by_cases hm : s ∉ nms R ∧ 32 ≤ R.length
      · have hc : putC R s l.length = 8 := by simp [putC, hn, hl, hm]
        rw [hc]
        refine (put_full lo fb mb R s v l w h hs hb hn (by omega) hm.1 hm.2).mono ?_
        rintro e w' ⟨rfl, rfl⟩
        exact ⟨rfl, no 7 hc⟩
      · have hc : putC R s l.length = 0 := by unfold putC; rw [if_pos hn, if_neg hl, if_neg hm]
        have hm' : s ∈ nms R ∨ R.length < 32 := by
          by_cases hs : s ∈ nms R
          · exact .inl hs
          · exact .inr (Nat.lt_of_not_le fun g => hm ⟨hs, g⟩)
        rw [hc, errV_zero]
        refine (put_yes lo fb mb R s v l w h hlo hs hb hn (by omega) hm').mono ?_
        rintro e w' ⟨rfl, v', hF, hK⟩
        exact ⟨rfl, v', by unfold putN; rw [if_pos hc]; exact hF, hK⟩
  · have hc : putC R s l.length = 2 := by simp [putC, hn]
    rw [hc]
    refine (put_bad fb s v l w hb hn).mono ?_
    rintro e w' ⟨rfl, rfl⟩
    exact ⟨rfl, no 1 hc⟩

set_option maxRecDepth 100000 in
theorem names_any (lo : Nat) (fb mb : Nat) (R : RL) (w : World) (h : FilesAt lo w fb mb R) :
    Calls Try.prog 13 #[.pointer (some ⟨fb, 0, none⟩)] w fun e w' => ∃ v l, e = .returned v ∧ NamesOf l R ∧ SRow ST 1 w' v l.length (svs l) ∧ Below w.heap.size w w' := by
  have c1 := h.cell
  have H := Lib.hid (sorted_any mb R w h.map (by have := h.le; omega))
  clear h
  go_enter Try.func13, Try.ntmps13
  go_wp2_with fail
  refine (mapKeys_any mb _).mono ?_
  rintro e w1 ⟨rfl, rfl⟩
  go_wp2_with fail
  refine H.out.mono ?_
  rintro e w2 ⟨v, l, rfl, hn, hr, hb⟩
  have RES := Lib.hid (And.intro hn (And.intro hr hb))
  clear hn hr hb
  go_wp2_with fail
  go_ret
  exact ⟨v, l, rfl, RES.out⟩
end Go.Proofs.Ytidncccbgihhhaa
