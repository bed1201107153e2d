/-
  The walk of ObjPuts (layer 12): true at any two objects. No conditions.
-/
import Derived.Test.YthgnklgejlebhaaObjUp
import Derived.Test.YthgnklgejlebhaaObjF
import Derived.Test.YthgnklgejlebhaaObjE
import Derived.Test.YthgnklgejlebhaaObjPt
import Derived.Test.YthgnklgejlebhaaDocD
import Derived.Test.YthgnklgejlebhaaErr
import Derived.Deep.MidRow
namespace Go.Proofs.Ythgnklgejlebhaa
open Go.ChangeShapes Go.WideShapes Go.ChangeAt Go.RowKit

theorem Two.onb {w wr w' : World} {oa ob : Nat} {Va Vb : ObjV} {a b : ObjD} (h : Two w wr oa ob Va Vb a b) (hb : Below wr.heap.size wr w') : Two w w' oa ob Va Vb a b :=
  ⟨h.rowa.keep (Kept.of_below (S := fun _ => False) hb) (fun h => h), h.rowb.keep (Kept.of_below (S := fun _ => False) hb) (fun h => h), below_on h.below hb h.below.size⟩
theorem RowAt.range15 {w : World} {b : Nat} {t : TypeId} {cs : List Value} (h : RowAt w b t cs) : w.rangeAt b 0 cs := by
  intro j u hj
  rw [Nat.zero_add, h.cell, hj]
theorem put_not2 (V : ObjV) (o : ObjD) (w : World) (h : ObjAt w V o) (hf : FewB o) (hk : ¬ putOk o) :
    Calls Try.prog 8 #[.agg (ocells V o).toArray] w fun e w' => e = .returned (.tuple #[.slice none 0 0, .iface 43 (.int .i64 1)]) ∧ Below w.heap.size w w' := put_no V o w h hf hk
theorem few_len {o : ObjD} (h : FewT o) : (bytesO o).length ≤ 100000 := by
  have h1 := part1_len o
  have e1 := flat_len impB 260 impB_len o.imps
  have e2 := flat_len typeB 4 typeB_len o.types
  have e3 := flat_len (numB · 4) 4 (fun x => Nat.le_of_eq (numB_length 4 x)) o.code
  have e4 := flat_len cmdB 258 cmdB_len o.cmds
  have e5 := flat_len expB 3 expB_len o.exps
  have e6 := flat_len (numZ · 1) 1 (fun x => Nat.le_of_eq (numZ_len x 1)) o.ptrs
  have e7 := flat_len (numZ · 1) 1 (fun x => Nat.le_of_eq (numZ_len x 1)) o.procs
  have e8 := flat_len (numZ · 2) 2 (fun x => Nat.le_of_eq (numZ_len x 2)) [o.f0, o.f1, o.f2]
  have e9 := textB_len (sb o.text)
  have f1 := h.1.types
  have f2 := h.1.exps
  have f3 := h.1.ptrs
  have f4 := h.1.procs
  have f5 := h.2.1
  have f6 := h.2.2.1
  have f7 := h.2.2.2
  simp only [List.length_cons, List.length_nil] at e8
  simp only [bytesO, part7, part6, part5, part4, part3, part2, List.length_append, numZ_len]
  omega
set_option maxRecDepth 100000 in
set_option maxHeartbeats 8000000 in
theorem objPuts_walk (Va : ObjV) (o : ObjD) (Vb : ObjV) (p : ObjD) (w : World) (ho : ObjAt w Va o) (hp : ObjAt w Vb p) :
    Calls Try.prog 3 #[.agg (ocells Va o).toArray, .agg (ocells Vb p).toArray] w fun e w' => e = .returned (.bool true) ∧ Below w.heap.size w w' := by
  obtain ⟨r1, hr1⟩ : ∃ r1 : Bool, r1 = true ↔ o = p := by
    by_cases h : o = p
    · exact ⟨true, fun _ => h, fun _ => rfl⟩
    · exact ⟨false, (fun e => by cases e), fun e => absurd e h⟩
  have HR1 := Lib.hid hr1
  have t1 : (r1 != r1) = false := by cases r1 <;> rfl
  clear hr1
  have HO := Lib.hid ho
  have HP := Lib.hid hp
  have HT : Hid (Two w ((w.alloc (.cells (ocells Va o).toArray OT)).alloc (.cells (ocells Vb p).toArray OT)) w.heap.size (w.heap.size + 1) Va Vb o p) := Lib.hid (two_at w Va Vb o p)
  clear ho hp
  go_enter Try.func3, Try.ntmps3
  go_upto_region 1 with fail
  generalize (w.alloc (.cells (ocells Va o).toArray OT)).alloc (.cells (ocells Vb p).toArray OT) = w0 at *
  generalize w.heap.size + 1 = b3 at *
  obtain ⟨b2, hb2⟩ : ∃ b2, b2 = w.heap.size := ⟨_, rfl⟩
  have HT0 : Hid (Two w w0 b2 b3 Va Vb o p) := by rw [hb2]; exact HT.out
  rw [← hb2]
  clear HT hb2
  go_wp2_with fail
  refine (up12 w0).mono ?_
  rintro e w1 ⟨rfl, hb1⟩
  have HQ := Lib.hid (HT0.out.onb hb1)
  clear hb1 HT0
  go_wp2_with (refine wpList_load_row rfl _ _ rfl b2 rfl OT (ocells Va o).toArray (0, 0) _ HQ.out.rowa Try.underlying31 rfl (by rw [size_obj]; rfl) ?_)
  refine (few_any Va o _ (HO.out.on HQ.out.below)).mono ?_
  rintro e w2 ⟨hf, hb2⟩
  have HQ2 := Lib.hid (HQ.out.onb hb2)
  clear hb2 HQ
  rcases hf with ⟨rfl, hf⟩ | rfl
  rotate_left
  · as_aux_lemma =>
      have RES := Lib.hid HQ2.out.below
      clear HQ2
      go_wp2_with fail
      go_ret
      exact ⟨rfl, RES.out⟩
  have HF := Lib.hid hf
  clear hf
  go_wp2_with (refine load_row_on rfl _ _ rfl b3 rfl OT (ocells Vb p).toArray (0, 0) _ HQ2.out.rowb Try.underlying31 rfl (by rw [size_obj]; rfl) ?_)
  refine (few_any Vb p _ (HP.out.on HQ2.out.below)).mono ?_
  rintro e w3 ⟨hf, hb3⟩
  have HQ3 := Lib.hid (HQ2.out.onb hb3)
  clear hb3 HQ2
  rcases hf with ⟨rfl, hf⟩ | rfl
  rotate_left
  · as_aux_lemma =>
      have RES := Lib.hid HQ3.out.below
      clear HQ3
      go_wp2_with fail
      go_ret
      exact ⟨rfl, RES.out⟩
  clear hf
  go_wp2_with (refine wpList_load_row rfl _ _ rfl b2 rfl OT (ocells Va o).toArray (0, 0) _ HQ3.out.rowa Try.underlying31 rfl (by rw [size_obj]; rfl) ?_)
  by_cases hk : putOk o
  · as_aux_lemma =>
    have hgp := ((put_iff HF.out.1.code (few_len HF.out)).1 hk).2
    have hle := ((put_iff HF.out.1.code (few_len HF.out)).1 hk).1
    refine (put_yes Va o _ (HO.out.on HQ3.out.below) HF.out.1 hk).mono ?_
    rw [put_bytes HF.out.1.code hk]
    rintro e w4 ⟨v4, rfl, hbs4, hb4⟩
    have HB4 := Lib.hid (SRow.bytes hbs4 (bytesO_lt o))
    obtain ⟨a4, c4, rfl, _⟩ := hbs4.shape
    clear hbs4 hk
    have HQ4 := Lib.hid (HQ3.out.onb hb4)
    clear hb4 HQ3
    go_wp2_with (refine wpList_load_row rfl _ _ rfl b2 rfl OT (ocells Va o).toArray (0, 0) _ HQ4.out.rowa Try.underlying31 rfl (by rw [size_obj]; rfl) ?_)
    refine (rBytes_any Va o _ (HO.out.on HQ4.out.below) HF.out.1).mono ?_
    have HGP := Lib.hid hgp
    have HPT := Lib.hid (bytesO_lt o)
    have HPL := Lib.hid (few_len HF.out)
    generalize bytesO o = P at *
    rintro e w5 ⟨v5, rfl, hbs, _, hb5⟩
    have HQ5 := Lib.hid (HQ4.out.onb hb5)
    have HB5 := Lib.hid (SRow.bytes hbs HPT.out)
    have H45 := Lib.hid hb5
    obtain ⟨a5, c5, rfl, _⟩ := hbs.shape
    clear hbs hb5 HQ4 hgp
    go_wp2_with fail
    refine (robj_any a5 P.length c5 P _ HB5.out rfl HPL.out).mono ?_
    rw [HGP.out]
    rintro e w6 ⟨V6, rfl, ho6, hb6⟩
    have HX6 := Lib.hid (box_run ho6)
    have hk6 := below_on hb6 HX6.out.2.2.2 hb6.size
    have HQ6 := Lib.hid (HQ5.out.onb hk6)
    have H56 := Lib.hid hk6
    clear ho6 hb6 hk6 HQ5
    have i9 : ¬ (4000 : Int) < ((P.length : Nat) : Int) := by omega
    have HB6 := Lib.hid ((HB4.out.on H45.out).on H56.out)
    have HC6 := Lib.hid (HB5.out.on H56.out)
    clear hle HB4 HB5 HGP HPT HPL
    go_wp2_with (first
      | (refine wpList_store_run _ rfl _ _ _ rfl _ _ rfl rfl (by exact HX6.out.1) ?_)
      | (refine wpList_load_row rfl _ _ rfl w6.heap.size rfl OT _ (0, 0) _ HX6.out.2.1 Try.underlying31 rfl (by rw [size_obj]; rfl) ?_)
      | (refine wpList_load_row rfl _ _ rfl b2 rfl OT (ocells Va o).toArray (0, 0) _ HQ6.out.rowa Try.underlying31 rfl (by rw [size_obj]; rfl) ?_))
    refine (rSame_any V6 Va o o true _ HX6.out.2.2.1 (HO.out.on HQ6.out.below) (by simp)).mono ?_
    rintro e w7 ⟨rfl, hb7⟩
    have HQ7 := Lib.hid (HQ6.out.onb hb7)
    have HB7 := Lib.hid (HB6.out.on hb7)
    have HC7 := Lib.hid (HC6.out.on hb7)
    clear hb7 HQ6 HX6 HB6 HC6 H45 H56
    have HS8 : Hid (∀ w', Two w w' b2 b3 Va Vb o p → Two w w' b2 b3 Va Vb o p) := fun _ h => h
    go_wp2_with fail
    refine wp_region_held_drew (S := fun w' => Two w w' b2 b3 Va Vb o p ∧ Below w7.heap.size w7 w') (by kernel_rfl) ?_ (fun hHeld => ?_)
    · exact ⟨HQ7.out.on (Drawn.of_n w7 1), (Drawn.of_n w7 1).below _⟩
    refine wpAnyH_take (i := 0) (v := _) rfl (by kernel_rfl) (by kernel_rfl) (by kernel_rfl) (fun _ _ _ h => h) (yieldsIf_load_mid (by rfl) _ _ rfl _ _ rfl _ _ (fun w hSw => hSw.1.rowa.range15) (Try.underlying31) rfl (by rw [size_obj]; rfl)) (by assumption) ?_
    try simp only [Act.put, List.getElem_toArray, List.getElem_cons_zero, List.setIfInBounds_toArray, List.set_cons_zero, List.set_cons_succ]
    refine wpAnyH_take (i := 1) (v := _) rfl (by kernel_rfl) (by kernel_rfl) (by kernel_rfl) (fun _ _ _ h => h) (yieldsIf_load_mid (by rfl) _ _ rfl _ _ rfl _ _ (fun w hSw => hSw.1.rowb.range15) (Try.underlying31) rfl (by rw [size_obj]; rfl)) (by assumption) ?_
    try simp only [Act.put, List.getElem_toArray, List.getElem_cons_zero, List.getElem_cons_succ, List.setIfInBounds_toArray, List.set_cons_zero, List.set_cons_succ]
    refine wpAnyH_take (i := 3) (v := _) rfl (by kernel_rfl) (by kernel_rfl) (by kernel_rfl) (fun _ _ _ h => h) (yieldsIf_load_mid (by rfl) _ _ rfl _ _ rfl _ _ (fun w hSw => hSw.1.rowa.range15) (Try.underlying31) rfl (by rw [size_obj]; rfl)) (by assumption) ?_
    try simp only [Act.put, List.getElem_toArray, List.getElem_cons_zero, List.getElem_cons_succ, List.setIfInBounds_toArray, List.set_cons_zero, List.set_cons_succ]
    refine wpAnyH_take (i := 4) (v := _) rfl (by kernel_rfl) (by kernel_rfl) (by kernel_rfl) (fun _ _ _ h => h) (yieldsIf_load_mid (by rfl) _ _ rfl _ _ rfl _ _ (fun w hSw => hSw.1.rowb.range15) (Try.underlying31) rfl (by rw [size_obj]; rfl)) (by assumption) ?_
    try simp only [Act.put, List.getElem_toArray, List.getElem_cons_zero, List.getElem_cons_succ, List.setIfInBounds_toArray, List.set_cons_zero, List.set_cons_succ]
    refine wpAnyH_ready (rs := [2]) (by kernel_rfl) (by simp) ?_
    refine AllReadyH.cons rfl (fun K hK => ?_) AllReadyH.nil
    go_simp
    refine (psame_any Va Vb o p r1 _ (HO.out.on hHeld.1.below) (HP.out.on hHeld.1.below) HR1.out).mono ?_
    rintro e we ⟨rfl, hbe⟩
    first | show K _ _ | go_wp2_with fail
    refine hK.out _ _ ?_ (fun hHeld1 => ?_)
    · exact ⟨hHeld.1.onb hbe, below_on hHeld.2 hbe hHeld.2.size⟩
    clear hK K
    try simp only [Act.put, List.getElem_toArray, List.getElem_cons_zero, List.getElem_cons_succ, List.setIfInBounds_toArray, List.set_cons_zero, List.set_cons_succ]
    refine wpAnyH_ready (rs := [5]) (by kernel_rfl) (by simp) ?_
    refine AllReadyH.cons rfl (fun K hK => ?_) AllReadyH.nil
    go_simp
    refine (rSame_any Va Vb o p r1 _ (HO.out.on hHeld1.1.below) (HP.out.on hHeld1.1.below) HR1.out).mono ?_
    rintro e we ⟨rfl, hbe⟩
    first | show K _ _ | go_wp2_with fail
    refine hK.out _ _ ?_ (fun hHeld2 => ?_)
    · exact ⟨hHeld1.1.onb hbe, below_on hHeld1.2 hbe hHeld1.2.size⟩
    clear hK K
    try simp only [Act.put, List.getElem_toArray, List.getElem_cons_zero, List.getElem_cons_succ, List.setIfInBounds_toArray, List.set_cons_zero, List.set_cons_succ]
    refine wpAnyH_take (i := 6) (v := ?_) rfl (by kernel_rfl) (by kernel_rfl) (by kernel_rfl) (fun _ _ _ h => h) (Or.inl ⟨by rfl, ?_⟩) (by assumption) ?_
    rotate_left
    · intro w hSw
      (try dsimp only at hSw)
      go_simp
      (try with_reducible rfl)
    try simp only [Act.put, List.getElem_toArray, List.getElem_cons_zero, List.getElem_cons_succ, List.setIfInBounds_toArray, List.set_cons_zero, List.set_cons_succ]
    refine wpAnyH_take (i := 7) (v := ?_) rfl (by kernel_rfl) (by kernel_rfl) (by kernel_rfl) (fun _ _ _ h => h) (Or.inl ⟨by rfl, ?_⟩) (by assumption) ?_
    rotate_left
    · intro w hSw
      (try dsimp only at hSw)
      go_simp
      (try with_reducible rfl)
    try simp only [Act.put, List.getElem_toArray, List.getElem_cons_zero, List.getElem_cons_succ, List.setIfInBounds_toArray, List.set_cons_zero, List.set_cons_succ]
    refine wpAnyH_take (i := 8) (v := _) rfl (by kernel_rfl) (by kernel_rfl) (by kernel_rfl) (fun _ _ _ h => h) (yieldsIf_load_mid (by rfl) _ _ rfl _ _ rfl _ _ (fun w hSw => hSw.1.rowa.range15) (Try.underlying31) rfl (by rw [size_obj]; rfl)) (by assumption) ?_
    try simp only [Act.put, List.getElem_toArray, List.getElem_cons_zero, List.getElem_cons_succ, List.setIfInBounds_toArray, List.set_cons_zero, List.set_cons_succ]
    refine wpAnyH_take (i := 9) (v := _) rfl (by kernel_rfl) (by kernel_rfl) (by kernel_rfl) (fun _ _ _ h => h) (yieldsIf_load_mid (by rfl) _ _ rfl _ _ rfl _ _ (fun w hSw => hSw.1.rowa.range15) (Try.underlying31) rfl (by rw [size_obj]; rfl)) (by assumption) ?_
    try simp only [Act.put, List.getElem_toArray, List.getElem_cons_zero, List.getElem_cons_succ, List.setIfInBounds_toArray, List.set_cons_zero, List.set_cons_succ]
    refine wpAnyH_ready (rs := [10]) (by kernel_rfl) (by simp) ?_
    refine AllReadyH.cons rfl (fun K hK => ?_) AllReadyH.nil
    go_simp
    refine (psame_any Va Va o o true _ (HO.out.on hHeld2.1.below) (HO.out.on hHeld2.1.below) (by simp)).mono ?_
    rintro e we ⟨rfl, hbe⟩
    first | show K _ _ | go_wp2_with fail
    refine hK.out _ _ ?_ (fun hHeld3 => ?_)
    · exact ⟨hHeld2.1.onb hbe, below_on hHeld2.2 hbe hHeld2.2.size⟩
    clear hK K
    try simp only [Act.put, List.getElem_toArray, List.getElem_cons_zero, List.getElem_cons_succ, List.setIfInBounds_toArray, List.set_cons_zero, List.set_cons_succ]
    refine wpAnyH_take (i := 11) (v := ?_) rfl (by kernel_rfl) (by kernel_rfl) (by kernel_rfl) (fun _ _ _ h => h) (Or.inl ⟨by rfl, ?_⟩) (by assumption) ?_
    rotate_left
    · intro w hSw
      (try dsimp only at hSw)
      go_simp
      (try with_reducible rfl)
    try simp only [Act.put, List.getElem_toArray, List.getElem_cons_zero, List.getElem_cons_succ, List.setIfInBounds_toArray, List.set_cons_zero, List.set_cons_succ]
    refine wpAnyH_take (i := 12) (v := ?_) rfl (by kernel_rfl) (by kernel_rfl) (by kernel_rfl) (fun _ _ _ h => h) (Or.inl ⟨by rfl, ?_⟩) (by assumption) ?_
    rotate_left
    · intro w hSw
      (try dsimp only at hSw)
      go_simp
      (try with_reducible rfl)
    try simp only [Act.put, List.getElem_toArray, List.getElem_cons_zero, List.getElem_cons_succ, List.setIfInBounds_toArray, List.set_cons_zero, List.set_cons_succ]
    refine wpAnyH_done (by kernel_rfl) ?_ _
    have HQ8 := Lib.hid hHeld3.1
    have H78 := Lib.hid hHeld3.2
    clear hHeld hHeld1 hHeld2 hHeld3 HQ7 HS8
    have hc1 := (HB7.out.on H78.out).string
    have hc2 := (HC7.out.on H78.out).string
    have e9 := signs_is (strOf P)
    have RES := Lib.hid HQ8.out.below
    clear HB7 HC7 H78 HQ8
    generalize P.length = n at *
    go_wp2_with fail
    go_ret
    exact ⟨rfl, RES.out⟩
  · as_aux_lemma =>
    refine (put_not2 Va o _ (HO.out.on HQ3.out.below) HF.out.1 hk).mono ?_
    rintro e w4 ⟨rfl, hb4⟩
    cases hgp : pGet (bytesO o) with
    | none =>
      as_aux_lemma =>
      clear hk
      have HQ4 := Lib.hid (HQ3.out.onb hb4)
      clear hb4 HQ3
      go_wp2_with (refine wpList_load_row rfl _ _ rfl b2 rfl OT (ocells Va o).toArray (0, 0) _ HQ4.out.rowa Try.underlying31 rfl (by rw [size_obj]; rfl) ?_)
      refine (rBytes_any Va o _ (HO.out.on HQ4.out.below) HF.out.1).mono ?_
      have HGP := Lib.hid hgp
      have HPT := Lib.hid (bytesO_lt o)
      have HPL := Lib.hid (few_len HF.out)
      generalize bytesO o = P at *
      rintro e w5 ⟨v5, rfl, hbs, _, hb5⟩
      have HQ5 := Lib.hid (HQ4.out.onb hb5)
      have HB5 := Lib.hid (SRow.bytes hbs HPT.out)
      have H45 := Lib.hid hb5
      obtain ⟨a5, c5, rfl, _⟩ := hbs.shape
      clear hbs hb5 HQ4 hgp
      go_wp2_with fail
      refine (robj_any a5 P.length c5 P _ HB5.out rfl HPL.out).mono ?_
      rw [HGP.out]
      rintro e w6 ⟨V6, rfl, ho6, hb6⟩
      have HX6 := Lib.hid (box_run ho6)
      have hk6 := below_on hb6 HX6.out.2.2.2 hb6.size
      have HQ6 := Lib.hid (HQ5.out.onb hk6)
      have H56 := Lib.hid hk6
      clear ho6 hb6 hk6 HQ5
      clear HB5 HGP HPT HPL H45 H56
      go_wp2_with (first
        | (refine wpList_store_run _ rfl _ _ _ rfl _ _ rfl rfl (by exact HX6.out.1) ?_)
        | (refine wpList_load_row rfl _ _ rfl w6.heap.size rfl OT _ (0, 0) _ HX6.out.2.1 Try.underlying31 rfl (by rw [size_obj]; rfl) ?_)
        | (refine wpList_load_row rfl _ _ rfl b2 rfl OT (ocells Va o).toArray (0, 0) _ HQ6.out.rowa Try.underlying31 rfl (by rw [size_obj]; rfl) ?_))
      obtain ⟨r2, hr2⟩ : ∃ r2 : Bool, r2 = true ↔ noObj = o := by
        by_cases h : noObj = o
        · exact ⟨true, fun _ => h, fun _ => rfl⟩
        · exact ⟨false, (fun e => by cases e), fun e => absurd e h⟩
      refine (rSame_any V6 Va noObj o r2 _ HX6.out.2.2.1 (HO.out.on HQ6.out.below) hr2).mono ?_
      clear hr2
      rintro e w7 ⟨rfl, hb7⟩
      have HQ7 := Lib.hid (HQ6.out.onb hb7)
      clear hb7 HQ6 HX6
      have HS8 : Hid (∀ w', Two w w' b2 b3 Va Vb o p → Two w w' b2 b3 Va Vb o p) := fun _ h => h
      go_wp2_with fail
      refine wp_region_held_drew (S := fun w' => Two w w' b2 b3 Va Vb o p ∧ Below w7.heap.size w7 w') (by kernel_rfl) ?_ (fun hHeld => ?_)
      · exact ⟨HQ7.out.on (Drawn.of_n w7 1), (Drawn.of_n w7 1).below _⟩
      refine wpAnyH_take (i := 0) (v := _) rfl (by kernel_rfl) (by kernel_rfl) (by kernel_rfl) (fun _ _ _ h => h) (yieldsIf_load_mid (by rfl) _ _ rfl _ _ rfl _ _ (fun w hSw => hSw.1.rowa.range15) (Try.underlying31) rfl (by rw [size_obj]; rfl)) (by assumption) ?_
      try simp only [Act.put, List.getElem_toArray, List.getElem_cons_zero, List.setIfInBounds_toArray, List.set_cons_zero, List.set_cons_succ]
      refine wpAnyH_take (i := 1) (v := _) rfl (by kernel_rfl) (by kernel_rfl) (by kernel_rfl) (fun _ _ _ h => h) (yieldsIf_load_mid (by rfl) _ _ rfl _ _ rfl _ _ (fun w hSw => hSw.1.rowb.range15) (Try.underlying31) rfl (by rw [size_obj]; rfl)) (by assumption) ?_
      try simp only [Act.put, List.getElem_toArray, List.getElem_cons_zero, List.getElem_cons_succ, List.setIfInBounds_toArray, List.set_cons_zero, List.set_cons_succ]
      refine wpAnyH_take (i := 3) (v := _) rfl (by kernel_rfl) (by kernel_rfl) (by kernel_rfl) (fun _ _ _ h => h) (yieldsIf_load_mid (by rfl) _ _ rfl _ _ rfl _ _ (fun w hSw => hSw.1.rowa.range15) (Try.underlying31) rfl (by rw [size_obj]; rfl)) (by assumption) ?_
      try simp only [Act.put, List.getElem_toArray, List.getElem_cons_zero, List.getElem_cons_succ, List.setIfInBounds_toArray, List.set_cons_zero, List.set_cons_succ]
      refine wpAnyH_take (i := 4) (v := _) rfl (by kernel_rfl) (by kernel_rfl) (by kernel_rfl) (fun _ _ _ h => h) (yieldsIf_load_mid (by rfl) _ _ rfl _ _ rfl _ _ (fun w hSw => hSw.1.rowb.range15) (Try.underlying31) rfl (by rw [size_obj]; rfl)) (by assumption) ?_
      try simp only [Act.put, List.getElem_toArray, List.getElem_cons_zero, List.getElem_cons_succ, List.setIfInBounds_toArray, List.set_cons_zero, List.set_cons_succ]
      refine wpAnyH_ready (rs := [2]) (by kernel_rfl) (by simp) ?_
      refine AllReadyH.cons rfl (fun K hK => ?_) AllReadyH.nil
      go_simp
      refine (psame_any Va Vb o p r1 _ (HO.out.on hHeld.1.below) (HP.out.on hHeld.1.below) HR1.out).mono ?_
      rintro e we ⟨rfl, hbe⟩
      first | show K _ _ | go_wp2_with fail
      refine hK.out _ _ ?_ (fun hHeld1 => ?_)
      · exact ⟨hHeld.1.onb hbe, below_on hHeld.2 hbe hHeld.2.size⟩
      clear hK K
      try simp only [Act.put, List.getElem_toArray, List.getElem_cons_zero, List.getElem_cons_succ, List.setIfInBounds_toArray, List.set_cons_zero, List.set_cons_succ]
      refine wpAnyH_ready (rs := [5]) (by kernel_rfl) (by simp) ?_
      refine AllReadyH.cons rfl (fun K hK => ?_) AllReadyH.nil
      go_simp
      refine (rSame_any Va Vb o p r1 _ (HO.out.on hHeld1.1.below) (HP.out.on hHeld1.1.below) HR1.out).mono ?_
      rintro e we ⟨rfl, hbe⟩
      first | show K _ _ | go_wp2_with fail
      refine hK.out _ _ ?_ (fun hHeld2 => ?_)
      · exact ⟨hHeld1.1.onb hbe, below_on hHeld1.2 hbe hHeld1.2.size⟩
      clear hK K
      try simp only [Act.put, List.getElem_toArray, List.getElem_cons_zero, List.getElem_cons_succ, List.setIfInBounds_toArray, List.set_cons_zero, List.set_cons_succ]
      refine wpAnyH_take (i := 6) (v := ?_) rfl (by kernel_rfl) (by kernel_rfl) (by kernel_rfl) (fun _ _ _ h => h) (Or.inl ⟨by rfl, ?_⟩) (by assumption) ?_
      rotate_left
      · intro w hSw
        (try dsimp only at hSw)
        go_simp
        (try with_reducible rfl)
      try simp only [Act.put, List.getElem_toArray, List.getElem_cons_zero, List.getElem_cons_succ, List.setIfInBounds_toArray, List.set_cons_zero, List.set_cons_succ]
      refine wpAnyH_take (i := 7) (v := ?_) rfl (by kernel_rfl) (by kernel_rfl) (by kernel_rfl) (fun _ _ _ h => h) (Or.inl ⟨by rfl, ?_⟩) (by assumption) ?_
      rotate_left
      · intro w hSw
        (try dsimp only at hSw)
        go_simp
        (try with_reducible rfl)
      try simp only [Act.put, List.getElem_toArray, List.getElem_cons_zero, List.getElem_cons_succ, List.setIfInBounds_toArray, List.set_cons_zero, List.set_cons_succ]
      refine wpAnyH_take (i := 8) (v := _) rfl (by kernel_rfl) (by kernel_rfl) (by kernel_rfl) (fun _ _ _ h => h) (yieldsIf_load_mid (by rfl) _ _ rfl _ _ rfl _ _ (fun w hSw => hSw.1.rowa.range15) (Try.underlying31) rfl (by rw [size_obj]; rfl)) (by assumption) ?_
      try simp only [Act.put, List.getElem_toArray, List.getElem_cons_zero, List.getElem_cons_succ, List.setIfInBounds_toArray, List.set_cons_zero, List.set_cons_succ]
      refine wpAnyH_take (i := 9) (v := _) rfl (by kernel_rfl) (by kernel_rfl) (by kernel_rfl) (fun _ _ _ h => h) (yieldsIf_load_mid (by rfl) _ _ rfl _ _ rfl _ _ (fun w hSw => hSw.1.rowa.range15) (Try.underlying31) rfl (by rw [size_obj]; rfl)) (by assumption) ?_
      try simp only [Act.put, List.getElem_toArray, List.getElem_cons_zero, List.getElem_cons_succ, List.setIfInBounds_toArray, List.set_cons_zero, List.set_cons_succ]
      refine wpAnyH_ready (rs := [10]) (by kernel_rfl) (by simp) ?_
      refine AllReadyH.cons rfl (fun K hK => ?_) AllReadyH.nil
      go_simp
      refine (psame_any Va Va o o true _ (HO.out.on hHeld2.1.below) (HO.out.on hHeld2.1.below) (by simp)).mono ?_
      rintro e we ⟨rfl, hbe⟩
      first | show K _ _ | go_wp2_with fail
      refine hK.out _ _ ?_ (fun hHeld3 => ?_)
      · exact ⟨hHeld2.1.onb hbe, below_on hHeld2.2 hbe hHeld2.2.size⟩
      clear hK K
      try simp only [Act.put, List.getElem_toArray, List.getElem_cons_zero, List.getElem_cons_succ, List.setIfInBounds_toArray, List.set_cons_zero, List.set_cons_succ]
      refine wpAnyH_take (i := 11) (v := ?_) rfl (by kernel_rfl) (by kernel_rfl) (by kernel_rfl) (fun _ _ _ h => h) (Or.inl ⟨by rfl, ?_⟩) (by assumption) ?_
      rotate_left
      · intro w hSw
        (try dsimp only at hSw)
        go_simp
        (try with_reducible rfl)
      try simp only [Act.put, List.getElem_toArray, List.getElem_cons_zero, List.getElem_cons_succ, List.setIfInBounds_toArray, List.set_cons_zero, List.set_cons_succ]
      refine wpAnyH_take (i := 12) (v := ?_) rfl (by kernel_rfl) (by kernel_rfl) (by kernel_rfl) (fun _ _ _ h => h) (Or.inl ⟨by rfl, ?_⟩) (by assumption) ?_
      rotate_left
      · intro w hSw
        (try dsimp only at hSw)
        go_simp
        (try with_reducible rfl)
      try simp only [Act.put, List.getElem_toArray, List.getElem_cons_zero, List.getElem_cons_succ, List.setIfInBounds_toArray, List.set_cons_zero, List.set_cons_succ]
      refine wpAnyH_done (by kernel_rfl) ?_ _
      have HQ8 := Lib.hid hHeld3.1
      have H78 := Lib.hid hHeld3.2
      clear hHeld hHeld1 hHeld2 hHeld3 HQ7 HS8
      have RES := Lib.hid HQ8.out.below
      have q1 := arg_eql
      clear H78 HQ8
      go_wp2_with fail
      go_ret
      exact ⟨rfl, RES.out⟩
    | some x =>
      by_cases hx : x = o
      · as_aux_lemma =>
        have hlong : 4000 < (bytesO o).length := by
          rcases Nat.lt_or_ge 4000 (bytesO o).length with h | h
          · exact h
          · exact absurd ((put_iff HF.out.1.code (few_len HF.out)).2 ⟨h, by rw [hgp, hx]⟩) hk
        rw [hx] at hgp
        clear hk hx
        have HQ4 := Lib.hid (HQ3.out.onb hb4)
        clear hb4 HQ3
        go_wp2_with (refine wpList_load_row rfl _ _ rfl b2 rfl OT (ocells Va o).toArray (0, 0) _ HQ4.out.rowa Try.underlying31 rfl (by rw [size_obj]; rfl) ?_)
        refine (rBytes_any Va o _ (HO.out.on HQ4.out.below) HF.out.1).mono ?_
        have HGP := Lib.hid hgp
        have HPT := Lib.hid (bytesO_lt o)
        have HPL := Lib.hid (few_len HF.out)
        generalize bytesO o = P at *
        rintro e w5 ⟨v5, rfl, hbs, _, hb5⟩
        have HQ5 := Lib.hid (HQ4.out.onb hb5)
        have HB5 := Lib.hid (SRow.bytes hbs HPT.out)
        have H45 := Lib.hid hb5
        obtain ⟨a5, c5, rfl, _⟩ := hbs.shape
        clear hbs hb5 HQ4 hgp
        go_wp2_with fail
        refine (robj_any a5 P.length c5 P _ HB5.out rfl HPL.out).mono ?_
        rw [HGP.out]
        rintro e w6 ⟨V6, rfl, ho6, hb6⟩
        have HX6 := Lib.hid (box_run ho6)
        have hk6 := below_on hb6 HX6.out.2.2.2 hb6.size
        have HQ6 := Lib.hid (HQ5.out.onb hk6)
        have H56 := Lib.hid hk6
        clear ho6 hb6 hk6 HQ5
        have i9 : (4000 : Int) < ((P.length : Nat) : Int) := by omega
        clear hlong HB5 HGP HPT HPL H45 H56
        go_wp2_with (first
          | (refine wpList_store_run _ rfl _ _ _ rfl _ _ rfl rfl (by exact HX6.out.1) ?_)
          | (refine wpList_load_row rfl _ _ rfl w6.heap.size rfl OT _ (0, 0) _ HX6.out.2.1 Try.underlying31 rfl (by rw [size_obj]; rfl) ?_)
          | (refine wpList_load_row rfl _ _ rfl b2 rfl OT (ocells Va o).toArray (0, 0) _ HQ6.out.rowa Try.underlying31 rfl (by rw [size_obj]; rfl) ?_))
        refine (rSame_any V6 Va o o true _ HX6.out.2.2.1 (HO.out.on HQ6.out.below) (by simp)).mono ?_
        rintro e w7 ⟨rfl, hb7⟩
        have HQ7 := Lib.hid (HQ6.out.onb hb7)
        clear hb7 HQ6 HX6
        have HS8 : Hid (∀ w', Two w w' b2 b3 Va Vb o p → Two w w' b2 b3 Va Vb o p) := fun _ h => h
        go_wp2_with fail
        refine wp_region_held_drew (S := fun w' => Two w w' b2 b3 Va Vb o p ∧ Below w7.heap.size w7 w') (by kernel_rfl) ?_ (fun hHeld => ?_)
        · exact ⟨HQ7.out.on (Drawn.of_n w7 1), (Drawn.of_n w7 1).below _⟩
        refine wpAnyH_take (i := 0) (v := _) rfl (by kernel_rfl) (by kernel_rfl) (by kernel_rfl) (fun _ _ _ h => h) (yieldsIf_load_mid (by rfl) _ _ rfl _ _ rfl _ _ (fun w hSw => hSw.1.rowa.range15) (Try.underlying31) rfl (by rw [size_obj]; rfl)) (by assumption) ?_
        try simp only [Act.put, List.getElem_toArray, List.getElem_cons_zero, List.setIfInBounds_toArray, List.set_cons_zero, List.set_cons_succ]
        refine wpAnyH_take (i := 1) (v := _) rfl (by kernel_rfl) (by kernel_rfl) (by kernel_rfl) (fun _ _ _ h => h) (yieldsIf_load_mid (by rfl) _ _ rfl _ _ rfl _ _ (fun w hSw => hSw.1.rowb.range15) (Try.underlying31) rfl (by rw [size_obj]; rfl)) (by assumption) ?_
        try simp only [Act.put, List.getElem_toArray, List.getElem_cons_zero, List.getElem_cons_succ, List.setIfInBounds_toArray, List.set_cons_zero, List.set_cons_succ]
        refine wpAnyH_take (i := 3) (v := _) rfl (by kernel_rfl) (by kernel_rfl) (by kernel_rfl) (fun _ _ _ h => h) (yieldsIf_load_mid (by rfl) _ _ rfl _ _ rfl _ _ (fun w hSw => hSw.1.rowa.range15) (Try.underlying31) rfl (by rw [size_obj]; rfl)) (by assumption) ?_
        try simp only [Act.put, List.getElem_toArray, List.getElem_cons_zero, List.getElem_cons_succ, List.setIfInBounds_toArray, List.set_cons_zero, List.set_cons_succ]
        refine wpAnyH_take (i := 4) (v := _) rfl (by kernel_rfl) (by kernel_rfl) (by kernel_rfl) (fun _ _ _ h => h) (yieldsIf_load_mid (by rfl) _ _ rfl _ _ rfl _ _ (fun w hSw => hSw.1.rowb.range15) (Try.underlying31) rfl (by rw [size_obj]; rfl)) (by assumption) ?_
        try simp only [Act.put, List.getElem_toArray, List.getElem_cons_zero, List.getElem_cons_succ, List.setIfInBounds_toArray, List.set_cons_zero, List.set_cons_succ]
        refine wpAnyH_ready (rs := [2]) (by kernel_rfl) (by simp) ?_
        refine AllReadyH.cons rfl (fun K hK => ?_) AllReadyH.nil
        go_simp
        refine (psame_any Va Vb o p r1 _ (HO.out.on hHeld.1.below) (HP.out.on hHeld.1.below) HR1.out).mono ?_
        rintro e we ⟨rfl, hbe⟩
        first | show K _ _ | go_wp2_with fail
        refine hK.out _ _ ?_ (fun hHeld1 => ?_)
        · exact ⟨hHeld.1.onb hbe, below_on hHeld.2 hbe hHeld.2.size⟩
        clear hK K
        try simp only [Act.put, List.getElem_toArray, List.getElem_cons_zero, List.getElem_cons_succ, List.setIfInBounds_toArray, List.set_cons_zero, List.set_cons_succ]
        refine wpAnyH_ready (rs := [5]) (by kernel_rfl) (by simp) ?_
        refine AllReadyH.cons rfl (fun K hK => ?_) AllReadyH.nil
        go_simp
        refine (rSame_any Va Vb o p r1 _ (HO.out.on hHeld1.1.below) (HP.out.on hHeld1.1.below) HR1.out).mono ?_
        rintro e we ⟨rfl, hbe⟩
        first | show K _ _ | go_wp2_with fail
        refine hK.out _ _ ?_ (fun hHeld2 => ?_)
        · exact ⟨hHeld1.1.onb hbe, below_on hHeld1.2 hbe hHeld1.2.size⟩
        clear hK K
        try simp only [Act.put, List.getElem_toArray, List.getElem_cons_zero, List.getElem_cons_succ, List.setIfInBounds_toArray, List.set_cons_zero, List.set_cons_succ]
        refine wpAnyH_take (i := 6) (v := ?_) rfl (by kernel_rfl) (by kernel_rfl) (by kernel_rfl) (fun _ _ _ h => h) (Or.inl ⟨by rfl, ?_⟩) (by assumption) ?_
        rotate_left
        · intro w hSw
          (try dsimp only at hSw)
          go_simp
          (try with_reducible rfl)
        try simp only [Act.put, List.getElem_toArray, List.getElem_cons_zero, List.getElem_cons_succ, List.setIfInBounds_toArray, List.set_cons_zero, List.set_cons_succ]
        refine wpAnyH_take (i := 7) (v := ?_) rfl (by kernel_rfl) (by kernel_rfl) (by kernel_rfl) (fun _ _ _ h => h) (Or.inl ⟨by rfl, ?_⟩) (by assumption) ?_
        rotate_left
        · intro w hSw
          (try dsimp only at hSw)
          go_simp
          (try with_reducible rfl)
        try simp only [Act.put, List.getElem_toArray, List.getElem_cons_zero, List.getElem_cons_succ, List.setIfInBounds_toArray, List.set_cons_zero, List.set_cons_succ]
        refine wpAnyH_take (i := 8) (v := _) rfl (by kernel_rfl) (by kernel_rfl) (by kernel_rfl) (fun _ _ _ h => h) (yieldsIf_load_mid (by rfl) _ _ rfl _ _ rfl _ _ (fun w hSw => hSw.1.rowa.range15) (Try.underlying31) rfl (by rw [size_obj]; rfl)) (by assumption) ?_
        try simp only [Act.put, List.getElem_toArray, List.getElem_cons_zero, List.getElem_cons_succ, List.setIfInBounds_toArray, List.set_cons_zero, List.set_cons_succ]
        refine wpAnyH_take (i := 9) (v := _) rfl (by kernel_rfl) (by kernel_rfl) (by kernel_rfl) (fun _ _ _ h => h) (yieldsIf_load_mid (by rfl) _ _ rfl _ _ rfl _ _ (fun w hSw => hSw.1.rowa.range15) (Try.underlying31) rfl (by rw [size_obj]; rfl)) (by assumption) ?_
        try simp only [Act.put, List.getElem_toArray, List.getElem_cons_zero, List.getElem_cons_succ, List.setIfInBounds_toArray, List.set_cons_zero, List.set_cons_succ]
        refine wpAnyH_ready (rs := [10]) (by kernel_rfl) (by simp) ?_
        refine AllReadyH.cons rfl (fun K hK => ?_) AllReadyH.nil
        go_simp
        refine (psame_any Va Va o o true _ (HO.out.on hHeld2.1.below) (HO.out.on hHeld2.1.below) (by simp)).mono ?_
        rintro e we ⟨rfl, hbe⟩
        first | show K _ _ | go_wp2_with fail
        refine hK.out _ _ ?_ (fun hHeld3 => ?_)
        · exact ⟨hHeld2.1.onb hbe, below_on hHeld2.2 hbe hHeld2.2.size⟩
        clear hK K
        try simp only [Act.put, List.getElem_toArray, List.getElem_cons_zero, List.getElem_cons_succ, List.setIfInBounds_toArray, List.set_cons_zero, List.set_cons_succ]
        refine wpAnyH_take (i := 11) (v := ?_) rfl (by kernel_rfl) (by kernel_rfl) (by kernel_rfl) (fun _ _ _ h => h) (Or.inl ⟨by rfl, ?_⟩) (by assumption) ?_
        rotate_left
        · intro w hSw
          (try dsimp only at hSw)
          go_simp
          (try with_reducible rfl)
        try simp only [Act.put, List.getElem_toArray, List.getElem_cons_zero, List.getElem_cons_succ, List.setIfInBounds_toArray, List.set_cons_zero, List.set_cons_succ]
        refine wpAnyH_take (i := 12) (v := ?_) rfl (by kernel_rfl) (by kernel_rfl) (by kernel_rfl) (fun _ _ _ h => h) (Or.inl ⟨by rfl, ?_⟩) (by assumption) ?_
        rotate_left
        · intro w hSw
          (try dsimp only at hSw)
          go_simp
          (try with_reducible rfl)
        try simp only [Act.put, List.getElem_toArray, List.getElem_cons_zero, List.getElem_cons_succ, List.setIfInBounds_toArray, List.set_cons_zero, List.set_cons_succ]
        refine wpAnyH_done (by kernel_rfl) ?_ _
        have HQ8 := Lib.hid hHeld3.1
        have H78 := Lib.hid hHeld3.2
        clear hHeld hHeld1 hHeld2 hHeld3 HQ7 HS8
        have RES := Lib.hid HQ8.out.below
        have q1 := arg_eql
        clear H78 HQ8
        go_wp2_with fail
        go_ret
        exact ⟨rfl, RES.out⟩
      · as_aux_lemma =>
        have HNX := Lib.hid hx
        clear hk hx
        have HQ4 := Lib.hid (HQ3.out.onb hb4)
        clear hb4 HQ3
        go_wp2_with (refine wpList_load_row rfl _ _ rfl b2 rfl OT (ocells Va o).toArray (0, 0) _ HQ4.out.rowa Try.underlying31 rfl (by rw [size_obj]; rfl) ?_)
        refine (rBytes_any Va o _ (HO.out.on HQ4.out.below) HF.out.1).mono ?_
        have HGP := Lib.hid hgp
        have HPT := Lib.hid (bytesO_lt o)
        have HPL := Lib.hid (few_len HF.out)
        generalize bytesO o = P at *
        rintro e w5 ⟨v5, rfl, hbs, _, hb5⟩
        have HQ5 := Lib.hid (HQ4.out.onb hb5)
        have HB5 := Lib.hid (SRow.bytes hbs HPT.out)
        have H45 := Lib.hid hb5
        obtain ⟨a5, c5, rfl, _⟩ := hbs.shape
        clear hbs hb5 HQ4 hgp
        go_wp2_with fail
        refine (robj_any a5 P.length c5 P _ HB5.out rfl HPL.out).mono ?_
        rw [HGP.out]
        rintro e w6 ⟨V6, rfl, ho6, hb6⟩
        have HX6 := Lib.hid (box_run ho6)
        have hk6 := below_on hb6 HX6.out.2.2.2 hb6.size
        have HQ6 := Lib.hid (HQ5.out.onb hk6)
        have H56 := Lib.hid hk6
        clear ho6 hb6 hk6 HQ5
        clear HB5 HGP HPT HPL H45 H56
        go_wp2_with (first
          | (refine wpList_store_run _ rfl _ _ _ rfl _ _ rfl rfl (by exact HX6.out.1) ?_)
          | (refine wpList_load_row rfl _ _ rfl w6.heap.size rfl OT _ (0, 0) _ HX6.out.2.1 Try.underlying31 rfl (by rw [size_obj]; rfl) ?_)
          | (refine wpList_load_row rfl _ _ rfl b2 rfl OT (ocells Va o).toArray (0, 0) _ HQ6.out.rowa Try.underlying31 rfl (by rw [size_obj]; rfl) ?_))
        refine (rSame_any V6 Va x o false _ HX6.out.2.2.1 (HO.out.on HQ6.out.below) (by simp [HNX.out])).mono ?_
        rintro e w7 ⟨rfl, hb7⟩
        have HQ7 := Lib.hid (HQ6.out.onb hb7)
        clear hb7 HQ6 HX6
        have HS8 : Hid (∀ w', Two w w' b2 b3 Va Vb o p → Two w w' b2 b3 Va Vb o p) := fun _ h => h
        go_wp2_with fail
        refine wp_region_held_drew (S := fun w' => Two w w' b2 b3 Va Vb o p ∧ Below w7.heap.size w7 w') (by kernel_rfl) ?_ (fun hHeld => ?_)
        · exact ⟨HQ7.out.on (Drawn.of_n w7 1), (Drawn.of_n w7 1).below _⟩
        refine wpAnyH_take (i := 0) (v := _) rfl (by kernel_rfl) (by kernel_rfl) (by kernel_rfl) (fun _ _ _ h => h) (yieldsIf_load_mid (by rfl) _ _ rfl _ _ rfl _ _ (fun w hSw => hSw.1.rowa.range15) (Try.underlying31) rfl (by rw [size_obj]; rfl)) (by assumption) ?_
        try simp only [Act.put, List.getElem_toArray, List.getElem_cons_zero, List.setIfInBounds_toArray, List.set_cons_zero, List.set_cons_succ]
        refine wpAnyH_take (i := 1) (v := _) rfl (by kernel_rfl) (by kernel_rfl) (by kernel_rfl) (fun _ _ _ h => h) (yieldsIf_load_mid (by rfl) _ _ rfl _ _ rfl _ _ (fun w hSw => hSw.1.rowb.range15) (Try.underlying31) rfl (by rw [size_obj]; rfl)) (by assumption) ?_
        try simp only [Act.put, List.getElem_toArray, List.getElem_cons_zero, List.getElem_cons_succ, List.setIfInBounds_toArray, List.set_cons_zero, List.set_cons_succ]
        refine wpAnyH_take (i := 3) (v := _) rfl (by kernel_rfl) (by kernel_rfl) (by kernel_rfl) (fun _ _ _ h => h) (yieldsIf_load_mid (by rfl) _ _ rfl _ _ rfl _ _ (fun w hSw => hSw.1.rowa.range15) (Try.underlying31) rfl (by rw [size_obj]; rfl)) (by assumption) ?_
        try simp only [Act.put, List.getElem_toArray, List.getElem_cons_zero, List.getElem_cons_succ, List.setIfInBounds_toArray, List.set_cons_zero, List.set_cons_succ]
        refine wpAnyH_take (i := 4) (v := _) rfl (by kernel_rfl) (by kernel_rfl) (by kernel_rfl) (fun _ _ _ h => h) (yieldsIf_load_mid (by rfl) _ _ rfl _ _ rfl _ _ (fun w hSw => hSw.1.rowb.range15) (Try.underlying31) rfl (by rw [size_obj]; rfl)) (by assumption) ?_
        try simp only [Act.put, List.getElem_toArray, List.getElem_cons_zero, List.getElem_cons_succ, List.setIfInBounds_toArray, List.set_cons_zero, List.set_cons_succ]
        refine wpAnyH_ready (rs := [2]) (by kernel_rfl) (by simp) ?_
        refine AllReadyH.cons rfl (fun K hK => ?_) AllReadyH.nil
        go_simp
        refine (psame_any Va Vb o p r1 _ (HO.out.on hHeld.1.below) (HP.out.on hHeld.1.below) HR1.out).mono ?_
        rintro e we ⟨rfl, hbe⟩
        first | show K _ _ | go_wp2_with fail
        refine hK.out _ _ ?_ (fun hHeld1 => ?_)
        · exact ⟨hHeld.1.onb hbe, below_on hHeld.2 hbe hHeld.2.size⟩
        clear hK K
        try simp only [Act.put, List.getElem_toArray, List.getElem_cons_zero, List.getElem_cons_succ, List.setIfInBounds_toArray, List.set_cons_zero, List.set_cons_succ]
        refine wpAnyH_ready (rs := [5]) (by kernel_rfl) (by simp) ?_
        refine AllReadyH.cons rfl (fun K hK => ?_) AllReadyH.nil
        go_simp
        refine (rSame_any Va Vb o p r1 _ (HO.out.on hHeld1.1.below) (HP.out.on hHeld1.1.below) HR1.out).mono ?_
        rintro e we ⟨rfl, hbe⟩
        first | show K _ _ | go_wp2_with fail
        refine hK.out _ _ ?_ (fun hHeld2 => ?_)
        · exact ⟨hHeld1.1.onb hbe, below_on hHeld1.2 hbe hHeld1.2.size⟩
        clear hK K
        try simp only [Act.put, List.getElem_toArray, List.getElem_cons_zero, List.getElem_cons_succ, List.setIfInBounds_toArray, List.set_cons_zero, List.set_cons_succ]
        refine wpAnyH_take (i := 6) (v := ?_) rfl (by kernel_rfl) (by kernel_rfl) (by kernel_rfl) (fun _ _ _ h => h) (Or.inl ⟨by rfl, ?_⟩) (by assumption) ?_
        rotate_left
        · intro w hSw
          (try dsimp only at hSw)
          go_simp
          (try with_reducible rfl)
        try simp only [Act.put, List.getElem_toArray, List.getElem_cons_zero, List.getElem_cons_succ, List.setIfInBounds_toArray, List.set_cons_zero, List.set_cons_succ]
        refine wpAnyH_take (i := 7) (v := ?_) rfl (by kernel_rfl) (by kernel_rfl) (by kernel_rfl) (fun _ _ _ h => h) (Or.inl ⟨by rfl, ?_⟩) (by assumption) ?_
        rotate_left
        · intro w hSw
          (try dsimp only at hSw)
          go_simp
          (try with_reducible rfl)
        try simp only [Act.put, List.getElem_toArray, List.getElem_cons_zero, List.getElem_cons_succ, List.setIfInBounds_toArray, List.set_cons_zero, List.set_cons_succ]
        refine wpAnyH_take (i := 8) (v := _) rfl (by kernel_rfl) (by kernel_rfl) (by kernel_rfl) (fun _ _ _ h => h) (yieldsIf_load_mid (by rfl) _ _ rfl _ _ rfl _ _ (fun w hSw => hSw.1.rowa.range15) (Try.underlying31) rfl (by rw [size_obj]; rfl)) (by assumption) ?_
        try simp only [Act.put, List.getElem_toArray, List.getElem_cons_zero, List.getElem_cons_succ, List.setIfInBounds_toArray, List.set_cons_zero, List.set_cons_succ]
        refine wpAnyH_take (i := 9) (v := _) rfl (by kernel_rfl) (by kernel_rfl) (by kernel_rfl) (fun _ _ _ h => h) (yieldsIf_load_mid (by rfl) _ _ rfl _ _ rfl _ _ (fun w hSw => hSw.1.rowa.range15) (Try.underlying31) rfl (by rw [size_obj]; rfl)) (by assumption) ?_
        try simp only [Act.put, List.getElem_toArray, List.getElem_cons_zero, List.getElem_cons_succ, List.setIfInBounds_toArray, List.set_cons_zero, List.set_cons_succ]
        refine wpAnyH_ready (rs := [10]) (by kernel_rfl) (by simp) ?_
        refine AllReadyH.cons rfl (fun K hK => ?_) AllReadyH.nil
        go_simp
        refine (psame_any Va Va o o true _ (HO.out.on hHeld2.1.below) (HO.out.on hHeld2.1.below) (by simp)).mono ?_
        rintro e we ⟨rfl, hbe⟩
        first | show K _ _ | go_wp2_with fail
        refine hK.out _ _ ?_ (fun hHeld3 => ?_)
        · exact ⟨hHeld2.1.onb hbe, below_on hHeld2.2 hbe hHeld2.2.size⟩
        clear hK K
        try simp only [Act.put, List.getElem_toArray, List.getElem_cons_zero, List.getElem_cons_succ, List.setIfInBounds_toArray, List.set_cons_zero, List.set_cons_succ]
        refine wpAnyH_take (i := 11) (v := ?_) rfl (by kernel_rfl) (by kernel_rfl) (by kernel_rfl) (fun _ _ _ h => h) (Or.inl ⟨by rfl, ?_⟩) (by assumption) ?_
        rotate_left
        · intro w hSw
          (try dsimp only at hSw)
          go_simp
          (try with_reducible rfl)
        try simp only [Act.put, List.getElem_toArray, List.getElem_cons_zero, List.getElem_cons_succ, List.setIfInBounds_toArray, List.set_cons_zero, List.set_cons_succ]
        refine wpAnyH_take (i := 12) (v := ?_) rfl (by kernel_rfl) (by kernel_rfl) (by kernel_rfl) (fun _ _ _ h => h) (Or.inl ⟨by rfl, ?_⟩) (by assumption) ?_
        rotate_left
        · intro w hSw
          (try dsimp only at hSw)
          go_simp
          (try with_reducible rfl)
        try simp only [Act.put, List.getElem_toArray, List.getElem_cons_zero, List.getElem_cons_succ, List.setIfInBounds_toArray, List.set_cons_zero, List.set_cons_succ]
        refine wpAnyH_done (by kernel_rfl) ?_ _
        have HQ8 := Lib.hid hHeld3.1
        have H78 := Lib.hid hHeld3.2
        clear hHeld hHeld1 hHeld2 hHeld3 HQ7 HS8
        have RES := Lib.hid HQ8.out.below
        have q1 := arg_eql
        clear H78 HQ8
        go_wp2_with fail
        go_ret
        exact ⟨rfl, RES.out⟩
end Go.Proofs.Ythgnklgejlebhaa
