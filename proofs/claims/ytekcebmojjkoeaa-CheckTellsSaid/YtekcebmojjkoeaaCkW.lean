/-
  The walk of CheckTells (layer 14): true at any object, any chain, any kind. No conditions.
-/
import Derived.Test.YtekcebmojjkoeaaCkU
import Derived.Test.YtekcebmojjkoeaaRefCk
import Derived.Test.YtekcebmojjkoeaaChS
namespace Go.Proofs.Ytekcebmojjkoeaa
open Go.ChangeShapes Go.WideShapes Go.ChangeAt Go.RowKit

theorem refsG_len {o : ObjD} : ∀ (ks : List Nat) (acc Ls : List (List RefD)) (P : List Int), refsG o ks acc P = some Ls → Ls.length = acc.length + ks.length
  | [], acc, Ls, P, h => by
    rw [refsG] at h
    cases h
    rfl
  | a :: ks, acc, Ls, P, h => by
    cases hw : walkV o.code (fixO o a) (opK a) with
    | none => rw [refsG_none hw] at h; cases h
    | some l =>
      rw [refsG_some hw] at h
      cases hs : scan o a l P with
      | none => rw [hs] at h; cases h
      | some P' =>
        rw [hs] at h
        have := refsG_len ks (acc ++ [l]) Ls P' h
        rw [this, List.length_append, List.length_cons]
        simp
        omega
theorem refsV_len {o : ObjD} {Ls : List (List RefD)} (h : refsV o = some Ls) : Ls.length = 3 := by
  unfold refsV at h
  split at h
  · exact refsG_len _ _ _ _ h
  · cases h
/- while the law goes on: the object; the program's references, the document's -/
structure Tl (w wr : World) (ob lb : Nat) (V : ObjV) (o : ObjD) (cs : List Value) (u : Value) (vs : List Sl) (Ls : List (List RefD)) : Prop where
  look : Looks w wr ob V o
  row : RowAt wr lb A3T cs
  ours : ∀ (j : Nat) (l : List RefD), Ls[j]? = some l → ∃ v, cs[j]? = some v ∧ ElsAt 3 refRow wr v l
  list : ElsAt 1 slRow wr u vs
  theirs : ∀ (j : Nat) (l : List RefD), Ls[j]? = some l → ∃ s : Sl, vs[j]? = some s ∧ ElsAt 3 refRow wr s.v l
theorem Tl.on {w wr w' : World} {ob lb : Nat} {V : ObjV} {o : ObjD} {cs : List Value} {u : Value} {vs : List Sl} {Ls : List (List RefD)} (h : Tl w wr ob lb V o cs u vs Ls) (hb : Below wr.heap.size wr w') : Tl w w' ob lb V o cs u vs Ls := by
  refine ⟨h.look.on3 hb, h.row.keep (Kept.of_below (S := fun _ => False) hb) (fun e => e), fun j l hl => ?_, h.list.on hb, fun j l hl => ?_⟩
  · obtain ⟨v, hv, he⟩ := h.ours j l hl
    exact ⟨v, hv, he.on hb⟩
  · obtain ⟨v, hv, he⟩ := h.theirs j l hl
    exact ⟨v, hv, he.on hb⟩
set_option maxRecDepth 100000 in
set_option maxHeartbeats 4000000 in
theorem tells_none (V : ObjV) (o : ObjD) (which kind : Int) (w : World) (h : ObjAt w V o) (hv : refsV o = none) :
    Calls Try.prog 3 #[.agg (ocells V o).toArray, .int .i64 which, .int .i64 kind] w fun e w' => e = .returned (.bool true) ∧ Below w.heap.size w w' := by
  have HL' := Lib.hid (looks_new w V o)
  have HO := Lib.hid h
  clear h
  go_enter Try.func3, Try.ntmps3
  go_upto_region 1 with fail
  generalize w.alloc (.cells (ocells V o).toArray OT) = w0 at *
  obtain ⟨ob, hob⟩ : ∃ ob, ob = w.heap.size := ⟨_, rfl⟩
  have HL : Hid (Looks w w0 ob V o) := by rw [hob]; exact HL'.out
  rw [← hob]
  clear HL' hob
  go_wp2_with fail
  refine (up14 w0).mono ?_
  rintro e w1 ⟨rfl, hb1⟩
  have HL1 := Lib.hid (HL.out.on3 hb1)
  clear hb1 HL
  go_wp2_with (refine load_row_on rfl _ _ rfl ob rfl OT (ocells V o).toArray (0, 0) _ HL1.out.row Try.underlying31 rfl (by rw [size_ob]; rfl) ?_)
  refine (few2_any V o _ (HO.out.on HL1.out.below)).mono ?_
  rintro e w2 ⟨hfew, hb2⟩
  have HL2 := Lib.hid (HL1.out.on3 hb2)
  clear hb2 HL1
  rcases hfew with ⟨rfl, hsm⟩ | rfl
  rotate_left
  · as_aux_lemma =>
    go_wp2_with fail
    go_ret
    exact ⟨rfl, HL2.out.below⟩
  have HS := Lib.hid hsm
  have HPR := Lib.hid (prefs_any V o w2 (HO.out.on HL2.out.below))
  clear hsm
  go_wp2_with (refine load_row_on rfl _ _ rfl ob rfl OT (ocells V o).toArray (0, 0) _ HL2.out.row Try.underlying31 rfl (by rw [size_ob]; rfl) ?_)
  refine HPR.out.mono ?_
  rintro e w3 ht
  clear HPR
  rw [hv] at ht
  obtain ⟨rfl, hb3⟩ := ht
  obtain ⟨cs, hcs⟩ : ∃ cs, cs = nil3 := ⟨_, rfl⟩
  have HCS := Lib.hid hcs
  rw [← hcs]
  have RUN := Lib.hid (box_a3 w3 cs (by rw [hcs]; rfl) (by rw [hcs]; exact nil3_one))
  have hb4 : Below w2.heap.size w2 (w3.alloc (.cells cs.toArray A3T)) := below_on hb3 ((Below.refl _ _).alloc (Nat.le_refl _) _) hb3.size
  have HL4 := Lib.hid (HL2.out.on3 hb4)
  have HR4 : Hid (RowAt (w3.alloc (.cells cs.toArray A3T)) w3.heap.size A3T cs) := RowAt.new _ _ _
  clear hb4 HL2 hcs
  clear hb3
  go_upto_region 5 with (refine wpList_store_run _ rfl _ _ _ rfl _ _ rfl rfl (by exact RUN.out) ?_)
  clear RUN
  generalize w3.alloc (.cells cs.toArray A3T) = w4 at *
  generalize w3.heap.size = lb at *
  have HDR := Lib.hid (rrefs_any V o w4 (HO.out.on HL4.out.below) HS.out)
  clear HS
  go_wp2_with (refine load_row_on rfl _ _ rfl ob rfl OT (ocells V o).toArray (0, 0) _ HL4.out.row Try.underlying31 rfl (by rw [size_ob]; rfl) ?_)
  refine HDR.out.mono ?_
  rintro e w5 ht
  clear HDR
  rw [hv] at ht
  obtain ⟨rfl, hb5⟩ := ht
  have HT5 : Hid (Tl w w5 ob lb V o cs (.slice none 0 0) [] []) := ⟨HL4.out.on3 hb5, HR4.out.keep (Kept.of_below (S := fun _ => False) hb5) (fun e => e), (fun j l hl => by simp at hl), els_none _ _ _, (fun j l hl => by simp at hl)⟩
  have HVA : Hid (∀ w' : World, ObjAt w' V o → Calls Try.prog 9 #[.agg (ocells V o).toArray] w' fun e w'' => e = .returned (.bool false) ∧ Below w'.heap.size w' w'') := fun w' ho => valid_no V o w' ho (by rw [hv]; rfl)
  clear hb5 HL4 HR4 hv
  obtain ⟨rF, hrF⟩ := some_bool (FitsP which kind)
  have HF1 := Lib.hid (fun w => pfits_any which kind w rF hrF)
  have HF2 := Lib.hid (fun w => rfits_any which kind w rF hrF)
  clear hrF
  go_wp2_with (refine load_row_on rfl _ _ rfl ob rfl OT (ocells V o).toArray (0, 0) _ HT5.out.look.row Try.underlying31 rfl (by rw [size_ob]; rfl) ?_)
  refine (HVA.out _ (HO.out.on HT5.out.look.below)).mono ?_
  rintro e w6 ⟨rfl, hb6⟩
  have HT6 := Lib.hid (HT5.out.on hb6)
  clear hb6 HT5 HVA
  go_wp2_with fail
  refine (HF1.out _).mono ?_
  rintro e w' ⟨rfl, rfl⟩
  go_wp2_with fail
  refine (HF2.out _).mono ?_
  rintro e w' ⟨rfl, rfl⟩
  clear HF1 HF2
  have HBE : ∀ r : Bool, (r != r) = false := fun r => by cases r <;> rfl
  have hbe := HBE rF
  clear HBE
  go_wp2_with fail
  clear hbe
  go_loopw [12] (fun i wr => ∃ a : Nat, a ≤ 3 ∧ i = .int .i64 (a : Nat) ∧ Tl w wr ob lb V o cs (.slice none 0 0) [] []) (fun i _ => 3 - (intOf i).toNat)
  case atStart => exact ⟨0, by decide, rfl, HT6.out⟩
  case round =>
    clear HT6
    obtain ⟨a, ha, rfl, hT⟩ := hrel
    have HT := Lib.hid hT
    clear hT
    by_cases hlt : a < 3
    · have HA : Hid (a < 3) := hlt
      have i1 : (a : Int) < 3 := by omega
      have i2 : (0 : Int) ≤ (a : Int) := by omega
      have cl : wr.cell? ⟨lb, a, none⟩ = some (.slice none 0 0) := (HT.out.row.cell a).trans (by
        rw [HCS.out]
        rcases (show a = 0 ∨ a = 1 ∨ a = 2 by omega) with rfl | rfl | rfl <;> rfl)
      clear hlt ha
      go_wp2_with fail
      refine (same_yes _ _ [] _ (els_none _ _ _) (els_none _ _ _)).mono ?_
      rintro e w7 ⟨rfl, hd⟩
      have HT7 := Lib.hid (HT.out.on (hd.below _))
      clear hd HT cl
      go_wp2_with fail
      go_roundw
      case rel => exact ⟨a + 1, by have := HA.out; omega, by go_num, HT7.out⟩
      case measure => have := HA.out; simp [intOf]; omega
    · have i1 : ¬ (a : Int) < 3 := by omega
      clear hlt ha
      go_wp2_with fail
      go_ret
      exact ⟨rfl, HT.out.look.below⟩
set_option maxRecDepth 100000 in
set_option maxHeartbeats 4000000 in
theorem tells_some (V : ObjV) (o : ObjD) (which kind : Int) (w : World) (h : ObjAt w V o) (Ls : List (List RefD)) (hv : refsV o = some Ls) :
    Calls Try.prog 3 #[.agg (ocells V o).toArray, .int .i64 which, .int .i64 kind] w fun e w' => e = .returned (.bool true) ∧ Below w.heap.size w w' := by
  have HLN := Lib.hid (refsV_len hv)
  have HL' := Lib.hid (looks_new w V o)
  have HO := Lib.hid h
  clear h
  go_enter Try.func3, Try.ntmps3
  go_upto_region 1 with fail
  generalize w.alloc (.cells (ocells V o).toArray OT) = w0 at *
  obtain ⟨ob, hob⟩ : ∃ ob, ob = w.heap.size := ⟨_, rfl⟩
  have HL : Hid (Looks w w0 ob V o) := by rw [hob]; exact HL'.out
  rw [← hob]
  clear HL' hob
  go_wp2_with fail
  refine (up14 w0).mono ?_
  rintro e w1 ⟨rfl, hb1⟩
  have HL1 := Lib.hid (HL.out.on3 hb1)
  clear hb1 HL
  go_wp2_with (refine load_row_on rfl _ _ rfl ob rfl OT (ocells V o).toArray (0, 0) _ HL1.out.row Try.underlying31 rfl (by rw [size_ob]; rfl) ?_)
  refine (few2_any V o _ (HO.out.on HL1.out.below)).mono ?_
  rintro e w2 ⟨hfew, hb2⟩
  have HL2 := Lib.hid (HL1.out.on3 hb2)
  clear hb2 HL1
  rcases hfew with ⟨rfl, hsm⟩ | rfl
  rotate_left
  · as_aux_lemma =>
    go_wp2_with fail
    go_ret
    exact ⟨rfl, HL2.out.below⟩
  have HS := Lib.hid hsm
  have HPR := Lib.hid (prefs_any V o w2 (HO.out.on HL2.out.below))
  clear hsm
  go_wp2_with (refine load_row_on rfl _ _ rfl ob rfl OT (ocells V o).toArray (0, 0) _ HL2.out.row Try.underlying31 rfl (by rw [size_ob]; rfl) ?_)
  refine HPR.out.mono ?_
  rintro e w3 ht
  clear HPR
  rw [hv] at ht
  obtain ⟨cs, rfl, hl, h1, hels, hb3⟩ := ht
  have RUN := Lib.hid (box_a3 w3 cs hl h1)
  have hb4' : Below w3.heap.size w3 (w3.alloc (.cells cs.toArray A3T)) := (Below.refl _ _).alloc (Nat.le_refl _) _
  have HELS : Hid (∀ (j : Nat) (l : List RefD), Ls[j]? = some l → ∃ v, cs[j]? = some v ∧ ElsAt 3 refRow (w3.alloc (.cells cs.toArray A3T)) v l) := fun j l hj => by
    obtain ⟨v, g1, g2⟩ := hels j l hj
    exact ⟨v, g1, g2.on hb4'⟩
  have hb4 : Below w2.heap.size w2 (w3.alloc (.cells cs.toArray A3T)) := below_on hb3 hb4' hb3.size
  have HL4 := Lib.hid (HL2.out.on3 hb4)
  have HR4 : Hid (RowAt (w3.alloc (.cells cs.toArray A3T)) w3.heap.size A3T cs) := RowAt.new _ _ _
  clear hb4 hb4' HL2 hl h1 hels
  clear hb3
  go_upto_region 5 with (refine wpList_store_run _ rfl _ _ _ rfl _ _ rfl rfl (by exact RUN.out) ?_)
  clear RUN
  generalize w3.alloc (.cells cs.toArray A3T) = w4 at *
  generalize w3.heap.size = lb at *
  have HDR := Lib.hid (rrefs_any V o w4 (HO.out.on HL4.out.below) HS.out)
  clear HS
  go_wp2_with (refine load_row_on rfl _ _ rfl ob rfl OT (ocells V o).toArray (0, 0) _ HL4.out.row Try.underlying31 rfl (by rw [size_ob]; rfl) ?_)
  refine HDR.out.mono ?_
  rintro e w5 ht
  clear HDR
  rw [hv] at ht
  obtain ⟨u, vs, rfl, hou, hb5⟩ := ht
  have HT5 : Hid (Tl w w5 ob lb V o cs u vs Ls) := by
    refine ⟨HL4.out.on3 hb5, HR4.out.keep (Kept.of_below (S := fun _ => False) hb5) (fun e => e), fun j l hj => ?_, hou.row.els slRow_len, fun j l hj => ?_⟩
    · obtain ⟨v, g1, g2⟩ := HELS.out j l hj
      exact ⟨v, g1, g2.on hb5⟩
    · have hl := (List.getElem?_eq_some_iff.1 hj).1
      have hs := List.getElem?_eq_getElem (show j < vs.length by rw [hou.len]; exact hl)
      exact ⟨_, hs, (hou.els j _ l hs hj).els refRow_len⟩
  have HVN : Hid (vs.length = 3) := hou.len.trans HLN.out
  have HVA : Hid (∀ w' : World, ObjAt w' V o → Calls Try.prog 9 #[.agg (ocells V o).toArray] w' fun e w'' => e = .returned (.bool true) ∧ Below w'.heap.size w' w'') := fun w' ho => valid_yes V o w' ho (by rw [hv]; rfl)
  obtain ⟨ua, uc, hu, _⟩ := HT5.out.list.shape
  rw [HVN.out] at hu
  subst hu
  clear hb5 HL4 HR4 hv hou HELS
  obtain ⟨rF, hrF⟩ := some_bool (FitsP which kind)
  have HF1 := Lib.hid (fun w => pfits_any which kind w rF hrF)
  have HF2 := Lib.hid (fun w => rfits_any which kind w rF hrF)
  clear hrF
  go_wp2_with (refine load_row_on rfl _ _ rfl ob rfl OT (ocells V o).toArray (0, 0) _ HT5.out.look.row Try.underlying31 rfl (by rw [size_ob]; rfl) ?_)
  refine (HVA.out _ (HO.out.on HT5.out.look.below)).mono ?_
  rintro e w6 ⟨rfl, hb6⟩
  have HT6 := Lib.hid (HT5.out.on hb6)
  clear hb6 HT5 HVA
  go_wp2_with fail
  refine (HF1.out _).mono ?_
  rintro e w' ⟨rfl, rfl⟩
  go_wp2_with fail
  refine (HF2.out _).mono ?_
  rintro e w' ⟨rfl, rfl⟩
  clear HF1 HF2
  have HBE : ∀ r : Bool, (r != r) = false := fun r => by cases r <;> rfl
  have hbe := HBE rF
  clear HBE
  go_wp2_with fail
  clear hbe
  go_loopw [12] (fun i wr => ∃ a : Nat, a ≤ 3 ∧ i = .int .i64 (a : Nat) ∧ Tl w wr ob lb V o cs (.slice ua 3 uc) vs Ls) (fun i _ => 3 - (intOf i).toNat)
  case atStart => exact ⟨0, by decide, rfl, HT6.out⟩
  case round =>
    clear HT6
    obtain ⟨a, ha, rfl, hT⟩ := hrel
    have HT := Lib.hid hT
    clear hT
    by_cases hlt : a < 3
    · have HA : Hid (a < 3) := hlt
      have i1 : (a : Int) < 3 := by omega
      have i2 : (0 : Int) ≤ (a : Int) := by omega
      obtain ⟨l, hl⟩ : ∃ l, Ls[a]? = some l := ⟨_, List.getElem?_eq_getElem (by have := HLN.out; omega)⟩
      obtain ⟨v, hv, hev⟩ := HT.out.ours a l hl
      obtain ⟨s, hs, hes⟩ := HT.out.theirs a l hl
      have HEV := Lib.hid hev
      have HES := Lib.hid hes
      have cl : wr.cell? ⟨lb, a, none⟩ = some v := (HT.out.row.cell a).trans hv
      obtain ⟨b, off, cap, e0, _, u0⟩ := HT.out.list.cell1 hs (c0 := s.v) rfl
      rw [HVN.out] at e0
      have ea : ua = some ⟨b, off, none⟩ := by cases e0; rfl
      subst ea
      clear hlt ha hl hv hev hs hes e0
      go_wp2_with fail
      refine (same_yes _ _ l _ HEV.out HES.out).mono ?_
      rintro e w7 ⟨rfl, hd⟩
      have HT7 := Lib.hid (HT.out.on (hd.below _))
      clear hd HT cl u0 HEV HES
      go_wp2_with fail
      go_roundw
      case rel => exact ⟨a + 1, by have := HA.out; omega, by go_num, HT7.out⟩
      case measure => have := HA.out; simp [intOf]; omega
    · have i1 : ¬ (a : Int) < 3 := by omega
      clear hlt ha
      go_wp2_with fail
      go_ret
      exact ⟨rfl, HT.out.look.below⟩
theorem checkTells_all (V : ObjV) (o : ObjD) (which kind : Int) (w : World) (h : ObjAt w V o) (_ : (Lit.int .i64 which).wf = true) (_ : (Lit.int .i64 kind).wf = true) :
    Calls Try.prog 3 #[.agg (ocells V o).toArray, .int .i64 which, .int .i64 kind] w fun e w' => e = .returned (.bool true) ∧ Below w.heap.size w w' := by
  cases hv : refsV o with
  | none => exact tells_none V o which kind w h hv
  | some Ls => exact tells_some V o which kind w h Ls hv
end Go.Proofs.Ytekcebmojjkoeaa
