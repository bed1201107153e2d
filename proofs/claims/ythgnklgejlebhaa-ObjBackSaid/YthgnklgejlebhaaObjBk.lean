/-
  The walk of ObjBack (layer 12): true at every object and all bytes. No conditions.
-/
import Derived.Test.YthgnklgejlebhaaObjUp
import Derived.Test.YthgnklgejlebhaaObjF
import Derived.Test.YthgnklgejlebhaaErr
namespace Go.Proofs.Ythgnklgejlebhaa
open Go.ChangeShapes Go.WideShapes Go.ChangeAt Go.RowKit

/- while the law goes on: the object in a variable of its own -/
structure Backs (w : World) (V : ObjV) (o : ObjD) (wr : World) : Prop where
  row : RowAt wr w.heap.size OT (ocells V o)
  below : Below w.heap.size w wr
theorem Backs.on {w : World} {V : ObjV} {o : ObjD} {wr w' : World} (h : Backs w V o wr) (hb : Below wr.heap.size wr w') : Backs w V o w' :=
  ⟨h.row.keep (Kept.of_below (S := fun _ => False) hb) (fun h => h), below_on h.below hb h.below.size⟩
theorem put_not (V : ObjV) (o : ObjD) (w : World) (h : ObjAt w V o) (hf : FewB o) (hk : ¬ putOk o) :
    Calls Try.prog 8 #[.agg (ocells V o).toArray] w fun e w' => e = .returned (.tuple #[.slice none 0 0, .iface 43 (.int .i64 1)]) ∧ Below w.heap.size w w' := put_no V o w h hf hk
theorem beq_self (s : ByteArray) : (s.toList == s.toList) = true := signs_is s
set_option maxRecDepth 100000 in
set_option maxHeartbeats 4000000 in
theorem objBack_walk (V : ObjV) (o : ObjD) (a : Option Addr) (n cap : Nat) (l : List Nat) (w : World) (ho : ObjAt w V o) (hb : BytesAt w (.slice a n cap) l) (hn : l.length = n) :
    Calls Try.prog 5 #[.agg (ocells V o).toArray, .slice a n cap] w fun e w' => e = .returned (.bool true) ∧ Below w.heap.size w w' := by
  have HBY := Lib.hid hb
  have HNL := Lib.hid hn
  have HX0 : Hid (Backs w V o (w.alloc (.cells (ocells V o).toArray OT))) := ⟨RowAt.new w _ _, (Below.refl _ _).alloc (Nat.le_refl _) _⟩
  have HO := Lib.hid ho
  clear ho hb hn
  go_enter Try.func5, Try.ntmps5
  go_upto_region 1 with fail
  generalize w.alloc (.cells (ocells V o).toArray OT) = w0 at *
  go_wp2_with fail
  refine (up12 w0).mono ?_
  rintro e w1 ⟨rfl, hb1⟩
  have HQ1 := Lib.hid (HX0.out.on hb1)
  clear hb1 HX0
  go_wp2_with (refine wpList_load_row rfl _ _ rfl w.heap.size rfl OT (ocells V o).toArray (0, 0) _ HQ1.out.row Try.underlying31 rfl (by rw [size_obj]; rfl) ?_)
  refine (few_any V o _ (HO.out.on HQ1.out.below)).mono ?_
  rintro e w2 ⟨hf, hb2⟩
  have HQ2 := Lib.hid (HQ1.out.on hb2)
  clear hb2 HQ1
  rcases hf with ⟨rfl, hf⟩ | rfl
  rotate_left
  · as_aux_lemma =>
    have RES := Lib.hid HQ2.out.below
    clear HQ2
    go_wp2_with fail
    go_ret
    exact ⟨rfl, RES.out⟩
  have HF := Lib.hid hf
  clear hf
  by_cases hl : 6000 < n
  · as_aux_lemma =>
    have i1 : (6000 : Int) < (n : Int) := by omega
    have RES := Lib.hid HQ2.out.below
    clear HQ2 hl
    go_wp2_with fail
    go_ret
    exact ⟨rfl, RES.out⟩
  have i1 : ¬ (6000 : Int) < (n : Int) := by omega
  have HLL : Hid (l.length ≤ 6000) := by show _ ≤ _; have := HNL.out; omega
  clear hl
  go_wp2_with (refine wpList_load_row rfl _ _ rfl w.heap.size rfl OT (ocells V o).toArray (0, 0) _ HQ2.out.row Try.underlying31 rfl (by rw [size_obj]; rfl) ?_)
  by_cases hk : putOk o
  · as_aux_lemma =>
    refine (put_yes V o _ (HO.out.on HQ2.out.below) HF.out hk).mono ?_
    have HLT := Lib.hid (pwrite_lt o)
    have HPG := Lib.hid hk.2
    have HPL := Lib.hid hk.1
    clear hk
    generalize pwrite o = P at *
    rintro e w3 ⟨v3, rfl, hbs, hb3⟩
    have HQ3 := Lib.hid (HQ2.out.on hb3)
    have HBS := Lib.hid (SRow.bytes hbs HLT.out)
    obtain ⟨a3, c3, rfl, _⟩ := hbs.shape
    clear hbs hb3 HQ2
    have HG1 : Hid (∀ v w, BytesAt w v P → Calls Try.prog 13 #[v] w fun e w' => ∃ V, e = .returned (.tuple #[.agg (ocells V o).toArray, .nilIface]) ∧ ObjAt w' V o ∧ Below w.heap.size w w') := fun v w h => by
      have := get_any v P w h (by have := HPL.out; omega)
      rw [HPG.out] at this
      exact this
    have HG2 : Hid (∀ v w, BytesAt w v (P ++ [0]) → Calls Try.prog 13 #[v] w fun e w' => ∃ V, e = .returned (.tuple #[.agg (ocells V noObj).toArray, .iface 43 (.int .i64 4)]) ∧ ObjAt w' V noObj ∧ Below w.heap.size w w') := fun v w h => by
      have := get_any v (P ++ [0]) w h (by have := HPL.out; simp; omega)
      rw [pGet_more HPG.out (by simp)] at this
      exact this
    go_wp2_with fail
    refine (HG1.out _ w3 HBS.out).mono ?_
    rintro e w4 ⟨V4, rfl, ho4, hb4⟩
    have HX4 := Lib.hid (box_run ho4)
    have HQ4 := Lib.hid ((HQ3.out.on hb4).on HX4.out.2.2.2)
    have HBS4 := Lib.hid ((HBS.out.on hb4).on HX4.out.2.2.2)
    clear ho4 hb4 HQ3 HBS HG1
    generalize w4.alloc (.cells (ocells V4 o).toArray OT) = wz at *
    obtain ⟨v5, w5, r5, s5, o5, b5, n5⟩ := copy_run HBS4.out (by have := HPL.out; omega)
    obtain ⟨v6, w6, r6, s6, g6⟩ := more_byte (l := P) s5 0 (by have := HPL.out; omega)
    have hb6 := g6.1.below b5 b5.size fun j _ hj => o5 j hj
    have HQ6 := Lib.hid (HQ4.out.on hb6)
    have HB6 := Lib.hid (SRow.bytes (l := P ++ [0]) s6 (lt_append HLT.out (by simp)))
    have HX6 := Lib.hid (HX4.out.2.1.keep (Kept.of_below (S := fun _ => False) hb6) (fun h => h))
    have HO6 := Lib.hid (HX4.out.2.2.1.on hb6)
    clear s5 o5 b5 n5 s6 g6 hb6
    go_wp2_with (first
      | (refine wpList_store_run _ rfl _ _ _ rfl _ _ rfl rfl (by exact HX4.out.1) ?_)
      | (at_builtin; first | refine Lib.wpList_append_run _ rfl _ _ _ _ rfl (.slice (some ⟨wz.heap.size, 0, none⟩) 0 0) (.slice a3 P.length c3) rfl rfl _ _ r5 ?_ | refine Lib.wpList_append_run _ rfl _ _ _ _ rfl v5 (.slice (some ⟨w5.heap.size, 0, none⟩) 1 1) rfl rfl _ _ r6 ?_))
    refine (HG2.out _ w6 HB6.out).mono ?_
    rintro e w7 ⟨V7, rfl, ho7, hb7⟩
    have HX7 := Lib.hid (box_run ho7)
    have hk7 := below_on hb7 HX7.out.2.2.2 hb7.size
    have HQ7 := Lib.hid (HQ6.out.on hk7)
    have HR7 := Lib.hid (HX6.out.keep (Kept.of_below (S := fun _ => False) hk7) (fun h => h))
    have HO7 := Lib.hid (HO6.out.on hk7)
    have q4 := form_neq
    clear ho7 hb7 hk7 HQ6 HX6 HO6 HB6 HG2 r5 r6 HX4 HQ4 HBS4
    go_wp2_with (first
      | (refine wpList_store_run _ rfl _ _ _ rfl _ _ rfl rfl (by exact HX7.out.1) ?_)
      | (refine load_row_on rfl _ _ rfl w4.heap.size rfl OT (ocells V4 o).toArray (0, 0) _ HR7.out Try.underlying31 rfl (by rw [size_obj]; rfl) ?_)
      | (refine load_row_on rfl _ _ rfl w.heap.size rfl OT (ocells V o).toArray (0, 0) _ HQ7.out.row Try.underlying31 rfl (by rw [size_obj]; rfl) ?_))
    refine (psame_any V4 V o o true _ HO7.out (HO.out.on HQ7.out.below) (by simp)).mono ?_
    rintro e w8 ⟨rfl, hb8⟩
    have HQ := Lib.hid (HQ7.out.on hb8)
    clear hb8 HQ7 HR7 HO7 HX7 q4 HPG HPL HLT
    cases hg : pGet l with
    | none =>
      have HGB : Hid (∀ w', Below w.heap.size w w' → Calls Try.prog 13 #[.slice a n cap] w' fun e w'' => ∃ V, e = .returned (.tuple #[.agg (ocells V noObj).toArray, .iface 43 (.int .i64 4)]) ∧ ObjAt w'' V noObj ∧ Below w'.heap.size w' w'') := fun w' h => by
        have := get_any _ l w' (HBY.out.on h) (by have := HLL.out; omega)
        rw [hg] at this
        exact this
      clear hg
      go_wp2_with fail
      refine (HGB.out _ HQ.out.below).mono ?_
      rintro e u1 ⟨V1, rfl, ho1, hb1⟩
      have HX := Lib.hid (box_run ho1)
      have RES := Lib.hid ((HQ.out.on hb1).on HX.out.2.2.2).below
      clear ho1 hb1 HGB HQ
      go_wp2_with (refine wpList_store_run _ rfl _ _ _ rfl _ _ rfl rfl (by exact HX.out.1) ?_)
      go_ret
      exact ⟨rfl, RES.out⟩
    | some p =>
      have HGB : Hid (∀ w', Below w.heap.size w w' → Calls Try.prog 13 #[.slice a n cap] w' fun e w'' => ∃ V, e = .returned (.tuple #[.agg (ocells V p).toArray, .nilIface]) ∧ ObjAt w'' V p ∧ Below w'.heap.size w' w'') := fun w' h => by
        have := get_any _ l w' (HBY.out.on h) (by have := HLL.out; omega)
        rw [hg] at this
        exact this
      have HFP := Lib.hid (few_got HBY.out.fit HLL.out hg)
      have HWP := Lib.hid (pGet_back HBY.out.fit (by have := HLL.out; omega) hg)
      have HGP := Lib.hid hg
      clear hg
      go_wp2_with fail
      refine (HGB.out _ HQ.out.below).mono ?_
      rintro e u1 ⟨V1, rfl, ho1, hb1⟩
      have HX := Lib.hid (box_run ho1)
      have HQ2 := Lib.hid ((HQ.out.on hb1).on HX.out.2.2.2)
      clear ho1 hb1 HGB HQ
      go_wp2_with (first
        | (refine wpList_store_run _ rfl _ _ _ rfl _ _ rfl rfl (by exact HX.out.1) ?_)
        | (refine wpList_load_row rfl _ _ rfl u1.heap.size rfl OT (ocells V1 p).toArray (0, 0) _ HX.out.2.1 Try.underlying31 rfl (by rw [size_obj]; rfl) ?_))
      by_cases hl : 4000 < l.length
      · have hno : ¬ putOk p := fun h => by have h1 := h.1; rw [← HWP.out] at h1; omega
        have i9 : (4000 : Int) < (n : Int) := by have := HNL.out; omega
        have q1 := arg_eql
        refine (put_not V1 p _ HX.out.2.2.1 HFP.out hno).mono ?_
        rintro e u2 ⟨rfl, hb2⟩
        have RES := Lib.hid (HQ2.out.on hb2).below
        clear hb2 HQ2 hno hl HX
        go_wp2_with fail
        go_ret
        exact ⟨rfl, RES.out⟩
      · have hyes : putOk p := ⟨by rw [← HWP.out]; omega, by rw [← HWP.out]; exact HGP.out⟩
        have i9 : ¬ (4000 : Int) < (n : Int) := by have := HNL.out; omega
        refine (put_yes V1 p _ HX.out.2.2.1 HFP.out hyes).mono ?_
        rw [← HWP.out]
        rintro e u2 ⟨v2, rfl, hbs, hb2⟩
        have RES := Lib.hid (HQ2.out.on hb2).below
        have hc1 := (SRow.bytes hbs HBY.out.fit).string
        have hc2 := (HBY.out.on RES.out).string
        have e9 := beq_self (strOf l)
        obtain ⟨a2, c2, rfl, _⟩ := hbs.shape
        clear hb2 HQ2 hyes hl HX hbs
        go_wp2_with fail
        go_ret
        exact ⟨rfl, RES.out⟩
  · as_aux_lemma =>
    refine (put_not V o _ (HO.out.on HQ2.out.below) HF.out hk).mono ?_
    rintro e w3 ⟨rfl, hb3⟩
    have HQ := Lib.hid (HQ2.out.on hb3)
    clear hb3 HQ2 hk
    cases hg : pGet l with
    | none =>
      have HGB : Hid (∀ w', Below w.heap.size w w' → Calls Try.prog 13 #[.slice a n cap] w' fun e w'' => ∃ V, e = .returned (.tuple #[.agg (ocells V noObj).toArray, .iface 43 (.int .i64 4)]) ∧ ObjAt w'' V noObj ∧ Below w'.heap.size w' w'') := fun w' h => by
        have := get_any _ l w' (HBY.out.on h) (by have := HLL.out; omega)
        rw [hg] at this
        exact this
      clear hg
      go_wp2_with fail
      refine (HGB.out _ HQ.out.below).mono ?_
      rintro e u1 ⟨V1, rfl, ho1, hb1⟩
      have HX := Lib.hid (box_run ho1)
      have RES := Lib.hid ((HQ.out.on hb1).on HX.out.2.2.2).below
      clear ho1 hb1 HGB HQ
      go_wp2_with (refine wpList_store_run _ rfl _ _ _ rfl _ _ rfl rfl (by exact HX.out.1) ?_)
      go_ret
      exact ⟨rfl, RES.out⟩
    | some p =>
      have HGB : Hid (∀ w', Below w.heap.size w w' → Calls Try.prog 13 #[.slice a n cap] w' fun e w'' => ∃ V, e = .returned (.tuple #[.agg (ocells V p).toArray, .nilIface]) ∧ ObjAt w'' V p ∧ Below w'.heap.size w' w'') := fun w' h => by
        have := get_any _ l w' (HBY.out.on h) (by have := HLL.out; omega)
        rw [hg] at this
        exact this
      have HFP := Lib.hid (few_got HBY.out.fit HLL.out hg)
      have HWP := Lib.hid (pGet_back HBY.out.fit (by have := HLL.out; omega) hg)
      have HGP := Lib.hid hg
      clear hg
      go_wp2_with fail
      refine (HGB.out _ HQ.out.below).mono ?_
      rintro e u1 ⟨V1, rfl, ho1, hb1⟩
      have HX := Lib.hid (box_run ho1)
      have HQ2 := Lib.hid ((HQ.out.on hb1).on HX.out.2.2.2)
      clear ho1 hb1 HGB HQ
      go_wp2_with (first
        | (refine wpList_store_run _ rfl _ _ _ rfl _ _ rfl rfl (by exact HX.out.1) ?_)
        | (refine wpList_load_row rfl _ _ rfl u1.heap.size rfl OT (ocells V1 p).toArray (0, 0) _ HX.out.2.1 Try.underlying31 rfl (by rw [size_obj]; rfl) ?_))
      by_cases hl : 4000 < l.length
      · have hno : ¬ putOk p := fun h => by have h1 := h.1; rw [← HWP.out] at h1; omega
        have i9 : (4000 : Int) < (n : Int) := by have := HNL.out; omega
        have q1 := arg_eql
        refine (put_not V1 p _ HX.out.2.2.1 HFP.out hno).mono ?_
        rintro e u2 ⟨rfl, hb2⟩
        have RES := Lib.hid (HQ2.out.on hb2).below
        clear hb2 HQ2 hno hl HX
        go_wp2_with fail
        go_ret
        exact ⟨rfl, RES.out⟩
      · have hyes : putOk p := ⟨by rw [← HWP.out]; omega, by rw [← HWP.out]; exact HGP.out⟩
        have i9 : ¬ (4000 : Int) < (n : Int) := by have := HNL.out; omega
        refine (put_yes V1 p _ HX.out.2.2.1 HFP.out hyes).mono ?_
        rw [← HWP.out]
        rintro e u2 ⟨v2, rfl, hbs, hb2⟩
        have RES := Lib.hid (HQ2.out.on hb2).below
        have hc1 := (SRow.bytes hbs HBY.out.fit).string
        have hc2 := (HBY.out.on RES.out).string
        have e9 := beq_self (strOf l)
        obtain ⟨a2, c2, rfl, _⟩ := hbs.shape
        clear hb2 HQ2 hyes hl HX hbs
        go_wp2_with fail
        go_ret
        exact ⟨rfl, RES.out⟩
theorem objBack_all (V : ObjV) (o : ObjD) (a : Option Addr) (n cap : Nat) (w : World) (ho : ObjAt w V o) (hb : ∃ l, BytesAt w (.slice a n cap) l ∧ l.length = n) :
    Calls Try.prog 5 #[.agg (ocells V o).toArray, .slice a n cap] w fun e w' => e = .returned (.bool true) ∧ Below w.heap.size w w' := by
  obtain ⟨l, h1, h2⟩ := hb
  exact objBack_walk V o a n cap l w ho h1 h2
end Go.Proofs.Ythgnklgejlebhaa
