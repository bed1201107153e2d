/-
  The walk of ObjGets (layer 12): true at all bytes. No conditions.
-/
import Derived.Test.YthgnklgejlebhaaObjUp
import Derived.Test.YthgnklgejlebhaaObjE
import Derived.Test.YthgnklgejlebhaaDocD
namespace Go.Proofs.Ythgnklgejlebhaa
open Go.ChangeShapes Go.WideShapes Go.ChangeAt Go.RowKit

set_option maxRecDepth 100000 in
set_option maxHeartbeats 2000000 in
theorem objGets_walk (a : Option Addr) (n cap : Nat) (l : List Nat) (w : World) (hb : BytesAt w (.slice a n cap) l) (hn : l.length = n) :
    Calls Try.prog 4 #[.slice a n cap] w fun e w' => e = .returned (.bool true) ∧ Below w.heap.size w w' := by
  have HBY := Lib.hid hb
  by_cases hl : 6000 < n
  · as_aux_lemma =>
    have i1 : (6000 : Int) < (n : Int) := by omega
    clear hb hn hl HBY
    go_enter Try.func4, Try.ntmps4
    go_wp2_with fail
    refine (up12 _).mono ?_
    rintro e w1 ⟨rfl, hb1⟩
    have RES := Lib.hid hb1
    clear hb1
    go_wp2_with fail
    go_ret
    exact ⟨rfl, RES.out⟩
  have i1 : ¬ (6000 : Int) < (n : Int) := by omega
  cases hg : pGet l with
  | none =>
    have HGB : Hid (∀ w', Below w.heap.size w w' → Calls Try.prog 13 #[.slice a n cap] w' fun e w'' => ∃ V, e = .returned (.tuple #[.agg (ocells V noObj).toArray, .iface 43 (.int .i64 4)]) ∧ ObjAt w'' V noObj ∧ Below w'.heap.size w' w'') := fun w' h => by
      have := get_any _ l w' (HBY.out.on h) (by omega)
      rw [hg] at this
      exact this
    have HGR : Hid (∀ w', Below w.heap.size w w' → Calls Try.prog 10 #[.slice a n cap] w' fun e w'' => ∃ V, e = .returned (.tuple #[.agg (ocells V noObj).toArray, .bool false]) ∧ ObjAt w'' V noObj ∧ Below w'.heap.size w' w'') := fun w' h => by
      have := robj_any a n cap l w' (HBY.out.on h) hn (by omega)
      rw [hg] at this
      exact this
    clear hb hn hl hg HBY
    go_enter Try.func4, Try.ntmps4
    go_wp2_with fail
    refine (up12 _).mono ?_
    rintro e w1 ⟨rfl, hb1⟩
    go_wp2_with fail
    refine (HGB.out _ hb1).mono ?_
    rintro e w2 ⟨V2, rfl, ho2, hb2⟩
    have HX2 := Lib.hid (box_run ho2)
    have hk2 := below_on (below_on hb1 hb2 hb1.size) HX2.out.2.2.2 (below_on hb1 hb2 hb1.size).size
    have HK2 := Lib.hid hk2
    clear ho2 hb2 hb1 hk2 HGB
    go_wp2_with (refine wpList_store_run _ rfl _ _ _ rfl _ _ rfl rfl (by exact HX2.out.1) ?_)
    refine (HGR.out _ HK2.out).mono ?_
    rintro e w3 ⟨V3, rfl, ho3, hb3⟩
    have HX3 := Lib.hid (box_run ho3)
    have hk3 := below_on hb3 HX3.out.2.2.2 hb3.size
    have HR := Lib.hid (HX2.out.2.1.keep (Kept.of_below (S := fun _ => False) hk3) (fun h => h))
    have HO := Lib.hid (HX2.out.2.2.1.on hk3)
    have HK3 := Lib.hid (below_on HK2.out hk3 HK2.out.size)
    have q1 := form_eql
    clear ho3 hb3 hk3 HGR HX2 HK2
    go_wp2_with (first
      | (refine wpList_store_run _ rfl _ _ _ rfl _ _ rfl rfl (by exact HX3.out.1) ?_)
      | (refine load_row_on rfl _ _ rfl w2.heap.size rfl OT (ocells V2 noObj).toArray (0, 0) _ HR.out Try.underlying31 rfl (by rw [size_obj]; rfl) ?_))
    refine (rSame_any V2 nilV noObj noObj true _ HO.out ((lists_nil _).obj fit_nil) (by simp)).mono ?_
    rintro e w4 ⟨rfl, hb4⟩
    have RES := Lib.hid (below_on HK3.out hb4 HK3.out.size)
    clear hb4 HK3 HO HR HX3 q1
    go_wp2_with fail
    go_ret
    exact ⟨rfl, RES.out⟩
  | some p =>
    have HGB : Hid (∀ w', Below w.heap.size w w' → Calls Try.prog 13 #[.slice a n cap] w' fun e w'' => ∃ V, e = .returned (.tuple #[.agg (ocells V p).toArray, .nilIface]) ∧ ObjAt w'' V p ∧ Below w'.heap.size w' w'') := fun w' h => by
      have := get_any _ l w' (HBY.out.on h) (by omega)
      rw [hg] at this
      exact this
    have HGR : Hid (∀ w', Below w.heap.size w w' → Calls Try.prog 10 #[.slice a n cap] w' fun e w'' => ∃ V, e = .returned (.tuple #[.agg (ocells V p).toArray, .bool true]) ∧ ObjAt w'' V p ∧ Below w'.heap.size w' w'') := fun w' h => by
      have := robj_any a n cap l w' (HBY.out.on h) hn (by omega)
      rw [hg] at this
      exact this
    clear hb hn hl hg HBY
    go_enter Try.func4, Try.ntmps4
    go_wp2_with fail
    refine (up12 _).mono ?_
    rintro e w1 ⟨rfl, hb1⟩
    go_wp2_with fail
    refine (HGB.out _ hb1).mono ?_
    rintro e w2 ⟨V2, rfl, ho2, hb2⟩
    have HX2 := Lib.hid (box_run ho2)
    have hk2 := below_on (below_on hb1 hb2 hb1.size) HX2.out.2.2.2 (below_on hb1 hb2 hb1.size).size
    have HK2 := Lib.hid hk2
    clear ho2 hb2 hb1 hk2 HGB
    go_wp2_with (refine wpList_store_run _ rfl _ _ _ rfl _ _ rfl rfl (by exact HX2.out.1) ?_)
    refine (HGR.out _ HK2.out).mono ?_
    rintro e w3 ⟨V3, rfl, ho3, hb3⟩
    have HX3 := Lib.hid (box_run ho3)
    have hk3 := below_on hb3 HX3.out.2.2.2 hb3.size
    have HR := Lib.hid (HX2.out.2.1.keep (Kept.of_below (S := fun _ => False) hk3) (fun h => h))
    have HO := Lib.hid (HX2.out.2.2.1.on hk3)
    have HK3 := Lib.hid (below_on HK2.out hk3 HK2.out.size)
    clear ho3 hb3 hk3 HGR HX2 HK2
    go_wp2_with (first
      | (refine wpList_store_run _ rfl _ _ _ rfl _ _ rfl rfl (by exact HX3.out.1) ?_)
      | (refine load_row_on rfl _ _ rfl w2.heap.size rfl OT (ocells V2 p).toArray (0, 0) _ HR.out Try.underlying31 rfl (by rw [size_obj]; rfl) ?_)
      | (refine load_row_on rfl _ _ rfl w3.heap.size rfl OT (ocells V3 p).toArray (0, 0) _ HX3.out.2.1 Try.underlying31 rfl (by rw [size_obj]; rfl) ?_))
    refine (rSame_any V2 V3 p p true _ HO.out HX3.out.2.2.1 (by simp)).mono ?_
    rintro e w4 ⟨rfl, hb4⟩
    have RES := Lib.hid (below_on HK3.out hb4 HK3.out.size)
    clear hb4 HK3 HO HR HX3
    go_wp2_with fail
    go_ret
    exact ⟨rfl, RES.out⟩
theorem objGets_all (a : Option Addr) (n cap : Nat) (w : World) (hb : ∃ l, BytesAt w (.slice a n cap) l ∧ l.length = n) :
    Calls Try.prog 4 #[.slice a n cap] w fun e w' => e = .returned (.bool true) ∧ Below w.heap.size w w' := by
  obtain ⟨l, h1, h2⟩ := hb
  exact objGets_walk a n cap l w h1 h2
end Go.Proofs.Ythgnklgejlebhaa
