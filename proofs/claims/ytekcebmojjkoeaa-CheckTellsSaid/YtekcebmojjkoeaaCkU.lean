/-
  The examples at the head of layer 14's statements (up): true. No conditions.
-/
import Derived.Test.YtekcebmojjkoeaaCkR
import Derived.Test.YtekcebmojjkoeaaInsP
namespace Go.Proofs.Ytekcebmojjkoeaa
open Go.ChangeShapes Go.WideShapes Go.ChangeAt Go.RowKit

/- an object of nothing, and one of an instruction -/
def nilO : ObjV := ⟨.slice none 0 0, .slice none 0 0, .slice none 0 0, .slice none 0 0, .slice none 0 0, .slice none 0 0, .slice none 0 0⟩
theorem els_none {α : Type} (k : Nat) (row : α → List Value) (w : World) : ElsAt k row w (.slice none 0 0) [] := ⟨none, 0, 0, rfl, rfl, Nat.le_refl _, Nat.zero_le _, fun _ => rfl, .inl rfl⟩
theorem i64_0 : I64 0 := ⟨by decide, by decide⟩
theorem fit_none : ObjFit noObj := ⟨by decide, by decide, (fun x hx => by cases hx), (fun x hx => by cases hx), i64_0, by decide, (fun x hx => by cases hx), (fun x hx => by cases hx), (fun x hx => by cases hx), (fun x hx => by cases hx), (fun x hx => by cases hx), i64_0, i64_0, i64_0, i64_0⟩
theorem obj_none (w : World) : ObjAt w nilO noObj := ⟨els_none _ _ _, els_none _ _ _, els_none _ _ _, els_none _ _ _, els_none _ _ _, els_none _ _ _, els_none _ _ _, fit_none⟩
def oneV (a : Option Addr) : ObjV := { nilO with c := .slice a 1 1 }
def oneO : ObjD := { noObj with name := ⟨#[65]⟩, code := [1472200704], body := 1 }
theorem fit_one : ObjFit oneO := ⟨by decide, by decide, (fun x hx => by cases hx), (fun x hx => by cases hx), i64_0, by decide, (fun x hx => by simp [oneO, noObj] at hx; omega), (fun x hx => by cases hx), (fun x hx => by cases hx), (fun x hx => by cases hx), (fun x hx => by cases hx), i64_0, i64_0, i64_0, ⟨by decide, by decide⟩⟩
theorem words_oneC (wr : World) (x : Nat) (t : TypeId) : ElsAt 1 wordRow (wr.alloc (.cells #[.int .u32 (x : Nat)] t)) (.slice (some ⟨wr.heap.size, 0, none⟩) 1 1) [x] := by
  have hr : RowAt (wr.alloc (.cells #[.int .u32 (x : Nat)] t)) wr.heap.size t [.int .u32 (x : Nat)] := RowAt.new wr t _
  have hs : SRow t 1 (wr.alloc (.cells #[.int .u32 (x : Nat)] t)) (.slice (some ⟨wr.heap.size, 0, none⟩) 1 1) [x].length (rows wordRow [x]) :=
    ⟨.inr ⟨_, 1, [], rfl, hr, rfl, Nat.le_refl _, by simp [maxLen]⟩, rfl, fun u hu => by simp [rows, wordRow] at hu; subst hu; rfl⟩
  exact hs.els fun _ => rfl
theorem obj_one (wr : World) : ObjAt (wr.alloc (.cells #[.int .u32 ((1472200704 : Nat) : Int)] 22)) (oneV (some ⟨wr.heap.size, 0, none⟩)) oneO :=
  ⟨els_none _ _ _, els_none _ _ _, words_oneC wr 1472200704 _, els_none _ _ _, els_none _ _ _, els_none _ _ _, els_none _ _ _, fit_one⟩
theorem name_A : NameP (ByteArray.mk #[65]) := by
  refine ⟨by decide, by decide, fun i hi => ?_⟩
  have h1 : i < 1 := hi
  obtain rfl : i = 0 := by omega
  exact .inl (.inr (by decide))
theorem nms_nil : NmsP [] := fun i s h => by simp at h
theorem parts_one : PartsQ oneO := by
  refine ⟨⟨⟨by decide, by decide⟩, fun i s hs => ?_, nms_nil⟩, ⟨⟨by decide, by decide⟩, by decide, by decide, by decide⟩, ⟨by decide, fun i x h => ?_⟩, fun i x h => ?_, ⟨by decide, fun i x h => ?_⟩, ⟨⟨by decide, fun i x h => ?_⟩, ⟨by decide, fun i x h => ?_⟩, fun i x h => ?_⟩, by decide, by decide⟩
  · have hs' : ([(ByteArray.mk #[65])] : List ByteArray)[i]? = some s := hs
    have hl := (List.getElem?_eq_some_iff.1 hs').1
    have hi : i < 1 := hl
    obtain rfl : i = 0 := by omega
    have e : ByteArray.mk #[65] = s := by simpa using hs'
    subst e
    exact ⟨name_A, fun k t hk => by omega⟩
  all_goals (simp [oneO, noObj] at h)
theorem refsV_none : refsV noObj = none := refsV_no fun g => by have := g.2.1.2.2.1; simp [noObj] at this
theorem walk_start (o : ObjD) (a : Nat) (h : fixO o a = 0) : walkV o.code (fixO o a) (opK a) = some [] := by
  unfold walkV
  rw [if_pos h]
theorem refsG_start {o : ObjD} {a : Nat} (h : fixO o a = 0) (ks : List Nat) (acc : List (List RefD)) (P : List Int) : refsG o (a :: ks) acc P = refsG o ks (acc ++ [[]]) P := by
  rw [refsG_some (walk_start o a h), scan]
  rfl
theorem refsV_one : refsV oneO = some [[], [], []] := by
  rw [refsV_go parts_one, refsG_start rfl, refsG_start rfl, refsG_start rfl, refsG]
  rfl
theorem ones_obj14 (V : ObjV) (o : ObjD) (w : World) (h : ObjAt w V o) : Ones (ocells V o) := by
  obtain ⟨_, _, h1, _⟩ := h.imps.shape
  obtain ⟨_, _, h2, _⟩ := h.types.shape
  obtain ⟨_, _, h3, _⟩ := h.code.shape
  obtain ⟨_, _, h4, _⟩ := h.cmds.shape
  obtain ⟨_, _, h5, _⟩ := h.exps.shape
  obtain ⟨_, _, h6, _⟩ := h.ptrs.shape
  obtain ⟨_, _, h7, _⟩ := h.procs.shape
  intro u hu
  simp only [ocells, List.mem_cons, List.not_mem_nil, or_false] at hu
  rcases hu with rfl | rfl | rfl | rfl | rfl | rfl | rfl | rfl | rfl | rfl | rfl | rfl | rfl | rfl | rfl <;> first | rfl | (rw [h1]; rfl) | (rw [h2]; rfl) | (rw [h3]; rfl) | (rw [h4]; rfl) | (rw [h5]; rfl) | (rw [h6]; rfl) | (rw [h7]; rfl)
/- an object, copied into a variable of its own -/
theorem box_obj (wr : World) (n : Nat) (hn : n = wr.heap.size) (V : ObjV) (o : ObjD) (h1 : Ones (ocells V o)) :
    (Instr.storeAt OT (.pointer (some ⟨n, 0, none⟩)) (.agg (ocells V o).toArray)).run Try.prog (wr.alloc (.cells (ocells nilO noObj).toArray OT)) = .ok () (wr.alloc (.cells (ocells V o).toArray OT)) := by
  subst hn
  exact box_el wr OT 15 (ocells nilO noObj) (ocells V o) rfl rfl h1 size_ob
theorem valid_yes (V : ObjV) (o : ObjD) (w : World) (h : ObjAt w V o) (hv : (refsV o).isSome = true) : Calls Try.prog 9 #[.agg (ocells V o).toArray] w fun e w' => e = .returned (.bool true) ∧ Below w.heap.size w w' := by
  have := valid_any V o w h
  rw [hv] at this
  exact this
theorem valid_no (V : ObjV) (o : ObjD) (w : World) (h : ObjAt w V o) (hv : (refsV o).isSome = false) : Calls Try.prog 9 #[.agg (ocells V o).toArray] w fun e w' => e = .returned (.bool false) ∧ Below w.heap.size w w' := by
  have := valid_any V o w h
  rw [hv] at this
  exact this

set_option maxRecDepth 100000 in
set_option maxHeartbeats 2000000 in
theorem up14 (w : World) : Calls Try.prog 5 #[] w fun e w' => e = .returned (.bool true) ∧ Below w.heap.size w w' := by
  have HP : Hid (∀ w : World, Calls Try.prog 14 #[.agg #[.int .i64 21, .int .i64 15, .int .i64 0, .int .i64 0]] w fun e w' => e = .returned (.int .u32 ((1472200704 : Nat) : Int)) ∧ Below w.heap.size w w') := fun w => by
    have := refPutIns_any 21 15 0 0 w (by decide) (by decide) (by decide) (by decide) (by decide)
    rw [show insN 21 15 0 (lowN 0) = 1472200704 by decide] at this
    exact this
  have HV0 : Hid (∀ w : World, Calls Try.prog 9 #[.agg (ocells nilO noObj).toArray] w fun e w' => e = .returned (.bool false) ∧ Below w.heap.size w w') := fun w => valid_no nilO noObj w (obj_none w) (by rw [refsV_none]; rfl)
  have HF1 : Hid (∀ w : World, Calls Try.prog 10 #[.int .i64 0, .int .i64 0] w fun e w' => e = .returned (.bool true) ∧ w = w') := fun w => pfits_any 0 0 w true ⟨fun _ => .inl ⟨rfl, rfl⟩, fun _ => rfl⟩
  have HF2 : Hid (∀ w : World, Calls Try.prog 10 #[.int .i64 0, .int .i64 1] w fun e w' => e = .returned (.bool false) ∧ w = w') := fun w => pfits_any 0 1 w false ⟨(fun e => by cases e), (fun e => by unfold FitsP at e; omega)⟩
  have HF3 : Hid (∀ w : World, Calls Try.prog 10 #[.int .i64 1, .int .i64 1] w fun e w' => e = .returned (.bool true) ∧ w = w') := fun w => pfits_any 1 1 w true ⟨fun _ => .inr (.inl ⟨rfl, .inr rfl⟩), fun _ => rfl⟩
  have HF4 : Hid (∀ w : World, Calls Try.prog 10 #[.int .i64 2, .int .i64 2] w fun e w' => e = .returned (.bool true) ∧ w = w') := fun w => pfits_any 2 2 w true ⟨fun _ => .inr (.inr ⟨rfl, rfl⟩), fun _ => rfl⟩
  go_enter Try.func5, Try.ntmps5
  go_wp2_with fail
  refine (HP.out _).mono ?_
  rintro e w1 ⟨rfl, hb1⟩
  have hox := obj_one w1
  have RUN := Lib.hid (box_obj (w1.alloc (.cells #[.int .u32 ((1472200704 : Nat) : Int)] 22)) (w1.heap.size + 1) (by simp) (oneV (some ⟨w1.heap.size, 0, none⟩)) oneO (ones_obj14 _ _ _ hox))
  have hbo : Below (w1.alloc (.cells #[.int .u32 ((1472200704 : Nat) : Int)] 22)).heap.size (w1.alloc (.cells #[.int .u32 ((1472200704 : Nat) : Int)] 22)) ((w1.alloc (.cells #[.int .u32 ((1472200704 : Nat) : Int)] 22)).alloc (.cells (ocells (oneV (some ⟨w1.heap.size, 0, none⟩)) oneO).toArray OT)) := (Below.refl _ _).alloc (Nat.le_refl _) _
  have HOX := Lib.hid (hox.on hbo)
  have HRW : Hid (RowAt ((w1.alloc (.cells #[.int .u32 ((1472200704 : Nat) : Int)] 22)).alloc (.cells (ocells (oneV (some ⟨w1.heap.size, 0, none⟩)) oneO).toArray OT)) (w1.heap.size + 1) OT (ocells (oneV (some ⟨w1.heap.size, 0, none⟩)) oneO)) := by
    have := RowAt.new (w1.alloc (.cells #[.int .u32 ((1472200704 : Nat) : Int)] 22)) OT (ocells (oneV (some ⟨w1.heap.size, 0, none⟩)) oneO)
    rw [show (w1.alloc (.cells #[.int .u32 ((1472200704 : Nat) : Int)] 22)).heap.size = w1.heap.size + 1 by simp] at this
    exact this
  have HBB : Hid (Below w.heap.size w ((w1.alloc (.cells #[.int .u32 ((1472200704 : Nat) : Int)] 22)).alloc (.cells (ocells (oneV (some ⟨w1.heap.size, 0, none⟩)) oneO).toArray OT))) := by
    have h1 : Below w.heap.size w (w1.alloc (.cells #[.int .u32 ((1472200704 : Nat) : Int)] 22)) := below_on hb1 ((Below.refl _ _).alloc (Nat.le_refl _) _) hb1.size
    exact below_on h1 hbo h1.size
  clear hox hbo hb1 HP
  go_upto_region 2 with (refine wpList_store_run _ rfl _ _ _ rfl _ _ rfl rfl (by exact RUN.out) ?_)
  clear RUN
  generalize (w1.alloc (.cells #[.int .u32 ((1472200704 : Nat) : Int)] 22)).alloc (.cells (ocells (oneV (some ⟨w1.heap.size, 0, none⟩)) oneO).toArray OT) = w2 at *
  generalize w1.heap.size + 1 = ub at *
  generalize oneV (some ⟨w1.heap.size, 0, none⟩) = V at *
  have HRF := Lib.hid (prefs_any V oneO w2 HOX.out)
  go_wp2_with (refine load_row_on rfl _ _ rfl ub rfl OT (ocells V oneO).toArray (0, 0) _ HRW.out Try.underlying31 rfl (by rw [size_ob]; rfl) ?_)
  refine HRF.out.mono ?_
  rintro e w3 ht
  rw [refsV_one] at ht
  obtain ⟨cs, rfl, hl, h1, _, hb3⟩ := ht
  have RUN := Lib.hid (box_a3 w3 cs hl h1)
  have hb4 : Below w2.heap.size w2 (w3.alloc (.cells cs.toArray A3T)) := below_on hb3 ((Below.refl _ _).alloc (Nat.le_refl _) _) hb3.size
  have HRW4 := Lib.hid (HRW.out.keep (Kept.of_below (S := fun _ => False) hb4) (fun e => e))
  have HOX4 := Lib.hid (HOX.out.on hb4)
  have HBB4 := Lib.hid (below_on HBB.out hb4 HBB.out.size)
  clear hb3 hb4 hl h1 HRW HOX HBB HRF
  go_upto_region 3 with (refine wpList_store_run _ rfl _ _ _ rfl _ _ rfl rfl (by exact RUN.out) ?_)
  clear RUN
  generalize w3.alloc (.cells cs.toArray A3T) = w4 at *
  go_wp2_with (refine load_row_on rfl _ _ rfl ub rfl OT (ocells V oneO).toArray (0, 0) _ HRW4.out Try.underlying31 rfl (by rw [size_ob]; rfl) ?_)
  refine (valid_yes V oneO _ HOX4.out (by rw [refsV_one]; rfl)).mono ?_
  rintro e w5 ⟨rfl, hb5⟩
  have HBB5 := Lib.hid (below_on HBB4.out hb5 HBB4.out.size)
  clear hb5 HBB4 HRW4 HOX4
  go_wp2_with fail
  refine (HV0.out _).mono ?_
  rintro e w6 ⟨rfl, hb6⟩
  have HBB6 := Lib.hid (below_on HBB5.out hb6 HBB5.out.size)
  clear hb6 HBB5 HV0
  go_wp2_with fail
  refine (HF1.out _).mono ?_
  rintro e w' ⟨rfl, rfl⟩
  go_wp2_with fail
  refine (HF2.out _).mono ?_
  rintro e w' ⟨rfl, rfl⟩
  go_wp2_with fail
  refine (HF3.out _).mono ?_
  rintro e w' ⟨rfl, rfl⟩
  go_wp2_with fail
  refine (HF4.out _).mono ?_
  rintro e w' ⟨rfl, rfl⟩
  go_wp2_with fail
  go_ret
  exact ⟨rfl, HBB6.out⟩
end Go.Proofs.Ytekcebmojjkoeaa
