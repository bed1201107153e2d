/-
  The document's Object (layer 12), whole: what it tells of any bytes. Conditions: at most 100,000 bytes.
-/
import Derived.Test.YthgnklgejlebhaaDocC
namespace Go.Proofs.Ythgnklgejlebhaa
open Go.ChangeShapes Go.WideShapes Go.ChangeAt Go.RowKit

/- what nothing comes of -/
theorem told_none (w : World) : (Instr.storeAt OT (.pointer (some ⟨w.heap.size, 0, none⟩)) (.agg (ocells nilV noObj).toArray)).run Try.prog (w.alloc (.cells (ocells nilV noObj).toArray OT)) = .ok () (w.alloc (.cells (ocells nilV noObj).toArray OT)) ∧ RowAt (w.alloc (.cells (ocells nilV noObj).toArray OT)) w.heap.size OT (ocells nilV noObj) ∧
    ObjAt (w.alloc (.cells (ocells nilV noObj).toArray OT)) nilV noObj ∧ Below w.heap.size w (w.alloc (.cells (ocells nilV noObj).toArray OT)) := by
  obtain ⟨r1, _, _⟩ := told_row (RowAt.new w OT (ocells nilV noObj)) (xs := ocells nilV noObj) (k := 15) rfl rfl ones_nil size_obj
  rw [setRow_alloc] at r1
  exact ⟨r1, RowAt.new _ _ _, (lists_nil _).obj fit_nil, (Below.refl _ _).alloc (Nat.le_refl _) _⟩
set_option maxRecDepth 100000 in
set_option maxHeartbeats 1000000 in
theorem robj_few (a : Option Addr) (n cap : Nat) (w : World) (h2 : n < 2) :
    Calls Try.prog 10 #[.slice a n cap] w fun e w' => ∃ V, e = .returned (.tuple #[.agg (ocells V noObj).toArray, .bool false]) ∧ ObjAt w' V noObj ∧ Below w.heap.size w w' := by
  have T := Lib.hid (told_none w)
  have i1 : (n : Int) < 2 := by omega
  clear h2
  go_enter Try.func10, Try.ntmps10
  go_wp2_with (refine wpList_store_run _ rfl _ _ _ rfl _ _ rfl rfl (by exact T.out.1) ?_)
  refine bodyPost_ret (v := .tuple #[.agg (ocells nilV noObj).toArray, .bool false]) ?_ rfl ⟨nilV, rfl, T.out.2.2.1, T.out.2.2.2⟩
  exact results_two Try.results10 _ _ w.heap.size OT _ _ _ _ rfl rfl T.out.2.1 Try.underlying31 rfl (by rw [size_obj]; rfl)
set_option maxRecDepth 100000 in
set_option maxHeartbeats 1000000 in
theorem robj_not0 (b off n cap x : Nat) (w : World) (h2 : 2 ≤ n) (hb : b < w.heap.size) (c0 : w.cell? ⟨b, off, none⟩ = some (.int .u8 (x : Nat))) (hx : x ≠ 68) :
    Calls Try.prog 10 #[.slice (some ⟨b, off, none⟩) n cap] w fun e w' => ∃ V, e = .returned (.tuple #[.agg (ocells V noObj).toArray, .bool false]) ∧ ObjAt w' V noObj ∧ Below w.heap.size w w' := by
  have T := Lib.hid (told_none w)
  have i1 : ¬ (n : Int) < 2 := by omega
  have i2 : (0 : Int) < (n : Int) := by omega
  have d0 : (w.alloc (.cells (ocells nilV noObj).toArray OT)).cell? ⟨b, off, none⟩ = some (.int .u8 (x : Nat)) := (T.out.2.2.2.cell (p := ⟨b, off, none⟩) hb).trans c0
  have d0' : (w.alloc (.cells #[.string ⟨#[]⟩, .int .u32 0, .slice none 0 0, .slice none 0 0, .int .i64 0, .string ⟨#[]⟩, .slice none 0 0, .slice none 0 0, .slice none 0 0, .slice none 0 0, .slice none 0 0, .int .i64 0, .int .i64 0, .int .i64 0, .int .i64 0] OT)).cell? ⟨b, off, none⟩ = some (.int .u8 (x : Nat)) := d0
  have t0 : (((x : Nat) : Int) != 68) = true := by simp; omega
  clear h2 hb c0 hx d0
  go_enter Try.func10, Try.ntmps10
  go_wp2_with (refine wpList_store_run _ rfl _ _ _ rfl _ _ rfl rfl (by exact T.out.1) ?_)
  refine bodyPost_ret (v := .tuple #[.agg (ocells nilV noObj).toArray, .bool false]) ?_ rfl ⟨nilV, rfl, T.out.2.2.1, T.out.2.2.2⟩
  exact results_two Try.results10 _ _ w.heap.size OT _ _ _ _ rfl rfl T.out.2.1 Try.underlying31 rfl (by rw [size_obj]; rfl)
set_option maxRecDepth 100000 in
set_option maxHeartbeats 1000000 in
theorem robj_not1 (b off n cap y : Nat) (w : World) (h2 : 2 ≤ n) (hb : b < w.heap.size) (c0 : w.cell? ⟨b, off, none⟩ = some (.int .u8 68)) (c1 : w.cell? ⟨b, off + 1, none⟩ = some (.int .u8 (y : Nat))) (hy : y ≠ 87) :
    Calls Try.prog 10 #[.slice (some ⟨b, off, none⟩) n cap] w fun e w' => ∃ V, e = .returned (.tuple #[.agg (ocells V noObj).toArray, .bool false]) ∧ ObjAt w' V noObj ∧ Below w.heap.size w w' := by
  have T := Lib.hid (told_none w)
  have i1 : ¬ (n : Int) < 2 := by omega
  have i2 : (0 : Int) < (n : Int) := by omega
  have i3 : (1 : Int) < (n : Int) := by omega
  have d0 : (w.alloc (.cells #[.string ⟨#[]⟩, .int .u32 0, .slice none 0 0, .slice none 0 0, .int .i64 0, .string ⟨#[]⟩, .slice none 0 0, .slice none 0 0, .slice none 0 0, .slice none 0 0, .slice none 0 0, .int .i64 0, .int .i64 0, .int .i64 0, .int .i64 0] OT)).cell? ⟨b, off, none⟩ = some (.int .u8 68) := (T.out.2.2.2.cell (p := ⟨b, off, none⟩) hb).trans c0
  have d1 : (w.alloc (.cells #[.string ⟨#[]⟩, .int .u32 0, .slice none 0 0, .slice none 0 0, .int .i64 0, .string ⟨#[]⟩, .slice none 0 0, .slice none 0 0, .slice none 0 0, .slice none 0 0, .slice none 0 0, .int .i64 0, .int .i64 0, .int .i64 0, .int .i64 0] OT)).cell? ⟨b, off + 1, none⟩ = some (.int .u8 (y : Nat)) := (T.out.2.2.2.cell (p := ⟨b, off + 1, none⟩) hb).trans c1
  have t0 : (((y : Nat) : Int) != 87) = true := by simp; omega
  clear h2 hb c0 c1 hy
  go_enter Try.func10, Try.ntmps10
  go_wp2_with (refine wpList_store_run _ rfl _ _ _ rfl _ _ rfl rfl (by exact T.out.1) ?_)
  refine bodyPost_ret (v := .tuple #[.agg (ocells nilV noObj).toArray, .bool false]) ?_ rfl ⟨nilV, rfl, T.out.2.2.1, T.out.2.2.2⟩
  exact results_two Try.results10 _ _ w.heap.size OT _ _ _ _ rfl rfl T.out.2.1 Try.underlying31 rfl (by rw [size_obj]; rfl)
theorem robj_any (a : Option Addr) (n cap : Nat) (l : List Nat) (w : World) (h : BytesAt w (.slice a n cap) l) (hn : l.length = n) (small : n ≤ 100000) :
    Calls Try.prog 10 #[.slice a n cap] w fun e w' => ∃ V, e = .returned (.tuple #[.agg (ocells V ((pGet l).getD noObj)).toArray, .bool (pGet l).isSome]) ∧ ObjAt w' V ((pGet l).getD noObj) ∧ Below w.heap.size w w' := by
  match l, h, hn with
  | [], _, hn => exact robj_few a n cap w (by simp at hn; omega)
  | [x], _, hn =>
    have e : pGet [x] = none := by
      have : (pMark ([x], false)).1 = false := by
        show (if x = 68 then (false, (([] : List Nat), true)) else (false, ([], false))).1 = false
        split <;> rfl
      simp [pGet, this]
    rw [e]
    exact robj_few a n cap w (by simp at hn; omega)
  | x :: y :: r, h, hn =>
    have h2 : 2 ≤ n := by simp at hn; omega
    obtain ⟨b, off, cap', e0, hcell⟩ := h.byte (by simp)
    have hsz : (x :: y :: r).length = n := hn
    rw [hsz] at e0
    cases e0
    have c0 : w.cell? ⟨b, off, none⟩ = some (.int .u8 (x : Nat)) := hcell 0 (by simp)
    have c1 : w.cell? ⟨b, off + 1, none⟩ = some (.int .u8 (y : Nat)) := hcell 1 (by simp)
    have hb := cell_lt c0
    by_cases hx : x = 68
    · subst hx
      by_cases hy : y = 87
      · subst hy
        have hm : pMark (68 :: 87 :: r, false) = (true, (r, false)) := rfl
        refine robj_main _ n cap r _ w h hn small (fun e => ?_) (fun e => ?_)
        · rw [pGet, hm]
          simp only [e, if_true]
        · rw [pGet, hm]
          simp only [e, if_true, Bool.false_eq_true, if_false]
      · have e : pGet (68 :: y :: r) = none := by
          have : (pMark (68 :: y :: r, false)).1 = false := by rw [pMark_two, if_pos rfl]; simpa using hy
          simp [pGet, this]
        rw [e]
        exact robj_not1 b off n cap y w h2 hb c0 c1 hy
    · have e : pGet (x :: y :: r) = none := by
        have : (pMark (x :: y :: r, false)).1 = false := by rw [pMark_two, if_neg hx]
        simp [pGet, this]
      rw [e]
      exact robj_not0 b off n cap x w h2 hb c0 hx
end Go.Proofs.Ythgnklgejlebhaa
