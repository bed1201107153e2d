/-
  The document's Ints and Same (layer 12): whether numbers, and objects, are the same. No conditions beyond those that each theorem names. (Written by wip/tools/obj-s.py.)
-/
import Derived.Test.YtkkjfbpflfknpaaObjQ
import Derived.Deep.RegionHeld3
namespace Go.Proofs.Ytkkjfbpflfknpaa
open Go.ChangeShapes Go.WideShapes Go.ChangeAt Go.RowKit

theorem signs_is (s : ByteArray) : (s.toList == s.toList) = true := by simp
theorem signs_not {s t : ByteArray} (h : s ≠ t) : (s.toList == t.toList) = false := by
  rw [ByteArray.toList_eq, ByteArray.toList_eq, beq_eq_false_iff_ne]
  exact fun e => h (WideShapes.bytes_inj e)
theorem upto_all {α : Type} {A B : List α} (hl : A.length = B.length) {n : Nat} (hn : n = A.length) (h : ∀ i, i < n → A[i]? = B[i]?) : A = B := by
  refine List.ext_getElem? fun i => ?_
  by_cases hi : i < n
  · exact h i hi
  · rw [List.getElem?_eq_none (by omega), List.getElem?_eq_none (by omega)]
theorem upto_next {α : Type} {A B : List α} {m : Nat} {x : α} (h : ∀ i, i < m → A[i]? = B[i]?) (ha : A[m]? = some x) (hb : B[m]? = some x) : ∀ i, i < m + 1 → A[i]? = B[i]? := fun i hi => by
  by_cases e : i < m
  · exact h i e
  · obtain rfl : i = m := by omega
    rw [ha, hb]

set_option maxRecDepth 100000 in
set_option maxHeartbeats 1000000 in
theorem rInts_any (v1 v2 : Value) (A B : List Int) (r : Bool) (w : World) (h1 : ElsAt 1 intRow w v1 A) (h2 : ElsAt 1 intRow w v2 B) (hr : r = true ↔ A = B) :
    Calls Try.prog 20 #[v1, v2] w fun e w' => e = .returned (.bool r) ∧ Drawn w w' := by
  obtain ⟨a1, c1, rfl, g1, g2, _⟩ := h1.shape
  obtain ⟨a2, c2, rfl, _⟩ := h2.shape
  have H1 := Lib.hid h1
  have H2 := Lib.hid h2
  have HR := Lib.hid hr
  obtain ⟨n1, hn1⟩ : ∃ n, n = A.length := ⟨_, rfl⟩
  obtain ⟨n2, hn2⟩ : ∃ n, n = B.length := ⟨_, rfl⟩
  have hsm : n1 ≤ 9223372036854775807 := by rw [hn1]; exact Nat.le_trans g1 g2
  have HN1 := Lib.hid hn1
  have HN2 := Lib.hid hn2
  rw [← hn1, ← hn2]
  clear h1 h2 hr hn1 hn2 g1 g2
  by_cases hl : n1 = n2
  · have e1 : ((n1 : Int) == (n2 : Int)) = true := by simp; omega
    go_enter Try.func20, Try.ntmps20
    go_wp2_with fail
    go_loopw [5] (fun i wr => Drawn w wr ∧ ∃ m : Nat, m ≤ n1 ∧ i = .int .i64 (m : Nat) ∧ ∀ i, i < m → A[i]? = B[i]?) (fun i _ => n1 - (intOf i).toNat)
    case atStart => exact ⟨Drawn.refl _, 0, Nat.zero_le _, rfl, fun i hi => by omega⟩
    case round =>
      obtain ⟨hd, m, hm, rfl, hup⟩ := hrel
      have HD := Lib.hid hd
      have HU := Lib.hid hup
      clear hd hup
      by_cases hlt : m < n1
      · obtain ⟨x, hx⟩ : ∃ x, A[m]? = some x := ⟨_, List.getElem?_eq_getElem (by have := HN1.out; omega)⟩
        obtain ⟨y, hy⟩ : ∃ y, B[m]? = some y := ⟨_, List.getElem?_eq_getElem (by have := HN2.out; omega)⟩
        obtain ⟨b, off, cap, e2, hb, d0⟩ := H1.out.cell1 hx rfl
        obtain ⟨b', off', cap', e3, hb', d1⟩ := H2.out.cell1 hy rfl
        rw [← HN1.out] at e2
        rw [← HN2.out] at e3
        cases e2
        cases e3
        have q0 := (HD.out.cell ⟨b, off + m, none⟩).trans d0
        have q1 := (HD.out.cell ⟨b', off' + m, none⟩).trans d1
        have HX := Lib.hid hx
        have HY := Lib.hid hy
        have i1 : (m : Int) < (n1 : Int) := by omega
        have i2 : (0 : Int) ≤ (m : Int) := by omega
        have i3 : (m : Int) < (n2 : Int) := by omega
        clear hx hy hb hb' d0 d1
        by_cases hxy : x = y
        · have t1 : (x == y) = true := by simp [hxy]
          have HXY := Lib.hid hxy
          clear hxy
          go_wp2_with fail
          refine wp_region_held_drew (S := fun w' => (w'.cell? ⟨b, off + m, none⟩ = some (.int .i64 x) ∧ w'.cell? ⟨b', off' + m, none⟩ = some (.int .i64 y)) ∧ Drawn w w') (by kernel_rfl) ?_ (fun hHeld => ?_)
          · exact ⟨⟨q0, q1⟩, HD.out.more 1⟩
          refine wpAnyH_take (i := 0) (v := ?_) rfl (by kernel_rfl) (by kernel_rfl) (by kernel_rfl) (fun _ _ _ h => h) (Or.inl ⟨by rfl, ?_⟩) (by assumption) ?_
          rotate_left
          · intro w hSw
            (try dsimp only at hSw)
            go_simp
            (try with_reducible rfl)
          try simp only [Act.put, List.getElem_toArray, List.getElem_cons_zero, List.setIfInBounds_toArray, List.set_cons_zero, List.set_cons_succ]
          refine wpAnyH_take (i := 1) (v := ?_) rfl (by kernel_rfl) (by kernel_rfl) (by kernel_rfl) (fun _ _ _ h => h) (Or.inl ⟨by rfl, ?_⟩) (by assumption) ?_
          rotate_left
          · intro w hSw
            (try dsimp only at hSw)
            go_simp
            (try with_reducible rfl)
          try simp only [Act.put, List.getElem_toArray, List.getElem_cons_zero, List.getElem_cons_succ, List.setIfInBounds_toArray, List.set_cons_zero, List.set_cons_succ]
          refine wpAnyH_take (i := 2) (v := ?_) rfl (by kernel_rfl) (by kernel_rfl) (by kernel_rfl) (fun _ _ _ h => h) (Or.inl ⟨by rfl, ?_⟩) (by assumption) ?_
          rotate_left
          · intro w hSw
            (try dsimp only at hSw)
            go_simp
            (try with_reducible rfl)
          try simp only [Act.put, List.getElem_toArray, List.getElem_cons_zero, List.getElem_cons_succ, List.setIfInBounds_toArray, List.set_cons_zero, List.set_cons_succ]
          refine wpAnyH_take (i := 3) (v := ?_) rfl (by kernel_rfl) (by kernel_rfl) (by kernel_rfl) (fun _ _ _ h => h) (Or.inl ⟨by rfl, ?_⟩) (by assumption) ?_
          rotate_left
          · intro w hSw
            (try dsimp only at hSw)
            go_simp
            (try with_reducible rfl)
          try simp only [Act.put, List.getElem_toArray, List.getElem_cons_zero, List.getElem_cons_succ, List.setIfInBounds_toArray, List.set_cons_zero, List.set_cons_succ]
          refine wpAnyH_take (i := 4) (v := ?_) rfl (by kernel_rfl) (by kernel_rfl) (by kernel_rfl) (fun _ _ _ h => h) (Or.inl ⟨by rfl, ?_⟩) (by assumption) ?_
          rotate_left
          · intro w hSw
            (try dsimp only at hSw)
            go_simp
            (try with_reducible rfl)
          try simp only [Act.put, List.getElem_toArray, List.getElem_cons_zero, List.getElem_cons_succ, List.setIfInBounds_toArray, List.set_cons_zero, List.set_cons_succ]
          refine wpAnyH_take (i := 5) (v := ?_) rfl (by kernel_rfl) (by kernel_rfl) (by kernel_rfl) (fun _ _ _ h => h) (Or.inl ⟨by rfl, ?_⟩) (by assumption) ?_
          rotate_left
          · intro w hSw
            (try dsimp only at hSw)
            go_simp
            (try with_reducible rfl)
          try simp only [Act.put, List.getElem_toArray, List.getElem_cons_zero, List.getElem_cons_succ, List.setIfInBounds_toArray, List.set_cons_zero, List.set_cons_succ]
          refine wpAnyH_take (i := 6) (v := ?_) rfl (by kernel_rfl) (by kernel_rfl) (by kernel_rfl) (fun _ _ _ h => h) (Or.inl ⟨by rfl, ?_⟩) (by assumption) ?_
          rotate_left
          · intro w hSw
            (try dsimp only at hSw)
            go_simp
            (try with_reducible rfl)
          try simp only [Act.put, List.getElem_toArray, List.getElem_cons_zero, List.getElem_cons_succ, List.setIfInBounds_toArray, List.set_cons_zero, List.set_cons_succ]
          refine wpAnyH_take (i := 7) (v := ?_) rfl (by kernel_rfl) (by kernel_rfl) (by kernel_rfl) (fun _ _ _ h => h) (Or.inl ⟨by rfl, ?_⟩) (by assumption) ?_
          rotate_left
          · intro w hSw
            (try dsimp only at hSw)
            go_simp
            (try with_reducible rfl)
          try simp only [Act.put, List.getElem_toArray, List.getElem_cons_zero, List.getElem_cons_succ, List.setIfInBounds_toArray, List.set_cons_zero, List.set_cons_succ]
          refine wpAnyH_take (i := 8) (v := ?_) rfl (by kernel_rfl) (by kernel_rfl) (by kernel_rfl) (fun _ _ _ h => h) (Or.inl ⟨by rfl, ?_⟩) (by assumption) ?_
          rotate_left
          · intro w hSw
            (try dsimp only at hSw)
            go_simp
            (try with_reducible rfl)
          try simp only [Act.put, List.getElem_toArray, List.getElem_cons_zero, List.getElem_cons_succ, List.setIfInBounds_toArray, List.set_cons_zero, List.set_cons_succ]
          refine wpAnyH_done (by kernel_rfl) ?_ _
          have HDE := Lib.hid hHeld.2
          clear hHeld
          go_wp2_with fail
          go_roundw
          case rel => exact ⟨HDE.out, m + 1, by omega, by go_num, upto_next HU.out HX.out (by rw [HXY.out]; exact HY.out)⟩
          case measure => simp [intOf]; omega
        · have t1 : (x == y) = false := by simp [hxy]
          have hr : r = false := by
            cases hr : r with
            | false => rfl
            | true => exact absurd (by have := HX.out; rw [HR.out.1 hr, HY.out] at this; cases this; rfl) hxy
          clear hxy
          subst hr
          go_wp2_with fail
          refine wp_region_held_drew (S := fun w' => (w'.cell? ⟨b, off + m, none⟩ = some (.int .i64 x) ∧ w'.cell? ⟨b', off' + m, none⟩ = some (.int .i64 y)) ∧ Drawn w w') (by kernel_rfl) ?_ (fun hHeld => ?_)
          · exact ⟨⟨q0, q1⟩, HD.out.more 1⟩
          refine wpAnyH_take (i := 0) (v := ?_) rfl (by kernel_rfl) (by kernel_rfl) (by kernel_rfl) (fun _ _ _ h => h) (Or.inl ⟨by rfl, ?_⟩) (by assumption) ?_
          rotate_left
          · intro w hSw
            (try dsimp only at hSw)
            go_simp
            (try with_reducible rfl)
          try simp only [Act.put, List.getElem_toArray, List.getElem_cons_zero, List.setIfInBounds_toArray, List.set_cons_zero, List.set_cons_succ]
          refine wpAnyH_take (i := 1) (v := ?_) rfl (by kernel_rfl) (by kernel_rfl) (by kernel_rfl) (fun _ _ _ h => h) (Or.inl ⟨by rfl, ?_⟩) (by assumption) ?_
          rotate_left
          · intro w hSw
            (try dsimp only at hSw)
            go_simp
            (try with_reducible rfl)
          try simp only [Act.put, List.getElem_toArray, List.getElem_cons_zero, List.getElem_cons_succ, List.setIfInBounds_toArray, List.set_cons_zero, List.set_cons_succ]
          refine wpAnyH_take (i := 2) (v := ?_) rfl (by kernel_rfl) (by kernel_rfl) (by kernel_rfl) (fun _ _ _ h => h) (Or.inl ⟨by rfl, ?_⟩) (by assumption) ?_
          rotate_left
          · intro w hSw
            (try dsimp only at hSw)
            go_simp
            (try with_reducible rfl)
          try simp only [Act.put, List.getElem_toArray, List.getElem_cons_zero, List.getElem_cons_succ, List.setIfInBounds_toArray, List.set_cons_zero, List.set_cons_succ]
          refine wpAnyH_take (i := 3) (v := ?_) rfl (by kernel_rfl) (by kernel_rfl) (by kernel_rfl) (fun _ _ _ h => h) (Or.inl ⟨by rfl, ?_⟩) (by assumption) ?_
          rotate_left
          · intro w hSw
            (try dsimp only at hSw)
            go_simp
            (try with_reducible rfl)
          try simp only [Act.put, List.getElem_toArray, List.getElem_cons_zero, List.getElem_cons_succ, List.setIfInBounds_toArray, List.set_cons_zero, List.set_cons_succ]
          refine wpAnyH_take (i := 4) (v := ?_) rfl (by kernel_rfl) (by kernel_rfl) (by kernel_rfl) (fun _ _ _ h => h) (Or.inl ⟨by rfl, ?_⟩) (by assumption) ?_
          rotate_left
          · intro w hSw
            (try dsimp only at hSw)
            go_simp
            (try with_reducible rfl)
          try simp only [Act.put, List.getElem_toArray, List.getElem_cons_zero, List.getElem_cons_succ, List.setIfInBounds_toArray, List.set_cons_zero, List.set_cons_succ]
          refine wpAnyH_take (i := 5) (v := ?_) rfl (by kernel_rfl) (by kernel_rfl) (by kernel_rfl) (fun _ _ _ h => h) (Or.inl ⟨by rfl, ?_⟩) (by assumption) ?_
          rotate_left
          · intro w hSw
            (try dsimp only at hSw)
            go_simp
            (try with_reducible rfl)
          try simp only [Act.put, List.getElem_toArray, List.getElem_cons_zero, List.getElem_cons_succ, List.setIfInBounds_toArray, List.set_cons_zero, List.set_cons_succ]
          refine wpAnyH_take (i := 6) (v := ?_) rfl (by kernel_rfl) (by kernel_rfl) (by kernel_rfl) (fun _ _ _ h => h) (Or.inl ⟨by rfl, ?_⟩) (by assumption) ?_
          rotate_left
          · intro w hSw
            (try dsimp only at hSw)
            go_simp
            (try with_reducible rfl)
          try simp only [Act.put, List.getElem_toArray, List.getElem_cons_zero, List.getElem_cons_succ, List.setIfInBounds_toArray, List.set_cons_zero, List.set_cons_succ]
          refine wpAnyH_take (i := 7) (v := ?_) rfl (by kernel_rfl) (by kernel_rfl) (by kernel_rfl) (fun _ _ _ h => h) (Or.inl ⟨by rfl, ?_⟩) (by assumption) ?_
          rotate_left
          · intro w hSw
            (try dsimp only at hSw)
            go_simp
            (try with_reducible rfl)
          try simp only [Act.put, List.getElem_toArray, List.getElem_cons_zero, List.getElem_cons_succ, List.setIfInBounds_toArray, List.set_cons_zero, List.set_cons_succ]
          refine wpAnyH_take (i := 8) (v := ?_) rfl (by kernel_rfl) (by kernel_rfl) (by kernel_rfl) (fun _ _ _ h => h) (Or.inl ⟨by rfl, ?_⟩) (by assumption) ?_
          rotate_left
          · intro w hSw
            (try dsimp only at hSw)
            go_simp
            (try with_reducible rfl)
          try simp only [Act.put, List.getElem_toArray, List.getElem_cons_zero, List.getElem_cons_succ, List.setIfInBounds_toArray, List.set_cons_zero, List.set_cons_succ]
          refine wpAnyH_done (by kernel_rfl) ?_ _
          have HDE := Lib.hid hHeld.2
          clear hHeld
          go_wp2_with fail
          go_ret
          exact ⟨rfl, HDE.out⟩
      · obtain rfl : m = n1 := by omega
        have hr : r = true := HR.out.2 (upto_all (by have := HN1.out; have := HN2.out; omega) HN1.out HU.out)
        subst hr
        have i1 : ¬ (m : Int) < (m : Int) := by omega
        go_wp2_with fail
        go_ret
        exact ⟨rfl, HD.out⟩
  · have e1 : ((n1 : Int) == (n2 : Int)) = false := by simp; omega
    have hr : r = false := by
      cases hr : r with
      | false => rfl
      | true => exact absurd (HN1.out.trans ((congrArg List.length (HR.out.1 hr)).trans HN2.out.symm)) hl
    subst hr
    go_enter Try.func20, Try.ntmps20
    go_wp2_with fail
    go_ret
    exact ⟨rfl, Drawn.refl _⟩

/- two objects, each in a variable of its own -/
structure Two (w wr : World) (oa ob : Nat) (Va Vb : ObjV) (a b : ObjD) : Prop where
  rowa : RowAt wr oa OT (ocells Va a)
  rowb : RowAt wr ob OT (ocells Vb b)
  below : Below w.heap.size w wr
theorem Two.on {w wr w' : World} {oa ob : Nat} {Va Vb : ObjV} {a b : ObjD} (h : Two w wr oa ob Va Vb a b) (hd : Drawn wr w') : Two w w' oa ob Va Vb a b :=
  ⟨h.rowa.keep (Kept.drawn (S := fun _ => False) hd) (fun h => h), h.rowb.keep (Kept.drawn (S := fun _ => False) hd) (fun h => h), h.below.trans (hd.below _)⟩
abbrev two (w : World) (Va Vb : ObjV) (a b : ObjD) : World := (w.alloc (.cells #[.string a.name, .int .u32 (a.key : Nat), Va.i, Va.t, .int .i64 a.data, .string a.text, Va.c, Va.m, Va.e, Va.p, Va.q, .int .i64 a.f0, .int .i64 a.f1, .int .i64 a.f2, .int .i64 a.body] OT)).alloc (.cells #[.string b.name, .int .u32 (b.key : Nat), Vb.i, Vb.t, .int .i64 b.data, .string b.text, Vb.c, Vb.m, Vb.e, Vb.p, Vb.q, .int .i64 b.f0, .int .i64 b.f1, .int .i64 b.f2, .int .i64 b.body] OT)
theorem two_at (w : World) (Va Vb : ObjV) (a b : ObjD) : Two w (two w Va Vb a b) w.heap.size (w.heap.size + 1) Va Vb a b := by
  have k : Kept (fun _ => False) w (two w Va Vb a b) := ((Kept.refl _ w).alloc _).alloc _
  refine ⟨(RowAt.new w OT (ocells Va a)).keep ((Kept.refl (fun _ => False) _).alloc _) (fun h => h), ?_, k.none⟩
  have := RowAt.new (w.alloc (.cells #[.string a.name, .int .u32 (a.key : Nat), Va.i, Va.t, .int .i64 a.data, .string a.text, Va.c, Va.m, Va.e, Va.p, Va.q, .int .i64 a.f0, .int .i64 a.f1, .int .i64 a.f2, .int .i64 a.body] OT)) OT (ocells Vb b)
  rw [show (w.alloc (.cells #[.string a.name, .int .u32 (a.key : Nat), Va.i, Va.t, .int .i64 a.data, .string a.text, Va.c, Va.m, Va.e, Va.p, Va.q, .int .i64 a.f0, .int .i64 a.f1, .int .i64 a.f2, .int .i64 a.body] OT)).heap.size = w.heap.size + 1 by simp] at this
  exact this
theorem two_rows (w : World) (x y : List Value) : RowAt ((w.alloc (.cells x.toArray OT)).alloc (.cells y.toArray OT)) w.heap.size OT x ∧ RowAt ((w.alloc (.cells x.toArray OT)).alloc (.cells y.toArray OT)) (w.heap.size + 1) OT y ∧ Below w.heap.size w ((w.alloc (.cells x.toArray OT)).alloc (.cells y.toArray OT)) := by
  refine ⟨(RowAt.new w OT x).keep ((Kept.refl (fun _ => False) _).alloc _) (fun h => h), ?_, (((Kept.refl (fun _ => False) w).alloc _).alloc _).none⟩
  have := RowAt.new (w.alloc (.cells x.toArray OT)) OT y
  rw [show (w.alloc (.cells x.toArray OT)).heap.size = w.heap.size + 1 by simp] at this
  exact this
theorem boxed (w : World) (x y : Array Value) : Below w.heap.size w ((w.alloc (.cells x OT)).alloc (.cells y OT)) := ((Kept.refl (fun _ => False) w).alloc _).alloc _ |>.none
end Go.Proofs.Ytkkjfbpflfknpaa
