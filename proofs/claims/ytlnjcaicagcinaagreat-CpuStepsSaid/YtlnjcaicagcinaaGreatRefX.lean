/-
  The document's zones (dowelref05): Add. No conditions beyond those that the theorem names.
-/
import Derived.Test.YtlnjcaicagcinaaGreatRefV
import Derived.Test.YtlnjcaicagcinaaGreatRefW
namespace Go.Proofs.YtlnjcaicagcinaaGreat
open Go.ChangeShapes Go.WideShapes Go.ChangeAt Go.RowKit

theorem Made.more {w wr : World} {v : Value} {M X : List ZR} {vx : Value} (h : Made w wr v M) (hs : Src Tryz.prog 6 42 vx X.length (zcs X) wr) (hm : 0 < X.length ∨ v ≠ .slice none 0 0) (small : M.length + X.length ≤ 1000) (ty : TypeId) :
    ∃ v' w', (Builtin.append_ #[42, 42] ty #[v, vx]).run Tryz.prog wr = .ok v' w' ∧ Made w w' v' (M ++ X) := by
  obtain ⟨v', w', e1, e2, e3, e4, _⟩ := h.row.append (P := Tryz.prog) 42 ty Tryz.underlying42 infoR rfl (by omega) hs hm (by omega)
  refine ⟨v', w', e1, ⟨?_, h.kept.then e3 (fun j hj ho => by have := h.new j ho; omega), fun j hj => ?_⟩⟩
  · have : zcs (M ++ X) = zcs M ++ zcs X := by simp [zcs, ecs_append]
    rw [List.length_append, this]
    exact e2
  · rcases e4 j hj with ho | ho
    · exact h.new j ho
    · exact Nat.le_trans h.kept.more ho
theorem Made.empty (w wr : World) (k : Kept No w wr) : Made w (wr.alloc (.cells #[] RZT)) (.slice (some ⟨wr.heap.size, 0, none⟩) 0 0) [] :=
  ⟨⟨.inr ⟨wr.heap.size, 0, [], rfl, RowAt.new wr RZT [], by simp, Nat.le_refl _, by simp [maxLen]⟩, rfl, fun _ h => by cases h⟩, k.alloc _, fun j hj => by have hj' : j = wr.heap.size := hj; have := k.more; omega⟩
theorem Made.pos {w wr : World} {v : Value} {M : List ZR} (h : Made w wr v M) (hm : 0 < M.length) : v ≠ .slice none 0 0 := by
  rintro rfl
  rcases h.row.is with ⟨_, h0⟩ | ⟨b, cap, rest, e, _⟩
  · omega
  · cases e

/- pieces of a list, handed to append -/
theorem src_front {w : World} {b N cap : Nat} {M : List ZR} (h : SRow RZT 6 w (.slice (some ⟨b, 0, none⟩) N cap) N (zcs M)) (hN : M.length = N) (c : Nat) (hc : c ≤ N) (cap' : Nat) :
    Src Tryz.prog 6 42 (.slice (some ⟨b, 0, none⟩) c cap') (M.take c).length (zcs (M.take c)) w := by
  have hl : (M.take c).length = c := by rw [List.length_take]; omega
  rw [hl]
  refine Src.ofSlice w Tryz.underlying42 _ _ _ _ (by rw [ecs_length, List.length_map, hl]) (fun j u hu => ?_) (ecs_ones _)
  rcases Nat.eq_zero_or_pos N with h0 | h0
  · have : M = [] := List.eq_nil_of_length_eq_zero (by omega)
    subst this
    simp [zcs, ecs_nil] at hu
  · obtain ⟨b', cap', hv, _, _, _, hcs⟩ := h.cell h0
    cases hv
    have hj := (List.getElem?_eq_some_iff.1 hu).1
    rw [ecs_length, List.length_map, hl] at hj
    rw [Addr.add_lit, Nat.zero_add, hcs j (by omega)]
    have e : zcs M = zcs (M.take c) ++ zcs (M.drop c) := by rw [← ecs_append, ← List.map_append, List.take_append_drop]
    rw [e, List.getElem?_append_left (by rw [ecs_length, List.length_map, hl]; exact hj), hu]
theorem src_back {w : World} {b N cap : Nat} {M : List ZR} (h : SRow RZT 6 w (.slice (some ⟨b, 0, none⟩) N cap) N (zcs M)) (hN : M.length = N) (c : Nat) (hc : c ≤ N) (cap' : Nat) :
    Src Tryz.prog 6 42 (.slice (some ⟨b, c * 6, none⟩) (N - c) cap') (M.drop c).length (zcs (M.drop c)) w := by
  have hl : (M.drop c).length = N - c := by rw [List.length_drop]; omega
  have hl' : (M.take c).length = c := by rw [List.length_take]; omega
  rw [hl]
  refine Src.ofSlice w Tryz.underlying42 _ _ _ _ (by rw [ecs_length, List.length_map, hl]) (fun j u hu => ?_) (ecs_ones _)
  have hj := (List.getElem?_eq_some_iff.1 hu).1
  rw [ecs_length, List.length_map, hl] at hj
  obtain ⟨b', cap', hv, _, _, _, hcs⟩ := h.cell (by omega)
  cases hv
  rw [Addr.add_lit, hcs _ (by omega)]
  have e : zcs M = zcs (M.take c) ++ zcs (M.drop c) := by rw [← ecs_append, ← List.map_append, List.take_append_drop]
  rw [e, List.getElem?_append_right (by rw [ecs_length, List.length_map, hl']; omega), ecs_length, List.length_map, hl', Nat.add_sub_cancel_left, hu]
theorem src_none (w : World) (v : Value) (c : Nat) (hv : v = .slice none 0 c) : Src Tryz.prog 6 42 v ([] : List ZR).length (zcs []) w := by
  subst hv
  exact Src.ofNil w Tryz.underlying42 c

theorem src_empty (w : World) (a : Addr) (cap : Nat) : Src Tryz.prog 6 42 (.slice (some a) 0 cap) ([] : List ZR).length (zcs []) w :=
  Src.ofSlice w Tryz.underlying42 _ _ _ _ rfl (fun j u hu => by simp [zcs, ecs_nil] at hu) (ecs_ones _)
theorem Made.base {w W0 w' : World} {v : Value} {M : List ZR} (h : Made W0 w' v M) (k : Kept No w W0) : Made w w' v M := ⟨h.row, k.trans h.kept, fun j hj => Nat.le_trans k.more (h.new j hj)⟩

/- what the rounds have found -/
structure AddRel (W0 wr : World) (z : ZV) (M : List ZR) (k c : Nat) : Prop where
  kept : Kept No W0 wr
  apart : ∀ j y, j < k → M[j]? = some y → meetsZ z y.z = false
  le : c ≤ k
  lo : ∀ j y, M[j]? = some y → j < c → y.z.b < z.b
  hi : ∀ j y, M[j]? = some y → c ≤ j → j < k → z.b ≤ y.z.b

theorem AddRel.step {W0 wr w' : World} {z : ZV} {M : List ZR} {k c : Nat} (h : AddRel W0 wr z M k c) (hr : Rising M) {y : ZR} (hy : M[k]? = some y) (hm : meetsZ z y.z = false) (hk : Kept No wr w') :
    AddRel W0 w' z M (k + 1) (if y.z.b < z.b then k + 1 else c) := by
  refine ⟨h.kept.trans hk, fun j u hj hu => ?_, ?_, fun j u hu hj => ?_, fun j u hu hj hk' => ?_⟩
  · rcases Nat.lt_or_ge j k with h1 | h1
    · exact h.apart j u h1 hu
    · obtain rfl : j = k := by omega
      rw [hy] at hu
      cases hu
      exact hm
  · split
    · omega
    · have := h.le; omega
  · split at hj
    · rename_i hlt
      rcases Nat.lt_or_ge j k with h1 | h1
      · have := hr j k u y hu hy h1; omega
      · obtain rfl : j = k := by omega
        rw [hy] at hu
        cases hu
        exact hlt
    · exact h.lo j u hu hj
  · split at hj
    · omega
    · rename_i hlt
      rcases Nat.lt_or_ge j k with h1 | h1
      · exact h.hi j u hu hj h1
      · obtain rfl : j = k := by omega
        rw [hy] at hu
        cases hu
        omega

def RAdded (w w' : World) (e : Ending) (v : Value) (M : List ZR) (x : ZR) : Prop :=
  (MayAdd (M.map ZR.z) x.z ∧ ∃ v' A B, M = A ++ B ∧ Split (M.map ZR.z) (A.map ZR.z) (B.map ZR.z) x.z.b ∧ e = .returned (.tuple #[v', .bool true]) ∧ Made w w' v' (A ++ x :: B)) ∨
  (¬ MayAdd (M.map ZR.z) x.z ∧ e = .returned (.tuple #[v, .bool false]) ∧ Kept No w w')

set_option maxRecDepth 100000 in
set_option maxHeartbeats 8000000 in
theorem radd_any (x : ZR) (v : Value) (M : List ZR) (w : World) (h : RefAt w v M) (g : Good (M.map ZR.z)) (small : M.length ≤ 100) (hp : IntsAt w x.p x.z.P) (hq : IntsAt w x.q x.z.Q) (sp : x.z.P.length ≤ 100) (sq : x.z.Q.length ≤ 100) :
    Calls Tryz.prog 19 #[v, x.v] w fun e w' => RAdded w w' e v M x := by
  unfold RAdded
  obtain ⟨sa, c, rfl, hc1, hc2⟩ := h.row.shape
  obtain ⟨W0, hW0⟩ : ∃ W0, W0 = w.alloc (.cells #[.int .i64 x.z.b, .int .i64 x.z.d, .int .i64 x.z.r, .int .i64 x.z.e, x.p.v, x.q.v] RZT) := ⟨_, rfl⟩
  have hr : RowAt W0 w.heap.size RZT x.el.cs := by rw [hW0]; exact RowAt.new w RZT x.el.cs
  have k0 : Kept No w W0 := by rw [hW0]; exact (Kept.refl _ _).alloc _
  have H6 : Hid (∀ W, Kept No W0 W → Six W w.heap.size 0 x) := fun W hk => cells_zone (t := RZT) (hr.keep hk (fun h => h))
  have HR : Hid (∀ W, Kept No W0 W → SRow RZT 6 W (.slice sa M.length c) M.length (zcs M)) := fun W hk => h.row.keep (k0.trans hk) (fun _ _ h => h)
  have HMZ := Lib.hid (mayzone_any x W0 (hp.on k0.none) (hq.on k0.none) sp sq)
  have K0 := Lib.hid k0
  have HRis := Lib.hid g.rising
  obtain ⟨t0, t1, t2, t3, t4, t5⟩ := H6.out W0 (Kept.refl _ _)
  simp only [Nat.zero_add] at t1 t2 t3 t4 t5
  show Calls Tryz.prog 19 #[.slice sa M.length c, .agg #[.int .i64 x.z.b, .int .i64 x.z.d, .int .i64 x.z.r, .int .i64 x.z.e, x.p.v, x.q.v]] w _
  clear h g hp hq sp sq hr k0
  generalize hN : M.length = N at *
  have HN := Lib.hid hN
  clear hN
  go_enter Tryz.func19, Tryz.ntmps19
  go_wp2_with fail
  rw [← hW0]
  clear hW0
  refine HMZ.out.mono ?_
  rintro e w1 ⟨⟨hmz, rfl⟩ | ⟨hmz, rfl⟩, hk1⟩
  rotate_left
  · have HNo : Hid (¬ MayAdd (M.map ZR.z) x.z) := fun hm => hmz ⟨hm.1, hm.2.2⟩
    have K1 := Lib.hid hk1
    clear hmz hk1
    go_wp2_with fail
    go_ret2
    exact .inr ⟨HNo.out, rfl, K0.out.trans K1.out⟩
  have K1 := Lib.hid hk1
  have HMay := Lib.hid hmz
  clear hmz hk1 t0 t1 t2 t3 t4 t5
  go_wp2_with fail
  go_loopw [7, 8] (fun at_ i wr => ∃ k c' : Nat, k ≤ N ∧ i = .int .i64 k ∧ at_ = .int .i64 c' ∧ Hid (AddRel W0 wr x.z M k c')) (fun _ i _ => N - (intOf i).toNat)
  case atStart => exact ⟨0, 0, Nat.zero_le _, rfl, rfl, (⟨K1.out, fun j y hj => by omega, Nat.le_refl _, fun j y _ hj => by omega, fun j y _ _ hj => by omega⟩ : AddRel _ _ _ _ _ _)⟩
  case round =>
    obtain ⟨k, c', hk, rfl, rfl, HA⟩ := hrel
    by_cases hlt : k < N
    · obtain ⟨y, hy⟩ : ∃ y, M[k]? = some y := ⟨_, List.getElem?_eq_getElem (by rw [HN.out]; exact hlt)⟩
      obtain ⟨b, cap, hv, hbl, hcap1, hcap2, hcs⟩ := (HR.out wr HA.out.kept).cell (by omega)
      cases hv
      have hy6 := six_of HN.out hcs hy
      have HS : Hid (∀ w', Kept No wr w' → (w'.cell? ⟨b, k * 6, none⟩ = some (.int .i64 y.z.b) ∧ w'.cell? ⟨b, k * 6 + 3, none⟩ = some (.int .i64 y.z.e) ∧ w'.cell? ⟨w.heap.size, 0, none⟩ = some (.int .i64 x.z.b) ∧ w'.cell? ⟨w.heap.size, 3, none⟩ = some (.int .i64 x.z.e)) ∧ Kept No wr w') := fun w' hk' => by
        have a1 := hy6.keep hk' hbl (fun h => h)
        have a2 := H6.out w' (HA.out.kept.trans hk')
        have a3 := a2.c3
        simp only [Nat.zero_add] at a3
        exact ⟨⟨a1.c0, a1.c3, a2.c0, a3⟩, hk'⟩
      have HY := Lib.hid hy
      have e5 : (k : Int) < (N : Int) := by omega
      have e6 : (0 : Int) ≤ (k : Int) := by omega
      have hkn : k ≤ 100 := by omega
      clear hy hcs hy6
      by_cases h1 : y.z.b < x.z.e
      · by_cases h2 : x.z.b < y.z.e
        · have HNo : Hid (¬ MayAdd (M.map ZR.z) x.z) := fun hm => by
            have := List.any_eq_false.1 hm.2.1 y.z (List.mem_map.2 ⟨y, List.mem_of_getElem? HY.out, rfl⟩)
            exact this (by simp [meetsZ, h1, h2])
          have g1 : decide (y.z.b < x.z.e) = true := by simpa using h1
          have g2 : decide (x.z.b < y.z.e) = true := by simpa using h2
          go_wp2_with fail
          refine wp_region_held_drew (S := fun w' => (w'.cell? ⟨b, k * 6, none⟩ = some (.int .i64 y.z.b) ∧ w'.cell? ⟨b, k * 6 + 3, none⟩ = some (.int .i64 y.z.e) ∧ w'.cell? ⟨w.heap.size, 0, none⟩ = some (.int .i64 x.z.b) ∧ w'.cell? ⟨w.heap.size, 3, none⟩ = some (.int .i64 x.z.e)) ∧ Kept No wr w') (by kernel_rfl) ?_ (fun hHeld => ?_)
          · exact HS.out _ (Kept.refl _ _).drew
          refine wpAnyH_take (i := 0) (v := ?_) rfl (by kernel_rfl) (by kernel_rfl) (by kernel_rfl) (fun _ _ _ h => h) (Or.inl ⟨by rfl, ?_⟩) (by assumption) ?_
          rotate_left
          · intro w hSw
            (try dsimp only at hSw)
            go_simp
            (try with_reducible rfl)
          try simp only [Act.put, List.getElem_toArray, List.getElem_cons_zero, List.setIfInBounds_toArray, List.set_cons_zero, List.set_cons_succ]
          refine wpAnyH_take (i := 1) (v := ?_) rfl (by kernel_rfl) (by kernel_rfl) (by kernel_rfl) (fun _ _ _ h => h) (Or.inl ⟨by rfl, ?_⟩) (by assumption) ?_
          rotate_left
          · intro w hSw
            (try dsimp only at hSw)
            go_simp
            (try with_reducible rfl)
          try simp only [Act.put, List.getElem_toArray, List.getElem_cons_zero, List.getElem_cons_succ, List.setIfInBounds_toArray, List.set_cons_zero, List.set_cons_succ]
          refine wpAnyH_take (i := 2) (v := ?_) rfl (by kernel_rfl) (by kernel_rfl) (by kernel_rfl) (fun _ _ _ h => h) (Or.inl ⟨by rfl, ?_⟩) (by assumption) ?_
          rotate_left
          · intro w hSw
            (try dsimp only at hSw)
            go_simp
            (try with_reducible rfl)
          try simp only [Act.put, List.getElem_toArray, List.getElem_cons_zero, List.getElem_cons_succ, List.setIfInBounds_toArray, List.set_cons_zero, List.set_cons_succ]
          refine wpAnyH_take (i := 3) (v := ?_) rfl (by kernel_rfl) (by kernel_rfl) (by kernel_rfl) (fun _ _ _ h => h) (Or.inl ⟨by rfl, ?_⟩) (by assumption) ?_
          rotate_left
          · intro w hSw
            (try dsimp only at hSw)
            go_simp
            (try with_reducible rfl)
          try simp only [Act.put, List.getElem_toArray, List.getElem_cons_zero, List.getElem_cons_succ, List.setIfInBounds_toArray, List.set_cons_zero, List.set_cons_succ]
          refine wpAnyH_take (i := 4) (v := ?_) rfl (by kernel_rfl) (by kernel_rfl) (by kernel_rfl) (fun _ _ _ h => h) (Or.inl ⟨by rfl, ?_⟩) (by assumption) ?_
          rotate_left
          · intro w hSw
            (try dsimp only at hSw)
            go_simp
            (try with_reducible rfl)
          try simp only [Act.put, List.getElem_toArray, List.getElem_cons_zero, List.getElem_cons_succ, List.setIfInBounds_toArray, List.set_cons_zero, List.set_cons_succ]
          refine wpAnyH_take (i := 5) (v := ?_) rfl (by kernel_rfl) (by kernel_rfl) (by kernel_rfl) (fun _ _ _ h => h) (Or.inl ⟨by rfl, ?_⟩) (by assumption) ?_
          rotate_left
          · intro w hSw
            (try dsimp only at hSw)
            go_simp
            (try with_reducible rfl)
          try simp only [Act.put, List.getElem_toArray, List.getElem_cons_zero, List.getElem_cons_succ, List.setIfInBounds_toArray, List.set_cons_zero, List.set_cons_succ]
          refine wpAnyH_take (i := 6) (v := ?_) rfl (by kernel_rfl) (by kernel_rfl) (by kernel_rfl) (fun _ _ _ h => h) (Or.inl ⟨by rfl, ?_⟩) (by assumption) ?_
          rotate_left
          · intro w hSw
            (try dsimp only at hSw)
            go_simp
            (try with_reducible rfl)
          try simp only [Act.put, List.getElem_toArray, List.getElem_cons_zero, List.getElem_cons_succ, List.setIfInBounds_toArray, List.set_cons_zero, List.set_cons_succ]
          refine wpAnyH_take (i := 7) (v := ?_) rfl (by kernel_rfl) (by kernel_rfl) (by kernel_rfl) (fun _ _ _ h => h) (Or.inl ⟨by rfl, ?_⟩) (by assumption) ?_
          rotate_left
          · intro w hSw
            (try dsimp only at hSw)
            go_simp
            (try with_reducible rfl)
          try simp only [Act.put, List.getElem_toArray, List.getElem_cons_zero, List.getElem_cons_succ, List.setIfInBounds_toArray, List.set_cons_zero, List.set_cons_succ]
          refine wpAnyH_take (i := 8) (v := ?_) rfl (by kernel_rfl) (by kernel_rfl) (by kernel_rfl) (fun _ _ _ h => h) (Or.inl ⟨by rfl, ?_⟩) (by assumption) ?_
          rotate_left
          · intro w hSw
            (try dsimp only at hSw)
            go_simp
            (try with_reducible rfl)
          try simp only [Act.put, List.getElem_toArray, List.getElem_cons_zero, List.getElem_cons_succ, List.setIfInBounds_toArray, List.set_cons_zero, List.set_cons_succ]
          refine wpAnyH_take (i := 9) (v := ?_) rfl (by kernel_rfl) (by kernel_rfl) (by kernel_rfl) (fun _ _ _ h => h) (Or.inl ⟨by rfl, ?_⟩) (by assumption) ?_
          rotate_left
          · intro w hSw
            (try dsimp only at hSw)
            go_simp
            (try with_reducible rfl)
          try simp only [Act.put, List.getElem_toArray, List.getElem_cons_zero, List.getElem_cons_succ, List.setIfInBounds_toArray, List.set_cons_zero, List.set_cons_succ]
          refine wpAnyH_take (i := 10) (v := ?_) rfl (by kernel_rfl) (by kernel_rfl) (by kernel_rfl) (fun _ _ _ h => h) (Or.inl ⟨by rfl, ?_⟩) (by assumption) ?_
          rotate_left
          · intro w hSw
            (try dsimp only at hSw)
            go_simp
            (try with_reducible rfl)
          try simp only [Act.put, List.getElem_toArray, List.getElem_cons_zero, List.getElem_cons_succ, List.setIfInBounds_toArray, List.set_cons_zero, List.set_cons_succ]
          refine wpAnyH_take (i := 11) (v := ?_) rfl (by kernel_rfl) (by kernel_rfl) (by kernel_rfl) (fun _ _ _ h => h) (Or.inl ⟨by rfl, ?_⟩) (by assumption) ?_
          rotate_left
          · intro w hSw
            (try dsimp only at hSw)
            go_simp
            (try with_reducible rfl)
          try simp only [Act.put, List.getElem_toArray, List.getElem_cons_zero, List.getElem_cons_succ, List.setIfInBounds_toArray, List.set_cons_zero, List.set_cons_succ]
          refine wpAnyH_take (i := 12) (v := ?_) rfl (by kernel_rfl) (by kernel_rfl) (by kernel_rfl) (fun _ _ _ h => h) (Or.inl ⟨by rfl, ?_⟩) (by assumption) ?_
          rotate_left
          · intro w hSw
            (try dsimp only at hSw)
            go_simp
            (try with_reducible rfl)
          try simp only [Act.put, List.getElem_toArray, List.getElem_cons_zero, List.getElem_cons_succ, List.setIfInBounds_toArray, List.set_cons_zero, List.set_cons_succ]
          refine wpAnyH_take (i := 13) (v := ?_) rfl (by kernel_rfl) (by kernel_rfl) (by kernel_rfl) (fun _ _ _ h => h) (Or.inl ⟨by rfl, ?_⟩) (by assumption) ?_
          rotate_left
          · intro w hSw
            (try dsimp only at hSw)
            go_simp
            (try with_reducible rfl)
          try simp only [Act.put, List.getElem_toArray, List.getElem_cons_zero, List.getElem_cons_succ, List.setIfInBounds_toArray, List.set_cons_zero, List.set_cons_succ]
          refine wpAnyH_take (i := 14) (v := ?_) rfl (by kernel_rfl) (by kernel_rfl) (by kernel_rfl) (fun _ _ _ h => h) (Or.inl ⟨by rfl, ?_⟩) (by assumption) ?_
          rotate_left
          · intro w hSw
            (try dsimp only at hSw)
            go_simp
            (try with_reducible rfl)
          try simp only [Act.put, List.getElem_toArray, List.getElem_cons_zero, List.getElem_cons_succ, List.setIfInBounds_toArray, List.set_cons_zero, List.set_cons_succ]
          refine wpAnyH_take (i := 15) (v := ?_) rfl (by kernel_rfl) (by kernel_rfl) (by kernel_rfl) (fun _ _ _ h => h) (Or.inl ⟨by rfl, ?_⟩) (by assumption) ?_
          rotate_left
          · intro w hSw
            (try dsimp only at hSw)
            go_simp
            (try with_reducible rfl)
          try simp only [Act.put, List.getElem_toArray, List.getElem_cons_zero, List.getElem_cons_succ, List.setIfInBounds_toArray, List.set_cons_zero, List.set_cons_succ]
          refine wpAnyH_take (i := 16) (v := ?_) rfl (by kernel_rfl) (by kernel_rfl) (by kernel_rfl) (fun _ _ _ h => h) (Or.inl ⟨by rfl, ?_⟩) (by assumption) ?_
          rotate_left
          · intro w hSw
            (try dsimp only at hSw)
            go_simp
            (try with_reducible rfl)
          try simp only [Act.put, List.getElem_toArray, List.getElem_cons_zero, List.getElem_cons_succ, List.setIfInBounds_toArray, List.set_cons_zero, List.set_cons_succ]
          refine wpAnyH_take (i := 17) (v := ?_) rfl (by kernel_rfl) (by kernel_rfl) (by kernel_rfl) (fun _ _ _ h => h) (Or.inl ⟨by rfl, ?_⟩) (by assumption) ?_
          rotate_left
          · intro w hSw
            (try dsimp only at hSw)
            go_simp
            (try with_reducible rfl)
          try simp only [Act.put, List.getElem_toArray, List.getElem_cons_zero, List.getElem_cons_succ, List.setIfInBounds_toArray, List.set_cons_zero, List.set_cons_succ]
          refine wpAnyH_done (by kernel_rfl) ?_ _
          have K2 := Lib.hid hHeld.2
          clear hHeld
          go_wp2_with fail
          go_ret2
          exact .inr ⟨HNo.out, rfl, K0.out.trans (HA.out.kept.trans K2.out)⟩
        · have HMt : Hid (meetsZ x.z y.z = false) := by show _ = _; simp [meetsZ]; omega
          have g1 : decide (y.z.b < x.z.e) = true := by simpa using h1
          have g2 : decide (x.z.b < y.z.e) = false := by simpa using h2
          go_wp2_with fail
          refine wp_region_held_drew (S := fun w' => (w'.cell? ⟨b, k * 6, none⟩ = some (.int .i64 y.z.b) ∧ w'.cell? ⟨b, k * 6 + 3, none⟩ = some (.int .i64 y.z.e) ∧ w'.cell? ⟨w.heap.size, 0, none⟩ = some (.int .i64 x.z.b) ∧ w'.cell? ⟨w.heap.size, 3, none⟩ = some (.int .i64 x.z.e)) ∧ Kept No wr w') (by kernel_rfl) ?_ (fun hHeld => ?_)
          · exact HS.out _ (Kept.refl _ _).drew
          refine wpAnyH_take (i := 0) (v := ?_) rfl (by kernel_rfl) (by kernel_rfl) (by kernel_rfl) (fun _ _ _ h => h) (Or.inl ⟨by rfl, ?_⟩) (by assumption) ?_
          rotate_left
          · intro w hSw
            (try dsimp only at hSw)
            go_simp
            (try with_reducible rfl)
          try simp only [Act.put, List.getElem_toArray, List.getElem_cons_zero, List.setIfInBounds_toArray, List.set_cons_zero, List.set_cons_succ]
          refine wpAnyH_take (i := 1) (v := ?_) rfl (by kernel_rfl) (by kernel_rfl) (by kernel_rfl) (fun _ _ _ h => h) (Or.inl ⟨by rfl, ?_⟩) (by assumption) ?_
          rotate_left
          · intro w hSw
            (try dsimp only at hSw)
            go_simp
            (try with_reducible rfl)
          try simp only [Act.put, List.getElem_toArray, List.getElem_cons_zero, List.getElem_cons_succ, List.setIfInBounds_toArray, List.set_cons_zero, List.set_cons_succ]
          refine wpAnyH_take (i := 2) (v := ?_) rfl (by kernel_rfl) (by kernel_rfl) (by kernel_rfl) (fun _ _ _ h => h) (Or.inl ⟨by rfl, ?_⟩) (by assumption) ?_
          rotate_left
          · intro w hSw
            (try dsimp only at hSw)
            go_simp
            (try with_reducible rfl)
          try simp only [Act.put, List.getElem_toArray, List.getElem_cons_zero, List.getElem_cons_succ, List.setIfInBounds_toArray, List.set_cons_zero, List.set_cons_succ]
          refine wpAnyH_take (i := 3) (v := ?_) rfl (by kernel_rfl) (by kernel_rfl) (by kernel_rfl) (fun _ _ _ h => h) (Or.inl ⟨by rfl, ?_⟩) (by assumption) ?_
          rotate_left
          · intro w hSw
            (try dsimp only at hSw)
            go_simp
            (try with_reducible rfl)
          try simp only [Act.put, List.getElem_toArray, List.getElem_cons_zero, List.getElem_cons_succ, List.setIfInBounds_toArray, List.set_cons_zero, List.set_cons_succ]
          refine wpAnyH_take (i := 4) (v := ?_) rfl (by kernel_rfl) (by kernel_rfl) (by kernel_rfl) (fun _ _ _ h => h) (Or.inl ⟨by rfl, ?_⟩) (by assumption) ?_
          rotate_left
          · intro w hSw
            (try dsimp only at hSw)
            go_simp
            (try with_reducible rfl)
          try simp only [Act.put, List.getElem_toArray, List.getElem_cons_zero, List.getElem_cons_succ, List.setIfInBounds_toArray, List.set_cons_zero, List.set_cons_succ]
          refine wpAnyH_take (i := 5) (v := ?_) rfl (by kernel_rfl) (by kernel_rfl) (by kernel_rfl) (fun _ _ _ h => h) (Or.inl ⟨by rfl, ?_⟩) (by assumption) ?_
          rotate_left
          · intro w hSw
            (try dsimp only at hSw)
            go_simp
            (try with_reducible rfl)
          try simp only [Act.put, List.getElem_toArray, List.getElem_cons_zero, List.getElem_cons_succ, List.setIfInBounds_toArray, List.set_cons_zero, List.set_cons_succ]
          refine wpAnyH_take (i := 6) (v := ?_) rfl (by kernel_rfl) (by kernel_rfl) (by kernel_rfl) (fun _ _ _ h => h) (Or.inl ⟨by rfl, ?_⟩) (by assumption) ?_
          rotate_left
          · intro w hSw
            (try dsimp only at hSw)
            go_simp
            (try with_reducible rfl)
          try simp only [Act.put, List.getElem_toArray, List.getElem_cons_zero, List.getElem_cons_succ, List.setIfInBounds_toArray, List.set_cons_zero, List.set_cons_succ]
          refine wpAnyH_take (i := 7) (v := ?_) rfl (by kernel_rfl) (by kernel_rfl) (by kernel_rfl) (fun _ _ _ h => h) (Or.inl ⟨by rfl, ?_⟩) (by assumption) ?_
          rotate_left
          · intro w hSw
            (try dsimp only at hSw)
            go_simp
            (try with_reducible rfl)
          try simp only [Act.put, List.getElem_toArray, List.getElem_cons_zero, List.getElem_cons_succ, List.setIfInBounds_toArray, List.set_cons_zero, List.set_cons_succ]
          refine wpAnyH_take (i := 8) (v := ?_) rfl (by kernel_rfl) (by kernel_rfl) (by kernel_rfl) (fun _ _ _ h => h) (Or.inl ⟨by rfl, ?_⟩) (by assumption) ?_
          rotate_left
          · intro w hSw
            (try dsimp only at hSw)
            go_simp
            (try with_reducible rfl)
          try simp only [Act.put, List.getElem_toArray, List.getElem_cons_zero, List.getElem_cons_succ, List.setIfInBounds_toArray, List.set_cons_zero, List.set_cons_succ]
          refine wpAnyH_take (i := 9) (v := ?_) rfl (by kernel_rfl) (by kernel_rfl) (by kernel_rfl) (fun _ _ _ h => h) (Or.inl ⟨by rfl, ?_⟩) (by assumption) ?_
          rotate_left
          · intro w hSw
            (try dsimp only at hSw)
            go_simp
            (try with_reducible rfl)
          try simp only [Act.put, List.getElem_toArray, List.getElem_cons_zero, List.getElem_cons_succ, List.setIfInBounds_toArray, List.set_cons_zero, List.set_cons_succ]
          refine wpAnyH_take (i := 10) (v := ?_) rfl (by kernel_rfl) (by kernel_rfl) (by kernel_rfl) (fun _ _ _ h => h) (Or.inl ⟨by rfl, ?_⟩) (by assumption) ?_
          rotate_left
          · intro w hSw
            (try dsimp only at hSw)
            go_simp
            (try with_reducible rfl)
          try simp only [Act.put, List.getElem_toArray, List.getElem_cons_zero, List.getElem_cons_succ, List.setIfInBounds_toArray, List.set_cons_zero, List.set_cons_succ]
          refine wpAnyH_take (i := 11) (v := ?_) rfl (by kernel_rfl) (by kernel_rfl) (by kernel_rfl) (fun _ _ _ h => h) (Or.inl ⟨by rfl, ?_⟩) (by assumption) ?_
          rotate_left
          · intro w hSw
            (try dsimp only at hSw)
            go_simp
            (try with_reducible rfl)
          try simp only [Act.put, List.getElem_toArray, List.getElem_cons_zero, List.getElem_cons_succ, List.setIfInBounds_toArray, List.set_cons_zero, List.set_cons_succ]
          refine wpAnyH_take (i := 12) (v := ?_) rfl (by kernel_rfl) (by kernel_rfl) (by kernel_rfl) (fun _ _ _ h => h) (Or.inl ⟨by rfl, ?_⟩) (by assumption) ?_
          rotate_left
          · intro w hSw
            (try dsimp only at hSw)
            go_simp
            (try with_reducible rfl)
          try simp only [Act.put, List.getElem_toArray, List.getElem_cons_zero, List.getElem_cons_succ, List.setIfInBounds_toArray, List.set_cons_zero, List.set_cons_succ]
          refine wpAnyH_take (i := 13) (v := ?_) rfl (by kernel_rfl) (by kernel_rfl) (by kernel_rfl) (fun _ _ _ h => h) (Or.inl ⟨by rfl, ?_⟩) (by assumption) ?_
          rotate_left
          · intro w hSw
            (try dsimp only at hSw)
            go_simp
            (try with_reducible rfl)
          try simp only [Act.put, List.getElem_toArray, List.getElem_cons_zero, List.getElem_cons_succ, List.setIfInBounds_toArray, List.set_cons_zero, List.set_cons_succ]
          refine wpAnyH_take (i := 14) (v := ?_) rfl (by kernel_rfl) (by kernel_rfl) (by kernel_rfl) (fun _ _ _ h => h) (Or.inl ⟨by rfl, ?_⟩) (by assumption) ?_
          rotate_left
          · intro w hSw
            (try dsimp only at hSw)
            go_simp
            (try with_reducible rfl)
          try simp only [Act.put, List.getElem_toArray, List.getElem_cons_zero, List.getElem_cons_succ, List.setIfInBounds_toArray, List.set_cons_zero, List.set_cons_succ]
          refine wpAnyH_take (i := 15) (v := ?_) rfl (by kernel_rfl) (by kernel_rfl) (by kernel_rfl) (fun _ _ _ h => h) (Or.inl ⟨by rfl, ?_⟩) (by assumption) ?_
          rotate_left
          · intro w hSw
            (try dsimp only at hSw)
            go_simp
            (try with_reducible rfl)
          try simp only [Act.put, List.getElem_toArray, List.getElem_cons_zero, List.getElem_cons_succ, List.setIfInBounds_toArray, List.set_cons_zero, List.set_cons_succ]
          refine wpAnyH_take (i := 16) (v := ?_) rfl (by kernel_rfl) (by kernel_rfl) (by kernel_rfl) (fun _ _ _ h => h) (Or.inl ⟨by rfl, ?_⟩) (by assumption) ?_
          rotate_left
          · intro w hSw
            (try dsimp only at hSw)
            go_simp
            (try with_reducible rfl)
          try simp only [Act.put, List.getElem_toArray, List.getElem_cons_zero, List.getElem_cons_succ, List.setIfInBounds_toArray, List.set_cons_zero, List.set_cons_succ]
          refine wpAnyH_take (i := 17) (v := ?_) rfl (by kernel_rfl) (by kernel_rfl) (by kernel_rfl) (fun _ _ _ h => h) (Or.inl ⟨by rfl, ?_⟩) (by assumption) ?_
          rotate_left
          · intro w hSw
            (try dsimp only at hSw)
            go_simp
            (try with_reducible rfl)
          try simp only [Act.put, List.getElem_toArray, List.getElem_cons_zero, List.getElem_cons_succ, List.setIfInBounds_toArray, List.set_cons_zero, List.set_cons_succ]
          refine wpAnyH_done (by kernel_rfl) ?_ _
          have K2 := Lib.hid hHeld.2
          clear hHeld
          go_wp2_with fail
          refine wp_region_held_drew (S := fun w' => (w'.cell? ⟨b, k * 6, none⟩ = some (.int .i64 y.z.b) ∧ w'.cell? ⟨b, k * 6 + 3, none⟩ = some (.int .i64 y.z.e) ∧ w'.cell? ⟨w.heap.size, 0, none⟩ = some (.int .i64 x.z.b) ∧ w'.cell? ⟨w.heap.size, 3, none⟩ = some (.int .i64 x.z.e)) ∧ Kept No wr w') (by kernel_rfl) ?_ (fun hHeld => ?_)
          · exact HS.out _ K2.out.drew
          refine wpAnyH_take (i := 0) (v := ?_) rfl (by kernel_rfl) (by kernel_rfl) (by kernel_rfl) (fun _ _ _ h => h) (Or.inl ⟨by rfl, ?_⟩) (by assumption) ?_
          rotate_left
          · intro w hSw
            (try dsimp only at hSw)
            go_simp
            (try with_reducible rfl)
          try simp only [Act.put, List.getElem_toArray, List.getElem_cons_zero, List.setIfInBounds_toArray, List.set_cons_zero, List.set_cons_succ]
          refine wpAnyH_take (i := 1) (v := ?_) rfl (by kernel_rfl) (by kernel_rfl) (by kernel_rfl) (fun _ _ _ h => h) (Or.inl ⟨by rfl, ?_⟩) (by assumption) ?_
          rotate_left
          · intro w hSw
            (try dsimp only at hSw)
            go_simp
            (try with_reducible rfl)
          try simp only [Act.put, List.getElem_toArray, List.getElem_cons_zero, List.getElem_cons_succ, List.setIfInBounds_toArray, List.set_cons_zero, List.set_cons_succ]
          refine wpAnyH_take (i := 2) (v := ?_) rfl (by kernel_rfl) (by kernel_rfl) (by kernel_rfl) (fun _ _ _ h => h) (Or.inl ⟨by rfl, ?_⟩) (by assumption) ?_
          rotate_left
          · intro w hSw
            (try dsimp only at hSw)
            go_simp
            (try with_reducible rfl)
          try simp only [Act.put, List.getElem_toArray, List.getElem_cons_zero, List.getElem_cons_succ, List.setIfInBounds_toArray, List.set_cons_zero, List.set_cons_succ]
          refine wpAnyH_take (i := 3) (v := ?_) rfl (by kernel_rfl) (by kernel_rfl) (by kernel_rfl) (fun _ _ _ h => h) (Or.inl ⟨by rfl, ?_⟩) (by assumption) ?_
          rotate_left
          · intro w hSw
            (try dsimp only at hSw)
            go_simp
            (try with_reducible rfl)
          try simp only [Act.put, List.getElem_toArray, List.getElem_cons_zero, List.getElem_cons_succ, List.setIfInBounds_toArray, List.set_cons_zero, List.set_cons_succ]
          refine wpAnyH_take (i := 4) (v := ?_) rfl (by kernel_rfl) (by kernel_rfl) (by kernel_rfl) (fun _ _ _ h => h) (Or.inl ⟨by rfl, ?_⟩) (by assumption) ?_
          rotate_left
          · intro w hSw
            (try dsimp only at hSw)
            go_simp
            (try with_reducible rfl)
          try simp only [Act.put, List.getElem_toArray, List.getElem_cons_zero, List.getElem_cons_succ, List.setIfInBounds_toArray, List.set_cons_zero, List.set_cons_succ]
          refine wpAnyH_take (i := 5) (v := ?_) rfl (by kernel_rfl) (by kernel_rfl) (by kernel_rfl) (fun _ _ _ h => h) (Or.inl ⟨by rfl, ?_⟩) (by assumption) ?_
          rotate_left
          · intro w hSw
            (try dsimp only at hSw)
            go_simp
            (try with_reducible rfl)
          try simp only [Act.put, List.getElem_toArray, List.getElem_cons_zero, List.getElem_cons_succ, List.setIfInBounds_toArray, List.set_cons_zero, List.set_cons_succ]
          refine wpAnyH_take (i := 6) (v := ?_) rfl (by kernel_rfl) (by kernel_rfl) (by kernel_rfl) (fun _ _ _ h => h) (Or.inl ⟨by rfl, ?_⟩) (by assumption) ?_
          rotate_left
          · intro w hSw
            (try dsimp only at hSw)
            go_simp
            (try with_reducible rfl)
          try simp only [Act.put, List.getElem_toArray, List.getElem_cons_zero, List.getElem_cons_succ, List.setIfInBounds_toArray, List.set_cons_zero, List.set_cons_succ]
          refine wpAnyH_take (i := 7) (v := ?_) rfl (by kernel_rfl) (by kernel_rfl) (by kernel_rfl) (fun _ _ _ h => h) (Or.inl ⟨by rfl, ?_⟩) (by assumption) ?_
          rotate_left
          · intro w hSw
            (try dsimp only at hSw)
            go_simp
            (try with_reducible rfl)
          try simp only [Act.put, List.getElem_toArray, List.getElem_cons_zero, List.getElem_cons_succ, List.setIfInBounds_toArray, List.set_cons_zero, List.set_cons_succ]
          refine wpAnyH_done (by kernel_rfl) ?_ _
          have K3 := Lib.hid hHeld.2
          clear hHeld
          have hst := HA.out.step HRis.out HY.out HMt.out K3.out
          by_cases h3 : y.z.b < x.z.b
          · rw [if_pos h3] at hst
            have HST := Lib.hid hst
            have g3 : decide (y.z.b < x.z.b) = true := by simpa using h3
            clear hst
            go_wp2_with fail
            go_roundw
            case rel => exact ⟨k + 1, k + 1, by omega, by go_num, by go_num, HST⟩
            case measure => simp [intOf]; omega
          · rw [if_neg h3] at hst
            have HST := Lib.hid hst
            have g3 : decide (y.z.b < x.z.b) = false := by simpa using h3
            clear hst
            go_wp2_with fail
            go_roundw
            case rel => exact ⟨k + 1, c', by omega, by go_num, rfl, HST⟩
            case measure => simp [intOf]; omega
      · have HMt : Hid (meetsZ x.z y.z = false) := by show _ = _; simp [meetsZ]; omega
        have g1 : decide (y.z.b < x.z.e) = false := by simpa using h1
        go_wp2_with fail
        refine wp_region_held_drew (S := fun w' => (w'.cell? ⟨b, k * 6, none⟩ = some (.int .i64 y.z.b) ∧ w'.cell? ⟨b, k * 6 + 3, none⟩ = some (.int .i64 y.z.e) ∧ w'.cell? ⟨w.heap.size, 0, none⟩ = some (.int .i64 x.z.b) ∧ w'.cell? ⟨w.heap.size, 3, none⟩ = some (.int .i64 x.z.e)) ∧ Kept No wr w') (by kernel_rfl) ?_ (fun hHeld => ?_)
        · exact HS.out _ (Kept.refl _ _).drew
        refine wpAnyH_take (i := 0) (v := ?_) rfl (by kernel_rfl) (by kernel_rfl) (by kernel_rfl) (fun _ _ _ h => h) (Or.inl ⟨by rfl, ?_⟩) (by assumption) ?_
        rotate_left
        · intro w hSw
          (try dsimp only at hSw)
          go_simp
          (try with_reducible rfl)
        try simp only [Act.put, List.getElem_toArray, List.getElem_cons_zero, List.setIfInBounds_toArray, List.set_cons_zero, List.set_cons_succ]
        refine wpAnyH_take (i := 1) (v := ?_) rfl (by kernel_rfl) (by kernel_rfl) (by kernel_rfl) (fun _ _ _ h => h) (Or.inl ⟨by rfl, ?_⟩) (by assumption) ?_
        rotate_left
        · intro w hSw
          (try dsimp only at hSw)
          go_simp
          (try with_reducible rfl)
        try simp only [Act.put, List.getElem_toArray, List.getElem_cons_zero, List.getElem_cons_succ, List.setIfInBounds_toArray, List.set_cons_zero, List.set_cons_succ]
        refine wpAnyH_take (i := 2) (v := ?_) rfl (by kernel_rfl) (by kernel_rfl) (by kernel_rfl) (fun _ _ _ h => h) (Or.inl ⟨by rfl, ?_⟩) (by assumption) ?_
        rotate_left
        · intro w hSw
          (try dsimp only at hSw)
          go_simp
          (try with_reducible rfl)
        try simp only [Act.put, List.getElem_toArray, List.getElem_cons_zero, List.getElem_cons_succ, List.setIfInBounds_toArray, List.set_cons_zero, List.set_cons_succ]
        refine wpAnyH_take (i := 3) (v := ?_) rfl (by kernel_rfl) (by kernel_rfl) (by kernel_rfl) (fun _ _ _ h => h) (Or.inl ⟨by rfl, ?_⟩) (by assumption) ?_
        rotate_left
        · intro w hSw
          (try dsimp only at hSw)
          go_simp
          (try with_reducible rfl)
        try simp only [Act.put, List.getElem_toArray, List.getElem_cons_zero, List.getElem_cons_succ, List.setIfInBounds_toArray, List.set_cons_zero, List.set_cons_succ]
        refine wpAnyH_take (i := 4) (v := ?_) rfl (by kernel_rfl) (by kernel_rfl) (by kernel_rfl) (fun _ _ _ h => h) (Or.inl ⟨by rfl, ?_⟩) (by assumption) ?_
        rotate_left
        · intro w hSw
          (try dsimp only at hSw)
          go_simp
          (try with_reducible rfl)
        try simp only [Act.put, List.getElem_toArray, List.getElem_cons_zero, List.getElem_cons_succ, List.setIfInBounds_toArray, List.set_cons_zero, List.set_cons_succ]
        refine wpAnyH_take (i := 5) (v := ?_) rfl (by kernel_rfl) (by kernel_rfl) (by kernel_rfl) (fun _ _ _ h => h) (Or.inl ⟨by rfl, ?_⟩) (by assumption) ?_
        rotate_left
        · intro w hSw
          (try dsimp only at hSw)
          go_simp
          (try with_reducible rfl)
        try simp only [Act.put, List.getElem_toArray, List.getElem_cons_zero, List.getElem_cons_succ, List.setIfInBounds_toArray, List.set_cons_zero, List.set_cons_succ]
        refine wpAnyH_take (i := 6) (v := ?_) rfl (by kernel_rfl) (by kernel_rfl) (by kernel_rfl) (fun _ _ _ h => h) (Or.inl ⟨by rfl, ?_⟩) (by assumption) ?_
        rotate_left
        · intro w hSw
          (try dsimp only at hSw)
          go_simp
          (try with_reducible rfl)
        try simp only [Act.put, List.getElem_toArray, List.getElem_cons_zero, List.getElem_cons_succ, List.setIfInBounds_toArray, List.set_cons_zero, List.set_cons_succ]
        refine wpAnyH_take (i := 7) (v := ?_) rfl (by kernel_rfl) (by kernel_rfl) (by kernel_rfl) (fun _ _ _ h => h) (Or.inl ⟨by rfl, ?_⟩) (by assumption) ?_
        rotate_left
        · intro w hSw
          (try dsimp only at hSw)
          go_simp
          (try with_reducible rfl)
        try simp only [Act.put, List.getElem_toArray, List.getElem_cons_zero, List.getElem_cons_succ, List.setIfInBounds_toArray, List.set_cons_zero, List.set_cons_succ]
        refine wpAnyH_take (i := 8) (v := ?_) rfl (by kernel_rfl) (by kernel_rfl) (by kernel_rfl) (fun _ _ _ h => h) (Or.inl ⟨by rfl, ?_⟩) (by assumption) ?_
        rotate_left
        · intro w hSw
          (try dsimp only at hSw)
          go_simp
          (try with_reducible rfl)
        try simp only [Act.put, List.getElem_toArray, List.getElem_cons_zero, List.getElem_cons_succ, List.setIfInBounds_toArray, List.set_cons_zero, List.set_cons_succ]
        refine wpAnyH_take (i := 9) (v := undef) rfl (by kernel_rfl) (by kernel_rfl) (by kernel_rfl) (fun _ _ _ h => h) (Or.inr ⟨by rfl, rfl⟩) (by assumption) ?_
        try simp only [Act.put, List.getElem_toArray, List.getElem_cons_zero, List.getElem_cons_succ, List.setIfInBounds_toArray, List.set_cons_zero, List.set_cons_succ]
        refine wpAnyH_take (i := 10) (v := undef) rfl (by kernel_rfl) (by kernel_rfl) (by kernel_rfl) (fun _ _ _ h => h) (Or.inr ⟨by rfl, rfl⟩) (by assumption) ?_
        try simp only [Act.put, List.getElem_toArray, List.getElem_cons_zero, List.getElem_cons_succ, List.setIfInBounds_toArray, List.set_cons_zero, List.set_cons_succ]
        refine wpAnyH_take (i := 11) (v := undef) rfl (by kernel_rfl) (by kernel_rfl) (by kernel_rfl) (fun _ _ _ h => h) (Or.inr ⟨by rfl, rfl⟩) (by assumption) ?_
        try simp only [Act.put, List.getElem_toArray, List.getElem_cons_zero, List.getElem_cons_succ, List.setIfInBounds_toArray, List.set_cons_zero, List.set_cons_succ]
        refine wpAnyH_take (i := 12) (v := undef) rfl (by kernel_rfl) (by kernel_rfl) (by kernel_rfl) (fun _ _ _ h => h) (Or.inr ⟨by rfl, rfl⟩) (by assumption) ?_
        try simp only [Act.put, List.getElem_toArray, List.getElem_cons_zero, List.getElem_cons_succ, List.setIfInBounds_toArray, List.set_cons_zero, List.set_cons_succ]
        refine wpAnyH_take (i := 13) (v := undef) rfl (by kernel_rfl) (by kernel_rfl) (by kernel_rfl) (fun _ _ _ h => h) (Or.inr ⟨by rfl, rfl⟩) (by assumption) ?_
        try simp only [Act.put, List.getElem_toArray, List.getElem_cons_zero, List.getElem_cons_succ, List.setIfInBounds_toArray, List.set_cons_zero, List.set_cons_succ]
        refine wpAnyH_take (i := 14) (v := undef) rfl (by kernel_rfl) (by kernel_rfl) (by kernel_rfl) (fun _ _ _ h => h) (Or.inr ⟨by rfl, rfl⟩) (by assumption) ?_
        try simp only [Act.put, List.getElem_toArray, List.getElem_cons_zero, List.getElem_cons_succ, List.setIfInBounds_toArray, List.set_cons_zero, List.set_cons_succ]
        refine wpAnyH_take (i := 15) (v := undef) rfl (by kernel_rfl) (by kernel_rfl) (by kernel_rfl) (fun _ _ _ h => h) (Or.inr ⟨by rfl, rfl⟩) (by assumption) ?_
        try simp only [Act.put, List.getElem_toArray, List.getElem_cons_zero, List.getElem_cons_succ, List.setIfInBounds_toArray, List.set_cons_zero, List.set_cons_succ]
        refine wpAnyH_take (i := 16) (v := undef) rfl (by kernel_rfl) (by kernel_rfl) (by kernel_rfl) (fun _ _ _ h => h) (Or.inr ⟨by rfl, rfl⟩) (by assumption) ?_
        try simp only [Act.put, List.getElem_toArray, List.getElem_cons_zero, List.getElem_cons_succ, List.setIfInBounds_toArray, List.set_cons_zero, List.set_cons_succ]
        refine wpAnyH_take (i := 17) (v := ?_) rfl (by kernel_rfl) (by kernel_rfl) (by kernel_rfl) (fun _ _ _ h => h) (Or.inl ⟨by rfl, ?_⟩) (by assumption) ?_
        rotate_left
        · intro w hSw
          (try dsimp only at hSw)
          go_simp
          (try with_reducible rfl)
        try simp only [Act.put, List.getElem_toArray, List.getElem_cons_zero, List.getElem_cons_succ, List.setIfInBounds_toArray, List.set_cons_zero, List.set_cons_succ]
        refine wpAnyH_done (by kernel_rfl) ?_ _
        have K2 := Lib.hid hHeld.2
        clear hHeld
        go_wp2_with fail
        refine wp_region_held_drew (S := fun w' => (w'.cell? ⟨b, k * 6, none⟩ = some (.int .i64 y.z.b) ∧ w'.cell? ⟨b, k * 6 + 3, none⟩ = some (.int .i64 y.z.e) ∧ w'.cell? ⟨w.heap.size, 0, none⟩ = some (.int .i64 x.z.b) ∧ w'.cell? ⟨w.heap.size, 3, none⟩ = some (.int .i64 x.z.e)) ∧ Kept No wr w') (by kernel_rfl) ?_ (fun hHeld => ?_)
        · exact HS.out _ K2.out.drew
        refine wpAnyH_take (i := 0) (v := ?_) rfl (by kernel_rfl) (by kernel_rfl) (by kernel_rfl) (fun _ _ _ h => h) (Or.inl ⟨by rfl, ?_⟩) (by assumption) ?_
        rotate_left
        · intro w hSw
          (try dsimp only at hSw)
          go_simp
          (try with_reducible rfl)
        try simp only [Act.put, List.getElem_toArray, List.getElem_cons_zero, List.setIfInBounds_toArray, List.set_cons_zero, List.set_cons_succ]
        refine wpAnyH_take (i := 1) (v := ?_) rfl (by kernel_rfl) (by kernel_rfl) (by kernel_rfl) (fun _ _ _ h => h) (Or.inl ⟨by rfl, ?_⟩) (by assumption) ?_
        rotate_left
        · intro w hSw
          (try dsimp only at hSw)
          go_simp
          (try with_reducible rfl)
        try simp only [Act.put, List.getElem_toArray, List.getElem_cons_zero, List.getElem_cons_succ, List.setIfInBounds_toArray, List.set_cons_zero, List.set_cons_succ]
        refine wpAnyH_take (i := 2) (v := ?_) rfl (by kernel_rfl) (by kernel_rfl) (by kernel_rfl) (fun _ _ _ h => h) (Or.inl ⟨by rfl, ?_⟩) (by assumption) ?_
        rotate_left
        · intro w hSw
          (try dsimp only at hSw)
          go_simp
          (try with_reducible rfl)
        try simp only [Act.put, List.getElem_toArray, List.getElem_cons_zero, List.getElem_cons_succ, List.setIfInBounds_toArray, List.set_cons_zero, List.set_cons_succ]
        refine wpAnyH_take (i := 3) (v := ?_) rfl (by kernel_rfl) (by kernel_rfl) (by kernel_rfl) (fun _ _ _ h => h) (Or.inl ⟨by rfl, ?_⟩) (by assumption) ?_
        rotate_left
        · intro w hSw
          (try dsimp only at hSw)
          go_simp
          (try with_reducible rfl)
        try simp only [Act.put, List.getElem_toArray, List.getElem_cons_zero, List.getElem_cons_succ, List.setIfInBounds_toArray, List.set_cons_zero, List.set_cons_succ]
        refine wpAnyH_take (i := 4) (v := ?_) rfl (by kernel_rfl) (by kernel_rfl) (by kernel_rfl) (fun _ _ _ h => h) (Or.inl ⟨by rfl, ?_⟩) (by assumption) ?_
        rotate_left
        · intro w hSw
          (try dsimp only at hSw)
          go_simp
          (try with_reducible rfl)
        try simp only [Act.put, List.getElem_toArray, List.getElem_cons_zero, List.getElem_cons_succ, List.setIfInBounds_toArray, List.set_cons_zero, List.set_cons_succ]
        refine wpAnyH_take (i := 5) (v := ?_) rfl (by kernel_rfl) (by kernel_rfl) (by kernel_rfl) (fun _ _ _ h => h) (Or.inl ⟨by rfl, ?_⟩) (by assumption) ?_
        rotate_left
        · intro w hSw
          (try dsimp only at hSw)
          go_simp
          (try with_reducible rfl)
        try simp only [Act.put, List.getElem_toArray, List.getElem_cons_zero, List.getElem_cons_succ, List.setIfInBounds_toArray, List.set_cons_zero, List.set_cons_succ]
        refine wpAnyH_take (i := 6) (v := ?_) rfl (by kernel_rfl) (by kernel_rfl) (by kernel_rfl) (fun _ _ _ h => h) (Or.inl ⟨by rfl, ?_⟩) (by assumption) ?_
        rotate_left
        · intro w hSw
          (try dsimp only at hSw)
          go_simp
          (try with_reducible rfl)
        try simp only [Act.put, List.getElem_toArray, List.getElem_cons_zero, List.getElem_cons_succ, List.setIfInBounds_toArray, List.set_cons_zero, List.set_cons_succ]
        refine wpAnyH_take (i := 7) (v := ?_) rfl (by kernel_rfl) (by kernel_rfl) (by kernel_rfl) (fun _ _ _ h => h) (Or.inl ⟨by rfl, ?_⟩) (by assumption) ?_
        rotate_left
        · intro w hSw
          (try dsimp only at hSw)
          go_simp
          (try with_reducible rfl)
        try simp only [Act.put, List.getElem_toArray, List.getElem_cons_zero, List.getElem_cons_succ, List.setIfInBounds_toArray, List.set_cons_zero, List.set_cons_succ]
        refine wpAnyH_done (by kernel_rfl) ?_ _
        have K3 := Lib.hid hHeld.2
        clear hHeld
        have hst := HA.out.step HRis.out HY.out HMt.out K3.out
        by_cases h3 : y.z.b < x.z.b
        · rw [if_pos h3] at hst
          have HST := Lib.hid hst
          have g3 : decide (y.z.b < x.z.b) = true := by simpa using h3
          clear hst
          go_wp2_with fail
          go_roundw
          case rel => exact ⟨k + 1, k + 1, by omega, by go_num, by go_num, HST⟩
          case measure => simp [intOf]; omega
        · rw [if_neg h3] at hst
          have HST := Lib.hid hst
          have g3 : decide (y.z.b < x.z.b) = false := by simpa using h3
          clear hst
          go_wp2_with fail
          go_roundw
          case rel => exact ⟨k + 1, c', by omega, by go_num, rfl, HST⟩
          case measure => simp [intOf]; omega
    · obtain rfl : k = N := by omega
      have e5 : ¬ (k : Int) < (k : Int) := by omega
      have hsp : Split (M.map ZR.z) ((M.take c').map ZR.z) ((M.drop c').map ZR.z) x.z.b :=
        split_of (by rw [HN.out]; exact HA.out.le) (fun j y hy hj => HA.out.lo j y hy hj) (fun j y hy hj => HA.out.hi j y hy hj (by have := (List.getElem?_eq_some_iff.1 hy).1; rw [HN.out] at this; exact this))
      have hyes : MayAdd (M.map ZR.z) x.z := ⟨HMay.out.1, by
        rw [List.any_eq_false]
        intro z hz
        obtain ⟨y, hy, rfl⟩ := List.mem_map.1 hz
        obtain ⟨j, hj⟩ := List.getElem?_of_mem hy
        have := HA.out.apart j y (by have := (List.getElem?_eq_some_iff.1 hj).1; rw [HN.out] at this; exact this) hj
        rw [this]
        decide, HMay.out.2⟩
      have HSP := Lib.hid hsp
      have HYes := Lib.hid hyes
      clear hsp hyes
      have hm0 := Made.empty W0 wr HA.out.kept
      have hrow := HR.out _ hm0.kept
      rcases hrow.is with ⟨e, hk0⟩ | ⟨b, cap, rest, e, _, _, hcc, _⟩
      · cases e
        obtain rfl : c' = 0 := by have := HA.out.le; omega
        obtain ⟨v1, w1', ha1, hm1⟩ := hm0.more (X := []) (src_none _ (.slice none 0 0) 0 rfl) (.inr (by simp)) (by simp) 42
        obtain ⟨s0, s1, s2, s3, s4, s5⟩ := H6.out w1' hm1.kept
        simp only [Nat.zero_add] at s1 s2 s3 s4 s5
        obtain ⟨v2, w2, ha2, hm2⟩ := hm1.push x (by simp) 42
        obtain ⟨v3, w3, ha3, hm3⟩ := hm2.more (X := []) (src_none _ (.slice none 0 0) 0 rfl) (.inr (hm2.pos (by simp))) (by simp) 42
        have HA1 := Lib.hid ha1
        have HA2 := Lib.hid ha2
        have HA3 := Lib.hid ha3
        have HM3 := Lib.hid hm3
        have e7 : M = [] := List.eq_nil_of_length_eq_zero (by rw [HN.out])
        have HE := Lib.hid e7
        clear ha1 ha2 ha3 hm0 hm1 hm2 hm3 hrow e7
        go_wp2_with (at_builtin; first | refine Lib.wpList_append_run _ rfl (.tmp 50) (.tmp 53) _ _ rfl (.slice (some ⟨wr.heap.size, 0, none⟩) 0 0) (.slice none 0 0) (by simp [Act.eval]) (by simp [Act.eval]) _ _ HA1.out ?_ | refine Lib.wpList_append_run _ rfl (.tmp 55) (.tmp 57) _ _ rfl v1 (.slice (some ⟨w1'.heap.size, 0, none⟩) 1 1) (by simp [Act.eval]) (by simp [Act.eval]) _ _ HA2.out ?_ | refine Lib.wpList_append_run _ rfl (.tmp 59) (.tmp 62) _ _ rfl v2 (.slice none 0 0) (by simp [Act.eval]) (by simp [Act.eval]) _ _ HA3.out ?_)
        go_ret2
        exact .inl ⟨HYes.out, v3, [], [], by rw [HE.out]; rfl, by have := HSP.out; rw [HE.out] at this ⊢; exact this, rfl, (by simpa using HM3.out.base K0.out)⟩
      · cases e
        have hle : c' ≤ k := HA.out.le
        have f1 : (c' : Int) ≤ (k : Int) := by omega
        have f2 : (0 : Int) ≤ (c' : Int) := by omega
        have f3 : c' ≤ c := by omega
        have f4 : (k : Int) - (c' : Int) = ((k - c' : Nat) : Int) := by omega
        have hlt' : (M.take c').length = c' := by rw [List.length_take, HN.out]; omega
        have hld : (M.drop c').length = k - c' := by rw [List.length_drop, HN.out]
        obtain ⟨v1, w1', ha1, hm1⟩ := hm0.more (src_front hrow HN.out c' hle c) (.inr (by simp)) (by simp; omega) 42
        obtain ⟨s0, s1, s2, s3, s4, s5⟩ := H6.out w1' hm1.kept
        simp only [Nat.zero_add] at s1 s2 s3 s4 s5
        obtain ⟨v2, w2, ha2, hm2⟩ := hm1.push x (by simp; omega) 42
        have hrow2 := HR.out _ hm2.kept
        have HA1 := Lib.hid ha1
        have HA2 := Lib.hid ha2
        have HM2 := Lib.hid hm2
        by_cases hcap : c = c'
        · have hd : M.drop c' = [] := List.eq_nil_of_length_eq_zero (by rw [hld]; omega)
          have hck : c' = k := by omega
          subst hck
          subst hcap
          obtain ⟨v3, w3, ha3, hm3⟩ := hm2.more (X := []) (src_empty _ ⟨b, 0, none⟩ 0) (.inr (hm2.pos (by simp))) (by simp; omega) 42
          have HA3 := Lib.hid ha3
          have HM3 := Lib.hid hm3
          have HD := Lib.hid hd
          clear ha1 ha2 ha3 hm0 hm1 hm2 hm3 hrow hrow2 hd hld hlt' f4
          go_wp2_with (at_builtin; first | refine Lib.wpList_append_run _ rfl (.tmp 50) (.tmp 53) _ _ rfl (.slice (some ⟨wr.heap.size, 0, none⟩) 0 0) (.slice (some ⟨b, 0, none⟩) c c) (by simp [Act.eval]) (by simp [Act.eval]) _ _ HA1.out ?_ | refine Lib.wpList_append_run _ rfl (.tmp 55) (.tmp 57) _ _ rfl v1 (.slice (some ⟨w1'.heap.size, 0, none⟩) 1 1) (by simp [Act.eval]) (by simp [Act.eval]) _ _ HA2.out ?_ | refine Lib.wpList_append_run _ rfl (.tmp 59) (.tmp 62) _ _ rfl v2 (.slice (some ⟨b, 0, none⟩) 0 0) (by simp [Act.eval]) (by simp [Act.eval]) _ _ HA3.out ?_)
          go_ret2
          exact .inl ⟨HYes.out, v3, M.take c, M.drop c, (List.take_append_drop _ _).symm, HSP.out, rfl, (by rw [HD.out]; simpa using HM3.out.base K0.out)⟩
        · have hMl : M.length ≤ 100 := by rw [HN.out]; exact small
          obtain ⟨v3, w3, ha3, hm3⟩ := hm2.more (src_back hrow2 HN.out c' hle (c - c')) (.inr (hm2.pos (by simp))) (by simp only [List.length_append, List.length_cons, List.length_nil, List.length_take, List.length_drop]; omega) 42
          have HA3 := Lib.hid ha3
          have HM3 := Lib.hid hm3
          clear ha1 ha2 ha3 hm0 hm1 hm2 hm3 hrow hrow2 hld hlt' hMl
          go_wp2_with (at_builtin; first | refine Lib.wpList_append_run _ rfl (.tmp 50) (.tmp 53) _ _ rfl (.slice (some ⟨wr.heap.size, 0, none⟩) 0 0) (.slice (some ⟨b, 0, none⟩) c' c) (by simp [Act.eval]) (by simp [Act.eval]) _ _ HA1.out ?_ | refine Lib.wpList_append_run _ rfl (.tmp 55) (.tmp 57) _ _ rfl v1 (.slice (some ⟨w1'.heap.size, 0, none⟩) 1 1) (by simp [Act.eval]) (by simp [Act.eval]) _ _ HA2.out ?_ | refine Lib.wpList_append_run _ rfl (.tmp 59) (.tmp 62) _ _ rfl v2 (.slice (some ⟨b, c' * 6, none⟩) (k - c') (c - c')) (by simp [Act.eval]) (by simp [Act.eval]) _ _ HA3.out ?_)
          go_ret2
          exact .inl ⟨HYes.out, v3, M.take c', M.drop c', (List.take_append_drop _ _).symm, HSP.out, rfl, (by simpa using HM3.out.base K0.out)⟩
end Go.Proofs.YtlnjcaicagcinaaGreat
