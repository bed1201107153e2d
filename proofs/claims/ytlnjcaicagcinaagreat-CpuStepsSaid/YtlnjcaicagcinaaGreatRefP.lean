/-
  The document's zones (dowelref05): what can be done at a place. No conditions beyond those that each theorem names.
-/
import Derived.Test.YtlnjcaicagcinaaGreatZoneT
namespace Go.Proofs.YtlnjcaicagcinaaGreat
open Go.ChangeShapes Go.WideShapes Go.ChangeAt Go.RowKit

abbrev RZT : TypeId := 70
/- the document's list -/
structure RefAt (w : World) (v : Value) (M : List ZR) : Prop where
  row : SRow RZT 6 w v M.length (zcs M)
  ints : ∀ x ∈ M, IntsAt w x.p x.z.P ∧ IntsAt w x.q x.z.Q
theorem RefAt.keep {w w' : World} {v : Value} {M : List ZR} (h : RefAt w v M) (k : Kept No w w') : RefAt w' v M :=
  ⟨h.row.keep k (fun _ _ h => h), fun x hx => ⟨(h.ints x hx).1.on k.none, (h.ints x hx).2.on k.none⟩⟩

set_option maxRecDepth 100000 in
theorem in_any (a n f t : Int) (w : World) (ht : 0 ≤ t ∧ t ≤ 65536) (hn : n ≤ 9223372036854775807) : Calls Tryz.prog 96 #[.int .i64 a, .int .i64 n, .int .i64 f, .int .i64 t] w fun e w' => e = .returned (.bool (within a n f t)) ∧ w = w' := by
  unfold within
  by_cases h1 : 1 ≤ n
  · have s : IntKind.i64.wrap (t - n) = t - n := IntWalk.i64_in _ (by omega)
    by_cases h2 : f ≤ a
    · by_cases h3 : a ≤ t - n
      · rw [show decide (f ≤ a ∧ a < t ∧ 1 ≤ n ∧ n ≤ t - a) = true by simp; omega]
        go_enter Tryz.func96, Tryz.ntmps96
        go_wp2
        go_ret
        exact ⟨rfl, rfl⟩
      · rw [show decide (f ≤ a ∧ a < t ∧ 1 ≤ n ∧ n ≤ t - a) = false by simp; omega]
        go_enter Tryz.func96, Tryz.ntmps96
        go_wp2
        go_ret
        exact ⟨rfl, rfl⟩
    · rw [show decide (f ≤ a ∧ a < t ∧ 1 ≤ n ∧ n ≤ t - a) = false by simp; omega]
      go_enter Tryz.func96, Tryz.ntmps96
      go_wp2
      go_ret
      exact ⟨rfl, rfl⟩
  · rw [show decide (f ≤ a ∧ a < t ∧ 1 ≤ n ∧ n ≤ t - a) = false by simp; omega]
    go_enter Tryz.func96, Tryz.ntmps96
    go_wp2
    go_ret
    exact ⟨rfl, rfl⟩

theorem any_take_succ {α : Type} (p : α → Bool) (L : List α) (k : Nat) (x : α) (h : L[k]? = some x) : (L.take (k + 1)).any p = ((L.take k).any p || p x) := by
  rw [List.take_add_one, h]
  simp
theorem zone_edges {M : List ZR} (g : Good (M.map ZR.z)) {x : ZR} (hx : x ∈ M) : (272 ≤ x.z.b ∧ x.z.b ≤ x.z.d ∧ x.z.d ≤ x.z.r ∧ x.z.r ≤ x.z.e ∧ x.z.e ≤ 65536) ∧ x.z.r % 4 = 0 ∧ x.z.e % 4 = 0 := by
  have := (blockZ_iff x.z).1 (g.block x.z (List.mem_map.2 ⟨x, hx, rfl⟩))
  omega

set_option maxRecDepth 100000 in
set_option maxHeartbeats 2000000 in
theorem rload_any (a n : Int) (v : Value) (M : List ZR) (w : World) (h : RefAt w v M) (g : Good (M.map ZR.z)) (hn : n ≤ 9223372036854775807) (small : M.length ≤ 100) :
    Calls Tryz.prog 62 #[v, .int .i64 a, .int .i64 n] w fun e w' => e = .returned (.bool (canLoad (M.map ZR.z) a n)) ∧ Kept No w w' := by
  obtain ⟨sa, c, rfl, hc1, hc2⟩ := h.row.shape
  have HR := Lib.hid h.row
  have HG := Lib.hid g
  have H0 := Lib.hid (fun w => in_any a n 16 272 w (by omega) hn)
  generalize hb0 : within a n 16 272 = b0 at *
  have HB0 := Lib.hid hb0
  clear h g hb0
  generalize hN : M.length = N at *
  have HN := Lib.hid hN
  clear hN
  go_enter Tryz.func62, Tryz.ntmps62
  go_wp2_with fail
  refine (H0.out _).mono ?_
  rintro e w0 ⟨rfl, rfl⟩
  go_wp2_with fail
  go_loopw [7, 8] (fun m i wr => ∃ k : Nat, k ≤ N ∧ i = .int .i64 k ∧ m = .bool (b0 || (M.take k).any fun x => within a n x.z.b x.z.r) ∧ Hid (Kept No w wr)) (fun _ i _ => N - (intOf i).toNat)
  case atStart => exact ⟨0, Nat.zero_le _, rfl, by simp, Kept.refl _ _⟩
  case round =>
    obtain ⟨k, hk, rfl, rfl, HK⟩ := hrel
    by_cases hlt : k < N
    · obtain ⟨x, hx⟩ : ∃ x, M[k]? = some x := ⟨_, List.getElem?_eq_getElem (by rw [HN.out]; exact hlt)⟩
      obtain ⟨b, cap, hv, hbl, hcap1, hcap2, hcs⟩ := HR.out.cell (by omega)
      cases hv
      have h6 := (six_of HN.out hcs hx).keep HK.out hbl (fun h => h)
      have HS : Hid (∀ w', Kept No wr w' → (w'.cell? ⟨b, k * 6, none⟩ = some (.int .i64 x.z.b) ∧ w'.cell? ⟨b, k * 6 + 1, none⟩ = some (.int .i64 x.z.d) ∧ w'.cell? ⟨b, k * 6 + 2, none⟩ = some (.int .i64 x.z.r)) ∧ Kept No wr w') := fun w' hk => by
        have := h6.keep hk (Nat.lt_of_lt_of_le hbl HK.out.more) (fun h => h)
        exact ⟨⟨this.c0, this.c1, this.c2⟩, hk⟩
      have HX := Lib.hid hx
      have hed := (zone_edges HG.out (List.mem_of_getElem? hx)).1
      have HIn := Lib.hid (fun w => in_any a n x.z.b x.z.r w (by omega) hn)
      have e5 : (k : Int) < (N : Int) := by omega
      have e6 : (0 : Int) ≤ (k : Int) := by omega
      clear hx hcs h6 hed
      go_wp2_with fail
      refine wp_region_held_drew (S := fun w' => (w'.cell? ⟨b, k * 6, none⟩ = some (.int .i64 x.z.b) ∧ w'.cell? ⟨b, k * 6 + 1, none⟩ = some (.int .i64 x.z.d) ∧ w'.cell? ⟨b, k * 6 + 2, none⟩ = some (.int .i64 x.z.r)) ∧ Kept No wr w') (by kernel_rfl) ?_ (fun hHeld => ?_)
      · exact HS.out _ (Kept.refl _ _).drew
      refine wpAnyH_take (i := 0) (v := ?_) rfl (by kernel_rfl) (by kernel_rfl) (by kernel_rfl) (fun _ _ _ h => h) (Or.inl ⟨by rfl, ?_⟩) (by assumption) ?_
      rotate_left
      · intro w hSw
        (try dsimp only at hSw)
        go_simp
        (try with_reducible rfl)
      try simp only [Act.put, List.getElem_toArray, List.getElem_cons_zero, List.setIfInBounds_toArray, List.set_cons_zero, List.set_cons_succ]
      refine wpAnyH_take (i := 1) (v := ?_) rfl (by kernel_rfl) (by kernel_rfl) (by kernel_rfl) (fun _ _ _ h => h) (Or.inl ⟨by rfl, ?_⟩) (by assumption) ?_
      rotate_left
      · intro w hSw
        (try dsimp only at hSw)
        go_simp
        (try with_reducible rfl)
      try simp only [Act.put, List.getElem_toArray, List.getElem_cons_zero, List.getElem_cons_succ, List.setIfInBounds_toArray, List.set_cons_zero, List.set_cons_succ]
      refine wpAnyH_take (i := 2) (v := ?_) rfl (by kernel_rfl) (by kernel_rfl) (by kernel_rfl) (fun _ _ _ h => h) (Or.inl ⟨by rfl, ?_⟩) (by assumption) ?_
      rotate_left
      · intro w hSw
        (try dsimp only at hSw)
        go_simp
        (try with_reducible rfl)
      try simp only [Act.put, List.getElem_toArray, List.getElem_cons_zero, List.getElem_cons_succ, List.setIfInBounds_toArray, List.set_cons_zero, List.set_cons_succ]
      refine wpAnyH_take (i := 3) (v := ?_) rfl (by kernel_rfl) (by kernel_rfl) (by kernel_rfl) (fun _ _ _ h => h) (Or.inl ⟨by rfl, ?_⟩) (by assumption) ?_
      rotate_left
      · intro w hSw
        (try dsimp only at hSw)
        go_simp
        (try with_reducible rfl)
      try simp only [Act.put, List.getElem_toArray, List.getElem_cons_zero, List.getElem_cons_succ, List.setIfInBounds_toArray, List.set_cons_zero, List.set_cons_succ]
      refine wpAnyH_take (i := 4) (v := ?_) rfl (by kernel_rfl) (by kernel_rfl) (by kernel_rfl) (fun _ _ _ h => h) (Or.inl ⟨by rfl, ?_⟩) (by assumption) ?_
      rotate_left
      · intro w hSw
        (try dsimp only at hSw)
        go_simp
        (try with_reducible rfl)
      try simp only [Act.put, List.getElem_toArray, List.getElem_cons_zero, List.getElem_cons_succ, List.setIfInBounds_toArray, List.set_cons_zero, List.set_cons_succ]
      refine wpAnyH_take (i := 5) (v := ?_) rfl (by kernel_rfl) (by kernel_rfl) (by kernel_rfl) (fun _ _ _ h => h) (Or.inl ⟨by rfl, ?_⟩) (by assumption) ?_
      rotate_left
      · intro w hSw
        (try dsimp only at hSw)
        go_simp
        (try with_reducible rfl)
      try simp only [Act.put, List.getElem_toArray, List.getElem_cons_zero, List.getElem_cons_succ, List.setIfInBounds_toArray, List.set_cons_zero, List.set_cons_succ]
      refine wpAnyH_take (i := 6) (v := ?_) rfl (by kernel_rfl) (by kernel_rfl) (by kernel_rfl) (fun _ _ _ h => h) (Or.inl ⟨by rfl, ?_⟩) (by assumption) ?_
      rotate_left
      · intro w hSw
        (try dsimp only at hSw)
        go_simp
        (try with_reducible rfl)
      try simp only [Act.put, List.getElem_toArray, List.getElem_cons_zero, List.getElem_cons_succ, List.setIfInBounds_toArray, List.set_cons_zero, List.set_cons_succ]
      refine wpAnyH_take (i := 7) (v := ?_) rfl (by kernel_rfl) (by kernel_rfl) (by kernel_rfl) (fun _ _ _ h => h) (Or.inl ⟨by rfl, ?_⟩) (by assumption) ?_
      rotate_left
      · intro w hSw
        (try dsimp only at hSw)
        go_simp
        (try with_reducible rfl)
      try simp only [Act.put, List.getElem_toArray, List.getElem_cons_zero, List.getElem_cons_succ, List.setIfInBounds_toArray, List.set_cons_zero, List.set_cons_succ]
      refine wpAnyH_take (i := 8) (v := ?_) rfl (by kernel_rfl) (by kernel_rfl) (by kernel_rfl) (fun _ _ _ h => h) (Or.inl ⟨by rfl, ?_⟩) (by assumption) ?_
      rotate_left
      · intro w hSw
        (try dsimp only at hSw)
        go_simp
        (try with_reducible rfl)
      try simp only [Act.put, List.getElem_toArray, List.getElem_cons_zero, List.getElem_cons_succ, List.setIfInBounds_toArray, List.set_cons_zero, List.set_cons_succ]
      refine wpAnyH_take (i := 9) (v := ?_) rfl (by kernel_rfl) (by kernel_rfl) (by kernel_rfl) (fun _ _ _ h => h) (Or.inl ⟨by rfl, ?_⟩) (by assumption) ?_
      rotate_left
      · intro w hSw
        (try dsimp only at hSw)
        go_simp
        (try with_reducible rfl)
      try simp only [Act.put, List.getElem_toArray, List.getElem_cons_zero, List.getElem_cons_succ, List.setIfInBounds_toArray, List.set_cons_zero, List.set_cons_succ]
      refine wpAnyH_take (i := 10) (v := ?_) rfl (by kernel_rfl) (by kernel_rfl) (by kernel_rfl) (fun _ _ _ h => h) (Or.inl ⟨by rfl, ?_⟩) (by assumption) ?_
      rotate_left
      · intro w hSw
        (try dsimp only at hSw)
        go_simp
        (try with_reducible rfl)
      try simp only [Act.put, List.getElem_toArray, List.getElem_cons_zero, List.getElem_cons_succ, List.setIfInBounds_toArray, List.set_cons_zero, List.set_cons_succ]
      refine wpAnyH_take (i := 11) (v := ?_) rfl (by kernel_rfl) (by kernel_rfl) (by kernel_rfl) (fun _ _ _ h => h) (Or.inl ⟨by rfl, ?_⟩) (by assumption) ?_
      rotate_left
      · intro w hSw
        (try dsimp only at hSw)
        go_simp
        (try with_reducible rfl)
      try simp only [Act.put, List.getElem_toArray, List.getElem_cons_zero, List.getElem_cons_succ, List.setIfInBounds_toArray, List.set_cons_zero, List.set_cons_succ]
      refine wpAnyH_ready (rs := [12]) (by kernel_rfl) (by simp) ?_
      refine AllReadyH.cons rfl (fun K hK => ?_) AllReadyH.nil
      go_simp
      refine (HIn.out _).mono ?_
      rintro e1 w1 ⟨rfl, rfl⟩
      first | show K _ _ | go_wp2_with fail
      refine hK.out _ _ ?_ (fun hHeld1 => ?_)
      · exact hHeld
      clear hK K
      try simp only [Act.put, List.getElem_toArray, List.getElem_cons_zero, List.getElem_cons_succ, List.setIfInBounds_toArray, List.set_cons_zero, List.set_cons_succ]
      refine wpAnyH_take (i := 13) (v := ?_) rfl (by kernel_rfl) (by kernel_rfl) (by kernel_rfl) (fun _ _ _ h => h) (Or.inl ⟨by rfl, ?_⟩) (by assumption) ?_
      rotate_left
      · intro w hSw
        (try dsimp only at hSw)
        go_simp
        (try with_reducible rfl)
      try simp only [Act.put, List.getElem_toArray, List.getElem_cons_zero, List.getElem_cons_succ, List.setIfInBounds_toArray, List.set_cons_zero, List.set_cons_succ]
      refine wpAnyH_done (by kernel_rfl) ?_ _
      have K1 := Lib.hid hHeld1.2
      clear hHeld hHeld1
      have e7 := any_take_succ (fun x : ZR => within a n x.z.b x.z.r) M k x HX.out
      generalize hwx : within a n x.z.b x.z.r = bx at *
      have E7 := Lib.hid e7
      clear e7 hwx HIn
      generalize (M.take k).any (fun x => within a n x.z.b x.z.r) = bm at *
      cases hbb : (b0 || bm) with
      | true =>
        have HBB := Lib.hid hbb
        clear hbb
        go_wp2_with fail
        go_roundw
        case rel => exact ⟨k + 1, by omega, by go_num, by rw [E7.out, ← Bool.or_assoc, HBB.out]; rfl, (HK.out.trans K1.out : Kept _ _ _)⟩
        case measure => simp [intOf]; omega
      | false =>
        have HBB := Lib.hid hbb
        clear hbb
        go_wp2_with fail
        go_roundw
        case rel => exact ⟨k + 1, by omega, by go_num, by rw [E7.out, ← Bool.or_assoc, HBB.out]; rfl, (HK.out.trans K1.out : Kept _ _ _)⟩
        case measure => simp [intOf]; omega
    · obtain rfl : k = N := by omega
      have e5 : ¬ (k : Int) < (k : Int) := by omega
      go_wp2_with fail
      go_ret
      refine ⟨end_bool ?_, HK.out⟩
      rw [List.take_of_length_le (by rw [HN.out]; exact Nat.le_refl _)]
      unfold canLoad
      rw [HB0.out, List.any_map]
      rfl
set_option maxRecDepth 100000 in
set_option maxHeartbeats 2000000 in
theorem rstore_any (a n : Int) (v : Value) (M : List ZR) (w : World) (h : RefAt w v M) (g : Good (M.map ZR.z)) (hn : n ≤ 9223372036854775807) (small : M.length ≤ 100) :
    Calls Tryz.prog 63 #[v, .int .i64 a, .int .i64 n] w fun e w' => e = .returned (.bool (canStore (M.map ZR.z) a n)) ∧ Kept No w w' := by
  obtain ⟨sa, c, rfl, hc1, hc2⟩ := h.row.shape
  have HR := Lib.hid h.row
  have HG := Lib.hid g
  have H0 := Lib.hid (fun w => in_any a n 16 272 w (by omega) hn)
  generalize hb0 : within a n 16 272 = b0 at *
  have HB0 := Lib.hid hb0
  clear h g hb0
  generalize hN : M.length = N at *
  have HN := Lib.hid hN
  clear hN
  go_enter Tryz.func63, Tryz.ntmps63
  go_wp2_with fail
  refine (H0.out _).mono ?_
  rintro e w0 ⟨rfl, rfl⟩
  go_wp2_with fail
  go_loopw [7, 8] (fun m i wr => ∃ k : Nat, k ≤ N ∧ i = .int .i64 k ∧ m = .bool (b0 || (M.take k).any fun x => within a n x.z.b x.z.d) ∧ Hid (Kept No w wr)) (fun _ i _ => N - (intOf i).toNat)
  case atStart => exact ⟨0, Nat.zero_le _, rfl, by simp, Kept.refl _ _⟩
  case round =>
    obtain ⟨k, hk, rfl, rfl, HK⟩ := hrel
    by_cases hlt : k < N
    · obtain ⟨x, hx⟩ : ∃ x, M[k]? = some x := ⟨_, List.getElem?_eq_getElem (by rw [HN.out]; exact hlt)⟩
      obtain ⟨b, cap, hv, hbl, hcap1, hcap2, hcs⟩ := HR.out.cell (by omega)
      cases hv
      have h6 := (six_of HN.out hcs hx).keep HK.out hbl (fun h => h)
      have HS : Hid (∀ w', Kept No wr w' → (w'.cell? ⟨b, k * 6, none⟩ = some (.int .i64 x.z.b) ∧ w'.cell? ⟨b, k * 6 + 1, none⟩ = some (.int .i64 x.z.d) ∧ w'.cell? ⟨b, k * 6 + 2, none⟩ = some (.int .i64 x.z.r)) ∧ Kept No wr w') := fun w' hk => by
        have := h6.keep hk (Nat.lt_of_lt_of_le hbl HK.out.more) (fun h => h)
        exact ⟨⟨this.c0, this.c1, this.c2⟩, hk⟩
      have HX := Lib.hid hx
      have hed := (zone_edges HG.out (List.mem_of_getElem? hx)).1
      have HIn := Lib.hid (fun w => in_any a n x.z.b x.z.d w (by omega) hn)
      have e5 : (k : Int) < (N : Int) := by omega
      have e6 : (0 : Int) ≤ (k : Int) := by omega
      clear hx hcs h6 hed
      go_wp2_with fail
      refine wp_region_held_drew (S := fun w' => (w'.cell? ⟨b, k * 6, none⟩ = some (.int .i64 x.z.b) ∧ w'.cell? ⟨b, k * 6 + 1, none⟩ = some (.int .i64 x.z.d) ∧ w'.cell? ⟨b, k * 6 + 2, none⟩ = some (.int .i64 x.z.r)) ∧ Kept No wr w') (by kernel_rfl) ?_ (fun hHeld => ?_)
      · exact HS.out _ (Kept.refl _ _).drew
      refine wpAnyH_take (i := 0) (v := ?_) rfl (by kernel_rfl) (by kernel_rfl) (by kernel_rfl) (fun _ _ _ h => h) (Or.inl ⟨by rfl, ?_⟩) (by assumption) ?_
      rotate_left
      · intro w hSw
        (try dsimp only at hSw)
        go_simp
        (try with_reducible rfl)
      try simp only [Act.put, List.getElem_toArray, List.getElem_cons_zero, List.setIfInBounds_toArray, List.set_cons_zero, List.set_cons_succ]
      refine wpAnyH_take (i := 1) (v := ?_) rfl (by kernel_rfl) (by kernel_rfl) (by kernel_rfl) (fun _ _ _ h => h) (Or.inl ⟨by rfl, ?_⟩) (by assumption) ?_
      rotate_left
      · intro w hSw
        (try dsimp only at hSw)
        go_simp
        (try with_reducible rfl)
      try simp only [Act.put, List.getElem_toArray, List.getElem_cons_zero, List.getElem_cons_succ, List.setIfInBounds_toArray, List.set_cons_zero, List.set_cons_succ]
      refine wpAnyH_take (i := 2) (v := ?_) rfl (by kernel_rfl) (by kernel_rfl) (by kernel_rfl) (fun _ _ _ h => h) (Or.inl ⟨by rfl, ?_⟩) (by assumption) ?_
      rotate_left
      · intro w hSw
        (try dsimp only at hSw)
        go_simp
        (try with_reducible rfl)
      try simp only [Act.put, List.getElem_toArray, List.getElem_cons_zero, List.getElem_cons_succ, List.setIfInBounds_toArray, List.set_cons_zero, List.set_cons_succ]
      refine wpAnyH_take (i := 3) (v := ?_) rfl (by kernel_rfl) (by kernel_rfl) (by kernel_rfl) (fun _ _ _ h => h) (Or.inl ⟨by rfl, ?_⟩) (by assumption) ?_
      rotate_left
      · intro w hSw
        (try dsimp only at hSw)
        go_simp
        (try with_reducible rfl)
      try simp only [Act.put, List.getElem_toArray, List.getElem_cons_zero, List.getElem_cons_succ, List.setIfInBounds_toArray, List.set_cons_zero, List.set_cons_succ]
      refine wpAnyH_take (i := 4) (v := ?_) rfl (by kernel_rfl) (by kernel_rfl) (by kernel_rfl) (fun _ _ _ h => h) (Or.inl ⟨by rfl, ?_⟩) (by assumption) ?_
      rotate_left
      · intro w hSw
        (try dsimp only at hSw)
        go_simp
        (try with_reducible rfl)
      try simp only [Act.put, List.getElem_toArray, List.getElem_cons_zero, List.getElem_cons_succ, List.setIfInBounds_toArray, List.set_cons_zero, List.set_cons_succ]
      refine wpAnyH_take (i := 5) (v := ?_) rfl (by kernel_rfl) (by kernel_rfl) (by kernel_rfl) (fun _ _ _ h => h) (Or.inl ⟨by rfl, ?_⟩) (by assumption) ?_
      rotate_left
      · intro w hSw
        (try dsimp only at hSw)
        go_simp
        (try with_reducible rfl)
      try simp only [Act.put, List.getElem_toArray, List.getElem_cons_zero, List.getElem_cons_succ, List.setIfInBounds_toArray, List.set_cons_zero, List.set_cons_succ]
      refine wpAnyH_take (i := 6) (v := ?_) rfl (by kernel_rfl) (by kernel_rfl) (by kernel_rfl) (fun _ _ _ h => h) (Or.inl ⟨by rfl, ?_⟩) (by assumption) ?_
      rotate_left
      · intro w hSw
        (try dsimp only at hSw)
        go_simp
        (try with_reducible rfl)
      try simp only [Act.put, List.getElem_toArray, List.getElem_cons_zero, List.getElem_cons_succ, List.setIfInBounds_toArray, List.set_cons_zero, List.set_cons_succ]
      refine wpAnyH_take (i := 7) (v := ?_) rfl (by kernel_rfl) (by kernel_rfl) (by kernel_rfl) (fun _ _ _ h => h) (Or.inl ⟨by rfl, ?_⟩) (by assumption) ?_
      rotate_left
      · intro w hSw
        (try dsimp only at hSw)
        go_simp
        (try with_reducible rfl)
      try simp only [Act.put, List.getElem_toArray, List.getElem_cons_zero, List.getElem_cons_succ, List.setIfInBounds_toArray, List.set_cons_zero, List.set_cons_succ]
      refine wpAnyH_take (i := 8) (v := ?_) rfl (by kernel_rfl) (by kernel_rfl) (by kernel_rfl) (fun _ _ _ h => h) (Or.inl ⟨by rfl, ?_⟩) (by assumption) ?_
      rotate_left
      · intro w hSw
        (try dsimp only at hSw)
        go_simp
        (try with_reducible rfl)
      try simp only [Act.put, List.getElem_toArray, List.getElem_cons_zero, List.getElem_cons_succ, List.setIfInBounds_toArray, List.set_cons_zero, List.set_cons_succ]
      refine wpAnyH_take (i := 9) (v := ?_) rfl (by kernel_rfl) (by kernel_rfl) (by kernel_rfl) (fun _ _ _ h => h) (Or.inl ⟨by rfl, ?_⟩) (by assumption) ?_
      rotate_left
      · intro w hSw
        (try dsimp only at hSw)
        go_simp
        (try with_reducible rfl)
      try simp only [Act.put, List.getElem_toArray, List.getElem_cons_zero, List.getElem_cons_succ, List.setIfInBounds_toArray, List.set_cons_zero, List.set_cons_succ]
      refine wpAnyH_take (i := 10) (v := ?_) rfl (by kernel_rfl) (by kernel_rfl) (by kernel_rfl) (fun _ _ _ h => h) (Or.inl ⟨by rfl, ?_⟩) (by assumption) ?_
      rotate_left
      · intro w hSw
        (try dsimp only at hSw)
        go_simp
        (try with_reducible rfl)
      try simp only [Act.put, List.getElem_toArray, List.getElem_cons_zero, List.getElem_cons_succ, List.setIfInBounds_toArray, List.set_cons_zero, List.set_cons_succ]
      refine wpAnyH_take (i := 11) (v := ?_) rfl (by kernel_rfl) (by kernel_rfl) (by kernel_rfl) (fun _ _ _ h => h) (Or.inl ⟨by rfl, ?_⟩) (by assumption) ?_
      rotate_left
      · intro w hSw
        (try dsimp only at hSw)
        go_simp
        (try with_reducible rfl)
      try simp only [Act.put, List.getElem_toArray, List.getElem_cons_zero, List.getElem_cons_succ, List.setIfInBounds_toArray, List.set_cons_zero, List.set_cons_succ]
      refine wpAnyH_ready (rs := [12]) (by kernel_rfl) (by simp) ?_
      refine AllReadyH.cons rfl (fun K hK => ?_) AllReadyH.nil
      go_simp
      refine (HIn.out _).mono ?_
      rintro e1 w1 ⟨rfl, rfl⟩
      first | show K _ _ | go_wp2_with fail
      refine hK.out _ _ ?_ (fun hHeld1 => ?_)
      · exact hHeld
      clear hK K
      try simp only [Act.put, List.getElem_toArray, List.getElem_cons_zero, List.getElem_cons_succ, List.setIfInBounds_toArray, List.set_cons_zero, List.set_cons_succ]
      refine wpAnyH_take (i := 13) (v := ?_) rfl (by kernel_rfl) (by kernel_rfl) (by kernel_rfl) (fun _ _ _ h => h) (Or.inl ⟨by rfl, ?_⟩) (by assumption) ?_
      rotate_left
      · intro w hSw
        (try dsimp only at hSw)
        go_simp
        (try with_reducible rfl)
      try simp only [Act.put, List.getElem_toArray, List.getElem_cons_zero, List.getElem_cons_succ, List.setIfInBounds_toArray, List.set_cons_zero, List.set_cons_succ]
      refine wpAnyH_done (by kernel_rfl) ?_ _
      have K1 := Lib.hid hHeld1.2
      clear hHeld hHeld1
      have e7 := any_take_succ (fun x : ZR => within a n x.z.b x.z.d) M k x HX.out
      generalize hwx : within a n x.z.b x.z.d = bx at *
      have E7 := Lib.hid e7
      clear e7 hwx HIn
      generalize (M.take k).any (fun x => within a n x.z.b x.z.d) = bm at *
      cases hbb : (b0 || bm) with
      | true =>
        have HBB := Lib.hid hbb
        clear hbb
        go_wp2_with fail
        go_roundw
        case rel => exact ⟨k + 1, by omega, by go_num, by rw [E7.out, ← Bool.or_assoc, HBB.out]; rfl, (HK.out.trans K1.out : Kept _ _ _)⟩
        case measure => simp [intOf]; omega
      | false =>
        have HBB := Lib.hid hbb
        clear hbb
        go_wp2_with fail
        go_roundw
        case rel => exact ⟨k + 1, by omega, by go_num, by rw [E7.out, ← Bool.or_assoc, HBB.out]; rfl, (HK.out.trans K1.out : Kept _ _ _)⟩
        case measure => simp [intOf]; omega
    · obtain rfl : k = N := by omega
      have e5 : ¬ (k : Int) < (k : Int) := by omega
      go_wp2_with fail
      go_ret
      refine ⟨end_bool ?_, HK.out⟩
      rw [List.take_of_length_le (by rw [HN.out]; exact Nat.le_refl _)]
      unfold canStore
      rw [HB0.out, List.any_map]
      rfl
end Go.Proofs.YtlnjcaicagcinaaGreat
