/-
  Contracts of as (dowellaw05) and of the document's Same (dowelref05). No conditions beyond those that each theorem names.
-/
import Derived.Test.YtiloflgpflgjnaaRefJ
namespace Go.Proofs.Ytiloflgpflgjnaa
open Go.ChangeShapes Go.WideShapes Go.ChangeAt Go.RowKit

theorem cell_alloc {w : World} {p : Addr} {v : Value} (h : w.cell? p = some v) (o : Obj) : (w.alloc o).cell? p = some v := (((Below.refl w.heap.size w).alloc (Nat.le_refl _) o).cell (cell_lt h)).trans h
def AsRel (w wr : World) (L : List (Int × Int)) (out i : Value) : Prop := ∃ k : Nat, k ≤ L.length ∧ i = .int .i64 k ∧ Grows w wr out (L.take k)
set_option maxHeartbeats 1000000 in
theorem as_any (v : Value) (L : List (Int × Int)) (w : World) (h : SRow HT 2 w v L.length (pcs L)) (small : L.length ≤ 20000) :
    Calls Try.prog 15 #[v] w fun e w' => HolesOf w w' e L := by
  obtain ⟨av, cv, rfl, hcv1, hcv2⟩ := h.shape
  have hm' : cv ≤ 9223372036854775807 := hcv2
  have HS := Lib.hid h
  clear h hcv2
  generalize hN : L.length = N at *
  have HN := Lib.hid hN
  clear hN
  go_enter Try.func15, Try.ntmps15
  go_wp2_with fail
  go_loopw [3, 4] (fun out i wr => AsRel w wr L out i) (fun _ i _ => N - (intOf i).toNat)
  case atStart => exact ⟨0, Nat.zero_le _, rfl, Grows.start w⟩
  case round =>
    obtain ⟨k, hk, rfl, hG⟩ := hrel
    rw [HN.out] at hk
    have HG := Lib.hid hG
    obtain ⟨ao, co, rfl, hco1, hco2⟩ := hG.1.shape
    have hco3 : co ≤ 9223372036854775807 := hco2
    clear hG hco2
    by_cases hlt : k < N
    · have e1 : (k : Int) < (N : Int) := by omega
      have e0 : (0 : Int) ≤ (k : Int) := by omega
      obtain ⟨b, cap, hv, hb, _, _, hcs⟩ := HS.out.cell (by omega)
      cases hv
      obtain ⟨x, hx⟩ : ∃ x, L[k]? = some x := ⟨_, List.getElem?_eq_getElem (by rw [HN.out]; exact hlt)⟩
      have c1 : wr.cell? ⟨b, k * 2, none⟩ = some (.int .i64 x.1) := by rw [HG.out.2.2.cell (p := ⟨b, k * 2, none⟩) hb, hcs _ (by omega), pcs_fst, hx]; rfl
      have c2 : wr.cell? ⟨b, k * 2 + 1, none⟩ = some (.int .i64 x.2) := by rw [HG.out.2.2.cell (p := ⟨b, k * 2 + 1, none⟩) hb, hcs _ (by omega), pcs_snd, hx]; rfl
      obtain ⟨a2, n2, c3, w2, q0, q1⟩ := HG.out.more x 42 (by rw [List.length_take]; omega) wr.drew ⟨1, rfl⟩
      have q0' : (Builtin.append_ #[42, 42] 42 #[.slice ao (L.take k).length co, .slice (some ⟨wr.heap.size, 0, none⟩) 1 1]).run Try.prog (wr.drew.alloc (.cells #[.int .i64 x.1, .int .i64 x.2] RT)) = .ok (.slice a2 n2 c3) w2 := q0
      have hsn : L.take k ++ [x] = L.take (k + 1) := by rw [List.take_add_one, hx]; rfl
      rw [hsn] at q1
      have HQ := Lib.hid q1
      have SA : Hid ((wr.drew.cell? ⟨b, k * 2, none⟩ = some (.int .i64 x.1) ∧ wr.drew.cell? ⟨b, k * 2 + 1, none⟩ = some (.int .i64 x.2)) ∧ True) := ⟨⟨c1, c2⟩, trivial⟩
      have SB : Hid (((wr.drew.alloc (.cells #[.int .i64 x.1, .int .i64 x.2] RT)).cell? ⟨b, k * 2, none⟩ = some (.int .i64 x.1) ∧ (wr.drew.alloc (.cells #[.int .i64 x.1, .int .i64 x.2] RT)).cell? ⟨b, k * 2 + 1, none⟩ = some (.int .i64 x.2)) ∧ True) :=
        ⟨⟨cell_alloc SA.out.1.1 _, cell_alloc SA.out.1.2 _⟩, trivial⟩
      have SC : Hid ((w2.cell? ⟨b, k * 2, none⟩ = some (.int .i64 x.1) ∧ w2.cell? ⟨b, k * 2 + 1, none⟩ = some (.int .i64 x.2)) ∧ True) := by
        refine ⟨⟨?_, ?_⟩, trivial⟩
        · rw [q1.2.2.cell (p := ⟨b, k * 2, none⟩) hb, hcs _ (by omega), pcs_fst, hx]; rfl
        · rw [q1.2.2.cell (p := ⟨b, k * 2 + 1, none⟩) hb, hcs _ (by omega), pcs_snd, hx]; rfl
      clear hcs q0 q1 hsn hx
      generalize x.1 = x1 at *
      generalize x.2 = x2 at *
      generalize (L.take k).length = lk at *
      go_wp2_with fail
      refine wp_region_held_drew (S := fun w' => (w'.cell? ⟨b, k * 2, none⟩ = some (.int .i64 x1) ∧ w'.cell? ⟨b, k * 2 + 1, none⟩ = some (.int .i64 x2)) ∧ True) (by kernel_rfl) ?_ (fun hHeld => ?_)
      · exact SA.out
      refine wpAnyH_take (i := 0) (v := ?_) rfl (by kernel_rfl) (by kernel_rfl) (by kernel_rfl) (fun _ _ _ h => h) (Or.inl ⟨by rfl, ?_⟩) (by assumption) ?_
      rotate_left
      · intro w hSw
        (try dsimp only at hSw)
        go_simp
        (try with_reducible rfl)
      try simp only [Act.put, List.getElem_toArray, List.getElem_cons_zero, List.setIfInBounds_toArray, List.set_cons_zero, List.set_cons_succ]
      refine wpAnyH_take (i := 1) (v := ?_) rfl (by kernel_rfl) (by kernel_rfl) (by kernel_rfl) (fun _ _ _ h => h) (Or.inl ⟨by rfl, ?_⟩) (by assumption) ?_
      rotate_left
      · intro w hSw
        (try dsimp only at hSw)
        go_simp
        (try with_reducible rfl)
      try simp only [Act.put, List.getElem_toArray, List.getElem_cons_zero, List.getElem_cons_succ, List.setIfInBounds_toArray, List.set_cons_zero, List.set_cons_succ]
      refine wpAnyH_take (i := 2) (v := ?_) rfl (by kernel_rfl) (by kernel_rfl) (by kernel_rfl) (fun _ _ _ h => h) (Or.inl ⟨by rfl, ?_⟩) (by assumption) ?_
      rotate_left
      · intro w hSw
        (try dsimp only at hSw)
        go_simp
        (try with_reducible rfl)
      try simp only [Act.put, List.getElem_toArray, List.getElem_cons_zero, List.getElem_cons_succ, List.setIfInBounds_toArray, List.set_cons_zero, List.set_cons_succ]
      refine wpAnyH_take (i := 3) (v := ?_) rfl (by kernel_rfl) (by kernel_rfl) (by kernel_rfl) (fun _ _ _ h => h) (Or.inl ⟨by rfl, ?_⟩) (by assumption) ?_
      rotate_left
      · intro w hSw
        (try dsimp only at hSw)
        go_simp
        (try with_reducible rfl)
      try simp only [Act.put, List.getElem_toArray, List.getElem_cons_zero, List.getElem_cons_succ, List.setIfInBounds_toArray, List.set_cons_zero, List.set_cons_succ]
      refine wpAnyH_take (i := 4) (v := ?_) rfl (by kernel_rfl) (by kernel_rfl) (by kernel_rfl) (fun _ _ _ h => h) (Or.inl ⟨by rfl, ?_⟩) (by assumption) ?_
      rotate_left
      · intro w hSw
        (try dsimp only at hSw)
        go_simp
        (try with_reducible rfl)
      try simp only [Act.put, List.getElem_toArray, List.getElem_cons_zero, List.getElem_cons_succ, List.setIfInBounds_toArray, List.set_cons_zero, List.set_cons_succ]
      refine wpAnyH_take (i := 5) (v := ?_) rfl (by kernel_rfl) (by kernel_rfl) (by kernel_rfl) (fun _ _ _ h => h) (Or.inl ⟨by rfl, ?_⟩) (by assumption) ?_
      rotate_left
      · intro w hSw
        (try dsimp only at hSw)
        go_simp
        (try with_reducible rfl)
      try simp only [Act.put, List.getElem_toArray, List.getElem_cons_zero, List.getElem_cons_succ, List.setIfInBounds_toArray, List.set_cons_zero, List.set_cons_succ]
      refine wpAnyH_take (i := 6) (v := ?_) rfl (by kernel_rfl) (by kernel_rfl) (by kernel_rfl) (fun _ _ _ h => h) (Or.inl ⟨by rfl, ?_⟩) (by assumption) ?_
      rotate_left
      · intro w hSw
        (try dsimp only at hSw)
        go_simp
        (try with_reducible rfl)
      try simp only [Act.put, List.getElem_toArray, List.getElem_cons_zero, List.getElem_cons_succ, List.setIfInBounds_toArray, List.set_cons_zero, List.set_cons_succ]
      refine wpAnyH_take (i := 7) (v := ?_) rfl (by kernel_rfl) (by kernel_rfl) (by kernel_rfl) (fun _ _ _ h => h) (Or.inl ⟨by rfl, ?_⟩) (by assumption) ?_
      rotate_left
      · intro w hSw
        (try dsimp only at hSw)
        go_simp
        (try with_reducible rfl)
      try simp only [Act.put, List.getElem_toArray, List.getElem_cons_zero, List.getElem_cons_succ, List.setIfInBounds_toArray, List.set_cons_zero, List.set_cons_succ]
      refine wpAnyH_take (i := 8) (v := ?_) rfl (by kernel_rfl) (by kernel_rfl) (by kernel_rfl) (fun _ _ _ h => h) (Or.inl ⟨by rfl, ?_⟩) (by assumption) ?_
      rotate_left
      · intro w hSw
        (try dsimp only at hSw)
        go_simp
        (try with_reducible rfl)
      try simp only [Act.put, List.getElem_toArray, List.getElem_cons_zero, List.getElem_cons_succ, List.setIfInBounds_toArray, List.set_cons_zero, List.set_cons_succ]
      refine wpAnyH_take (i := 9) (v := ?_) rfl (by kernel_rfl) (by kernel_rfl) (by kernel_rfl) (fun _ _ _ h => h) (Or.inl ⟨by rfl, ?_⟩) (by assumption) ?_
      rotate_left
      · intro w hSw
        (try dsimp only at hSw)
        go_simp
        (try with_reducible rfl)
      try simp only [Act.put, List.getElem_toArray, List.getElem_cons_zero, List.getElem_cons_succ, List.setIfInBounds_toArray, List.set_cons_zero, List.set_cons_succ]
      refine wpAnyH_take (i := 10) (v := ?_) rfl (by kernel_rfl) (by kernel_rfl) (by kernel_rfl) (fun _ _ _ h => h) (Or.inl ⟨by rfl, ?_⟩) (by assumption) ?_
      rotate_left
      · intro w hSw
        (try dsimp only at hSw)
        go_simp
        (try with_reducible rfl)
      try simp only [Act.put, List.getElem_toArray, List.getElem_cons_zero, List.getElem_cons_succ, List.setIfInBounds_toArray, List.set_cons_zero, List.set_cons_succ]
      refine wpAnyH_take (i := 11) (v := ?_) rfl (by kernel_rfl) (by kernel_rfl) (by kernel_rfl) (fun _ _ _ h => h) (Or.inl ⟨by rfl, ?_⟩) (by assumption) ?_
      rotate_left
      · intro w hSw
        (try dsimp only at hSw)
        go_simp
        (try with_reducible rfl)
      try simp only [Act.put, List.getElem_toArray, List.getElem_cons_zero, List.getElem_cons_succ, List.setIfInBounds_toArray, List.set_cons_zero, List.set_cons_succ]
      refine wpAnyH_ready (rs := [12]) (by kernel_rfl) (by simp) ?_
      refine AllReadyH.cons rfl (fun K hK => ?_) AllReadyH.nil
      go_simp
      refine hK.out _ _ ?_ (fun hHeld1 => ?_)
      · exact SB.out
      clear hK K
      try simp only [Act.put, List.getElem_toArray, List.getElem_cons_zero, List.getElem_cons_succ, List.setIfInBounds_toArray, List.set_cons_zero, List.set_cons_succ]
      refine wpAnyH_ready (rs := [13]) (by kernel_rfl) (by simp) ?_
      refine AllReadyH.cons rfl (fun K hK => ?_) AllReadyH.nil
      refine step_append rfl (.tmp 11) (.tmp 23) 42 42 rfl _ _ (by simp [Act.eval]) (by simp [Act.eval]) q0' ?_
      refine hK.out _ _ ?_ (fun hHeld2 => ?_)
      · exact SC.out
      clear hK K
      try simp only [Act.put, List.getElem_toArray, List.getElem_cons_zero, List.getElem_cons_succ, List.setIfInBounds_toArray, List.set_cons_zero, List.set_cons_succ]
      refine wpAnyH_take (i := 14) (v := ?_) rfl (by kernel_rfl) (by kernel_rfl) (by kernel_rfl) (fun _ _ _ h => h) (Or.inl ⟨by rfl, ?_⟩) (by assumption) ?_
      rotate_left
      · intro w hSw
        (try dsimp only at hSw)
        go_simp
        (try with_reducible rfl)
      try simp only [Act.put, List.getElem_toArray, List.getElem_cons_zero, List.getElem_cons_succ, List.setIfInBounds_toArray, List.set_cons_zero, List.set_cons_succ]
      refine wpAnyH_done (by kernel_rfl) ?_ _
      go_wp2
      go_roundw
      case rel => exact ⟨k + 1, by rw [HN.out]; omega, by go_num, HQ.out⟩
      case measure => simp [intOf]; omega
    · obtain rfl : k = N := by omega
      have HG2 := HG.out
      clear HG
      generalize (L.take k).length = lk at *
      rw [List.take_of_length_le (by rw [HN.out]; exact Nat.le_refl _)] at HG2
      have HG := Lib.hid HG2
      clear HG2
      go_wp2_with fail
      go_ret
      exact ⟨_, rfl, HG.out⟩

theorem same_yes (a b : Value) (L : List (Int × Int)) (w : World) (ha : SRow RT 2 w a L.length (pcs L)) (hb : SRow RT 2 w b L.length (pcs L)) :
    Calls Try.prog 14 #[a, b] w fun e w' => e = .returned (.bool true) ∧ Drawn w w' := by
  obtain ⟨aa, ca, rfl, hca1, hca2⟩ := ha.shape
  obtain ⟨ab, cb, rfl, hcb1, hcb2⟩ := hb.shape
  have hm1 : ca ≤ 9223372036854775807 := hca2
  have hm2 : cb ≤ 9223372036854775807 := hcb2
  have HA := Lib.hid ha
  have HB := Lib.hid hb
  clear ha hb hca2 hcb2
  generalize hN : L.length = N at *
  have HN := Lib.hid hN
  clear hN
  go_enter Try.func14, Try.ntmps14
  go_wp2_with fail
  go_loopw [5] (fun i wr => ∃ k : Nat, k ≤ N ∧ i = .int .i64 k ∧ Hid (Drawn w wr)) (fun i _ => N - (intOf i).toNat)
  case atStart => exact ⟨0, Nat.zero_le _, rfl, Drawn.refl w⟩
  case round =>
    obtain ⟨k, hk, rfl, HD⟩ := hrel
    by_cases hlt : k < N
    · have e1 : (k : Int) < (N : Int) := by omega
      have e0 : (0 : Int) ≤ (k : Int) := by omega
      obtain ⟨b1, cap1, hv, hb1, _, _, hcs1⟩ := HA.out.cell (by omega)
      cases hv
      obtain ⟨b2, cap2, hv, hb2, _, _, hcs2⟩ := HB.out.cell (by omega)
      cases hv
      obtain ⟨x, hx⟩ : ∃ x, L[k]? = some x := ⟨_, List.getElem?_eq_getElem (by rw [HN.out]; exact hlt)⟩
      have c1 : wr.cell? ⟨b1, k * 2, none⟩ = some (.int .i64 x.1) := by rw [HD.out.cell, hcs1 _ (by omega), pcs_fst, hx]; rfl
      have c2 : wr.cell? ⟨b1, k * 2 + 1, none⟩ = some (.int .i64 x.2) := by rw [HD.out.cell, hcs1 _ (by omega), pcs_snd, hx]; rfl
      have c3 : wr.cell? ⟨b2, k * 2, none⟩ = some (.int .i64 x.1) := by rw [HD.out.cell, hcs2 _ (by omega), pcs_fst, hx]; rfl
      have c4 : wr.cell? ⟨b2, k * 2 + 1, none⟩ = some (.int .i64 x.2) := by rw [HD.out.cell, hcs2 _ (by omega), pcs_snd, hx]; rfl
      clear hcs1 hcs2 hx
      generalize x.1 = x1 at *
      generalize x.2 = x2 at *
      go_wp2_with fail
      go_quiet (fail)
      go_wp2
      go_roundw
      case rel => exact ⟨k + 1, by omega, by go_num, HD.out.more _⟩
      case measure => simp [intOf]; omega
    · obtain rfl : k = N := by omega
      go_wp2_with fail
      go_ret
      exact ⟨rfl, HD.out⟩
end Go.Proofs.Ytiloflgpflgjnaa
