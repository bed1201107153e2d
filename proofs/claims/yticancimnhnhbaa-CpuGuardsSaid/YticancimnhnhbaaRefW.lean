/-
  The document's zones (dowelref05): Ints; a zone as the document's. No conditions beyond those that each theorem names.
-/
import Derived.Test.YticancimnhnhbaaRefT
import Derived.Deep.RegionHeld3
namespace Go.Proofs.Yticancimnhnhbaa
open Go.ChangeShapes Go.WideShapes Go.ChangeAt Go.RowKit

set_option maxRecDepth 100000 in
theorem ints_same (s o : Sl) (xs : List Int) (w : World) (hs : IntsAt w s xs) (ho : IntsAt w o xs) : Calls Try.prog 25 #[s.v, o.v] w fun e w' => e = .returned (.bool true) ∧ Kept No w w' := by
  obtain ⟨sa, sn, sc⟩ := s
  obtain ⟨oa, on, oc⟩ := o
  have h1 : sn = xs.length := hs.len
  have h2 : on = xs.length := ho.len
  have h3 : sn ≤ sc ∧ sc ≤ maxLen := hs.cap
  have h4 : on ≤ oc ∧ oc ≤ maxLen := ho.cap
  obtain rfl : on = sn := by omega
  have HS := Lib.hid hs
  have HO := Lib.hid ho
  have HL := Lib.hid h1
  clear hs ho h1 h2
  simp only [maxLen] at h3 h4
  show Calls Try.prog 25 #[.slice sa on sc, .slice oa on oc] w _
  go_enter Try.func25, Try.ntmps25
  go_wp2_with fail
  go_loopw [5] (fun i wr => ∃ k : Nat, k ≤ on ∧ i = .int .i64 k ∧ Hid (Kept No w wr)) (fun i _ => on - (intOf i).toNat)
  case atStart => exact ⟨0, Nat.zero_le _, rfl, Kept.refl _ _⟩
  case round =>
    obtain ⟨k, hk, rfl, HK⟩ := hrel
    by_cases hlt : k < on
    · obtain ⟨u, hu⟩ : ∃ u, xs[k]? = some u := ⟨_, List.getElem?_eq_getElem (by rw [← HL.out]; exact hlt)⟩
      rcases (HS.out.on HK.out.none).at_ with h0 | ⟨b, off, ha, hb, hcs⟩
      · simp only at h0; omega
      · rcases (HO.out.on HK.out.none).at_ with h0 | ⟨b', off', ha', hb', hcs'⟩
        · simp only at h0; omega
        · simp only at ha ha'
          subst ha
          subst ha'
          have c1 := hcs k u hu
          have c2 := hcs' k u hu
          have HT : Hid (∀ w', Kept No wr w' → (w'.cell? ⟨b, off + k, none⟩ = some (.int .i64 u) ∧ w'.cell? ⟨b', off' + k, none⟩ = some (.int .i64 u)) ∧ Kept No wr w') := fun w' hk' =>
            ⟨⟨(hk'.cell (p := ⟨b, off + k, none⟩) hb (fun h => h)).trans c1, (hk'.cell (p := ⟨b', off' + k, none⟩) hb' (fun h => h)).trans c2⟩, hk'⟩
          have e5 : (k : Int) < (on : Int) := by omega
          have e6 : (0 : Int) ≤ (k : Int) := by omega
          have g : (u != u) = false := by simp
          clear hcs hcs' hu c1 c2
          go_wp2_with fail
          refine wp_region_held_drew (S := fun w' => (w'.cell? ⟨b, off + k, none⟩ = some (.int .i64 u) ∧ w'.cell? ⟨b', off' + k, none⟩ = some (.int .i64 u)) ∧ Kept No wr w') (by kernel_rfl) ?_ (fun hHeld => ?_)
          · exact HT.out _ (Kept.refl _ _).drew
          refine wpAnyH_take (i := 0) (v := ?_) rfl (by kernel_rfl) (by kernel_rfl) (by kernel_rfl) (fun _ _ _ h => h) (Or.inl ⟨by rfl, ?_⟩) (by assumption) ?_
          rotate_left
          · intro w hSw
            (try dsimp only at hSw)
            go_simp
            (try with_reducible rfl)
          try simp only [Act.put, List.getElem_toArray, List.getElem_cons_zero, List.setIfInBounds_toArray, List.set_cons_zero, List.set_cons_succ]
          refine wpAnyH_take (i := 1) (v := ?_) rfl (by kernel_rfl) (by kernel_rfl) (by kernel_rfl) (fun _ _ _ h => h) (Or.inl ⟨by rfl, ?_⟩) (by assumption) ?_
          rotate_left
          · intro w hSw
            (try dsimp only at hSw)
            go_simp
            (try with_reducible rfl)
          try simp only [Act.put, List.getElem_toArray, List.getElem_cons_zero, List.getElem_cons_succ, List.setIfInBounds_toArray, List.set_cons_zero, List.set_cons_succ]
          refine wpAnyH_take (i := 2) (v := ?_) rfl (by kernel_rfl) (by kernel_rfl) (by kernel_rfl) (fun _ _ _ h => h) (Or.inl ⟨by rfl, ?_⟩) (by assumption) ?_
          rotate_left
          · intro w hSw
            (try dsimp only at hSw)
            go_simp
            (try with_reducible rfl)
          try simp only [Act.put, List.getElem_toArray, List.getElem_cons_zero, List.getElem_cons_succ, List.setIfInBounds_toArray, List.set_cons_zero, List.set_cons_succ]
          refine wpAnyH_take (i := 3) (v := ?_) rfl (by kernel_rfl) (by kernel_rfl) (by kernel_rfl) (fun _ _ _ h => h) (Or.inl ⟨by rfl, ?_⟩) (by assumption) ?_
          rotate_left
          · intro w hSw
            (try dsimp only at hSw)
            go_simp
            (try with_reducible rfl)
          try simp only [Act.put, List.getElem_toArray, List.getElem_cons_zero, List.getElem_cons_succ, List.setIfInBounds_toArray, List.set_cons_zero, List.set_cons_succ]
          refine wpAnyH_take (i := 4) (v := ?_) rfl (by kernel_rfl) (by kernel_rfl) (by kernel_rfl) (fun _ _ _ h => h) (Or.inl ⟨by rfl, ?_⟩) (by assumption) ?_
          rotate_left
          · intro w hSw
            (try dsimp only at hSw)
            go_simp
            (try with_reducible rfl)
          try simp only [Act.put, List.getElem_toArray, List.getElem_cons_zero, List.getElem_cons_succ, List.setIfInBounds_toArray, List.set_cons_zero, List.set_cons_succ]
          refine wpAnyH_take (i := 5) (v := ?_) rfl (by kernel_rfl) (by kernel_rfl) (by kernel_rfl) (fun _ _ _ h => h) (Or.inl ⟨by rfl, ?_⟩) (by assumption) ?_
          rotate_left
          · intro w hSw
            (try dsimp only at hSw)
            go_simp
            (try with_reducible rfl)
          try simp only [Act.put, List.getElem_toArray, List.getElem_cons_zero, List.getElem_cons_succ, List.setIfInBounds_toArray, List.set_cons_zero, List.set_cons_succ]
          refine wpAnyH_take (i := 6) (v := ?_) rfl (by kernel_rfl) (by kernel_rfl) (by kernel_rfl) (fun _ _ _ h => h) (Or.inl ⟨by rfl, ?_⟩) (by assumption) ?_
          rotate_left
          · intro w hSw
            (try dsimp only at hSw)
            go_simp
            (try with_reducible rfl)
          try simp only [Act.put, List.getElem_toArray, List.getElem_cons_zero, List.getElem_cons_succ, List.setIfInBounds_toArray, List.set_cons_zero, List.set_cons_succ]
          refine wpAnyH_take (i := 7) (v := ?_) rfl (by kernel_rfl) (by kernel_rfl) (by kernel_rfl) (fun _ _ _ h => h) (Or.inl ⟨by rfl, ?_⟩) (by assumption) ?_
          rotate_left
          · intro w hSw
            (try dsimp only at hSw)
            go_simp
            (try with_reducible rfl)
          try simp only [Act.put, List.getElem_toArray, List.getElem_cons_zero, List.getElem_cons_succ, List.setIfInBounds_toArray, List.set_cons_zero, List.set_cons_succ]
          refine wpAnyH_take (i := 8) (v := ?_) rfl (by kernel_rfl) (by kernel_rfl) (by kernel_rfl) (fun _ _ _ h => h) (Or.inl ⟨by rfl, ?_⟩) (by assumption) ?_
          rotate_left
          · intro w hSw
            (try dsimp only at hSw)
            go_simp
            (try with_reducible rfl)
          try simp only [Act.put, List.getElem_toArray, List.getElem_cons_zero, List.getElem_cons_succ, List.setIfInBounds_toArray, List.set_cons_zero, List.set_cons_succ]
          refine wpAnyH_done (by kernel_rfl) ?_ _
          have K1 := Lib.hid hHeld.2
          clear hHeld
          go_wp2_with fail
          go_roundw
          case rel => exact ⟨k + 1, by omega, by go_num, (HK.out.trans K1.out : Kept _ _ _)⟩
          case measure => simp [intOf]; omega
    · obtain rfl : k = on := by omega
      have e5 : ¬ (k : Int) < (k : Int) := by omega
      go_wp2_with fail
      go_ret
      exact ⟨rfl, HK.out⟩

theorem store_rzone {w : World} {b : Nat} {t : TypeId} {cs : List Value} (h : RowAt w b t cs) (hl : cs.length = 6) (x : ZR) :
    (Instr.storeAt RZT (.pointer (some ⟨b, 0, none⟩)) (.agg #[.int .i64 x.z.b, .int .i64 x.z.d, .int .i64 x.z.r, .int .i64 x.z.e, x.p.v, x.q.v])).run Try.prog w = .ok () (w.setRow b x.el.cs.toArray) := by
  have := store_el (P := Try.prog) h 0 x.el RZT sizeR x.v rfl (by omega)
  rw [splice_all _ _ (by rw [hl, x.el.len])] at this
  exact this

set_option maxRecDepth 100000 in
set_option maxHeartbeats 1000000 in
theorem as6_any (x : ZR) (w : World) : Calls Try.prog 12 #[x.v] w fun e w' => e = .returned (.agg #[.int .i64 x.z.b, .int .i64 x.z.d, .int .i64 x.z.r, .int .i64 x.z.e, x.p.v, x.q.v]) ∧ Kept No w w' := by
  obtain ⟨W0, hW0⟩ : ∃ W0, W0 = (w.alloc (.cells #[.int .i64 x.z.b, .int .i64 x.z.d, .int .i64 x.z.r, .int .i64 x.z.e, x.p.v, x.q.v] ZT)).alloc (.cells #[.int .i64 0, .int .i64 0, .int .i64 0, .int .i64 0, .slice none 0 0, .slice none 0 0] RZT) := ⟨_, rfl⟩
  have e0 : (w.alloc (.cells #[.int .i64 x.z.b, .int .i64 x.z.d, .int .i64 x.z.r, .int .i64 x.z.e, x.p.v, x.q.v] ZT)).heap.size = w.heap.size + 1 := by simp
  have r0 : RowAt W0 w.heap.size ZT x.el.cs := by rw [hW0]; exact (RowAt.new w ZT x.el.cs).keep (S := No) ((Kept.refl _ _).alloc _) (fun h => h)
  have r1 : RowAt W0 (w.heap.size + 1) RZT zeros6 := by
    have := RowAt.new (w.alloc (.cells #[.int .i64 x.z.b, .int .i64 x.z.d, .int .i64 x.z.r, .int .i64 x.z.e, x.p.v, x.q.v] ZT)) RZT zeros6
    rw [e0] at this
    rw [hW0]
    exact this
  have k0 : Kept No w W0 := by rw [hW0]; exact ((Kept.refl _ _).alloc _).alloc _
  obtain ⟨t0, t1, t2, t3, t4, t5⟩ := cells_zone r0
  simp only [Nat.zero_add] at t1 t2 t3 t4 t5
  have HS := Lib.hid (store_rzone r1 rfl x)
  have hk : Kept No w (W0.setRow (w.heap.size + 1) x.el.cs.toArray) := k0.then (kept_row W0 (w.heap.size + 1) x.el.cs.toArray) (fun j hj h => by omega)
  have HK := Lib.hid hk
  clear hk k0 e0
  obtain ⟨u0, u1, u2, u3, u4, u5⟩ := cells_zone (r1.set x.el.cs)
  simp only [Nat.zero_add] at u1 u2 u3 u4 u5
  clear r0 r1
  obtain ⟨z, ⟨pa, pn, pc⟩, ⟨qa, qn, qc⟩⟩ := x
  simp only [Sl.mk_v] at t0 t1 t2 t3 t4 t5 HS u0 u1 u2 u3 u4 u5 hW0
  subst hW0
  show Calls Try.prog 12 #[.agg #[.int .i64 z.b, .int .i64 z.d, .int .i64 z.r, .int .i64 z.e, .slice pa pn pc, .slice qa qn qc]] w _
  go_enter Try.func12, Try.ntmps12
  go_wp2_with (refine wpList_store_run _ rfl _ _ _ rfl _ _ rfl rfl (by exact HS.out) ?_)
  exact bodyPost_ret (v := .agg #[.int .i64 z.b, .int .i64 z.d, .int .i64 z.r, .int .i64 z.e, .slice pa pn pc, .slice qa qn qc]) (by simp [results, Try.results12, go_sem, u0, u1, u2, u3, u4, u5]) rfl ⟨rfl, HK.out⟩
end Go.Proofs.Yticancimnhnhbaa
