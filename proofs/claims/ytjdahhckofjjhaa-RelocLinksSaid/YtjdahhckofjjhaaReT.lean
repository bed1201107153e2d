/-
  The walk of RelocLinks (layer 17): true at any code, any fixes. No conditions.
-/
import Derived.Test.YtjdahhckofjjhaaReU
import Derived.Test.YtjdahhckofjjhaaChkM
namespace Go.Proofs.Ytjdahhckofjjhaa
open Go.ChangeShapes Go.WideShapes Go.ChangeAt Go.RowKit

abbrev FsT : TypeId := 25
theorem info_fx : (Try.prog.info? FxT).map (fun i => (i.zero, i.size, i.bytes)) = some (some (.agg #[.int .i64 0, .int .i64 0]), 2, 16) := by kernel_rfl
/- while fixes are laid anew -/
structure Mk (w wr : World) (v : Value) (L : List (Int × Int)) : Prop where
  row : SRow FxT 2 wr v L.length (rows fixRow L)
  fresh : ∀ j, own v j → w.heap.size ≤ j
  below : Below w.heap.size w wr
theorem Mk.on {w wr w' : World} {v : Value} {L : List (Int × Int)} (h : Mk w wr v L) (hb : Below wr.heap.size wr w') : Mk w w' v L :=
  ⟨h.row.keep (Kept.of_below (S := fun _ => False) hb) (fun _ _ e => e), h.fresh, below_on h.below hb h.below.size⟩
theorem Mk.more {w wr w' : World} {v v' : Value} {L : List (Int × Int)} {x : Int × Int} (h : Mk w wr v L) (h1 : SRow FxT 2 w' v' (L ++ [x]).length (rows fixRow (L ++ [x]))) (g : Grew wr w' v v') : Mk w w' v' (L ++ [x]) := by
  refine ⟨h1, fun j hj => ?_, g.1.below h.below h.below.size fun j _ hj => h.fresh j hj⟩
  rcases g.2 j hj with e | e
  · exact h.fresh j e
  · exact Nat.le_trans h.below.size e
set_option maxRecDepth 100000 in
set_option maxHeartbeats 8000000 in
theorem relocLinks_all (v u : Value) (code : List Nat) (from_ : Int) (fixes : List (Int × Int)) (w : World) (h : ElsAt 1 wordRow w v code) (hf : ∀ x ∈ code, x < 4294967296) (g : ElsAt 2 fixRow w u fixes) :
    Calls Try.prog 3 #[v, .int .i64 from_, u] w fun e w' => e = .returned (.bool true) ∧ Below w.heap.size w w' := by
  have HA := Lib.hid h
  have HC := Lib.hid g
  have HFIT := Lib.hid hf
  obtain ⟨a1, c1, hv1, _⟩ := h.shape
  obtain ⟨n1, hn1⟩ : ∃ n, n = code.length := ⟨_, rfl⟩
  rw [← hn1] at hv1
  have HN1 := Lib.hid hn1
  obtain ⟨a2, c2, hv2, _⟩ := g.shape
  obtain ⟨n2, hn2⟩ : ∃ n, n = fixes.length := ⟨_, rfl⟩
  rw [← hn2] at hv2
  have HN2 := Lib.hid hn2
  subst hv1 hv2
  clear h g hf hn1 hn2
  go_enter Try.func3, Try.ntmps3
  go_wp2_with fail
  refine (up17 w).mono ?_
  rintro e w1 ⟨rfl, hb1⟩
  have HB := Lib.hid hb1
  clear hb1
  by_cases k1 : 300 < (n1 : Int)
  · as_aux_lemma =>
    go_wp2_with fail
    go_ret
    exact ⟨rfl, HB.out⟩
  by_cases k2 : 100 < (n2 : Int)
  · as_aux_lemma =>
    have k2' : decide (100 < (n2 : Int)) = true := by simpa using k2
    go_wp2_with fail
    go_ret
    exact ⟨rfl, HB.out⟩
  have k2' : decide (100 < (n2 : Int)) = false := by simpa using k2
  by_cases k3 : from_ < -1000000
  · as_aux_lemma =>
    have k3' : decide (from_ < -1000000) = true := by simpa using k3
    go_wp2_with fail
    go_ret
    exact ⟨rfl, HB.out⟩
  have k3' : decide (from_ < -1000000) = false := by simpa using k3
  by_cases k4 : 1000000 < from_
  · as_aux_lemma =>
    have k4' : decide (1000000 < from_) = true := by simpa using k4
    go_wp2_with fail
    go_ret
    exact ⟨rfl, HB.out⟩
  have k4' : decide (1000000 < from_) = false := by simpa using k4
  have HFR : Hid (-1000000 ≤ from_ ∧ from_ ≤ 1000000) := by show _ ∧ _; omega
  have s1 : n1 ≤ 300 := by omega
  have s2 : n2 ≤ 100 := by omega
  have HM0 : Hid (Mk w w1 (.slice none 0 0) (fixes.take 0)) := ⟨SRow.nil _ _ _, fun _ hj => hj.elim, HB.out⟩
  go_wp2_with fail
  clear k1 k2 k2' k3 k3' k4 k4' HB
  go_loopw [8, 9] (fun m i wr => ∃ j : Nat, j ≤ n2 ∧ i = .int .i64 (j : Nat) ∧ Mk w wr m (fixes.take j) ∧ ∀ (k : Nat) (x : Int × Int), k < j → fixes[k]? = some x → -1000000 ≤ x.2 ∧ x.2 ≤ 1000000) (fun _ i _ => n2 - (intOf i).toNat)
  case atStart => exact ⟨0, Nat.zero_le _, rfl, HM0.out, fun k x hk => by omega⟩
  case round =>
    clear HM0
    obtain ⟨j, hj, rfl, hM, hall⟩ := hrel
    have HM := Lib.hid hM
    have HALL := Lib.hid hall
    clear hM hall
    by_cases hlt : j < n2
    · obtain ⟨f, hx⟩ : ∃ f, fixes[j]? = some f := ⟨_, List.getElem?_eq_getElem (by have := HN2.out; omega)⟩
      have HX := Lib.hid hx
      obtain ⟨at_, tg⟩ := f
      obtain ⟨b, off, cap, e0, hb, p0, p1⟩ := HC.out.cell2 hx (c0 := .int .i64 at_) (c1 := .int .i64 tg) rfl
      rw [← HN2.out] at e0
      have ea : a2 = some ⟨b, off, none⟩ := by cases e0; rfl
      subst ea
      have u0 := (HM.out.below.cell (p := ⟨b, off + j * 2, none⟩) hb).trans p0
      have u1 := (HM.out.below.cell (p := ⟨b, off + j * 2 + 1, none⟩) hb).trans p1
      have i1 : (j : Int) < (n2 : Int) := by omega
      have i2 : (0 : Int) ≤ (j : Int) := by omega
      have HLT : Hid (j < n2) := hlt
      have HBW : Hid (b < w.heap.size) := hb
      clear e0 hb p0 p1 hx hlt hj
      by_cases z1 : tg < -1000000
      · as_aux_lemma =>
        go_wp2_with fail
        go_ret
        exact ⟨rfl, HM.out.below⟩
      by_cases z2 : 1000000 < tg
      · as_aux_lemma =>
        have z2' : decide (1000000 < tg) = true := by simpa using z2
        go_wp2_with fail
        go_ret
        exact ⟨rfl, HM.out.below⟩
      have z2' : decide (1000000 < tg) = false := by simpa using z2
      have HOK := Lib.hid (all_next (Q := fun _ (x : Int × Int) => -1000000 ≤ x.2 ∧ x.2 ≤ 1000000) HALL.out HX.out ⟨by simp only; omega, by simp only; omega⟩)
      have HTK := Lib.hid (take_next HX.out)
      clear HALL
      go_wp2_with fail
      clear z1 z2 z2'
      refine wp_region_held_drew (S := fun w' => w'.cell? ⟨b, off + j * 2, none⟩ = some (.int .i64 at_) ∧ w'.cell? ⟨b, off + j * 2 + 1, none⟩ = some (.int .i64 tg)) (by kernel_rfl) ?_ (fun hHeld => ?_)
      · exact ⟨u0, u1⟩
      refine wpAnyH_take (i := 0) (v := ?_) rfl (by kernel_rfl) (by kernel_rfl) (by kernel_rfl) (fun _ _ _ h => h) (Or.inl ⟨by rfl, ?_⟩) (by assumption) ?_
      rotate_left
      · intro w hSw
        (try dsimp only at hSw)
        go_simp
        (try with_reducible rfl)
      try simp only [Act.put, List.getElem_toArray, List.getElem_cons_zero, List.setIfInBounds_toArray, List.set_cons_zero, List.set_cons_succ]
      refine wpAnyH_take (i := 1) (v := ?_) rfl (by kernel_rfl) (by kernel_rfl) (by kernel_rfl) (fun _ _ _ h => h) (Or.inl ⟨by rfl, ?_⟩) (by assumption) ?_
      rotate_left
      · intro w hSw
        (try dsimp only at hSw)
        go_simp
        (try with_reducible rfl)
      try simp only [Act.put, List.getElem_toArray, List.getElem_cons_zero, List.getElem_cons_succ, List.setIfInBounds_toArray, List.set_cons_zero, List.set_cons_succ]
      refine wpAnyH_take (i := 2) (v := ?_) rfl (by kernel_rfl) (by kernel_rfl) (by kernel_rfl) (fun _ _ _ h => h) (Or.inl ⟨by rfl, ?_⟩) (by assumption) ?_
      rotate_left
      · intro w hSw
        (try dsimp only at hSw)
        go_simp
        (try with_reducible rfl)
      try simp only [Act.put, List.getElem_toArray, List.getElem_cons_zero, List.getElem_cons_succ, List.setIfInBounds_toArray, List.set_cons_zero, List.set_cons_succ]
      refine wpAnyH_take (i := 3) (v := ?_) rfl (by kernel_rfl) (by kernel_rfl) (by kernel_rfl) (fun _ _ _ h => h) (Or.inl ⟨by rfl, ?_⟩) (by assumption) ?_
      rotate_left
      · intro w hSw
        (try dsimp only at hSw)
        go_simp
        (try with_reducible rfl)
      try simp only [Act.put, List.getElem_toArray, List.getElem_cons_zero, List.getElem_cons_succ, List.setIfInBounds_toArray, List.set_cons_zero, List.set_cons_succ]
      refine wpAnyH_take (i := 4) (v := ?_) rfl (by kernel_rfl) (by kernel_rfl) (by kernel_rfl) (fun _ _ _ h => h) (Or.inl ⟨by rfl, ?_⟩) (by assumption) ?_
      rotate_left
      · intro w hSw
        (try dsimp only at hSw)
        go_simp
        (try with_reducible rfl)
      try simp only [Act.put, List.getElem_toArray, List.getElem_cons_zero, List.getElem_cons_succ, List.setIfInBounds_toArray, List.set_cons_zero, List.set_cons_succ]
      refine wpAnyH_take (i := 5) (v := ?_) rfl (by kernel_rfl) (by kernel_rfl) (by kernel_rfl) (fun _ _ _ h => h) (Or.inl ⟨by rfl, ?_⟩) (by assumption) ?_
      rotate_left
      · intro w hSw
        have v0 := hSw.1
        (try dsimp only at hSw)
        go_simp
        (try with_reducible rfl)
      try simp only [Act.put, List.getElem_toArray, List.getElem_cons_zero, List.getElem_cons_succ, List.setIfInBounds_toArray, List.set_cons_zero, List.set_cons_succ]
      refine wpAnyH_take (i := 6) (v := ?_) rfl (by kernel_rfl) (by kernel_rfl) (by kernel_rfl) (fun _ _ _ h => h) (Or.inl ⟨by rfl, ?_⟩) (by assumption) ?_
      rotate_left
      · intro w hSw
        (try dsimp only at hSw)
        go_simp
        (try with_reducible rfl)
      try simp only [Act.put, List.getElem_toArray, List.getElem_cons_zero, List.getElem_cons_succ, List.setIfInBounds_toArray, List.set_cons_zero, List.set_cons_succ]
      refine wpAnyH_take (i := 7) (v := ?_) rfl (by kernel_rfl) (by kernel_rfl) (by kernel_rfl) (fun _ _ _ h => h) (Or.inl ⟨by rfl, ?_⟩) (by assumption) ?_
      rotate_left
      · intro w hSw
        (try dsimp only at hSw)
        go_simp
        (try with_reducible rfl)
      try simp only [Act.put, List.getElem_toArray, List.getElem_cons_zero, List.getElem_cons_succ, List.setIfInBounds_toArray, List.set_cons_zero, List.set_cons_succ]
      refine wpAnyH_take (i := 8) (v := ?_) rfl (by kernel_rfl) (by kernel_rfl) (by kernel_rfl) (fun _ _ _ h => h) (Or.inl ⟨by rfl, ?_⟩) (by assumption) ?_
      rotate_left
      · intro w hSw
        (try dsimp only at hSw)
        go_simp
        (try with_reducible rfl)
      try simp only [Act.put, List.getElem_toArray, List.getElem_cons_zero, List.getElem_cons_succ, List.setIfInBounds_toArray, List.set_cons_zero, List.set_cons_succ]
      refine wpAnyH_take (i := 9) (v := ?_) rfl (by kernel_rfl) (by kernel_rfl) (by kernel_rfl) (fun _ _ _ h => h) (Or.inl ⟨by rfl, ?_⟩) (by assumption) ?_
      rotate_left
      · intro w hSw
        (try dsimp only at hSw)
        go_simp
        (try with_reducible rfl)
      try simp only [Act.put, List.getElem_toArray, List.getElem_cons_zero, List.getElem_cons_succ, List.setIfInBounds_toArray, List.set_cons_zero, List.set_cons_succ]
      refine wpAnyH_take (i := 10) (v := ?_) rfl (by kernel_rfl) (by kernel_rfl) (by kernel_rfl) (fun _ _ _ h => h) (Or.inl ⟨by rfl, ?_⟩) (by assumption) ?_
      rotate_left
      · intro w hSw
        have v1 := hSw.2
        (try dsimp only at hSw)
        go_simp
        (try with_reducible rfl)
      try simp only [Act.put, List.getElem_toArray, List.getElem_cons_zero, List.getElem_cons_succ, List.setIfInBounds_toArray, List.set_cons_zero, List.set_cons_succ]
      refine wpAnyH_take (i := 11) (v := ?_) rfl (by kernel_rfl) (by kernel_rfl) (by kernel_rfl) (fun _ _ _ h => h) (Or.inl ⟨by rfl, ?_⟩) (by assumption) ?_
      rotate_left
      · intro w hSw
        (try dsimp only at hSw)
        go_simp
        (try with_reducible rfl)
      try simp only [Act.put, List.getElem_toArray, List.getElem_cons_zero, List.getElem_cons_succ, List.setIfInBounds_toArray, List.set_cons_zero, List.set_cons_succ]
      refine wpAnyH_ready (rs := [12]) (by kernel_rfl) (by simp) ?_
      refine AllReadyH.cons rfl (fun K hK => ?_) AllReadyH.nil
      go_simp
      refine hK.out _ _ ?_ (fun hHeld1 => ?_)
      · exact ⟨(((Below.refl _ _).alloc (Nat.le_refl _) _).cell (p := ⟨b, off + j * 2, none⟩) (cell_lt hHeld.1)).trans hHeld.1, (((Below.refl _ _).alloc (Nat.le_refl _) _).cell (p := ⟨b, off + j * 2 + 1, none⟩) (cell_lt hHeld.2)).trans hHeld.2⟩
      clear hK K
      try simp only [Act.put, List.getElem_toArray, List.getElem_cons_zero, List.getElem_cons_succ, List.setIfInBounds_toArray, List.set_cons_zero, List.set_cons_succ]
      refine wpAnyH_ready (rs := [13]) (by kernel_rfl) (by simp) ?_
      refine AllReadyH.cons rfl (fun K hK => ?_) AllReadyH.nil
      have hM3 := HM.out.on ((Drawn.of_n wr 1).below _)
      obtain ⟨v4, w4, hr4, hs4, hg4⟩ := more_el (T := FsT) Try.underlying25 info_fx rfl (by decide) fixRow_len fixRow_one hM3.row (at_, tg) (by have := List.length_take_le j fixes; have := HN2.out; have := HLT.out; omega)
      refine step_append rfl (.tmp 54) (.tmp 66) FsT FsT rfl _ _ (by simp [Act.eval]) (by simp [Act.eval]) hr4 ?_
      refine hK.out _ _ ?_ (fun hHeld2 => ?_)
      · exact ⟨(hg4.1.cell (p := ⟨b, off + j * 2, none⟩) (cell_lt hHeld.1) (fun hj => by have h1 : w.heap.size ≤ b := hM3.fresh b hj; have := HBW.out; omega)).trans hHeld.1, (hg4.1.cell (p := ⟨b, off + j * 2 + 1, none⟩) (cell_lt hHeld.2) (fun hj => by have h1 : w.heap.size ≤ b := hM3.fresh b hj; have := HBW.out; omega)).trans hHeld.2⟩
      clear hK K
      try simp only [Act.put, List.getElem_toArray, List.getElem_cons_zero, List.getElem_cons_succ, List.setIfInBounds_toArray, List.set_cons_zero, List.set_cons_succ]
      refine wpAnyH_take (i := 14) (v := ?_) rfl (by kernel_rfl) (by kernel_rfl) (by kernel_rfl) (fun _ _ _ h => h) (Or.inl ⟨by rfl, ?_⟩) (by assumption) ?_
      rotate_left
      · intro w hSw
        (try dsimp only at hSw)
        go_simp
        (try with_reducible rfl)
      try simp only [Act.put, List.getElem_toArray, List.getElem_cons_zero, List.getElem_cons_succ, List.setIfInBounds_toArray, List.set_cons_zero, List.set_cons_succ]
      refine wpAnyH_done (by kernel_rfl) ?_ _
      have HM4 : Hid (Mk w w4 v4 (fixes.take (j + 1))) := by rw [← HTK.out]; exact hM3.more hs4 hg4
      clear hs4 hg4 hr4 hM3 hHeld hHeld1 hHeld2 HM HTK u0 u1
      go_wp2_with fail
      go_roundw
      case rel => exact ⟨j + 1, HLT.out, by go_num, HM4.out, HOK.out⟩
      case measure => have := HLT.out; simp [intOf]; omega
    · have i1 : ¬ (j : Int) < (n2 : Int) := by omega
      have HTG : Hid (∀ (k : Nat) (x : Int × Int), fixes[k]? = some x → -1000000 ≤ x.2 ∧ x.2 ≤ 1000000) := fun k x hx => HALL.out k x (by have := (List.getElem?_eq_some_iff.1 hx).1; have := HN2.out; omega) hx
      have HMF : Hid (Mk w wr u8 fixes) := by
        have := HM.out
        rw [List.take_of_length_le (by have := HN2.out; omega)] at this
        exact this
      clear hlt hj HM HALL
      obtain ⟨ans, hans⟩ : ∃ ans, ans = linkV from_ code fixes := ⟨_, rfl⟩
      have HPL : Hid (∀ w' : World, Below w.heap.size w w' → Calls Try.prog 6 #[.slice a1 n1 c1, .int .i64 from_, .slice a2 n2 c2] w' fun e w'' => LinkTold .nilIface formV w' ans e w'') := fun w' hb => by
        rw [hans]
        exact plink_any _ _ code from_ fixes w' (HA.out.on hb) HFIT.out (HC.out.on hb) (by have := HN1.out; omega) (by have := HN2.out; omega) HFR.out.1 HFR.out.2 HTG.out
      have HRL : Hid (∀ w' : World, ElsAt 2 fixRow w' u8 fixes → Below w.heap.size w w' → Calls Try.prog 7 #[.slice a1 n1 c1, .int .i64 from_, u8] w' fun e w'' => LinkTold (.bool true) (.bool false) w' ans e w'') := fun w' hu hb => by
        rw [hans]
        exact rlink_any _ _ code from_ fixes w' (HA.out.on hb) HFIT.out hu (by have := HN1.out; omega) (by have := HN2.out; omega) HFR.out.1 HFR.out.2 HTG.out
      clear hans
      go_wp2_with fail
      refine (HPL.out _ HMF.out.below).mono ?_
      rintro e w2 ht2
      clear HPL
      cases ans with
      | none =>
        as_aux_lemma =>
        obtain ⟨rfl, hb2⟩ := ht2
        have HM2 := Lib.hid (HMF.out.on hb2)
        have q1 := form_eql
        clear hb2 HMF
        go_wp2_with fail
        refine (HRL.out _ (HM2.out.row.els fixRow_len) HM2.out.below).mono ?_
        rintro e w3 ht3
        obtain ⟨rfl, hb3⟩ := ht3
        have RES := Lib.hid (HM2.out.on hb3).below
        clear hb3 HM2 HRL
        go_wp2_with fail
        go_ret
        exact ⟨rfl, RES.out⟩
      | some r =>
        obtain ⟨⟨v2, rfl, he2, hf2⟩, hb2⟩ := ht2
        have HM2 := Lib.hid (HMF.out.on hb2)
        have HE2 := Lib.hid he2
        clear hb2 HMF he2
        go_wp2_with fail
        refine (HRL.out _ (HM2.out.row.els fixRow_len) HM2.out.below).mono ?_
        rintro e w3 ht3
        obtain ⟨⟨v3, rfl, he3, _⟩, hb3⟩ := ht3
        have HB3 := Lib.hid (HM2.out.on hb3).below
        have HEA := Lib.hid (HE2.out.on hb3)
        have HEB := Lib.hid he3
        clear hb3 HM2 HRL HE2
        obtain ⟨p1, pc1, hp1, hpl, hpm, _⟩ := HEA.out.shape
        obtain ⟨p2, pc2, hp2, _⟩ := HEB.out.shape
        obtain ⟨nr, hnr⟩ : ∃ n, n = r.length := ⟨_, rfl⟩
        rw [← hnr] at hp1 hp2 hpl
        have HNR := Lib.hid hnr
        have snr : nr ≤ 9223372036854775807 := Nat.le_trans hpl hpm
        subst hp1 hp2
        clear hnr hpl hpm he3
        go_wp2_with fail
        go_loopw [14] (fun i wr => Drawn w3 wr ∧ ∃ m : Nat, m ≤ nr ∧ i = .int .i64 (m : Nat)) (fun i _ => nr - (intOf i).toNat)
        case atStart => exact ⟨Drawn.refl _, 0, Nat.zero_le _, rfl⟩
        case round =>
          obtain ⟨hd, m, hm, rfl⟩ := hrel
          have HD := Lib.hid hd
          clear hd
          by_cases hlt : m < nr
          · obtain ⟨x, hx⟩ : ∃ x, r[m]? = some x := ⟨_, List.getElem?_eq_getElem (by have := HNR.out; omega)⟩
            obtain ⟨b1, o1, k1, e1, _, g1⟩ := HEA.out.cell1 hx (c0 := .int .u32 ((x : Nat) : Int)) rfl
            obtain ⟨b2, o2, k2, e2, _, g2⟩ := HEB.out.cell1 hx (c0 := .int .u32 ((x : Nat) : Int)) rfl
            rw [← HNR.out] at e1 e2
            have ea : p1 = some ⟨b1, o1, none⟩ := by cases e1; rfl
            have eb : p2 = some ⟨b2, o2, none⟩ := by cases e2; rfl
            subst ea eb
            have d1 := (HD.out.cell ⟨b1, o1 + m, none⟩).trans g1
            have d2 := (HD.out.cell ⟨b2, o2 + m, none⟩).trans g2
            have j1 : (m : Int) < (nr : Int) := by omega
            have j2 : (0 : Int) ≤ (m : Int) := by omega
            have HLT : Hid (m < nr) := hlt
            clear e1 e2 g1 g2 hx hlt hm
            go_wp2_with fail
            refine wp_region_held_drew (S := fun w' => (w'.cell? ⟨b1, o1 + m, none⟩ = some (.int .u32 ((x : Nat) : Int)) ∧ w'.cell? ⟨b2, o2 + m, none⟩ = some (.int .u32 ((x : Nat) : Int))) ∧ Drawn w3 w') (by kernel_rfl) ?_ (fun hHeld => ?_)
            · exact ⟨⟨d1, d2⟩, HD.out.more 1⟩
            refine wpAnyH_take (i := 0) (v := ?_) rfl (by kernel_rfl) (by kernel_rfl) (by kernel_rfl) (fun _ _ _ h => h) (Or.inl ⟨by rfl, ?_⟩) (by assumption) ?_
            rotate_left
            · intro w hSw
              (try dsimp only at hSw)
              go_simp
              (try with_reducible rfl)
            try simp only [Act.put, List.getElem_toArray, List.getElem_cons_zero, List.setIfInBounds_toArray, List.set_cons_zero, List.set_cons_succ]
            refine wpAnyH_take (i := 1) (v := ?_) rfl (by kernel_rfl) (by kernel_rfl) (by kernel_rfl) (fun _ _ _ h => h) (Or.inl ⟨by rfl, ?_⟩) (by assumption) ?_
            rotate_left
            · intro w hSw
              (try dsimp only at hSw)
              go_simp
              (try with_reducible rfl)
            try simp only [Act.put, List.getElem_toArray, List.getElem_cons_zero, List.getElem_cons_succ, List.setIfInBounds_toArray, List.set_cons_zero, List.set_cons_succ]
            refine wpAnyH_take (i := 2) (v := ?_) rfl (by kernel_rfl) (by kernel_rfl) (by kernel_rfl) (fun _ _ _ h => h) (Or.inl ⟨by rfl, ?_⟩) (by assumption) ?_
            rotate_left
            · intro w hSw
              (try dsimp only at hSw)
              go_simp
              (try with_reducible rfl)
            try simp only [Act.put, List.getElem_toArray, List.getElem_cons_zero, List.getElem_cons_succ, List.setIfInBounds_toArray, List.set_cons_zero, List.set_cons_succ]
            refine wpAnyH_take (i := 3) (v := ?_) rfl (by kernel_rfl) (by kernel_rfl) (by kernel_rfl) (fun _ _ _ h => h) (Or.inl ⟨by rfl, ?_⟩) (by assumption) ?_
            rotate_left
            · intro w hSw
              (try dsimp only at hSw)
              go_simp
              (try with_reducible rfl)
            try simp only [Act.put, List.getElem_toArray, List.getElem_cons_zero, List.getElem_cons_succ, List.setIfInBounds_toArray, List.set_cons_zero, List.set_cons_succ]
            refine wpAnyH_take (i := 4) (v := ?_) rfl (by kernel_rfl) (by kernel_rfl) (by kernel_rfl) (fun _ _ _ h => h) (Or.inl ⟨by rfl, ?_⟩) (by assumption) ?_
            rotate_left
            · intro w hSw
              (try dsimp only at hSw)
              go_simp
              (try with_reducible rfl)
            try simp only [Act.put, List.getElem_toArray, List.getElem_cons_zero, List.getElem_cons_succ, List.setIfInBounds_toArray, List.set_cons_zero, List.set_cons_succ]
            refine wpAnyH_take (i := 5) (v := ?_) rfl (by kernel_rfl) (by kernel_rfl) (by kernel_rfl) (fun _ _ _ h => h) (Or.inl ⟨by rfl, ?_⟩) (by assumption) ?_
            rotate_left
            · intro w hSw
              (try dsimp only at hSw)
              go_simp
              (try with_reducible rfl)
            try simp only [Act.put, List.getElem_toArray, List.getElem_cons_zero, List.getElem_cons_succ, List.setIfInBounds_toArray, List.set_cons_zero, List.set_cons_succ]
            refine wpAnyH_take (i := 6) (v := ?_) rfl (by kernel_rfl) (by kernel_rfl) (by kernel_rfl) (fun _ _ _ h => h) (Or.inl ⟨by rfl, ?_⟩) (by assumption) ?_
            rotate_left
            · intro w hSw
              (try dsimp only at hSw)
              go_simp
              (try with_reducible rfl)
            try simp only [Act.put, List.getElem_toArray, List.getElem_cons_zero, List.getElem_cons_succ, List.setIfInBounds_toArray, List.set_cons_zero, List.set_cons_succ]
            refine wpAnyH_take (i := 7) (v := ?_) rfl (by kernel_rfl) (by kernel_rfl) (by kernel_rfl) (fun _ _ _ h => h) (Or.inl ⟨by rfl, ?_⟩) (by assumption) ?_
            rotate_left
            · intro w hSw
              (try dsimp only at hSw)
              go_simp
              (try with_reducible rfl)
            try simp only [Act.put, List.getElem_toArray, List.getElem_cons_zero, List.getElem_cons_succ, List.setIfInBounds_toArray, List.set_cons_zero, List.set_cons_succ]
            refine wpAnyH_take (i := 8) (v := ?_) rfl (by kernel_rfl) (by kernel_rfl) (by kernel_rfl) (fun _ _ _ h => h) (Or.inl ⟨by rfl, ?_⟩) (by assumption) ?_
            rotate_left
            · intro w hSw
              (try dsimp only at hSw)
              go_simp
              (try with_reducible rfl)
            try simp only [Act.put, List.getElem_toArray, List.getElem_cons_zero, List.getElem_cons_succ, List.setIfInBounds_toArray, List.set_cons_zero, List.set_cons_succ]
            refine wpAnyH_done (by kernel_rfl) ?_ _
            have HD2 := Lib.hid hHeld.2
            clear hHeld d1 d2 HD
            go_wp2_with fail
            go_roundw
            case rel => exact ⟨HD2.out, m + 1, HLT.out, by go_num⟩
            case measure => have := HLT.out; simp [intOf]; omega
          · have j1 : ¬ (m : Int) < (nr : Int) := by omega
            have RES := Lib.hid (below_on HB3.out (HD.out.below _) HB3.out.size)
            clear hlt hm
            go_wp2_with fail
            go_ret
            exact ⟨rfl, RES.out⟩
end Go.Proofs.Ytjdahhckofjjhaa
