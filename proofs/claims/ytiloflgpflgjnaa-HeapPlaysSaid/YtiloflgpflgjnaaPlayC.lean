/-
  The walk of HeapPlays (layer 5), small scripts: it returns true and changes nothing that was there. No conditions.
-/
import Derived.Test.YtiloflgpflgjnaaPlayB
namespace Go.Proofs.Ytiloflgpflgjnaa
open Go.ChangeShapes Go.WideShapes Go.ChangeAt Go.RowKit

def PlayMid (w wr : World) (p m : Nat) (f t : Int) (k : Nat) (tk : Value) : Prop := ∃ (v u : Value) (L : List (Int × Int)) (F : List Bool) (D : List (Int × Int)), Play0 w wr p m f t v u tk L F D ∧ Tells f F L ∧ D.length ≤ k
def PlayRel (w wr : World) (p m n : Nat) (f t : Int) (tk i : Value) : Prop := ∃ k : Nat, k ≤ n ∧ i = .int .i64 k ∧ PlayMid w wr p m f t k tk

set_option maxRecDepth 100000 in
set_option maxHeartbeats 8000000 in
theorem heapPlays_small (f t : Int) (a : Option Addr) (n cap : Nat) (G O : Nat → Bool) (X Y : Nat → Int) (w : World) (h : 0 ≤ f ∧ f ≤ t ∧ t ≤ 65536 ∧ f % 4 = 0 ∧ t % 4 = 0) (hn : n ≤ 100) (hs : t - f ≤ 4096) (hd : Deeds5 w a n G O X Y) :
    Calls Try.prog 3 #[.int .i64 f, .int .i64 t, .slice a n cap] w fun e w' => e = .returned (.bool true) ∧ Below w.heap.size w w' := by
  have HN := Lib.hid (fun w => heapNew_yes f t w h)
  have HR := Lib.hid (fun w => refNew f t w h)
  have HTL := Lib.hid (whole_tells h.2.2.2.1 h.2.2.2.2 h.2.1)
  have HF4 := Lib.hid h.2.2.2.1
  have h1 : ¬ f < 0 := by omega
  have h2 : ¬ 65536 < t := by omega
  have h3 : ¬ t < f := by omega
  have h4 : ¬ 4096 < t - f := by omega
  have h5 : ¬ 100 < n := by omega
  have h6 : ¬ (100 : Int) < (n : Int) := by omega
  have j1 : (f % 4 != 0) = false := by simp; omega
  have j2 : (t % 4 != 0) = false := by simp; omega
  have j3 : (f.tmod 4 != 0) = false := by have := tmod4' f; simp; omega
  have j4 : (t.tmod 4 != 0) = false := by have := tmod4' t; simp; omega
  have s1 : IntKind.i64.wrap (t - f) = t - f := IntWalk.i64_in _ (by omega)
  have r : 0 ≤ f ∧ f ≤ 65536 ∧ 0 ≤ t ∧ t ≤ 65536 := by omega
  have HD := Lib.hid hd
  clear h hd hn hs
  go_enter Try.func3, Try.ntmps3
  go_wp2_with fail
  refine (up05 _).mono ?_
  rintro e w0 ⟨rfl, b0⟩
  go_wp2_with fail
  refine (HN.out _).mono ?_
  rintro e w1 hF
  obtain ⟨p, v1, rfl, hB⟩ := hF.back b0
  have B1 := Lib.hid hB
  clear hF hB b0 HN
  go_wp2_with fail
  refine (HR.out _).mono ?_
  rintro e w2 ⟨m, u1, rfl, hr1, hr2, hr3, hr4⟩
  have P2 : Hid (Play0 w w2 p m f t v1 u1 (.slice none 0 0) (whole f t) (List.replicate ((t - f) / 4).toNat true) []) :=
    ⟨B1.out.still hr2, hr1, fun j hj => ⟨fun hf => by
      have := B1.out.heap.foot_lt j hf
      rcases hj with rfl | hj
      · omega
      · have := hr4 j hj; omega, fun hf => by simp [own] at hf⟩, fun j hj => by
      have := B1.out.below.size
      rcases hj with rfl | hj
      · omega
      · have := hr4 j hj; omega⟩
  clear hr1 hr2 hr3 hr4 HR B1
  have M2 : Hid (PlayRel w w2 p m n f t (.slice none 0 0) (.int .i64 0)) := ⟨0, Nat.zero_le _, rfl, v1, u1, _, _, [], P2.out, HTL.out, Nat.le_refl _⟩
  clear P2 HTL
  go_wp2_with fail
  go_loopw [11, 12] (fun tk i wr => PlayRel w wr p m n f t tk i) (fun _ i _ => n - (intOf i).toNat)
  case atStart => exact M2.out
  case round =>
    clear M2
    obtain ⟨k, hk, rfl, v, u, L, F, D, hP, hT, hDk⟩ := hrel
    have HP := Lib.hid hP
    have HT := Lib.hid hT
    obtain ⟨tka, tkc, rfl, hc1, hc2⟩ := hP.base.row.shape
    have hc3 : tkc ≤ 9223372036854775807 := hc2
    clear hP hT hc2
    by_cases hlt : k < n
    · rcases HD.out.cells with h0 | ⟨b, off, rfl, hbs, hcs⟩
      · omega
      · have i0 : wr.cell? ⟨b, off + k * 4, none⟩ = some (.bool (G k)) := (HP.out.base.below.cell (p := ⟨b, off + k * 4, none⟩) hbs).trans (hcs k hlt).1
        have i1 : wr.cell? ⟨b, off + k * 4 + 1, none⟩ = some (.bool (O k)) := (HP.out.base.below.cell (p := ⟨b, off + k * 4 + 1, none⟩) hbs).trans (hcs k hlt).2.1
        have i2 : wr.cell? ⟨b, off + k * 4 + 2, none⟩ = some (.int .i64 (X k)) := (HP.out.base.below.cell (p := ⟨b, off + k * 4 + 2, none⟩) hbs).trans (hcs k hlt).2.2.1
        have i3 : wr.cell? ⟨b, off + k * 4 + 3, none⟩ = some (.int .i64 (Y k)) := (HP.out.base.below.cell (p := ⟨b, off + k * 4 + 3, none⟩) hbs).trans (hcs k hlt).2.2.2
        have hx := HD.out.xs k hlt
        clear hcs
        generalize G k = g at *
        generalize O k = o at *
        generalize X k = x at *
        generalize Y k = y at *
        have e2 : (0 : Int) ≤ (k : Int) := by omega
        have e3 : (k : Int) < (n : Int) := by omega
        have HNB := Lib.hid (HP.out.new (Nat.le_refl wr.heap.size))
        have HAL : Hid (∀ cs : Array Value, Play0 w (wr.alloc (.cells cs DT)) p m f t v u (.slice tka D.length tkc) L F D) := fun cs => HP.out.still ((Below.refl _ _).alloc (Nat.le_refl _) _)
        go_upto_if 96 with fail
        go_cut [11] (fun s11 wx => PlayMid w wx p m f t (k + 1) s11)
        case first =>
          as_aux_lemma =>
            cases g with
            | true =>
              by_cases hown : o = true ∧ 0 < D.length
              · obtain ⟨rfl, hDl⟩ := hown
                obtain ⟨q, hq, HPK⟩ := pick_nat x D.length hx.1 hx.2 (by omega) (by omega)
                obtain ⟨d, hd⟩ : ∃ d, D[q]? = some d := ⟨_, List.getElem?_eq_getElem (by omega)⟩
                obtain ⟨bt, capt, hvt, hbt, _, _, hct⟩ := HP.out.base.row.cell hDl
                cases hvt
                have d0 : wr.cell? ⟨bt, q * 4, none⟩ = some (.bool false) := by rw [hct _ (by omega), (dcs_at _ _).1, hd]; rfl
                have d1 : wr.cell? ⟨bt, q * 4 + 1, none⟩ = some (.bool false) := by rw [hct _ (by omega), (dcs_at _ _).2.1, hd]; rfl
                have d2 : wr.cell? ⟨bt, q * 4 + 2, none⟩ = some (.int .i64 d.1) := by rw [hct _ (by omega), (dcs_at _ _).2.2.1, hd]; rfl
                have d3 : wr.cell? ⟨bt, q * 4 + 3, none⟩ = some (.int .i64 d.2) := by rw [hct _ (by omega), (dcs_at _ _).2.2.2, hd]; rfl
                obtain ⟨xv, hxv⟩ : ∃ xv, xv = d.1 := ⟨_, rfl⟩
                obtain ⟨yv, hyv⟩ : ∃ yv, yv = d.2 := ⟨_, rfl⟩
                rw [← hxv] at d2
                rw [← hyv] at d3
                clear hct hd hxv hyv
                have hne : bt ≠ wr.heap.size := by omega
                have hDq : q < D.length := by omega
                go_wp2_with fail
                refine (HPK.out _).mono ?_
                rintro e w' ⟨rfl, rfl⟩
                go_wp2_with fail
                obtain ⟨wq, hwq⟩ : ∃ wq, wq = wr.alloc (.cells #[.bool false, .bool false, .int .i64 xv, .int .i64 yv] DT) := ⟨_, rfl⟩
                have HWQ := Lib.hid hwq
                rw [← HWQ.out]
                have HPQ0 := HAL.out #[.bool false, .bool false, .int .i64 xv, .int .i64 yv]
                clear d0 d1 d2 d3 hne
                rw [← hwq] at HPQ0
                have HPQ := Lib.hid HPQ0
                clear HPQ0
                have HPD := Lib.hid (HPQ.out.still (drew_below wq))
                have SA : Hid ((wq.drew.cell? ⟨wr.heap.size, 2, none⟩ = some (.int .i64 xv) ∧ wq.drew.cell? ⟨wr.heap.size, 3, none⟩ = some (.int .i64 yv)) ∧ True) := by
                  refine ⟨⟨?_, ?_⟩, trivial⟩
                  · show wq.cell? _ = _
                    rw [hwq]; simp
                  · show wq.cell? _ = _
                    rw [hwq]; simp
                clear hwq
                refine wp_region_held_drew (S := fun w' => (w'.cell? ⟨wr.heap.size, 2, none⟩ = some (.int .i64 xv) ∧ w'.cell? ⟨wr.heap.size, 3, none⟩ = some (.int .i64 yv)) ∧ True) (by kernel_rfl) ?_ (fun hHeld => ?_)
                · exact SA.out
                refine wpAnyH_take (i := 0) (v := ?_) rfl (by kernel_rfl) (by kernel_rfl) (by kernel_rfl) (fun _ _ _ h => h) (Or.inl ⟨by rfl, ?_⟩) (by assumption) ?_
                rotate_left
                · intro w hSw
                  (try dsimp only at hSw)
                  go_simp
                  (try with_reducible rfl)
                try simp only [Act.put, List.getElem_toArray, List.getElem_cons_zero, List.setIfInBounds_toArray, List.set_cons_zero, List.set_cons_succ]
                refine wpAnyH_take (i := 1) (v := ?_) rfl (by kernel_rfl) (by kernel_rfl) (by kernel_rfl) (fun _ _ _ h => h) (Or.inl ⟨by rfl, ?_⟩) (by assumption) ?_
                rotate_left
                · intro w hSw
                  (try dsimp only at hSw)
                  go_simp
                  (try with_reducible rfl)
                try simp only [Act.put, List.getElem_toArray, List.getElem_cons_zero, List.getElem_cons_succ, List.setIfInBounds_toArray, List.set_cons_zero, List.set_cons_succ]
                refine wpAnyH_take (i := 2) (v := ?_) rfl (by kernel_rfl) (by kernel_rfl) (by kernel_rfl) (fun _ _ _ h => h) (Or.inl ⟨by rfl, ?_⟩) (by assumption) ?_
                rotate_left
                · intro w hSw
                  (try dsimp only at hSw)
                  go_simp
                  (try with_reducible rfl)
                try simp only [Act.put, List.getElem_toArray, List.getElem_cons_zero, List.getElem_cons_succ, List.setIfInBounds_toArray, List.set_cons_zero, List.set_cons_succ]
                refine wpAnyH_take (i := 3) (v := ?_) rfl (by kernel_rfl) (by kernel_rfl) (by kernel_rfl) (fun _ _ _ h => h) (Or.inl ⟨by rfl, ?_⟩) (by assumption) ?_
                rotate_left
                · intro w hSw
                  (try dsimp only at hSw)
                  go_simp
                  (try with_reducible rfl)
                try simp only [Act.put, List.getElem_toArray, List.getElem_cons_zero, List.getElem_cons_succ, List.setIfInBounds_toArray, List.set_cons_zero, List.set_cons_succ]
                refine wpAnyH_take (i := 4) (v := ?_) rfl (by kernel_rfl) (by kernel_rfl) (by kernel_rfl) (fun _ _ _ h => h) (Or.inl ⟨by rfl, ?_⟩) (by assumption) ?_
                rotate_left
                · intro w hSw
                  (try dsimp only at hSw)
                  go_simp
                  (try with_reducible rfl)
                try simp only [Act.put, List.getElem_toArray, List.getElem_cons_zero, List.getElem_cons_succ, List.setIfInBounds_toArray, List.set_cons_zero, List.set_cons_succ]
                refine wpAnyH_take (i := 7) (v := ?_) rfl (by kernel_rfl) (by kernel_rfl) (by kernel_rfl) (fun _ _ _ h => h) (Or.inl ⟨by rfl, ?_⟩) (by assumption) ?_
                rotate_left
                · intro w hSw
                  (try dsimp only at hSw)
                  go_simp
                  (try with_reducible rfl)
                try simp only [Act.put, List.getElem_toArray, List.getElem_cons_zero, List.getElem_cons_succ, List.setIfInBounds_toArray, List.set_cons_zero, List.set_cons_succ]
                refine wpAnyH_take (i := 8) (v := ?_) rfl (by kernel_rfl) (by kernel_rfl) (by kernel_rfl) (fun _ _ _ h => h) (Or.inl ⟨by rfl, ?_⟩) (by assumption) ?_
                rotate_left
                · intro w hSw
                  (try dsimp only at hSw)
                  go_simp
                  (try with_reducible rfl)
                try simp only [Act.put, List.getElem_toArray, List.getElem_cons_zero, List.getElem_cons_succ, List.setIfInBounds_toArray, List.set_cons_zero, List.set_cons_succ]
                refine wpAnyH_take (i := 9) (v := ?_) rfl (by kernel_rfl) (by kernel_rfl) (by kernel_rfl) (fun _ _ _ h => h) (Or.inl ⟨by rfl, ?_⟩) (by assumption) ?_
                rotate_left
                · intro w hSw
                  (try dsimp only at hSw)
                  go_simp
                  (try with_reducible rfl)
                try simp only [Act.put, List.getElem_toArray, List.getElem_cons_zero, List.getElem_cons_succ, List.setIfInBounds_toArray, List.set_cons_zero, List.set_cons_succ]
                refine wpAnyH_take (i := 10) (v := ?_) rfl (by kernel_rfl) (by kernel_rfl) (by kernel_rfl) (fun _ _ _ h => h) (Or.inl ⟨by rfl, ?_⟩) (by assumption) ?_
                rotate_left
                · intro w hSw
                  (try dsimp only at hSw)
                  go_simp
                  (try with_reducible rfl)
                try simp only [Act.put, List.getElem_toArray, List.getElem_cons_zero, List.getElem_cons_succ, List.setIfInBounds_toArray, List.set_cons_zero, List.set_cons_succ]
                refine wpAnyH_take (i := 11) (v := ?_) rfl (by kernel_rfl) (by kernel_rfl) (by kernel_rfl) (fun _ _ _ h => h) (Or.inl ⟨by rfl, ?_⟩) (by assumption) ?_
                rotate_left
                · intro w hSw
                  (try dsimp only at hSw)
                  go_simp
                  (try with_reducible rfl)
                try simp only [Act.put, List.getElem_toArray, List.getElem_cons_zero, List.getElem_cons_succ, List.setIfInBounds_toArray, List.set_cons_zero, List.set_cons_succ]
                refine wpAnyH_ready (rs := [5]) (by kernel_rfl) (by simp) ?_
                refine AllReadyH.cons rfl (fun K hK => ?_) AllReadyH.nil
                go_simp
                refine (heap_give p f t xv yv v L _ HPD.out.base.heap).mono ?_
                rintro e we ⟨c, v', L', rfl, hh, hm, hw⟩
                first | show K _ _ | go_wp2_with fail
                refine hK.out _ _ ?_ (fun hHeld1 => ?_)
                · exact ⟨⟨moved_cell hm HNB.out.1 hHeld.1.1, moved_cell hm HNB.out.1 hHeld.1.2⟩, trivial⟩
                clear hK K
                try simp only [Act.put, List.getElem_toArray, List.getElem_cons_zero, List.getElem_cons_succ, List.setIfInBounds_toArray, List.set_cons_zero, List.set_cons_succ]
                refine wpAnyH_ready (rs := [6]) (by kernel_rfl) (by simp) ?_
                refine AllReadyH.cons rfl (fun K hK => ?_) AllReadyH.nil
                go_simp
                refine (code_any c _ hw.le).mono ?_
                rintro e w' ⟨rfl, rfl⟩
                first | show K _ _ | go_wp2_with fail
                refine hK.out _ _ ?_ (fun hHeld2 => ?_)
                · exact hHeld1
                clear hK K
                try simp only [Act.put, List.getElem_toArray, List.getElem_cons_zero, List.getElem_cons_succ, List.setIfInBounds_toArray, List.set_cons_zero, List.set_cons_succ]
                refine wpAnyH_ready (rs := [12]) (by kernel_rfl) (by simp) ?_
                refine AllReadyH.cons rfl (fun K hK => ?_) AllReadyH.nil
                go_simp
                refine (play_back m f t xv yv u F L L' c _ (HPD.out.turn hh hm).ref HP.out.base.heap.tidy HT.out HF4.out hw).mono ?_
                rintro e we2 ⟨F', rfl, hs, ht⟩
                first | show K _ _ | go_wp2_with fail
                refine hK.out _ _ ?_ (fun hHeld3 => ?_)
                · exact ⟨⟨(hs.2.cell (p := ⟨wr.heap.size, 2, none⟩) (cell_lt hHeld2.1.1) (fun hu => HNB.out.2.1 (.inr hu))).trans hHeld2.1.1, (hs.2.cell (p := ⟨wr.heap.size, 3, none⟩) (cell_lt hHeld2.1.2) (fun hu => HNB.out.2.1 (.inr hu))).trans hHeld2.1.2⟩, trivial⟩
                clear hK K
                try simp only [Act.put, List.getElem_toArray, List.getElem_cons_zero, List.getElem_cons_succ, List.setIfInBounds_toArray, List.set_cons_zero, List.set_cons_succ]
                refine wpAnyH_take (i := 13) (v := ?_) rfl (by kernel_rfl) (by kernel_rfl) (by kernel_rfl) (fun _ _ _ h => h) (Or.inl ⟨by rfl, ?_⟩) (by assumption) ?_
                rotate_left
                · intro w hSw
                  (try dsimp only at hSw)
                  go_simp
                  (try with_reducible rfl)
                try simp only [Act.put, List.getElem_toArray, List.getElem_cons_zero, List.getElem_cons_succ, List.setIfInBounds_toArray, List.set_cons_zero, List.set_cons_succ]
                refine wpAnyH_done (by kernel_rfl) ?_ _
                have HNX := Lib.hid (show PlayMid w we2 p m f t (k + 1) _ from ⟨v', u, L', F', D, (HPD.out.turn hh hm).set hs, ht, by omega⟩)
                clear hHeld hHeld1 hHeld2 hHeld3 hh hm hw hs ht
                have hcc : ((c : Int) != (c : Int)) = false := by simp
                go_wp2_with fail
                go_meet
                exact HNX.out
              · obtain ⟨xv, hxv⟩ : ∃ xv, xv = x := ⟨_, rfl⟩
                obtain ⟨yv, hyv⟩ : ∃ yv, yv = y := ⟨_, rfl⟩
                obtain ⟨wq, hwq⟩ : ∃ wq, wq = wr.alloc (.cells #[.bool true, .bool o, .int .i64 xv, .int .i64 yv] DT) := ⟨_, rfl⟩
                have HWQ : Hid (wq = wr.alloc (.cells #[.bool true, .bool o, .int .i64 x, .int .i64 y] DT)) := by rw [← hxv, ← hyv]; exact hwq
                have HPQ0 := HAL.out #[.bool true, .bool o, .int .i64 xv, .int .i64 yv]
                clear hxv hyv
                cases o with
                | false =>
                  clear hown
                  go_wp2_with fail
                  rw [← HWQ.out]
                  rw [← hwq] at HPQ0
                  have HPQ := Lib.hid HPQ0
                  clear HPQ0
                  have HPD := Lib.hid (HPQ.out.still (drew_below wq))
                  have SA : Hid ((wq.drew.cell? ⟨wr.heap.size, 2, none⟩ = some (.int .i64 xv) ∧ wq.drew.cell? ⟨wr.heap.size, 3, none⟩ = some (.int .i64 yv)) ∧ True) := by
                    refine ⟨⟨?_, ?_⟩, trivial⟩
                    · show wq.cell? _ = _
                      rw [hwq]; simp
                    · show wq.cell? _ = _
                      rw [hwq]; simp
                  clear hwq
                  refine wp_region_held_drew (S := fun w' => (w'.cell? ⟨wr.heap.size, 2, none⟩ = some (.int .i64 xv) ∧ w'.cell? ⟨wr.heap.size, 3, none⟩ = some (.int .i64 yv)) ∧ True) (by kernel_rfl) ?_ (fun hHeld => ?_)
                  · exact SA.out
                  refine wpAnyH_take (i := 0) (v := ?_) rfl (by kernel_rfl) (by kernel_rfl) (by kernel_rfl) (fun _ _ _ h => h) (Or.inl ⟨by rfl, ?_⟩) (by assumption) ?_
                  rotate_left
                  · intro w hSw
                    (try dsimp only at hSw)
                    go_simp
                    (try with_reducible rfl)
                  try simp only [Act.put, List.getElem_toArray, List.getElem_cons_zero, List.setIfInBounds_toArray, List.set_cons_zero, List.set_cons_succ]
                  refine wpAnyH_take (i := 1) (v := ?_) rfl (by kernel_rfl) (by kernel_rfl) (by kernel_rfl) (fun _ _ _ h => h) (Or.inl ⟨by rfl, ?_⟩) (by assumption) ?_
                  rotate_left
                  · intro w hSw
                    (try dsimp only at hSw)
                    go_simp
                    (try with_reducible rfl)
                  try simp only [Act.put, List.getElem_toArray, List.getElem_cons_zero, List.getElem_cons_succ, List.setIfInBounds_toArray, List.set_cons_zero, List.set_cons_succ]
                  refine wpAnyH_take (i := 2) (v := ?_) rfl (by kernel_rfl) (by kernel_rfl) (by kernel_rfl) (fun _ _ _ h => h) (Or.inl ⟨by rfl, ?_⟩) (by assumption) ?_
                  rotate_left
                  · intro w hSw
                    (try dsimp only at hSw)
                    go_simp
                    (try with_reducible rfl)
                  try simp only [Act.put, List.getElem_toArray, List.getElem_cons_zero, List.getElem_cons_succ, List.setIfInBounds_toArray, List.set_cons_zero, List.set_cons_succ]
                  refine wpAnyH_take (i := 3) (v := ?_) rfl (by kernel_rfl) (by kernel_rfl) (by kernel_rfl) (fun _ _ _ h => h) (Or.inl ⟨by rfl, ?_⟩) (by assumption) ?_
                  rotate_left
                  · intro w hSw
                    (try dsimp only at hSw)
                    go_simp
                    (try with_reducible rfl)
                  try simp only [Act.put, List.getElem_toArray, List.getElem_cons_zero, List.getElem_cons_succ, List.setIfInBounds_toArray, List.set_cons_zero, List.set_cons_succ]
                  refine wpAnyH_take (i := 4) (v := ?_) rfl (by kernel_rfl) (by kernel_rfl) (by kernel_rfl) (fun _ _ _ h => h) (Or.inl ⟨by rfl, ?_⟩) (by assumption) ?_
                  rotate_left
                  · intro w hSw
                    (try dsimp only at hSw)
                    go_simp
                    (try with_reducible rfl)
                  try simp only [Act.put, List.getElem_toArray, List.getElem_cons_zero, List.getElem_cons_succ, List.setIfInBounds_toArray, List.set_cons_zero, List.set_cons_succ]
                  refine wpAnyH_take (i := 7) (v := ?_) rfl (by kernel_rfl) (by kernel_rfl) (by kernel_rfl) (fun _ _ _ h => h) (Or.inl ⟨by rfl, ?_⟩) (by assumption) ?_
                  rotate_left
                  · intro w hSw
                    (try dsimp only at hSw)
                    go_simp
                    (try with_reducible rfl)
                  try simp only [Act.put, List.getElem_toArray, List.getElem_cons_zero, List.getElem_cons_succ, List.setIfInBounds_toArray, List.set_cons_zero, List.set_cons_succ]
                  refine wpAnyH_take (i := 8) (v := ?_) rfl (by kernel_rfl) (by kernel_rfl) (by kernel_rfl) (fun _ _ _ h => h) (Or.inl ⟨by rfl, ?_⟩) (by assumption) ?_
                  rotate_left
                  · intro w hSw
                    (try dsimp only at hSw)
                    go_simp
                    (try with_reducible rfl)
                  try simp only [Act.put, List.getElem_toArray, List.getElem_cons_zero, List.getElem_cons_succ, List.setIfInBounds_toArray, List.set_cons_zero, List.set_cons_succ]
                  refine wpAnyH_take (i := 9) (v := ?_) rfl (by kernel_rfl) (by kernel_rfl) (by kernel_rfl) (fun _ _ _ h => h) (Or.inl ⟨by rfl, ?_⟩) (by assumption) ?_
                  rotate_left
                  · intro w hSw
                    (try dsimp only at hSw)
                    go_simp
                    (try with_reducible rfl)
                  try simp only [Act.put, List.getElem_toArray, List.getElem_cons_zero, List.getElem_cons_succ, List.setIfInBounds_toArray, List.set_cons_zero, List.set_cons_succ]
                  refine wpAnyH_take (i := 10) (v := ?_) rfl (by kernel_rfl) (by kernel_rfl) (by kernel_rfl) (fun _ _ _ h => h) (Or.inl ⟨by rfl, ?_⟩) (by assumption) ?_
                  rotate_left
                  · intro w hSw
                    (try dsimp only at hSw)
                    go_simp
                    (try with_reducible rfl)
                  try simp only [Act.put, List.getElem_toArray, List.getElem_cons_zero, List.getElem_cons_succ, List.setIfInBounds_toArray, List.set_cons_zero, List.set_cons_succ]
                  refine wpAnyH_take (i := 11) (v := ?_) rfl (by kernel_rfl) (by kernel_rfl) (by kernel_rfl) (fun _ _ _ h => h) (Or.inl ⟨by rfl, ?_⟩) (by assumption) ?_
                  rotate_left
                  · intro w hSw
                    (try dsimp only at hSw)
                    go_simp
                    (try with_reducible rfl)
                  try simp only [Act.put, List.getElem_toArray, List.getElem_cons_zero, List.getElem_cons_succ, List.setIfInBounds_toArray, List.set_cons_zero, List.set_cons_succ]
                  refine wpAnyH_ready (rs := [5]) (by kernel_rfl) (by simp) ?_
                  refine AllReadyH.cons rfl (fun K hK => ?_) AllReadyH.nil
                  go_simp
                  refine (heap_give p f t xv yv v L _ HPD.out.base.heap).mono ?_
                  rintro e we ⟨c, v', L', rfl, hh, hm, hw⟩
                  first | show K _ _ | go_wp2_with fail
                  refine hK.out _ _ ?_ (fun hHeld1 => ?_)
                  · exact ⟨⟨moved_cell hm HNB.out.1 hHeld.1.1, moved_cell hm HNB.out.1 hHeld.1.2⟩, trivial⟩
                  clear hK K
                  try simp only [Act.put, List.getElem_toArray, List.getElem_cons_zero, List.getElem_cons_succ, List.setIfInBounds_toArray, List.set_cons_zero, List.set_cons_succ]
                  refine wpAnyH_ready (rs := [6]) (by kernel_rfl) (by simp) ?_
                  refine AllReadyH.cons rfl (fun K hK => ?_) AllReadyH.nil
                  go_simp
                  refine (code_any c _ hw.le).mono ?_
                  rintro e w' ⟨rfl, rfl⟩
                  first | show K _ _ | go_wp2_with fail
                  refine hK.out _ _ ?_ (fun hHeld2 => ?_)
                  · exact hHeld1
                  clear hK K
                  try simp only [Act.put, List.getElem_toArray, List.getElem_cons_zero, List.getElem_cons_succ, List.setIfInBounds_toArray, List.set_cons_zero, List.set_cons_succ]
                  refine wpAnyH_ready (rs := [12]) (by kernel_rfl) (by simp) ?_
                  refine AllReadyH.cons rfl (fun K hK => ?_) AllReadyH.nil
                  go_simp
                  refine (play_back m f t xv yv u F L L' c _ (HPD.out.turn hh hm).ref HP.out.base.heap.tidy HT.out HF4.out hw).mono ?_
                  rintro e we2 ⟨F', rfl, hs, ht⟩
                  first | show K _ _ | go_wp2_with fail
                  refine hK.out _ _ ?_ (fun hHeld3 => ?_)
                  · exact ⟨⟨(hs.2.cell (p := ⟨wr.heap.size, 2, none⟩) (cell_lt hHeld2.1.1) (fun hu => HNB.out.2.1 (.inr hu))).trans hHeld2.1.1, (hs.2.cell (p := ⟨wr.heap.size, 3, none⟩) (cell_lt hHeld2.1.2) (fun hu => HNB.out.2.1 (.inr hu))).trans hHeld2.1.2⟩, trivial⟩
                  clear hK K
                  try simp only [Act.put, List.getElem_toArray, List.getElem_cons_zero, List.getElem_cons_succ, List.setIfInBounds_toArray, List.set_cons_zero, List.set_cons_succ]
                  refine wpAnyH_take (i := 13) (v := ?_) rfl (by kernel_rfl) (by kernel_rfl) (by kernel_rfl) (fun _ _ _ h => h) (Or.inl ⟨by rfl, ?_⟩) (by assumption) ?_
                  rotate_left
                  · intro w hSw
                    (try dsimp only at hSw)
                    go_simp
                    (try with_reducible rfl)
                  try simp only [Act.put, List.getElem_toArray, List.getElem_cons_zero, List.getElem_cons_succ, List.setIfInBounds_toArray, List.set_cons_zero, List.set_cons_succ]
                  refine wpAnyH_done (by kernel_rfl) ?_ _
                  have HNX := Lib.hid (show PlayMid w we2 p m f t (k + 1) _ from ⟨v', u, L', F', D, (HPD.out.turn hh hm).set hs, ht, by omega⟩)
                  clear hHeld hHeld1 hHeld2 hHeld3 hh hm hw hs ht
                  have hcc : ((c : Int) != (c : Int)) = false := by simp
                  go_wp2_with fail
                  go_meet
                  exact HNX.out
                | true =>
                  have hD1 : ¬ 0 < D.length := fun h => hown ⟨rfl, h⟩
                  clear hown
                  go_wp2_with fail
                  rw [← HWQ.out]
                  rw [← hwq] at HPQ0
                  have HPQ := Lib.hid HPQ0
                  clear HPQ0
                  have HPD := Lib.hid (HPQ.out.still (drew_below wq))
                  have SA : Hid ((wq.drew.cell? ⟨wr.heap.size, 2, none⟩ = some (.int .i64 xv) ∧ wq.drew.cell? ⟨wr.heap.size, 3, none⟩ = some (.int .i64 yv)) ∧ True) := by
                    refine ⟨⟨?_, ?_⟩, trivial⟩
                    · show wq.cell? _ = _
                      rw [hwq]; simp
                    · show wq.cell? _ = _
                      rw [hwq]; simp
                  clear hwq
                  refine wp_region_held_drew (S := fun w' => (w'.cell? ⟨wr.heap.size, 2, none⟩ = some (.int .i64 xv) ∧ w'.cell? ⟨wr.heap.size, 3, none⟩ = some (.int .i64 yv)) ∧ True) (by kernel_rfl) ?_ (fun hHeld => ?_)
                  · exact SA.out
                  refine wpAnyH_take (i := 0) (v := ?_) rfl (by kernel_rfl) (by kernel_rfl) (by kernel_rfl) (fun _ _ _ h => h) (Or.inl ⟨by rfl, ?_⟩) (by assumption) ?_
                  rotate_left
                  · intro w hSw
                    (try dsimp only at hSw)
                    go_simp
                    (try with_reducible rfl)
                  try simp only [Act.put, List.getElem_toArray, List.getElem_cons_zero, List.setIfInBounds_toArray, List.set_cons_zero, List.set_cons_succ]
                  refine wpAnyH_take (i := 1) (v := ?_) rfl (by kernel_rfl) (by kernel_rfl) (by kernel_rfl) (fun _ _ _ h => h) (Or.inl ⟨by rfl, ?_⟩) (by assumption) ?_
                  rotate_left
                  · intro w hSw
                    (try dsimp only at hSw)
                    go_simp
                    (try with_reducible rfl)
                  try simp only [Act.put, List.getElem_toArray, List.getElem_cons_zero, List.getElem_cons_succ, List.setIfInBounds_toArray, List.set_cons_zero, List.set_cons_succ]
                  refine wpAnyH_take (i := 2) (v := ?_) rfl (by kernel_rfl) (by kernel_rfl) (by kernel_rfl) (fun _ _ _ h => h) (Or.inl ⟨by rfl, ?_⟩) (by assumption) ?_
                  rotate_left
                  · intro w hSw
                    (try dsimp only at hSw)
                    go_simp
                    (try with_reducible rfl)
                  try simp only [Act.put, List.getElem_toArray, List.getElem_cons_zero, List.getElem_cons_succ, List.setIfInBounds_toArray, List.set_cons_zero, List.set_cons_succ]
                  refine wpAnyH_take (i := 3) (v := ?_) rfl (by kernel_rfl) (by kernel_rfl) (by kernel_rfl) (fun _ _ _ h => h) (Or.inl ⟨by rfl, ?_⟩) (by assumption) ?_
                  rotate_left
                  · intro w hSw
                    (try dsimp only at hSw)
                    go_simp
                    (try with_reducible rfl)
                  try simp only [Act.put, List.getElem_toArray, List.getElem_cons_zero, List.getElem_cons_succ, List.setIfInBounds_toArray, List.set_cons_zero, List.set_cons_succ]
                  refine wpAnyH_take (i := 4) (v := ?_) rfl (by kernel_rfl) (by kernel_rfl) (by kernel_rfl) (fun _ _ _ h => h) (Or.inl ⟨by rfl, ?_⟩) (by assumption) ?_
                  rotate_left
                  · intro w hSw
                    (try dsimp only at hSw)
                    go_simp
                    (try with_reducible rfl)
                  try simp only [Act.put, List.getElem_toArray, List.getElem_cons_zero, List.getElem_cons_succ, List.setIfInBounds_toArray, List.set_cons_zero, List.set_cons_succ]
                  refine wpAnyH_take (i := 7) (v := ?_) rfl (by kernel_rfl) (by kernel_rfl) (by kernel_rfl) (fun _ _ _ h => h) (Or.inl ⟨by rfl, ?_⟩) (by assumption) ?_
                  rotate_left
                  · intro w hSw
                    (try dsimp only at hSw)
                    go_simp
                    (try with_reducible rfl)
                  try simp only [Act.put, List.getElem_toArray, List.getElem_cons_zero, List.getElem_cons_succ, List.setIfInBounds_toArray, List.set_cons_zero, List.set_cons_succ]
                  refine wpAnyH_take (i := 8) (v := ?_) rfl (by kernel_rfl) (by kernel_rfl) (by kernel_rfl) (fun _ _ _ h => h) (Or.inl ⟨by rfl, ?_⟩) (by assumption) ?_
                  rotate_left
                  · intro w hSw
                    (try dsimp only at hSw)
                    go_simp
                    (try with_reducible rfl)
                  try simp only [Act.put, List.getElem_toArray, List.getElem_cons_zero, List.getElem_cons_succ, List.setIfInBounds_toArray, List.set_cons_zero, List.set_cons_succ]
                  refine wpAnyH_take (i := 9) (v := ?_) rfl (by kernel_rfl) (by kernel_rfl) (by kernel_rfl) (fun _ _ _ h => h) (Or.inl ⟨by rfl, ?_⟩) (by assumption) ?_
                  rotate_left
                  · intro w hSw
                    (try dsimp only at hSw)
                    go_simp
                    (try with_reducible rfl)
                  try simp only [Act.put, List.getElem_toArray, List.getElem_cons_zero, List.getElem_cons_succ, List.setIfInBounds_toArray, List.set_cons_zero, List.set_cons_succ]
                  refine wpAnyH_take (i := 10) (v := ?_) rfl (by kernel_rfl) (by kernel_rfl) (by kernel_rfl) (fun _ _ _ h => h) (Or.inl ⟨by rfl, ?_⟩) (by assumption) ?_
                  rotate_left
                  · intro w hSw
                    (try dsimp only at hSw)
                    go_simp
                    (try with_reducible rfl)
                  try simp only [Act.put, List.getElem_toArray, List.getElem_cons_zero, List.getElem_cons_succ, List.setIfInBounds_toArray, List.set_cons_zero, List.set_cons_succ]
                  refine wpAnyH_take (i := 11) (v := ?_) rfl (by kernel_rfl) (by kernel_rfl) (by kernel_rfl) (fun _ _ _ h => h) (Or.inl ⟨by rfl, ?_⟩) (by assumption) ?_
                  rotate_left
                  · intro w hSw
                    (try dsimp only at hSw)
                    go_simp
                    (try with_reducible rfl)
                  try simp only [Act.put, List.getElem_toArray, List.getElem_cons_zero, List.getElem_cons_succ, List.setIfInBounds_toArray, List.set_cons_zero, List.set_cons_succ]
                  refine wpAnyH_ready (rs := [5]) (by kernel_rfl) (by simp) ?_
                  refine AllReadyH.cons rfl (fun K hK => ?_) AllReadyH.nil
                  go_simp
                  refine (heap_give p f t xv yv v L _ HPD.out.base.heap).mono ?_
                  rintro e we ⟨c, v', L', rfl, hh, hm, hw⟩
                  first | show K _ _ | go_wp2_with fail
                  refine hK.out _ _ ?_ (fun hHeld1 => ?_)
                  · exact ⟨⟨moved_cell hm HNB.out.1 hHeld.1.1, moved_cell hm HNB.out.1 hHeld.1.2⟩, trivial⟩
                  clear hK K
                  try simp only [Act.put, List.getElem_toArray, List.getElem_cons_zero, List.getElem_cons_succ, List.setIfInBounds_toArray, List.set_cons_zero, List.set_cons_succ]
                  refine wpAnyH_ready (rs := [6]) (by kernel_rfl) (by simp) ?_
                  refine AllReadyH.cons rfl (fun K hK => ?_) AllReadyH.nil
                  go_simp
                  refine (code_any c _ hw.le).mono ?_
                  rintro e w' ⟨rfl, rfl⟩
                  first | show K _ _ | go_wp2_with fail
                  refine hK.out _ _ ?_ (fun hHeld2 => ?_)
                  · exact hHeld1
                  clear hK K
                  try simp only [Act.put, List.getElem_toArray, List.getElem_cons_zero, List.getElem_cons_succ, List.setIfInBounds_toArray, List.set_cons_zero, List.set_cons_succ]
                  refine wpAnyH_ready (rs := [12]) (by kernel_rfl) (by simp) ?_
                  refine AllReadyH.cons rfl (fun K hK => ?_) AllReadyH.nil
                  go_simp
                  refine (play_back m f t xv yv u F L L' c _ (HPD.out.turn hh hm).ref HP.out.base.heap.tidy HT.out HF4.out hw).mono ?_
                  rintro e we2 ⟨F', rfl, hs, ht⟩
                  first | show K _ _ | go_wp2_with fail
                  refine hK.out _ _ ?_ (fun hHeld3 => ?_)
                  · exact ⟨⟨(hs.2.cell (p := ⟨wr.heap.size, 2, none⟩) (cell_lt hHeld2.1.1) (fun hu => HNB.out.2.1 (.inr hu))).trans hHeld2.1.1, (hs.2.cell (p := ⟨wr.heap.size, 3, none⟩) (cell_lt hHeld2.1.2) (fun hu => HNB.out.2.1 (.inr hu))).trans hHeld2.1.2⟩, trivial⟩
                  clear hK K
                  try simp only [Act.put, List.getElem_toArray, List.getElem_cons_zero, List.getElem_cons_succ, List.setIfInBounds_toArray, List.set_cons_zero, List.set_cons_succ]
                  refine wpAnyH_take (i := 13) (v := ?_) rfl (by kernel_rfl) (by kernel_rfl) (by kernel_rfl) (fun _ _ _ h => h) (Or.inl ⟨by rfl, ?_⟩) (by assumption) ?_
                  rotate_left
                  · intro w hSw
                    (try dsimp only at hSw)
                    go_simp
                    (try with_reducible rfl)
                  try simp only [Act.put, List.getElem_toArray, List.getElem_cons_zero, List.getElem_cons_succ, List.setIfInBounds_toArray, List.set_cons_zero, List.set_cons_succ]
                  refine wpAnyH_done (by kernel_rfl) ?_ _
                  have HNX := Lib.hid (show PlayMid w we2 p m f t (k + 1) _ from ⟨v', u, L', F', D, (HPD.out.turn hh hm).set hs, ht, by omega⟩)
                  clear hHeld hHeld1 hHeld2 hHeld3 hh hm hw hs ht
                  have hcc : ((c : Int) != (c : Int)) = false := by simp
                  go_wp2_with fail
                  go_meet
                  exact HNX.out
            | false =>
              obtain ⟨wq, hwq⟩ : ∃ wq, wq = wr.alloc (.cells #[.bool false, .bool o, .int .i64 x, .int .i64 y] DT) := ⟨_, rfl⟩
              have HPQ : Hid (Play0 w wq p m f t v u (.slice tka D.length tkc) L F D) := hwq ▸ HAL.out _
              have cy : wq.cell? ⟨wr.heap.size, 3, none⟩ = some (.int .i64 y) := by rw [hwq]; simp
              have HWQ := Lib.hid hwq
              clear hwq
              rw [← HWQ.out]
              go_wp2_with fail
              refine (heap_take p f t y v L wq HPQ.out.base.heap).mono ?_
              rintro e we ⟨c, av, v', L', rfl, hh, hm, hw⟩
              have HP3 := Lib.hid (HPQ.out.turn hh hm)
              have cy2 : we.cell? ⟨wr.heap.size, 3, none⟩ = some (.int .i64 y) := moved_cell hm HNB.out.1 cy
              have HWY := Lib.hid hw
              clear hh hm cy hw
              go_wp2_with fail
              refine (play_took m f t y av u F L L' c we HP3.out.ref HP.out.base.heap.tidy HT.out HF4.out HWY.out).mono ?_
              rintro e we2 ⟨F', rfl, hs, ht⟩
              have HP4 := Lib.hid (HP3.out.set hs)
              have cy3 : we2.cell? ⟨wr.heap.size, 3, none⟩ = some (.int .i64 y) := (hs.2.cell (p := ⟨wr.heap.size, 3, none⟩) (cell_lt cy2) (fun hu => HNB.out.2.1 (.inr hu))).trans cy2
              have HTT := Lib.hid ht
              have HCD := Lib.hid (fun w => code_any c w HWY.out.le)
              have hcc : ((c : Int) != (c : Int)) = false := by simp
              clear hs ht cy2
              go_wp2_with fail
              refine (HCD.out _).mono ?_
              rintro e w' ⟨rfl, rfl⟩
              by_cases hc0 : c = 0
              · have hc1' : ((c : Int) == 0) = true := by simp; exact hc0
                obtain ⟨a2, n2, c2, w5, r0, r1, r2⟩ := deeds_more HP4.out.base.row (av, y) 22 (by omega)
                have HNX : Hid (PlayMid w w5 p m f t (k + 1) (.slice a2 n2 c2)) := ⟨v', u, L', F', _, HP4.out.store r1 r2, HTT.out, by simp; omega⟩
                clear r1 r2 hc0
                go_wp2_with (at_builtin; refine Lib.wpList_append_run _ rfl _ _ _ _ rfl _ _ rfl rfl _ _ r0 ?_)
                go_meet
                exact HNX.out
              · have hc1' : ((c : Int) == 0) = false := by simp; exact hc0
                have HNX : Hid (PlayMid w we2 p m f t (k + 1) (.slice tka D.length tkc)) := ⟨v', u, L', F', D, HP4.out, HTT.out, by omega⟩
                clear hc0
                go_wp2_with fail
                go_meet
                exact HNX.out
        case rest =>
          obtain ⟨v', u', L', F', D', hP, hT, hD⟩ := hcut
          have HT2 := Lib.hid hT
          have HP2 := Lib.hid hP
          clear hT hP HP HT HNB HAL
          go_wp2_with fail
          refine (holes_any p f t v' L' wc HP2.out.base.heap).mono ?_
          rintro e w6 ⟨v6, rfl, hS, hk6, -⟩
          have HP6 := Lib.hid (HP2.out.still hk6.none)
          have HS := Lib.hid hS
          clear hS hk6 HP2
          go_wp2_with fail
          refine (as_any v6 L' w6 HS.out (by have := HP6.out.base.heap.few; omega)).mono ?_
          rintro e w7 ⟨v7, rfl, hG⟩
          have HP7 := Lib.hid (HP6.out.still hG.2.2)
          have HG7 := Lib.hid hG
          clear hG HS HP6
          go_wp2_with fail
          refine (refHoles m f t u' F' L' w7 HP7.out.ref HF4.out HP7.out.base.heap.tidy HT2.out).mono ?_
          rintro e w8 ⟨v8, rfl, hG⟩
          have HP8 := Lib.hid (HP7.out.still hG.2.2)
          have HR8 := Lib.hid (HG7.out.1.keep (Kept.of_below (S := fun _ => False) hG.2.2) (fun _ _ h => h))
          have HG8 := Lib.hid hG
          clear hG HP7
          go_wp2_with fail
          refine (same_yes v7 v8 L' w8 HR8.out HG8.out.1).mono ?_
          rintro e w9 ⟨rfl, hdr⟩
          have HP9 := Lib.hid (HP8.out.still (hdr.below _))
          clear hdr HP8 HR8 HG8 HG7
          go_wp2_with fail
          go_roundw
          case rel => exact ⟨k + 1, by omega, by go_num, v', u', L', F', D', HP9.out, HT2.out, hD⟩
          case measure => simp [intOf]; omega
    · obtain rfl : k = n := by omega
      go_wp2_with fail
      go_ret
      exact ⟨rfl, HP.out.base.below⟩

theorem heapPlays_walk (f t : Int) (a : Option Addr) (n cap : Nat) (w : World) (_w0 : (Lit.int .i64 f).wf = true) (_w1 : (Lit.int .i64 t).wf = true) (hd : ∃ G O X Y, Deeds5 w a n G O X Y) :
    Calls Try.prog 3 #[.int .i64 f, .int .i64 t, .slice a n cap] w fun e w' => e = .returned (.bool true) ∧ Below w.heap.size w w' := by
  obtain ⟨G, O, X, Y, hd⟩ := hd
  by_cases h : 0 ≤ f ∧ f ≤ t ∧ t ≤ 65536 ∧ f % 4 = 0 ∧ t % 4 = 0
  · by_cases hb : 4096 < t - f ∨ 100 < n
    · exact heapPlays_big f t a n cap w h hb
    · exact heapPlays_small f t a n cap G O X Y w h (by omega) (by omega) hd
  · exact heapPlays_bad f t a n cap w h
end Go.Proofs.Ytiloflgpflgjnaa
