/-
  The document's reader (layer 11): Text. No conditions beyond those that each theorem names.
-/
import Derived.Test.YthgnklgejlebhaaBioR
import Derived.Deep.RegionHeld3
namespace Go.Proofs.Ythgnklgejlebhaa
open Go.ChangeShapes Go.WideShapes Go.ChangeAt Go.RowKit

theorem BytesAt.part {w : World} {v : Value} {l : List Nat} (h : BytesAt w v l) {b off cap : Nat} (hv : v = .slice (some ⟨b, off, none⟩) l.length cap) (i n : Nat) (hn : 0 < n) (hi : i + n ≤ l.length) (c : Nat) :
    (convert BS 9 (.slice (some ⟨b, off + i, none⟩) n c)).run Try.prog w = .ok (.string (strOf (piece l i (i + n)))) w := by
  obtain ⟨b', off', cap', e, hc⟩ := h.byte (by omega)
  rw [hv] at e
  cases e
  have hl : (piece l i (i + n)).length = n := by rw [piece_length _ _ _ hi]; omega
  refine run_convert_bytes_arg w BS BT Try.underlying34 Try.underlying5 b (off + i) n c ((piece l i (i + n)).map fun b : Nat => (b : Int)) (by simp [hl]) (fun j hj => ?_) 9 Try.underlying9
  rw [Nat.add_assoc, hc (i + j) (by omega), ← piece_getD l i (i + n) j (by omega)]
  congr 2
  have : j < (piece l i (i + n)).length := by rw [hl]; exact hj
  simp [List.getD, List.getElem?_eq_getElem this]
theorem no_bytes (w : World) (a : Option Addr) (c : Nat) : (convert BS 9 (.slice a 0 c)).run Try.prog w = .ok (.string (strOf [])) w := by
  cases a with
  | none => exact no_string w 0 c
  | some a =>
    have := run_convert_bytes_string (P := Try.prog) w BS 9 BT (some a) 0 c Try.underlying34 Try.underlying5 Try.underlying9
    rw [this, run_bytesToString w a 0 c [] (by simpa using run_loadCells_list (P := Try.prog) w a [] (fun j v hj => by simp at hj))]
    rfl

set_option maxRecDepth 100000 in
theorem rtxt_short (rb : Nat) (v : Value) (l : List Nat) (at_ : Nat) (sh : Bool) (w : World) (h : RdAt w rb v l at_ sh) (hs : numSh l at_ sh 1 = true) :
    Calls Try.prog 19 #[.pointer (some ⟨rb, 0, none⟩)] w fun e w' => e = .returned (.string ⟨#[]⟩) ∧ RdAt w' rb v l (numAt l at_ sh 1) true ∧ Kept (· = rb) w w' := by
  have H := Lib.hid (rnum_any rb v l at_ sh 1 w h)
  have hlt := numV_lt h.data.fit at_ sh 1
  rw [hs] at H
  clear hs h
  generalize numV l at_ sh 1 = x at *
  generalize numAt l at_ sh 1 = a1 at *
  have j1 : IntKind.i64.wrap (x : Int) = (x : Int) := IntWalk.i64_in _ (by omega)
  go_enter Try.func19, Try.ntmps19
  go_wp2_with fail
  refine H.out.mono ?_
  rintro e w1 ⟨rfl, hr, hk⟩
  have c2 := hr.cells.2.2
  have RES := Lib.hid (And.intro hr hk)
  clear hr hk H
  go_wp2_with fail
  go_ret
  exact ⟨rfl, RES.out⟩
set_option maxRecDepth 100000 in
theorem rtxt_far (rb : Nat) (v : Value) (l : List Nat) (at_ : Nat) (sh : Bool) (w : World) (h : RdAt w rb v l at_ sh) (hs : numSh l at_ sh 1 = false) (hf : fitN l (numAt l at_ sh 1) (numV l at_ sh 1) = false) :
    Calls Try.prog 19 #[.pointer (some ⟨rb, 0, none⟩)] w fun e w' => e = .returned (.string ⟨#[]⟩) ∧ RdAt w' rb v l (numAt l at_ sh 1) true ∧ Kept (· = rb) w w' := by
  have H := Lib.hid (rnum_any rb v l at_ sh 1 w h)
  have hlt := numV1_lt h.data.fit at_ sh
  have hal := numAt_le h.le sh 1
  have hsm := h.small
  simp [fitN] at hf
  rw [hs] at H
  clear hs h
  generalize numV l at_ sh 1 = x at *
  generalize numAt l at_ sh 1 = a1 at *
  have HL : Hid (l.length ≤ 100000) := hsm
  have j1 : IntKind.i64.wrap (x : Int) = (x : Int) := IntWalk.i64_in _ (by omega)
  have j2 : IntKind.i64.wrap ((a1 : Int) + (x : Int)) = (a1 : Int) + (x : Int) := IntWalk.i64_in _ (by omega)
  obtain ⟨n, hn⟩ : ∃ n, n = l.length := ⟨_, rfl⟩
  have j3 : (n : Int) < (a1 : Int) + (x : Int) := by omega
  have j4 : n < a1 + x := by omega
  clear hf hal hsm
  have HN := Lib.hid hn
  clear hn
  go_enter Try.func19, Try.ntmps19
  go_wp2_with fail
  refine H.out.mono ?_
  rintro e w1 ⟨rfl, hr, hk⟩
  obtain ⟨c0, c1, c2⟩ := hr.cells
  obtain ⟨a, cap, rfl, _⟩ := hr.data.shape
  rw [← HN.out] at c0
  have hfz := hr.head.free 2
  have RES : Hid (∀ m, RdAt ((w1.drewN m).setCell ⟨rb, 2, none⟩ (.bool true)) rb (.slice a l.length cap) l a1 true ∧ Kept (· = rb) w ((w1.drewN m).setCell ⟨rb, 2, none⟩ (.bool true))) := fun m =>
    ⟨(hr.on ((Drawn.of_n w1 m).below _)).short true, (hk.trans (Kept.drawn (Drawn.of_n w1 m))).trans (kept_set _ rb 2 _)⟩
  clear hr hk H
  go_wp2_with fail
  go_quiet (fail)
  go_wp2_with fail
  go_ret
  exact ⟨rfl, RES.out _⟩

set_option maxRecDepth 100000 in
set_option maxHeartbeats 1000000 in
theorem rtxt_fit (rb : Nat) (v : Value) (l : List Nat) (at_ : Nat) (sh : Bool) (w : World) (h : RdAt w rb v l at_ sh) (hs : numSh l at_ sh 1 = false) (hf : fitN l (numAt l at_ sh 1) (numV l at_ sh 1) = true) :
    Calls Try.prog 19 #[.pointer (some ⟨rb, 0, none⟩)] w fun e w' => e = .returned (.string (strOf (piece l (numAt l at_ sh 1) (numAt l at_ sh 1 + numV l at_ sh 1)))) ∧ RdAt w' rb v l (numAt l at_ sh 1 + numV l at_ sh 1) false ∧ Kept (· = rb) w w' := by
  have H := Lib.hid (rnum_any rb v l at_ sh 1 w h)
  have hlt := numV1_lt h.data.fit at_ sh
  have hsm := h.small
  simp [fitN] at hf
  rw [hs] at H
  clear hs h
  generalize numV l at_ sh 1 = x at *
  generalize numAt l at_ sh 1 = a1 at *
  have j1 : IntKind.i64.wrap (x : Int) = (x : Int) := IntWalk.i64_in _ (by omega)
  have j2 : IntKind.i64.wrap ((a1 : Int) + (x : Int)) = (a1 : Int) + (x : Int) := IntWalk.i64_in _ (by omega)
  obtain ⟨n, hn⟩ : ∃ n, n = l.length := ⟨_, rfl⟩
  have j3 : ¬ (n : Int) < (a1 : Int) + (x : Int) := by omega
  have j4 : ¬ n < a1 + x := by omega
  have j5 : IntKind.i64.wrap ((a1 : Int) + (x : Int) - (x : Int)) = (a1 : Int) := by rw [show (a1 : Int) + (x : Int) - (x : Int) = (a1 : Int) by omega]; exact IntWalk.i64_in _ (by omega)
  have j6 : ((a1 : Int) + (x : Int)).toNat = a1 + x := by omega
  have j7 : (0 : Int) ≤ (a1 : Int) + (x : Int) := by omega
  have j8 : (a1 : Int) ≤ (a1 : Int) + (x : Int) := by omega
  have HFT := Lib.hid hf
  have HSM := Lib.hid hsm
  have HN := Lib.hid hn
  clear hf hsm hn
  go_enter Try.func19, Try.ntmps19
  go_wp2_with fail
  refine H.out.mono ?_
  rintro e w1 ⟨rfl, hr, hk⟩
  obtain ⟨c0, c1, c2⟩ := hr.cells
  obtain ⟨a, cap, rfl, hcap1, hcap2, hcap3⟩ := hr.data.shape
  rw [← HN.out] at c0 hcap1
  have hfz := hr.head.free 1
  have e0 : ((a1 + x : Nat) : Int) = (a1 : Int) + (x : Int) := by omega
  have hmove := fun m => (hr.on ((Drawn.of_n w1 m).below _)).move (a1 + x) HFT.out
  have RES : Hid (∀ m, RdAt ((w1.drewN m).setCell ⟨rb, 1, none⟩ (.int .i64 ((a1 : Int) + (x : Int)))) rb (.slice a l.length cap) l (a1 + x) false ∧ Kept (· = rb) w ((w1.drewN m).setCell ⟨rb, 1, none⟩ (.int .i64 ((a1 : Int) + (x : Int))))) := fun m =>
    ⟨by have := hmove m; rw [e0] at this; exact this, (hk.trans (Kept.drawn (Drawn.of_n w1 m))).trans (kept_set _ rb 1 _)⟩
  have k0 : ∀ m u, ((w1.drewN m).setCell ⟨rb, 1, none⟩ u).cell? ⟨rb, 0, none⟩ = some (.slice a n cap) := fun m u => by
    have := ((hr.on ((Drawn.of_n w1 m).below _)).head.setCell 1 u).cell 0
    rw [HN.out]; exact this
  have k1 : ∀ m u, ((w1.drewN m).setCell ⟨rb, 1, none⟩ u).cell? ⟨rb, 1, none⟩ = some u := fun m u => ((hr.on ((Drawn.of_n w1 m).below _)).head.setCell 1 u).cell 1
  clear hr hk H hmove e0
  go_wp2_with fail
  go_quiet (fail)
  go_wp2_with fail
  have i1 : IntKind.i64.wrap (a1 : Int) = (a1 : Int) := IntWalk.i64_in _ (by have := HFT.out; have := HSM.out; omega)
  have i2 : (a1 : Int) + (x : Int) ≤ (cap : Int) := by have := HFT.out; have := HN.out; omega
  have i3 : a1 + x - a1 = x := by omega
  obtain ⟨ad, had⟩ : ∃ ad, (if cap = a1 then a else Option.map (fun x => x.add a1) a) = ad := ⟨_, rfl⟩
  have HCV : Hid (∀ w', RdAt w' rb (.slice a l.length cap) l (a1 + x) false → (convert BS 9 (.slice ad x (cap - a1))).run Try.prog w' = .ok (.string (strOf (piece l a1 (a1 + x)))) w') := fun w' hr => by
    rcases Nat.eq_zero_or_pos x with h0 | h0
    · subst h0
      rw [show piece l a1 (a1 + 0) = [] by simp [piece]]
      exact no_bytes w' ad _
    · obtain ⟨b, off, cap', e, _⟩ := hr.data.byte (by have := HFT.out; omega)
      cases e
      rw [if_neg (by have := HFT.out; have := HN.out; omega)] at had
      subst had
      have ha : (⟨b, off, none⟩ : Addr).add a1 = ⟨b, off + a1, none⟩ := Addr.add_lit _ _ _
      simp only [Option.map_some, ha]
      exact hr.data.part rfl a1 x h0 HFT.out _
  refine wp_region_held_drew (S := fun w' => ∃ w2, Below w2.heap.size w2 w' ∧ (RdAt w2 rb (.slice a l.length cap) l (a1 + x) false ∧ Kept (· = rb) w w2)) (by kernel_rfl) ?_ (fun hHeld => ?_)
  · exact ⟨_, (Drawn.of_n _ 1).below _, RES.out _⟩
  refine wpAnyH_take (i := 0) (v := ?_) rfl (by kernel_rfl) (by kernel_rfl) (by kernel_rfl) (fun _ _ _ h => h) (Or.inl ⟨by rfl, ?_⟩) (by assumption) ?_
  rotate_left
  · intro w hSw
    (try dsimp only at hSw)
    go_simp
    (try with_reducible rfl)
  try simp only [Act.put, List.getElem_toArray, List.getElem_cons_zero, List.setIfInBounds_toArray, List.set_cons_zero, List.set_cons_succ]
  refine wpAnyH_take (i := 1) (v := ?_) rfl (by kernel_rfl) (by kernel_rfl) (by kernel_rfl) (fun _ _ _ h => h) (Or.inl ⟨by rfl, ?_⟩) (by assumption) ?_
  rotate_left
  · intro w hSw
    (try dsimp only at hSw)
    go_simp
    (try with_reducible rfl)
  try simp only [Act.put, List.getElem_toArray, List.getElem_cons_zero, List.getElem_cons_succ, List.setIfInBounds_toArray, List.set_cons_zero, List.set_cons_succ]
  refine wpAnyH_take (i := 2) (v := ?_) rfl (by kernel_rfl) (by kernel_rfl) (by kernel_rfl) (fun _ _ _ h => h) (Or.inl ⟨by rfl, ?_⟩) (by assumption) ?_
  rotate_left
  · intro w hSw
    (try dsimp only at hSw)
    go_simp
    (try with_reducible rfl)
  try simp only [Act.put, List.getElem_toArray, List.getElem_cons_zero, List.getElem_cons_succ, List.setIfInBounds_toArray, List.set_cons_zero, List.set_cons_succ]
  refine wpAnyH_take (i := 3) (v := ?_) rfl (by kernel_rfl) (by kernel_rfl) (by kernel_rfl) (fun _ _ _ h => h) (Or.inl ⟨by rfl, ?_⟩) (by assumption) ?_
  rotate_left
  · intro w hSw
    obtain ⟨w2, hb, hr, _⟩ := hSw
    have hc := (hr.on hb).cells.1
    rw [← HN.out] at hc
    (try dsimp only at hSw)
    go_simp
    (try with_reducible rfl)
  try simp only [Act.put, List.getElem_toArray, List.getElem_cons_zero, List.getElem_cons_succ, List.setIfInBounds_toArray, List.set_cons_zero, List.set_cons_succ]
  refine wpAnyH_take (i := 4) (v := ?_) rfl (by kernel_rfl) (by kernel_rfl) (by kernel_rfl) (fun _ _ _ h => h) (Or.inl ⟨by rfl, ?_⟩) (by assumption) ?_
  rotate_left
  · intro w hSw
    (try dsimp only at hSw)
    go_simp
    (try with_reducible rfl)
  try simp only [Act.put, List.getElem_toArray, List.getElem_cons_zero, List.getElem_cons_succ, List.setIfInBounds_toArray, List.set_cons_zero, List.set_cons_succ]
  refine wpAnyH_take (i := 5) (v := ?_) rfl (by kernel_rfl) (by kernel_rfl) (by kernel_rfl) (fun _ _ _ h => h) (Or.inl ⟨by rfl, ?_⟩) (by assumption) ?_
  rotate_left
  · intro w hSw
    (try dsimp only at hSw)
    go_simp
    (try with_reducible rfl)
  try simp only [Act.put, List.getElem_toArray, List.getElem_cons_zero, List.getElem_cons_succ, List.setIfInBounds_toArray, List.set_cons_zero, List.set_cons_succ]
  refine wpAnyH_take (i := 6) (v := ?_) rfl (by kernel_rfl) (by kernel_rfl) (by kernel_rfl) (fun _ _ _ h => h) (Or.inl ⟨by rfl, ?_⟩) (by assumption) ?_
  rotate_left
  · intro w hSw
    (try dsimp only at hSw)
    go_simp
    (try with_reducible rfl)
  try simp only [Act.put, List.getElem_toArray, List.getElem_cons_zero, List.getElem_cons_succ, List.setIfInBounds_toArray, List.set_cons_zero, List.set_cons_succ]
  refine wpAnyH_take (i := 7) (v := ?_) rfl (by kernel_rfl) (by kernel_rfl) (by kernel_rfl) (fun _ _ _ h => h) (Or.inl ⟨by rfl, ?_⟩) (by assumption) ?_
  rotate_left
  · intro w hSw
    obtain ⟨w2, hb, hr, _⟩ := hSw
    have hc := (hr.on hb).cells.2.1
    (try dsimp only at hSw)
    go_simp
    (try with_reducible rfl)
  try simp only [Act.put, List.getElem_toArray, List.getElem_cons_zero, List.getElem_cons_succ, List.setIfInBounds_toArray, List.set_cons_zero, List.set_cons_succ]
  refine wpAnyH_take (i := 8) (v := ?_) rfl (by kernel_rfl) (by kernel_rfl) (by kernel_rfl) (fun _ _ _ h => h) (Or.inl ⟨by rfl, ?_⟩) (by assumption) ?_
  rotate_left
  · intro w hSw
    (try dsimp only at hSw)
    go_simp
    (try with_reducible rfl)
  try simp only [Act.put, List.getElem_toArray, List.getElem_cons_zero, List.getElem_cons_succ, List.setIfInBounds_toArray, List.set_cons_zero, List.set_cons_succ]
  refine wpAnyH_take (i := 9) (v := ?_) rfl (by kernel_rfl) (by kernel_rfl) (by kernel_rfl) (fun _ _ _ h => h) (Or.inl ⟨by rfl, ?_⟩) (by assumption) ?_
  rotate_left
  · intro w hSw
    (try dsimp only at hSw)
    go_simp
    (try with_reducible rfl)
  try simp only [Act.put, List.getElem_toArray, List.getElem_cons_zero, List.getElem_cons_succ, List.setIfInBounds_toArray, List.set_cons_zero, List.set_cons_succ]
  refine wpAnyH_take (i := 10) (v := ?_) rfl (by kernel_rfl) (by kernel_rfl) (by kernel_rfl) (fun _ _ _ h => h) (Or.inl ⟨by rfl, ?_⟩) (by assumption) ?_
  rotate_left
  · intro w hSw
    (try dsimp only at hSw)
    go_simp
    (try with_reducible rfl)
  try simp only [Act.put, List.getElem_toArray, List.getElem_cons_zero, List.getElem_cons_succ, List.setIfInBounds_toArray, List.set_cons_zero, List.set_cons_succ]
  refine wpAnyH_take (i := 11) (v := ?_) rfl (by kernel_rfl) (by kernel_rfl) (by kernel_rfl) (fun _ _ _ h => h) (Or.inl ⟨by rfl, ?_⟩) (by assumption) ?_
  rotate_left
  · intro w hSw
    (try dsimp only at hSw)
    go_simp
    (try with_reducible rfl)
  try simp only [Act.put, List.getElem_toArray, List.getElem_cons_zero, List.getElem_cons_succ, List.setIfInBounds_toArray, List.set_cons_zero, List.set_cons_succ]
  refine wpAnyH_take (i := 12) (v := ?_) rfl (by kernel_rfl) (by kernel_rfl) (by kernel_rfl) (fun _ _ _ h => h) (Or.inl ⟨by rfl, ?_⟩) (by assumption) ?_
  rotate_left
  · intro w hSw
    (try dsimp only at hSw)
    go_simp
    (try with_reducible rfl)
  try simp only [Act.put, List.getElem_toArray, List.getElem_cons_zero, List.getElem_cons_succ, List.setIfInBounds_toArray, List.set_cons_zero, List.set_cons_succ]
  refine wpAnyH_take (i := 13) (v := ?_) rfl (by kernel_rfl) (by kernel_rfl) (by kernel_rfl) (fun _ _ _ h => h) (Or.inl ⟨by rfl, ?_⟩) (by assumption) ?_
  rotate_left
  · intro w hSw
    obtain ⟨w2, hb, hr, _⟩ := hSw
    have hc := (hr.on hb).cells.2.1
    (try dsimp only at hSw)
    go_simp
    (try with_reducible rfl)
  try simp only [Act.put, List.getElem_toArray, List.getElem_cons_zero, List.getElem_cons_succ, List.setIfInBounds_toArray, List.set_cons_zero, List.set_cons_succ]
  refine wpAnyH_take (i := 14) (v := ?_) rfl (by kernel_rfl) (by kernel_rfl) (by kernel_rfl) (fun _ _ _ h => h) (Or.inl ⟨by rfl, ?_⟩) (by assumption) ?_
  rotate_left
  · intro w hSw
    (try dsimp only at hSw)
    go_simp
    (try with_reducible rfl)
  try simp only [Act.put, List.getElem_toArray, List.getElem_cons_zero, List.getElem_cons_succ, List.setIfInBounds_toArray, List.set_cons_zero, List.set_cons_succ]
  refine wpAnyH_take (i := 15) (v := ?_) rfl (by kernel_rfl) (by kernel_rfl) (by kernel_rfl) (fun _ _ _ h => h) (Or.inl ⟨by rfl, ?_⟩) (by assumption) ?_
  rotate_left
  · intro w hSw
    obtain ⟨w2, hb, hr, _⟩ := hSw
    have hcv := HCV.out _ (hr.on hb)
    (try dsimp only at hSw)
    go_simp
    (try with_reducible rfl)
  try simp only [Act.put, List.getElem_toArray, List.getElem_cons_zero, List.getElem_cons_succ, List.setIfInBounds_toArray, List.set_cons_zero, List.set_cons_succ]
  refine wpAnyH_take (i := 16) (v := ?_) rfl (by kernel_rfl) (by kernel_rfl) (by kernel_rfl) (fun _ _ _ h => h) (Or.inl ⟨by rfl, ?_⟩) (by assumption) ?_
  rotate_left
  · intro w hSw
    (try dsimp only at hSw)
    go_simp
    (try with_reducible rfl)
  try simp only [Act.put, List.getElem_toArray, List.getElem_cons_zero, List.getElem_cons_succ, List.setIfInBounds_toArray, List.set_cons_zero, List.set_cons_succ]
  refine wpAnyH_done (by kernel_rfl) ?_ _
  obtain ⟨w2, hb, hr, hk⟩ := hHeld
  have RES2 := Lib.hid (And.intro (hr.on hb) (hk.trans (Kept.of_below hb)))
  clear hr hb hk k0 k1
  go_wp2_with fail
  go_ret
  exact ⟨rfl, RES2.out⟩

theorem rtxt_any (rb : Nat) (v : Value) (l : List Nat) (at_ : Nat) (sh : Bool) (w : World) (h : RdAt w rb v l at_ sh) :
    Calls Try.prog 19 #[.pointer (some ⟨rb, 0, none⟩)] w fun e w' => e = .returned (.string (strOf (textV l at_ sh))) ∧ RdAt w' rb v l (textAt l at_ sh) (textSh l at_ sh) ∧ Kept (· = rb) w w' := by
  cases hs : numSh l at_ sh 1 with
  | true =>
    have e1 : textV l at_ sh = [] := by simp [textV, hs]
    have e2 : textAt l at_ sh = numAt l at_ sh 1 := by simp [textAt, hs]
    have e3 : textSh l at_ sh = true := by simp [textSh, hs]
    rw [e1, e2, e3]
    exact rtxt_short rb v l at_ sh w h hs
  | false =>
    cases hf : fitN l (numAt l at_ sh 1) (numV l at_ sh 1) with
    | false =>
      have e1 : textV l at_ sh = [] := by simp [textV, hs, hf]
      have e2 : textAt l at_ sh = numAt l at_ sh 1 := by simp [textAt, hs, hf]
      have e3 : textSh l at_ sh = true := by simp [textSh, hs, hf]
      rw [e1, e2, e3]
      exact rtxt_far rb v l at_ sh w h hs hf
    | true =>
      have e1 : textV l at_ sh = piece l (numAt l at_ sh 1) (numAt l at_ sh 1 + numV l at_ sh 1) := by simp [textV, hs, hf]
      have e2 : textAt l at_ sh = numAt l at_ sh 1 + numV l at_ sh 1 := by simp [textAt, hs, hf]
      have e3 : textSh l at_ sh = false := by simp [textSh, hs, hf]
      rw [e1, e2, e3]
      exact rtxt_fit rb v l at_ sh w h hs hf
end Go.Proofs.Ythgnklgejlebhaa
