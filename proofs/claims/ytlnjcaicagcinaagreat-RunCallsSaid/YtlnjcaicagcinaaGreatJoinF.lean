/-
  Contracts of the document's GetIns (layer 2). No conditions beyond those that each theorem names.
-/
import Derived.Test.YtlnjcaicagcinaaGreatJoinI
import Derived.Test.YtlnjcaicagcinaaGreatMathB
import Derived.Test.YtlnjcaicagcinaaGreatJoinE
import Derived.Test.YtlnjcaicagcinaaGreatJoinC
namespace Go.Proofs.YtlnjcaicagcinaaGreat
open Go.ChangeShapes Go.WideShapes Go.ChangeAt Go.RowKit

set_option maxRecDepth 100000 in
set_option maxHeartbeats 1000000 in
theorem refGetIns_yes (x : Nat) (w : World) (hx : x < 4294967296) (h : MayP (getN x 26 6 : Nat) (getN x 22 4 : Nat) (getN x 18 4 : Nat) (signI (getN x 0 18) 18)) :
    Calls Tryz.prog 26 #[.int .u32 x] w fun e w' => e = .returned (.tuple #[.agg #[.int .i64 (getN x 26 6 : Nat), .int .i64 (getN x 22 4 : Nat), .int .i64 (getN x 18 4 : Nat), .int .i64 (signI (getN x 0 18) 18)], .bool true]) ∧ Below w.heap.size w w' := by
  have H := Lib.hid h
  clear h
  have b4 := getN_lt x 0 18
  have b5 := signI_18 (getN x 0 18)
  simp only [Nat.reducePow] at b4
  go_enter Tryz.func26, Tryz.ntmps26
  go_wp2_with fail
  rw [← getN_26_div x hx, ← getN_22_div x, ← getN_18_div x, ← getN_0_mod x]
  refine (refSign_yes (getN x 0 18) 18 _ (by omega) (by omega) (by omega)).mono ?_
  rintro e w1 ⟨rfl, rfl⟩
  go_wp2_with fail
  refine (refMay_yes _ _ _ _ _ H.out).mono ?_
  rintro e w6 ⟨rfl, hb6⟩
  have hc := old_cell hb6
  have hf := old_mark hb6
  go_wp2_with fail
  have gs : ∀ i, i < 4 → w6.cell? ⟨w.heap.size, i, none⟩ = some (.int .i64 0) := by
    intro i hi
    rw [hc w.heap.size i (by simp; omega)]
    match i, hi with
    | 0, _ => simp [go_sem]
    | 1, _ => simp [go_sem]
    | 2, _ => simp [go_sem]
    | 3, _ => simp [go_sem]
  have g0 := gs 0 (by omega)
  have g1 := gs 1 (by omega)
  have g2 := gs 2 (by omega)
  have g3 := gs 3 (by omega)
  clear gs hc hf
  refine bodyPost_ret (v := .tuple #[.agg #[.int .i64 (getN x 26 6 : Nat), .int .i64 (getN x 22 4 : Nat), .int .i64 (getN x 18 4 : Nat), .int .i64 (signI (getN x 0 18) 18)], .bool true]) (by simp [results, Tryz.results26, go_sem, g0, g1, g2, g3]) rfl ⟨rfl, ?_⟩
  have hb7 := (((Below.refl w.heap.size w).alloc (Nat.le_refl _) _).alloc (by simp) _).trans (hb6.mono (by simp; omega))
  exact (((hb7.setCell (Nat.le_refl _) _).setCell (Nat.le_refl _) _).setCell (Nat.le_refl _) _).setCell (Nat.le_refl _) _

set_option maxRecDepth 100000 in
set_option maxHeartbeats 1000000 in
theorem refGetIns_no (x : Nat) (w : World) (hx : x < 4294967296) (h : ¬ MayP (getN x 26 6 : Nat) (getN x 22 4 : Nat) (getN x 18 4 : Nat) (signI (getN x 0 18) 18)) :
    Calls Tryz.prog 26 #[.int .u32 x] w fun e w' => e = .returned (.tuple #[.agg #[.int .i64 0, .int .i64 0, .int .i64 0, .int .i64 0], .bool false]) ∧ Below w.heap.size w w' := by
  have H := Lib.hid h
  clear h
  have b4 := getN_lt x 0 18
  have b5 := signI_18 (getN x 0 18)
  simp only [Nat.reducePow] at b4
  go_enter Tryz.func26, Tryz.ntmps26
  go_wp2_with fail
  rw [← getN_26_div x hx, ← getN_22_div x, ← getN_18_div x, ← getN_0_mod x]
  refine (refSign_yes (getN x 0 18) 18 _ (by omega) (by omega) (by omega)).mono ?_
  rintro e w1 ⟨rfl, rfl⟩
  go_wp2_with fail
  refine (refMay_no _ _ _ _ _ H.out).mono ?_
  rintro e w6 ⟨rfl, hb6⟩
  have hc := old_cell hb6
  have hf := old_mark hb6
  go_wp2_with fail
  have gs : ∀ i, i < 4 → w6.cell? ⟨w.heap.size, i, none⟩ = some (.int .i64 0) := by
    intro i hi
    rw [hc w.heap.size i (by simp; omega)]
    match i, hi with
    | 0, _ => simp [go_sem]
    | 1, _ => simp [go_sem]
    | 2, _ => simp [go_sem]
    | 3, _ => simp [go_sem]
  have g0 := gs 0 (by omega)
  have g1 := gs 1 (by omega)
  have g2 := gs 2 (by omega)
  have g3 := gs 3 (by omega)
  clear gs hc hf
  refine bodyPost_ret (v := .tuple #[.agg #[.int .i64 0, .int .i64 0, .int .i64 0, .int .i64 0], .bool false]) (by simp [results, Tryz.results26, go_sem, g0, g1, g2, g3]) rfl ⟨rfl, ?_⟩
  have hb7 := (((Below.refl w.heap.size w).alloc (Nat.le_refl _) _).alloc (by simp) _).trans (hb6.mono (by simp; omega))
  exact (((hb7.setCell (Nat.le_refl _) _).setCell (Nat.le_refl _) _).setCell (Nat.le_refl _) _).setCell (Nat.le_refl _) _

end Go.Proofs.YtlnjcaicagcinaaGreat

/-
  The document's Step (layer 7), an operation at a time. No conditions beyond those that each theorem names.
-/
namespace Go.Proofs.YtlnjcaicagcinaaGreat
open Go.ChangeShapes Go.WideShapes Go.ChangeAt Go.RowKit

def GetsIns (x : Nat) (o c : Int) (a b : Nat) : Prop := ∀ v, Calls Tryz.prog 26 #[.int .u32 (x : Nat)] v fun e v' => e = .returned (.tuple #[.agg #[.int .i64 o, .int .i64 a, .int .i64 b, .int .i64 c], .bool true]) ∧ Kept No v v'
theorem RMach.next {w0 w v : World} {xp xb tp tr : Nat} {mv : Value} {M : List ZR} {r' : List Int} {p' q : Int} {l' : List Nat} (h : RMach w0 v xp xb tp tr mv M r' p' l') (k : Kept (Theirs xb tp tr) w v) : RDid w0 w (v.setCell ⟨tp, 1, none⟩ (.int .i64 q)) (.returned (.int .i64 0)) xp xb tp tr mv M ⟨0, r', q, l'⟩ :=
  ⟨rfl, (h.setP q).1, k.trans ((h.setP q).2.wide2 fun _ e => .inr (.inl e))⟩

theorem RDid.drew {w0 w w' : World} {e : Ending} {xp xb tp tr : Nat} {mv : Value} {M : List ZR} {d : Out} (h : RDid w0 w w' e xp xb tp tr mv M d) : RDid w0 w w'.drew e xp xb tp tr mv M d := ⟨h.1, h.2.1.on (Kept.refl _ _).drew, h.2.2.drew⟩

set_option maxRecDepth 100000 in
set_option maxHeartbeats 2000000 in
theorem rstep_set {w0 w : World} {xp xb tp tr : Nat} {mv : Value} {M : List ZR} {r : List Int} {l : List Nat} {q : Nat} (h : RMach w0 w xp xb tp tr mv M r (q : Int) l) (hrun : canRun (M.map ZR.z) (q : Int) = true) (hl : q + 4 ≤ 2048) (c : Int) {a b : Nat} (ha : a < 16) (hb : b < 16) (hg : GetsIns (wordAt l q) 1 c a b) :
    Calls Tryz.prog 9 #[.pointer (some ⟨xp, 0, none⟩), .pointer (some ⟨tp, 0, none⟩)] w fun e w' => RDid w0 w w' e xp xb tp tr mv M ⟨0, r.set a (IntKind.i32.wrap c), (q : Int) + 4, l⟩ := by
  have HM0 := Lib.hid h
  have HR := Lib.hid (h.canRun (q : Int))
  have HRn := Lib.hid hrun
  clear HR
  have HL := Lib.hid hl
  have HA := Lib.hid ha
  have HBb := Lib.hid hb
  have HG := Lib.hid hg
  have hb2 := canRun_bounds h.good hrun
  have s1 := h.s1
  have x0 := h.x0
  have x1 := h.x1
  have i5 : ¬ 2048 < (q : Int) + 4 := by omega
  have i6 : IntKind.i64.wrap ((q : Int) + 4) = (q : Int) + 4 := IntWalk.i64_in _ (by omega)
  have i1 : (a : Int) < 16 := by omega
  have i2 : (0 : Int) ≤ (a : Int) := by omega
  have i3 : (b : Int) < 16 := by omega
  have i4 : (0 : Int) ≤ (b : Int) := by omega
  obtain ⟨x, hx⟩ : ∃ x, r.getD a 0 = x := ⟨_, rfl⟩
  obtain ⟨y, hy⟩ : ∃ y, r.getD b 0 = y := ⟨_, rfl⟩
  have ew : IntKind.i32.wrap c = wrap32 c := by simp only [IntKind.wrap_i32, wrap32]
  rw [ew]
  clear hx hy
  have HS := Lib.hid (fun v (k : Kept No w v) => (⟨⟨(HM0.out.on k).x0, (HM0.out.on k).x1, (HM0.out.on k).s1⟩, k⟩ : (v.cell? ⟨xp, 0, none⟩ = some (.slice (some ⟨xb, 0, none⟩) 2048 2048) ∧ v.cell? ⟨xp, 1, none⟩ = some mv ∧ v.cell? ⟨tp, 1, none⟩ = some (.int .i64 q)) ∧ Kept No w v))
  clear h hrun hl ha hb hg hb2 x0 x1 s1
  go_enter Tryz.func9, Tryz.ntmps9
  go_wp2_with fail
  refine wp_region_held_drew (S := fun w' => (w'.cell? ⟨xp, 0, none⟩ = some (.slice (some ⟨xb, 0, none⟩) 2048 2048) ∧ w'.cell? ⟨xp, 1, none⟩ = some mv ∧ w'.cell? ⟨tp, 1, none⟩ = some (.int .i64 q)) ∧ Kept No w w') (by kernel_rfl) ?_ (fun hHeld => ?_)
  · exact HS.out _ (Kept.refl _ _).drew
  refine wpAnyH_take (i := 0) (v := ?_) rfl (by kernel_rfl) (by kernel_rfl) (by kernel_rfl) (fun _ _ _ h => h) (Or.inl ⟨by rfl, ?_⟩) (by assumption) ?_
  rotate_left
  · intro w hSw
    (try dsimp only at hSw)
    go_simp
    (try with_reducible rfl)
  try simp only [Act.put, List.getElem_toArray, List.getElem_cons_zero, List.setIfInBounds_toArray, List.set_cons_zero, List.set_cons_succ]
  refine wpAnyH_take (i := 1) (v := ?_) rfl (by kernel_rfl) (by kernel_rfl) (by kernel_rfl) (fun _ _ _ h => h) (Or.inl ⟨by rfl, ?_⟩) (by assumption) ?_
  rotate_left
  · intro w hSw
    (try dsimp only at hSw)
    go_simp
    (try with_reducible rfl)
  try simp only [Act.put, List.getElem_toArray, List.getElem_cons_zero, List.getElem_cons_succ, List.setIfInBounds_toArray, List.set_cons_zero, List.set_cons_succ]
  refine wpAnyH_take (i := 2) (v := ?_) rfl (by kernel_rfl) (by kernel_rfl) (by kernel_rfl) (fun _ _ _ h => h) (Or.inl ⟨by rfl, ?_⟩) (by assumption) ?_
  rotate_left
  · intro w hSw
    (try dsimp only at hSw)
    go_simp
    (try with_reducible rfl)
  try simp only [Act.put, List.getElem_toArray, List.getElem_cons_zero, List.getElem_cons_succ, List.setIfInBounds_toArray, List.set_cons_zero, List.set_cons_succ]
  refine wpAnyH_take (i := 3) (v := ?_) rfl (by kernel_rfl) (by kernel_rfl) (by kernel_rfl) (fun _ _ _ h => h) (Or.inl ⟨by rfl, ?_⟩) (by assumption) ?_
  rotate_left
  · intro w hSw
    (try dsimp only at hSw)
    go_simp
    (try with_reducible rfl)
  try simp only [Act.put, List.getElem_toArray, List.getElem_cons_zero, List.getElem_cons_succ, List.setIfInBounds_toArray, List.set_cons_zero, List.set_cons_succ]
  refine wpAnyH_take (i := 4) (v := ?_) rfl (by kernel_rfl) (by kernel_rfl) (by kernel_rfl) (fun _ _ _ h => h) (Or.inl ⟨by rfl, ?_⟩) (by assumption) ?_
  rotate_left
  · intro w hSw
    (try dsimp only at hSw)
    go_simp
    (try with_reducible rfl)
  try simp only [Act.put, List.getElem_toArray, List.getElem_cons_zero, List.getElem_cons_succ, List.setIfInBounds_toArray, List.set_cons_zero, List.set_cons_succ]
  refine wpAnyH_take (i := 5) (v := ?_) rfl (by kernel_rfl) (by kernel_rfl) (by kernel_rfl) (fun _ _ _ h => h) (Or.inl ⟨by rfl, ?_⟩) (by assumption) ?_
  rotate_left
  · intro w hSw
    (try dsimp only at hSw)
    go_simp
    (try with_reducible rfl)
  try simp only [Act.put, List.getElem_toArray, List.getElem_cons_zero, List.getElem_cons_succ, List.setIfInBounds_toArray, List.set_cons_zero, List.set_cons_succ]
  refine wpAnyH_take (i := 6) (v := ?_) rfl (by kernel_rfl) (by kernel_rfl) (by kernel_rfl) (fun _ _ _ h => h) (Or.inl ⟨by rfl, ?_⟩) (by assumption) ?_
  rotate_left
  · intro w hSw
    (try dsimp only at hSw)
    go_simp
    (try with_reducible rfl)
  try simp only [Act.put, List.getElem_toArray, List.getElem_cons_zero, List.getElem_cons_succ, List.setIfInBounds_toArray, List.set_cons_zero, List.set_cons_succ]
  refine wpAnyH_take (i := 7) (v := ?_) rfl (by kernel_rfl) (by kernel_rfl) (by kernel_rfl) (fun _ _ _ h => h) (Or.inl ⟨by rfl, ?_⟩) (by assumption) ?_
  rotate_left
  · intro w hSw
    (try dsimp only at hSw)
    go_simp
    (try with_reducible rfl)
  try simp only [Act.put, List.getElem_toArray, List.getElem_cons_zero, List.getElem_cons_succ, List.setIfInBounds_toArray, List.set_cons_zero, List.set_cons_succ]
  refine wpAnyH_ready (rs := [8]) (by kernel_rfl) (by simp) ?_
  refine AllReadyH.cons rfl (fun K hK => ?_) AllReadyH.nil
  go_simp
  refine ((HM0.out.on hHeld.2).canRun q).mono ?_
  rintro e u1 ⟨rfl, rfl⟩
  rw [HRn.out]
  first | show K _ _ | go_wp2_with fail
  refine hK.out _ _ ?_ (fun hHeld1 => ?_)
  · exact hHeld
  clear hK K
  try simp only [Act.put, List.getElem_toArray, List.getElem_cons_zero, List.getElem_cons_succ, List.setIfInBounds_toArray, List.set_cons_zero, List.set_cons_succ]
  refine wpAnyH_take (i := 9) (v := ?_) rfl (by kernel_rfl) (by kernel_rfl) (by kernel_rfl) (fun _ _ _ h => h) (Or.inl ⟨by rfl, ?_⟩) (by assumption) ?_
  rotate_left
  · intro w hSw
    (try dsimp only at hSw)
    go_simp
    (try with_reducible rfl)
  try simp only [Act.put, List.getElem_toArray, List.getElem_cons_zero, List.getElem_cons_succ, List.setIfInBounds_toArray, List.set_cons_zero, List.set_cons_succ]
  refine wpAnyH_done (by kernel_rfl) ?_ _
  have K1 := Lib.hid hHeld1.2
  clear hHeld hHeld1
  go_wp2_with fail
  refine wp_region_held_drew (S := fun w' => (w'.cell? ⟨xp, 0, none⟩ = some (.slice (some ⟨xb, 0, none⟩) 2048 2048) ∧ w'.cell? ⟨xp, 1, none⟩ = some mv ∧ w'.cell? ⟨tp, 1, none⟩ = some (.int .i64 q)) ∧ Kept No w w') (by kernel_rfl) ?_ (fun hHeld => ?_)
  · exact HS.out _ K1.out.drew
  refine wpAnyH_take (i := 0) (v := ?_) rfl (by kernel_rfl) (by kernel_rfl) (by kernel_rfl) (fun _ _ _ h => h) (Or.inl ⟨by rfl, ?_⟩) (by assumption) ?_
  rotate_left
  · intro w hSw
    (try dsimp only at hSw)
    go_simp
    (try with_reducible rfl)
  try simp only [Act.put, List.getElem_toArray, List.getElem_cons_zero, List.setIfInBounds_toArray, List.set_cons_zero, List.set_cons_succ]
  refine wpAnyH_take (i := 1) (v := ?_) rfl (by kernel_rfl) (by kernel_rfl) (by kernel_rfl) (fun _ _ _ h => h) (Or.inl ⟨by rfl, ?_⟩) (by assumption) ?_
  rotate_left
  · intro w hSw
    (try dsimp only at hSw)
    go_simp
    (try with_reducible rfl)
  try simp only [Act.put, List.getElem_toArray, List.getElem_cons_zero, List.getElem_cons_succ, List.setIfInBounds_toArray, List.set_cons_zero, List.set_cons_succ]
  refine wpAnyH_take (i := 2) (v := ?_) rfl (by kernel_rfl) (by kernel_rfl) (by kernel_rfl) (fun _ _ _ h => h) (Or.inl ⟨by rfl, ?_⟩) (by assumption) ?_
  rotate_left
  · intro w hSw
    (try dsimp only at hSw)
    go_simp
    (try with_reducible rfl)
  try simp only [Act.put, List.getElem_toArray, List.getElem_cons_zero, List.getElem_cons_succ, List.setIfInBounds_toArray, List.set_cons_zero, List.set_cons_succ]
  refine wpAnyH_take (i := 3) (v := ?_) rfl (by kernel_rfl) (by kernel_rfl) (by kernel_rfl) (fun _ _ _ h => h) (Or.inl ⟨by rfl, ?_⟩) (by assumption) ?_
  rotate_left
  · intro w hSw
    (try dsimp only at hSw)
    go_simp
    (try with_reducible rfl)
  try simp only [Act.put, List.getElem_toArray, List.getElem_cons_zero, List.getElem_cons_succ, List.setIfInBounds_toArray, List.set_cons_zero, List.set_cons_succ]
  refine wpAnyH_take (i := 4) (v := ?_) rfl (by kernel_rfl) (by kernel_rfl) (by kernel_rfl) (fun _ _ _ h => h) (Or.inl ⟨by rfl, ?_⟩) (by assumption) ?_
  rotate_left
  · intro w hSw
    (try dsimp only at hSw)
    go_simp
    (try with_reducible rfl)
  try simp only [Act.put, List.getElem_toArray, List.getElem_cons_zero, List.getElem_cons_succ, List.setIfInBounds_toArray, List.set_cons_zero, List.set_cons_succ]
  refine wpAnyH_take (i := 5) (v := ?_) rfl (by kernel_rfl) (by kernel_rfl) (by kernel_rfl) (fun _ _ _ h => h) (Or.inl ⟨by rfl, ?_⟩) (by assumption) ?_
  rotate_left
  · intro w hSw
    (try dsimp only at hSw)
    go_simp
    (try with_reducible rfl)
  try simp only [Act.put, List.getElem_toArray, List.getElem_cons_zero, List.getElem_cons_succ, List.setIfInBounds_toArray, List.set_cons_zero, List.set_cons_succ]
  refine wpAnyH_take (i := 6) (v := ?_) rfl (by kernel_rfl) (by kernel_rfl) (by kernel_rfl) (fun _ _ _ h => h) (Or.inl ⟨by rfl, ?_⟩) (by assumption) ?_
  rotate_left
  · intro w hSw
    (try dsimp only at hSw)
    go_simp
    (try with_reducible rfl)
  try simp only [Act.put, List.getElem_toArray, List.getElem_cons_zero, List.getElem_cons_succ, List.setIfInBounds_toArray, List.set_cons_zero, List.set_cons_succ]
  refine wpAnyH_take (i := 7) (v := ?_) rfl (by kernel_rfl) (by kernel_rfl) (by kernel_rfl) (fun _ _ _ h => h) (Or.inl ⟨by rfl, ?_⟩) (by assumption) ?_
  rotate_left
  · intro w hSw
    (try dsimp only at hSw)
    go_simp
    (try with_reducible rfl)
  try simp only [Act.put, List.getElem_toArray, List.getElem_cons_zero, List.getElem_cons_succ, List.setIfInBounds_toArray, List.set_cons_zero, List.set_cons_succ]
  refine wpAnyH_take (i := 8) (v := ?_) rfl (by kernel_rfl) (by kernel_rfl) (by kernel_rfl) (fun _ _ _ h => h) (Or.inl ⟨by rfl, ?_⟩) (by assumption) ?_
  rotate_left
  · intro w hSw
    (try dsimp only at hSw)
    go_simp
    (try with_reducible rfl)
  try simp only [Act.put, List.getElem_toArray, List.getElem_cons_zero, List.getElem_cons_succ, List.setIfInBounds_toArray, List.set_cons_zero, List.set_cons_succ]
  refine wpAnyH_take (i := 9) (v := ?_) rfl (by kernel_rfl) (by kernel_rfl) (by kernel_rfl) (fun _ _ _ h => h) (Or.inl ⟨by rfl, ?_⟩) (by assumption) ?_
  rotate_left
  · intro w hSw
    (try dsimp only at hSw)
    go_simp
    (try with_reducible rfl)
  try simp only [Act.put, List.getElem_toArray, List.getElem_cons_zero, List.getElem_cons_succ, List.setIfInBounds_toArray, List.set_cons_zero, List.set_cons_succ]
  refine wpAnyH_take (i := 10) (v := ?_) rfl (by kernel_rfl) (by kernel_rfl) (by kernel_rfl) (fun _ _ _ h => h) (Or.inl ⟨by rfl, ?_⟩) (by assumption) ?_
  rotate_left
  · intro w hSw
    (try dsimp only at hSw)
    go_simp
    (try with_reducible rfl)
  try simp only [Act.put, List.getElem_toArray, List.getElem_cons_zero, List.getElem_cons_succ, List.setIfInBounds_toArray, List.set_cons_zero, List.set_cons_succ]
  refine wpAnyH_take (i := 11) (v := ?_) rfl (by kernel_rfl) (by kernel_rfl) (by kernel_rfl) (fun _ _ _ h => h) (Or.inl ⟨by rfl, ?_⟩) (by assumption) ?_
  rotate_left
  · intro w hSw
    (try dsimp only at hSw)
    go_simp
    (try with_reducible rfl)
  try simp only [Act.put, List.getElem_toArray, List.getElem_cons_zero, List.getElem_cons_succ, List.setIfInBounds_toArray, List.set_cons_zero, List.set_cons_succ]
  refine wpAnyH_take (i := 12) (v := ?_) rfl (by kernel_rfl) (by kernel_rfl) (by kernel_rfl) (fun _ _ _ h => h) (Or.inl ⟨by rfl, ?_⟩) (by assumption) ?_
  rotate_left
  · intro w hSw
    (try dsimp only at hSw)
    go_simp
    (try with_reducible rfl)
  try simp only [Act.put, List.getElem_toArray, List.getElem_cons_zero, List.getElem_cons_succ, List.setIfInBounds_toArray, List.set_cons_zero, List.set_cons_succ]
  refine wpAnyH_take (i := 13) (v := ?_) rfl (by kernel_rfl) (by kernel_rfl) (by kernel_rfl) (fun _ _ _ h => h) (Or.inl ⟨by rfl, ?_⟩) (by assumption) ?_
  rotate_left
  · intro w hSw
    (try dsimp only at hSw)
    go_simp
    (try with_reducible rfl)
  try simp only [Act.put, List.getElem_toArray, List.getElem_cons_zero, List.getElem_cons_succ, List.setIfInBounds_toArray, List.set_cons_zero, List.set_cons_succ]
  refine wpAnyH_take (i := 14) (v := ?_) rfl (by kernel_rfl) (by kernel_rfl) (by kernel_rfl) (fun _ _ _ h => h) (Or.inl ⟨by rfl, ?_⟩) (by assumption) ?_
  rotate_left
  · intro w hSw
    (try dsimp only at hSw)
    go_simp
    (try with_reducible rfl)
  try simp only [Act.put, List.getElem_toArray, List.getElem_cons_zero, List.getElem_cons_succ, List.setIfInBounds_toArray, List.set_cons_zero, List.set_cons_succ]
  refine wpAnyH_done (by kernel_rfl) ?_ _
  have K2 := Lib.hid hHeld.2
  have x0 := hHeld.1.1
  have x1 := hHeld.1.2.1
  have s1 := hHeld.1.2.2
  go_wp2_with fail
  refine (rword_any (HM0.out.on K2.out) q HL.out).mono ?_
  rintro e u2 ⟨rfl, rfl⟩
  go_wp2_with fail
  refine (HG.out _).mono ?_
  rintro e w3 ⟨rfl, k3⟩
  have K3 := Lib.hid (K2.out.trans k3)
  clear k3 x0 x1 s1 hHeld
  have M4 := Lib.hid (HM0.out.on (K3.out.alloc (.cells #[.int .i64 1, .int .i64 a, .int .i64 b, .int .i64 c] 57)))
  have K4 := Lib.hid (K3.out.alloc (.cells #[.int .i64 1, .int .i64 a, .int .i64 b, .int .i64 c] 57))
  obtain ⟨b0, b1, b2, b3⟩ := box_cells (Kept.refl No (w3.alloc (.cells #[.int .i64 1, .int .i64 a, .int .i64 b, .int .i64 c] 57)))
  have x0 := M4.out.x0
  have s0 := M4.out.s0
  have s1 := M4.out.s1
  have g1 := M4.out.reg HA.out
  have g2 := M4.out.regs.free a
  have g3 := M4.out.st.free 1
  have HRes := Lib.hid (HM0.out.didR K4.out (a := a) (wrap32 c) (by rw [← ew]; exact wrapk_i32r _))
  have s2 := HRes.out.2.1.s1
  have n1 : tp ≠ tr := RowAt.ne_type M4.out.st M4.out.regs (by decide)
  have n2 : tr ≠ tp := n1.symm
  clear i6 K1
  go_wp2_with fail
  go_region_with fail
  all_goals
    go_wp2_with fail
    go_ret
    have HN := (HRes.out.2.1.next (q := (q : Int) + 4) HRes.out.2.2).drew
    exact ⟨rfl, HN.2.1, HN.2.2⟩
end Go.Proofs.YtlnjcaicagcinaaGreat
