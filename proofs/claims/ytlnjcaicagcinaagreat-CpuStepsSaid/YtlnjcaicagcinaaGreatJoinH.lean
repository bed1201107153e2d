/-
  The document's Step (layer 7): any step, in one form. No conditions beyond those that each theorem names.
-/
import Derived.Test.YtlnjcaicagcinaaGreatJoinK
import Derived.Test.YtlnjcaicagcinaaGreatJoinM
import Derived.Test.YtlnjcaicagcinaaGreatJoinG
namespace Go.Proofs.YtlnjcaicagcinaaGreat
open Go.ChangeShapes Go.WideShapes Go.ChangeAt Go.RowKit

set_option maxRecDepth 100000 in
set_option maxHeartbeats 2000000 in
theorem rstep_norun {w0 w : World} {xp xb tp tr : Nat} {mv : Value} {M : List ZR} {r : List Int} {p : Int} {l : List Nat} (h : RMach w0 w xp xb tp tr mv M r p l) (hr : Proofs.YtlnjcaicagcinaaGreat.canRun (M.map ZR.z) p = false) :
    Calls Tryz.prog 9 #[.pointer (some ⟨xp, 0, none⟩), .pointer (some ⟨tp, 0, none⟩)] w fun e w' => RDid w0 w w' e xp xb tp tr mv M ⟨5, r, p, l⟩ := by
  have HM0 := Lib.hid h
  have HRn := Lib.hid hr
  have HS := Lib.hid (fun v (k : Kept No w v) => (⟨⟨(HM0.out.on k).x0, (HM0.out.on k).x1, (HM0.out.on k).s1⟩, k⟩ : (v.cell? ⟨xp, 0, none⟩ = some (.slice (some ⟨xb, 0, none⟩) 2048 2048) ∧ v.cell? ⟨xp, 1, none⟩ = some mv ∧ v.cell? ⟨tp, 1, none⟩ = some (.int .i64 p)) ∧ Kept No w v))
  clear h hr
  go_enter Tryz.func9, Tryz.ntmps9
  go_wp2_with fail
  refine wp_region_held_drew (S := fun w' => (w'.cell? ⟨xp, 0, none⟩ = some (.slice (some ⟨xb, 0, none⟩) 2048 2048) ∧ w'.cell? ⟨xp, 1, none⟩ = some mv ∧ w'.cell? ⟨tp, 1, none⟩ = some (.int .i64 p)) ∧ Kept No w w') (by kernel_rfl) ?_ (fun hHeld => ?_)
  · exact HS.out _ (Kept.refl _ _).drew
  refine wpAnyH_take (i := 0) (v := ?_) rfl (by kernel_rfl) (by kernel_rfl) (by kernel_rfl) (fun _ _ _ h => h) (Or.inl ⟨by rfl, ?_⟩) (by assumption) ?_
  rotate_left
  · intro w hSw
    (try dsimp only at hSw)
    go_simp
    (try with_reducible rfl)
  try simp only [Act.put, List.getElem_toArray, List.getElem_cons_zero, List.setIfInBounds_toArray, List.set_cons_zero, List.set_cons_succ]
  refine wpAnyH_take (i := 1) (v := ?_) rfl (by kernel_rfl) (by kernel_rfl) (by kernel_rfl) (fun _ _ _ h => h) (Or.inl ⟨by rfl, ?_⟩) (by assumption) ?_
  rotate_left
  · intro w hSw
    (try dsimp only at hSw)
    go_simp
    (try with_reducible rfl)
  try simp only [Act.put, List.getElem_toArray, List.getElem_cons_zero, List.getElem_cons_succ, List.setIfInBounds_toArray, List.set_cons_zero, List.set_cons_succ]
  refine wpAnyH_take (i := 2) (v := ?_) rfl (by kernel_rfl) (by kernel_rfl) (by kernel_rfl) (fun _ _ _ h => h) (Or.inl ⟨by rfl, ?_⟩) (by assumption) ?_
  rotate_left
  · intro w hSw
    (try dsimp only at hSw)
    go_simp
    (try with_reducible rfl)
  try simp only [Act.put, List.getElem_toArray, List.getElem_cons_zero, List.getElem_cons_succ, List.setIfInBounds_toArray, List.set_cons_zero, List.set_cons_succ]
  refine wpAnyH_take (i := 3) (v := ?_) rfl (by kernel_rfl) (by kernel_rfl) (by kernel_rfl) (fun _ _ _ h => h) (Or.inl ⟨by rfl, ?_⟩) (by assumption) ?_
  rotate_left
  · intro w hSw
    (try dsimp only at hSw)
    go_simp
    (try with_reducible rfl)
  try simp only [Act.put, List.getElem_toArray, List.getElem_cons_zero, List.getElem_cons_succ, List.setIfInBounds_toArray, List.set_cons_zero, List.set_cons_succ]
  refine wpAnyH_take (i := 4) (v := ?_) rfl (by kernel_rfl) (by kernel_rfl) (by kernel_rfl) (fun _ _ _ h => h) (Or.inl ⟨by rfl, ?_⟩) (by assumption) ?_
  rotate_left
  · intro w hSw
    (try dsimp only at hSw)
    go_simp
    (try with_reducible rfl)
  try simp only [Act.put, List.getElem_toArray, List.getElem_cons_zero, List.getElem_cons_succ, List.setIfInBounds_toArray, List.set_cons_zero, List.set_cons_succ]
  refine wpAnyH_take (i := 5) (v := ?_) rfl (by kernel_rfl) (by kernel_rfl) (by kernel_rfl) (fun _ _ _ h => h) (Or.inl ⟨by rfl, ?_⟩) (by assumption) ?_
  rotate_left
  · intro w hSw
    (try dsimp only at hSw)
    go_simp
    (try with_reducible rfl)
  try simp only [Act.put, List.getElem_toArray, List.getElem_cons_zero, List.getElem_cons_succ, List.setIfInBounds_toArray, List.set_cons_zero, List.set_cons_succ]
  refine wpAnyH_take (i := 6) (v := ?_) rfl (by kernel_rfl) (by kernel_rfl) (by kernel_rfl) (fun _ _ _ h => h) (Or.inl ⟨by rfl, ?_⟩) (by assumption) ?_
  rotate_left
  · intro w hSw
    (try dsimp only at hSw)
    go_simp
    (try with_reducible rfl)
  try simp only [Act.put, List.getElem_toArray, List.getElem_cons_zero, List.getElem_cons_succ, List.setIfInBounds_toArray, List.set_cons_zero, List.set_cons_succ]
  refine wpAnyH_take (i := 7) (v := ?_) rfl (by kernel_rfl) (by kernel_rfl) (by kernel_rfl) (fun _ _ _ h => h) (Or.inl ⟨by rfl, ?_⟩) (by assumption) ?_
  rotate_left
  · intro w hSw
    (try dsimp only at hSw)
    go_simp
    (try with_reducible rfl)
  try simp only [Act.put, List.getElem_toArray, List.getElem_cons_zero, List.getElem_cons_succ, List.setIfInBounds_toArray, List.set_cons_zero, List.set_cons_succ]
  refine wpAnyH_ready (rs := [8]) (by kernel_rfl) (by simp) ?_
  refine AllReadyH.cons rfl (fun K hK => ?_) AllReadyH.nil
  go_simp
  refine ((HM0.out.on hHeld.2).canRun p).mono ?_
  rintro e u1 ⟨rfl, rfl⟩
  rw [HRn.out]
  first | show K _ _ | go_wp2_with fail
  refine hK.out _ _ ?_ (fun hHeld1 => ?_)
  · exact hHeld
  clear hK K
  try simp only [Act.put, List.getElem_toArray, List.getElem_cons_zero, List.getElem_cons_succ, List.setIfInBounds_toArray, List.set_cons_zero, List.set_cons_succ]
  refine wpAnyH_take (i := 9) (v := ?_) rfl (by kernel_rfl) (by kernel_rfl) (by kernel_rfl) (fun _ _ _ h => h) (Or.inl ⟨by rfl, ?_⟩) (by assumption) ?_
  rotate_left
  · intro w hSw
    (try dsimp only at hSw)
    go_simp
    (try with_reducible rfl)
  try simp only [Act.put, List.getElem_toArray, List.getElem_cons_zero, List.getElem_cons_succ, List.setIfInBounds_toArray, List.set_cons_zero, List.set_cons_succ]
  refine wpAnyH_done (by kernel_rfl) ?_ _
  have K1 := Lib.hid hHeld1.2
  clear hHeld hHeld1
  go_wp2_with fail
  refine wp_region_held_drew (S := fun w' => (w'.cell? ⟨xp, 0, none⟩ = some (.slice (some ⟨xb, 0, none⟩) 2048 2048) ∧ w'.cell? ⟨xp, 1, none⟩ = some mv ∧ w'.cell? ⟨tp, 1, none⟩ = some (.int .i64 p)) ∧ Kept No w w') (by kernel_rfl) ?_ (fun hHeld => ?_)
  · exact HS.out _ K1.out.drew
  refine wpAnyH_take (i := 0) (v := ?_) rfl (by kernel_rfl) (by kernel_rfl) (by kernel_rfl) (fun _ _ _ h => h) (Or.inl ⟨by rfl, ?_⟩) (by assumption) ?_
  rotate_left
  · intro w hSw
    (try dsimp only at hSw)
    go_simp
    (try with_reducible rfl)
  try simp only [Act.put, List.getElem_toArray, List.getElem_cons_zero, List.setIfInBounds_toArray, List.set_cons_zero, List.set_cons_succ]
  refine wpAnyH_take (i := 1) (v := ?_) rfl (by kernel_rfl) (by kernel_rfl) (by kernel_rfl) (fun _ _ _ h => h) (Or.inl ⟨by rfl, ?_⟩) (by assumption) ?_
  rotate_left
  · intro w hSw
    (try dsimp only at hSw)
    go_simp
    (try with_reducible rfl)
  try simp only [Act.put, List.getElem_toArray, List.getElem_cons_zero, List.getElem_cons_succ, List.setIfInBounds_toArray, List.set_cons_zero, List.set_cons_succ]
  refine wpAnyH_take (i := 2) (v := ?_) rfl (by kernel_rfl) (by kernel_rfl) (by kernel_rfl) (fun _ _ _ h => h) (Or.inl ⟨by rfl, ?_⟩) (by assumption) ?_
  rotate_left
  · intro w hSw
    (try dsimp only at hSw)
    go_simp
    (try with_reducible rfl)
  try simp only [Act.put, List.getElem_toArray, List.getElem_cons_zero, List.getElem_cons_succ, List.setIfInBounds_toArray, List.set_cons_zero, List.set_cons_succ]
  refine wpAnyH_take (i := 3) (v := undef) rfl (by kernel_rfl) (by kernel_rfl) (by kernel_rfl) (fun _ _ _ h => h) (Or.inr ⟨by rfl, rfl⟩) (by assumption) ?_
  try simp only [Act.put, List.getElem_toArray, List.getElem_cons_zero, List.getElem_cons_succ, List.setIfInBounds_toArray, List.set_cons_zero, List.set_cons_succ]
  refine wpAnyH_take (i := 4) (v := undef) rfl (by kernel_rfl) (by kernel_rfl) (by kernel_rfl) (fun _ _ _ h => h) (Or.inr ⟨by rfl, rfl⟩) (by assumption) ?_
  try simp only [Act.put, List.getElem_toArray, List.getElem_cons_zero, List.getElem_cons_succ, List.setIfInBounds_toArray, List.set_cons_zero, List.set_cons_succ]
  refine wpAnyH_take (i := 5) (v := undef) rfl (by kernel_rfl) (by kernel_rfl) (by kernel_rfl) (fun _ _ _ h => h) (Or.inr ⟨by rfl, rfl⟩) (by assumption) ?_
  try simp only [Act.put, List.getElem_toArray, List.getElem_cons_zero, List.getElem_cons_succ, List.setIfInBounds_toArray, List.set_cons_zero, List.set_cons_succ]
  refine wpAnyH_take (i := 6) (v := undef) rfl (by kernel_rfl) (by kernel_rfl) (by kernel_rfl) (fun _ _ _ h => h) (Or.inr ⟨by rfl, rfl⟩) (by assumption) ?_
  try simp only [Act.put, List.getElem_toArray, List.getElem_cons_zero, List.getElem_cons_succ, List.setIfInBounds_toArray, List.set_cons_zero, List.set_cons_succ]
  refine wpAnyH_take (i := 7) (v := undef) rfl (by kernel_rfl) (by kernel_rfl) (by kernel_rfl) (fun _ _ _ h => h) (Or.inr ⟨by rfl, rfl⟩) (by assumption) ?_
  try simp only [Act.put, List.getElem_toArray, List.getElem_cons_zero, List.getElem_cons_succ, List.setIfInBounds_toArray, List.set_cons_zero, List.set_cons_succ]
  refine wpAnyH_take (i := 8) (v := undef) rfl (by kernel_rfl) (by kernel_rfl) (by kernel_rfl) (fun _ _ _ h => h) (Or.inr ⟨by rfl, rfl⟩) (by assumption) ?_
  try simp only [Act.put, List.getElem_toArray, List.getElem_cons_zero, List.getElem_cons_succ, List.setIfInBounds_toArray, List.set_cons_zero, List.set_cons_succ]
  refine wpAnyH_take (i := 9) (v := undef) rfl (by kernel_rfl) (by kernel_rfl) (by kernel_rfl) (fun _ _ _ h => h) (Or.inr ⟨by rfl, rfl⟩) (by assumption) ?_
  try simp only [Act.put, List.getElem_toArray, List.getElem_cons_zero, List.getElem_cons_succ, List.setIfInBounds_toArray, List.set_cons_zero, List.set_cons_succ]
  refine wpAnyH_take (i := 10) (v := undef) rfl (by kernel_rfl) (by kernel_rfl) (by kernel_rfl) (fun _ _ _ h => h) (Or.inr ⟨by rfl, rfl⟩) (by assumption) ?_
  try simp only [Act.put, List.getElem_toArray, List.getElem_cons_zero, List.getElem_cons_succ, List.setIfInBounds_toArray, List.set_cons_zero, List.set_cons_succ]
  refine wpAnyH_take (i := 11) (v := undef) rfl (by kernel_rfl) (by kernel_rfl) (by kernel_rfl) (fun _ _ _ h => h) (Or.inr ⟨by rfl, rfl⟩) (by assumption) ?_
  try simp only [Act.put, List.getElem_toArray, List.getElem_cons_zero, List.getElem_cons_succ, List.setIfInBounds_toArray, List.set_cons_zero, List.set_cons_succ]
  refine wpAnyH_take (i := 12) (v := undef) rfl (by kernel_rfl) (by kernel_rfl) (by kernel_rfl) (fun _ _ _ h => h) (Or.inr ⟨by rfl, rfl⟩) (by assumption) ?_
  try simp only [Act.put, List.getElem_toArray, List.getElem_cons_zero, List.getElem_cons_succ, List.setIfInBounds_toArray, List.set_cons_zero, List.set_cons_succ]
  refine wpAnyH_take (i := 13) (v := undef) rfl (by kernel_rfl) (by kernel_rfl) (by kernel_rfl) (fun _ _ _ h => h) (Or.inr ⟨by rfl, rfl⟩) (by assumption) ?_
  try simp only [Act.put, List.getElem_toArray, List.getElem_cons_zero, List.getElem_cons_succ, List.setIfInBounds_toArray, List.set_cons_zero, List.set_cons_succ]
  refine wpAnyH_take (i := 14) (v := ?_) rfl (by kernel_rfl) (by kernel_rfl) (by kernel_rfl) (fun _ _ _ h => h) (Or.inl ⟨by rfl, ?_⟩) (by assumption) ?_
  rotate_left
  · intro w hSw
    (try dsimp only at hSw)
    go_simp
    (try with_reducible rfl)
  try simp only [Act.put, List.getElem_toArray, List.getElem_cons_zero, List.getElem_cons_succ, List.setIfInBounds_toArray, List.set_cons_zero, List.set_cons_succ]
  refine wpAnyH_done (by kernel_rfl) ?_ _
  have K2 := Lib.hid hHeld.2
  clear hHeld
  go_wp2_with fail
  go_ret
  exact HM0.out.same 5 K2.out

set_option maxRecDepth 100000 in
set_option maxHeartbeats 2000000 in
theorem rstep_far {w0 w : World} {xp xb tp tr : Nat} {mv : Value} {M : List ZR} {r : List Int} {q : Nat} {l : List Nat} (h : RMach w0 w xp xb tp tr mv M r (q : Int) l) (hr : Proofs.YtlnjcaicagcinaaGreat.canRun (M.map ZR.z) q = true) (hl : 2048 < q + 4) :
    Calls Tryz.prog 9 #[.pointer (some ⟨xp, 0, none⟩), .pointer (some ⟨tp, 0, none⟩)] w fun e w' => RDid w0 w w' e xp xb tp tr mv M ⟨5, r, q, l⟩ := by
  have HM0 := Lib.hid h
  have HRn := Lib.hid hr
  have hb2 := canRun_bounds h.good hr
  have i5 : 2048 < (q : Int) + 4 := by omega
  have i6 : IntKind.i64.wrap ((q : Int) + 4) = (q : Int) + 4 := IntWalk.i64_in _ (by omega)
  have HS := Lib.hid (fun v (k : Kept No w v) => (⟨⟨(HM0.out.on k).x0, (HM0.out.on k).x1, (HM0.out.on k).s1⟩, k⟩ : (v.cell? ⟨xp, 0, none⟩ = some (.slice (some ⟨xb, 0, none⟩) 2048 2048) ∧ v.cell? ⟨xp, 1, none⟩ = some mv ∧ v.cell? ⟨tp, 1, none⟩ = some (.int .i64 q)) ∧ Kept No w v))
  clear h hr hl hb2
  go_enter Tryz.func9, Tryz.ntmps9
  go_wp2_with fail
  refine wp_region_held_drew (S := fun w' => (w'.cell? ⟨xp, 0, none⟩ = some (.slice (some ⟨xb, 0, none⟩) 2048 2048) ∧ w'.cell? ⟨xp, 1, none⟩ = some mv ∧ w'.cell? ⟨tp, 1, none⟩ = some (.int .i64 q)) ∧ Kept No w w') (by kernel_rfl) ?_ (fun hHeld => ?_)
  · exact HS.out _ (Kept.refl _ _).drew
  refine wpAnyH_take (i := 0) (v := ?_) rfl (by kernel_rfl) (by kernel_rfl) (by kernel_rfl) (fun _ _ _ h => h) (Or.inl ⟨by rfl, ?_⟩) (by assumption) ?_
  rotate_left
  · intro w hSw
    (try dsimp only at hSw)
    go_simp
    (try with_reducible rfl)
  try simp only [Act.put, List.getElem_toArray, List.getElem_cons_zero, List.setIfInBounds_toArray, List.set_cons_zero, List.set_cons_succ]
  refine wpAnyH_take (i := 1) (v := ?_) rfl (by kernel_rfl) (by kernel_rfl) (by kernel_rfl) (fun _ _ _ h => h) (Or.inl ⟨by rfl, ?_⟩) (by assumption) ?_
  rotate_left
  · intro w hSw
    (try dsimp only at hSw)
    go_simp
    (try with_reducible rfl)
  try simp only [Act.put, List.getElem_toArray, List.getElem_cons_zero, List.getElem_cons_succ, List.setIfInBounds_toArray, List.set_cons_zero, List.set_cons_succ]
  refine wpAnyH_take (i := 2) (v := ?_) rfl (by kernel_rfl) (by kernel_rfl) (by kernel_rfl) (fun _ _ _ h => h) (Or.inl ⟨by rfl, ?_⟩) (by assumption) ?_
  rotate_left
  · intro w hSw
    (try dsimp only at hSw)
    go_simp
    (try with_reducible rfl)
  try simp only [Act.put, List.getElem_toArray, List.getElem_cons_zero, List.getElem_cons_succ, List.setIfInBounds_toArray, List.set_cons_zero, List.set_cons_succ]
  refine wpAnyH_take (i := 3) (v := ?_) rfl (by kernel_rfl) (by kernel_rfl) (by kernel_rfl) (fun _ _ _ h => h) (Or.inl ⟨by rfl, ?_⟩) (by assumption) ?_
  rotate_left
  · intro w hSw
    (try dsimp only at hSw)
    go_simp
    (try with_reducible rfl)
  try simp only [Act.put, List.getElem_toArray, List.getElem_cons_zero, List.getElem_cons_succ, List.setIfInBounds_toArray, List.set_cons_zero, List.set_cons_succ]
  refine wpAnyH_take (i := 4) (v := ?_) rfl (by kernel_rfl) (by kernel_rfl) (by kernel_rfl) (fun _ _ _ h => h) (Or.inl ⟨by rfl, ?_⟩) (by assumption) ?_
  rotate_left
  · intro w hSw
    (try dsimp only at hSw)
    go_simp
    (try with_reducible rfl)
  try simp only [Act.put, List.getElem_toArray, List.getElem_cons_zero, List.getElem_cons_succ, List.setIfInBounds_toArray, List.set_cons_zero, List.set_cons_succ]
  refine wpAnyH_take (i := 5) (v := ?_) rfl (by kernel_rfl) (by kernel_rfl) (by kernel_rfl) (fun _ _ _ h => h) (Or.inl ⟨by rfl, ?_⟩) (by assumption) ?_
  rotate_left
  · intro w hSw
    (try dsimp only at hSw)
    go_simp
    (try with_reducible rfl)
  try simp only [Act.put, List.getElem_toArray, List.getElem_cons_zero, List.getElem_cons_succ, List.setIfInBounds_toArray, List.set_cons_zero, List.set_cons_succ]
  refine wpAnyH_take (i := 6) (v := ?_) rfl (by kernel_rfl) (by kernel_rfl) (by kernel_rfl) (fun _ _ _ h => h) (Or.inl ⟨by rfl, ?_⟩) (by assumption) ?_
  rotate_left
  · intro w hSw
    (try dsimp only at hSw)
    go_simp
    (try with_reducible rfl)
  try simp only [Act.put, List.getElem_toArray, List.getElem_cons_zero, List.getElem_cons_succ, List.setIfInBounds_toArray, List.set_cons_zero, List.set_cons_succ]
  refine wpAnyH_take (i := 7) (v := ?_) rfl (by kernel_rfl) (by kernel_rfl) (by kernel_rfl) (fun _ _ _ h => h) (Or.inl ⟨by rfl, ?_⟩) (by assumption) ?_
  rotate_left
  · intro w hSw
    (try dsimp only at hSw)
    go_simp
    (try with_reducible rfl)
  try simp only [Act.put, List.getElem_toArray, List.getElem_cons_zero, List.getElem_cons_succ, List.setIfInBounds_toArray, List.set_cons_zero, List.set_cons_succ]
  refine wpAnyH_ready (rs := [8]) (by kernel_rfl) (by simp) ?_
  refine AllReadyH.cons rfl (fun K hK => ?_) AllReadyH.nil
  go_simp
  refine ((HM0.out.on hHeld.2).canRun q).mono ?_
  rintro e u1 ⟨rfl, rfl⟩
  rw [HRn.out]
  first | show K _ _ | go_wp2_with fail
  refine hK.out _ _ ?_ (fun hHeld1 => ?_)
  · exact hHeld
  clear hK K
  try simp only [Act.put, List.getElem_toArray, List.getElem_cons_zero, List.getElem_cons_succ, List.setIfInBounds_toArray, List.set_cons_zero, List.set_cons_succ]
  refine wpAnyH_take (i := 9) (v := ?_) rfl (by kernel_rfl) (by kernel_rfl) (by kernel_rfl) (fun _ _ _ h => h) (Or.inl ⟨by rfl, ?_⟩) (by assumption) ?_
  rotate_left
  · intro w hSw
    (try dsimp only at hSw)
    go_simp
    (try with_reducible rfl)
  try simp only [Act.put, List.getElem_toArray, List.getElem_cons_zero, List.getElem_cons_succ, List.setIfInBounds_toArray, List.set_cons_zero, List.set_cons_succ]
  refine wpAnyH_done (by kernel_rfl) ?_ _
  have K1 := Lib.hid hHeld1.2
  clear hHeld hHeld1
  go_wp2_with fail
  refine wp_region_held_drew (S := fun w' => (w'.cell? ⟨xp, 0, none⟩ = some (.slice (some ⟨xb, 0, none⟩) 2048 2048) ∧ w'.cell? ⟨xp, 1, none⟩ = some mv ∧ w'.cell? ⟨tp, 1, none⟩ = some (.int .i64 q)) ∧ Kept No w w') (by kernel_rfl) ?_ (fun hHeld => ?_)
  · exact HS.out _ K1.out.drew
  refine wpAnyH_take (i := 0) (v := ?_) rfl (by kernel_rfl) (by kernel_rfl) (by kernel_rfl) (fun _ _ _ h => h) (Or.inl ⟨by rfl, ?_⟩) (by assumption) ?_
  rotate_left
  · intro w hSw
    (try dsimp only at hSw)
    go_simp
    (try with_reducible rfl)
  try simp only [Act.put, List.getElem_toArray, List.getElem_cons_zero, List.setIfInBounds_toArray, List.set_cons_zero, List.set_cons_succ]
  refine wpAnyH_take (i := 1) (v := ?_) rfl (by kernel_rfl) (by kernel_rfl) (by kernel_rfl) (fun _ _ _ h => h) (Or.inl ⟨by rfl, ?_⟩) (by assumption) ?_
  rotate_left
  · intro w hSw
    (try dsimp only at hSw)
    go_simp
    (try with_reducible rfl)
  try simp only [Act.put, List.getElem_toArray, List.getElem_cons_zero, List.getElem_cons_succ, List.setIfInBounds_toArray, List.set_cons_zero, List.set_cons_succ]
  refine wpAnyH_take (i := 2) (v := ?_) rfl (by kernel_rfl) (by kernel_rfl) (by kernel_rfl) (fun _ _ _ h => h) (Or.inl ⟨by rfl, ?_⟩) (by assumption) ?_
  rotate_left
  · intro w hSw
    (try dsimp only at hSw)
    go_simp
    (try with_reducible rfl)
  try simp only [Act.put, List.getElem_toArray, List.getElem_cons_zero, List.getElem_cons_succ, List.setIfInBounds_toArray, List.set_cons_zero, List.set_cons_succ]
  refine wpAnyH_take (i := 3) (v := ?_) rfl (by kernel_rfl) (by kernel_rfl) (by kernel_rfl) (fun _ _ _ h => h) (Or.inl ⟨by rfl, ?_⟩) (by assumption) ?_
  rotate_left
  · intro w hSw
    (try dsimp only at hSw)
    go_simp
    (try with_reducible rfl)
  try simp only [Act.put, List.getElem_toArray, List.getElem_cons_zero, List.getElem_cons_succ, List.setIfInBounds_toArray, List.set_cons_zero, List.set_cons_succ]
  refine wpAnyH_take (i := 4) (v := ?_) rfl (by kernel_rfl) (by kernel_rfl) (by kernel_rfl) (fun _ _ _ h => h) (Or.inl ⟨by rfl, ?_⟩) (by assumption) ?_
  rotate_left
  · intro w hSw
    (try dsimp only at hSw)
    go_simp
    (try with_reducible rfl)
  try simp only [Act.put, List.getElem_toArray, List.getElem_cons_zero, List.getElem_cons_succ, List.setIfInBounds_toArray, List.set_cons_zero, List.set_cons_succ]
  refine wpAnyH_take (i := 5) (v := ?_) rfl (by kernel_rfl) (by kernel_rfl) (by kernel_rfl) (fun _ _ _ h => h) (Or.inl ⟨by rfl, ?_⟩) (by assumption) ?_
  rotate_left
  · intro w hSw
    (try dsimp only at hSw)
    go_simp
    (try with_reducible rfl)
  try simp only [Act.put, List.getElem_toArray, List.getElem_cons_zero, List.getElem_cons_succ, List.setIfInBounds_toArray, List.set_cons_zero, List.set_cons_succ]
  refine wpAnyH_take (i := 6) (v := ?_) rfl (by kernel_rfl) (by kernel_rfl) (by kernel_rfl) (fun _ _ _ h => h) (Or.inl ⟨by rfl, ?_⟩) (by assumption) ?_
  rotate_left
  · intro w hSw
    (try dsimp only at hSw)
    go_simp
    (try with_reducible rfl)
  try simp only [Act.put, List.getElem_toArray, List.getElem_cons_zero, List.getElem_cons_succ, List.setIfInBounds_toArray, List.set_cons_zero, List.set_cons_succ]
  refine wpAnyH_take (i := 7) (v := ?_) rfl (by kernel_rfl) (by kernel_rfl) (by kernel_rfl) (fun _ _ _ h => h) (Or.inl ⟨by rfl, ?_⟩) (by assumption) ?_
  rotate_left
  · intro w hSw
    (try dsimp only at hSw)
    go_simp
    (try with_reducible rfl)
  try simp only [Act.put, List.getElem_toArray, List.getElem_cons_zero, List.getElem_cons_succ, List.setIfInBounds_toArray, List.set_cons_zero, List.set_cons_succ]
  refine wpAnyH_take (i := 8) (v := ?_) rfl (by kernel_rfl) (by kernel_rfl) (by kernel_rfl) (fun _ _ _ h => h) (Or.inl ⟨by rfl, ?_⟩) (by assumption) ?_
  rotate_left
  · intro w hSw
    (try dsimp only at hSw)
    go_simp
    (try with_reducible rfl)
  try simp only [Act.put, List.getElem_toArray, List.getElem_cons_zero, List.getElem_cons_succ, List.setIfInBounds_toArray, List.set_cons_zero, List.set_cons_succ]
  refine wpAnyH_take (i := 9) (v := ?_) rfl (by kernel_rfl) (by kernel_rfl) (by kernel_rfl) (fun _ _ _ h => h) (Or.inl ⟨by rfl, ?_⟩) (by assumption) ?_
  rotate_left
  · intro w hSw
    (try dsimp only at hSw)
    go_simp
    (try with_reducible rfl)
  try simp only [Act.put, List.getElem_toArray, List.getElem_cons_zero, List.getElem_cons_succ, List.setIfInBounds_toArray, List.set_cons_zero, List.set_cons_succ]
  refine wpAnyH_take (i := 10) (v := ?_) rfl (by kernel_rfl) (by kernel_rfl) (by kernel_rfl) (fun _ _ _ h => h) (Or.inl ⟨by rfl, ?_⟩) (by assumption) ?_
  rotate_left
  · intro w hSw
    (try dsimp only at hSw)
    go_simp
    (try with_reducible rfl)
  try simp only [Act.put, List.getElem_toArray, List.getElem_cons_zero, List.getElem_cons_succ, List.setIfInBounds_toArray, List.set_cons_zero, List.set_cons_succ]
  refine wpAnyH_take (i := 11) (v := ?_) rfl (by kernel_rfl) (by kernel_rfl) (by kernel_rfl) (fun _ _ _ h => h) (Or.inl ⟨by rfl, ?_⟩) (by assumption) ?_
  rotate_left
  · intro w hSw
    (try dsimp only at hSw)
    go_simp
    (try with_reducible rfl)
  try simp only [Act.put, List.getElem_toArray, List.getElem_cons_zero, List.getElem_cons_succ, List.setIfInBounds_toArray, List.set_cons_zero, List.set_cons_succ]
  refine wpAnyH_take (i := 12) (v := ?_) rfl (by kernel_rfl) (by kernel_rfl) (by kernel_rfl) (fun _ _ _ h => h) (Or.inl ⟨by rfl, ?_⟩) (by assumption) ?_
  rotate_left
  · intro w hSw
    (try dsimp only at hSw)
    go_simp
    (try with_reducible rfl)
  try simp only [Act.put, List.getElem_toArray, List.getElem_cons_zero, List.getElem_cons_succ, List.setIfInBounds_toArray, List.set_cons_zero, List.set_cons_succ]
  refine wpAnyH_take (i := 13) (v := ?_) rfl (by kernel_rfl) (by kernel_rfl) (by kernel_rfl) (fun _ _ _ h => h) (Or.inl ⟨by rfl, ?_⟩) (by assumption) ?_
  rotate_left
  · intro w hSw
    (try dsimp only at hSw)
    go_simp
    (try with_reducible rfl)
  try simp only [Act.put, List.getElem_toArray, List.getElem_cons_zero, List.getElem_cons_succ, List.setIfInBounds_toArray, List.set_cons_zero, List.set_cons_succ]
  refine wpAnyH_take (i := 14) (v := ?_) rfl (by kernel_rfl) (by kernel_rfl) (by kernel_rfl) (fun _ _ _ h => h) (Or.inl ⟨by rfl, ?_⟩) (by assumption) ?_
  rotate_left
  · intro w hSw
    (try dsimp only at hSw)
    go_simp
    (try with_reducible rfl)
  try simp only [Act.put, List.getElem_toArray, List.getElem_cons_zero, List.getElem_cons_succ, List.setIfInBounds_toArray, List.set_cons_zero, List.set_cons_succ]
  refine wpAnyH_done (by kernel_rfl) ?_ _
  have K2 := Lib.hid hHeld.2
  clear hHeld
  go_wp2_with fail
  go_ret
  exact HM0.out.same 5 K2.out

set_option maxRecDepth 100000 in
set_option maxHeartbeats 2000000 in
theorem rstep_code {w0 w : World} {xp xb tp tr : Nat} {mv : Value} {M : List ZR} {r : List Int} {q : Nat} {l : List Nat} (h : RMach w0 w xp xb tp tr mv M r (q : Int) l) (hr : Proofs.YtlnjcaicagcinaaGreat.canRun (M.map ZR.z) q = true) (hl : q + 4 ≤ 2048) (hg : ∀ v, Calls Tryz.prog 26 #[.int .u32 (wordAt l q : Nat)] v fun e v' => e = .returned (.tuple #[.agg #[.int .i64 0, .int .i64 0, .int .i64 0, .int .i64 0], .bool false]) ∧ Kept No v v') :
    Calls Tryz.prog 9 #[.pointer (some ⟨xp, 0, none⟩), .pointer (some ⟨tp, 0, none⟩)] w fun e w' => RDid w0 w w' e xp xb tp tr mv M ⟨1, r, q, l⟩ := by
  have HM0 := Lib.hid h
  have HRn := Lib.hid hr
  have HL := Lib.hid hl
  have HG := Lib.hid hg
  have hb2 := canRun_bounds h.good hr
  have i5 : ¬ 2048 < (q : Int) + 4 := by omega
  have i6 : IntKind.i64.wrap ((q : Int) + 4) = (q : Int) + 4 := IntWalk.i64_in _ (by omega)
  have HS := Lib.hid (fun v (k : Kept No w v) => (⟨⟨(HM0.out.on k).x0, (HM0.out.on k).x1, (HM0.out.on k).s1⟩, k⟩ : (v.cell? ⟨xp, 0, none⟩ = some (.slice (some ⟨xb, 0, none⟩) 2048 2048) ∧ v.cell? ⟨xp, 1, none⟩ = some mv ∧ v.cell? ⟨tp, 1, none⟩ = some (.int .i64 q)) ∧ Kept No w v))
  clear h hr hl hb2 hg
  go_enter Tryz.func9, Tryz.ntmps9
  go_wp2_with fail
  refine wp_region_held_drew (S := fun w' => (w'.cell? ⟨xp, 0, none⟩ = some (.slice (some ⟨xb, 0, none⟩) 2048 2048) ∧ w'.cell? ⟨xp, 1, none⟩ = some mv ∧ w'.cell? ⟨tp, 1, none⟩ = some (.int .i64 q)) ∧ Kept No w w') (by kernel_rfl) ?_ (fun hHeld => ?_)
  · exact HS.out _ (Kept.refl _ _).drew
  refine wpAnyH_take (i := 0) (v := ?_) rfl (by kernel_rfl) (by kernel_rfl) (by kernel_rfl) (fun _ _ _ h => h) (Or.inl ⟨by rfl, ?_⟩) (by assumption) ?_
  rotate_left
  · intro w hSw
    (try dsimp only at hSw)
    go_simp
    (try with_reducible rfl)
  try simp only [Act.put, List.getElem_toArray, List.getElem_cons_zero, List.setIfInBounds_toArray, List.set_cons_zero, List.set_cons_succ]
  refine wpAnyH_take (i := 1) (v := ?_) rfl (by kernel_rfl) (by kernel_rfl) (by kernel_rfl) (fun _ _ _ h => h) (Or.inl ⟨by rfl, ?_⟩) (by assumption) ?_
  rotate_left
  · intro w hSw
    (try dsimp only at hSw)
    go_simp
    (try with_reducible rfl)
  try simp only [Act.put, List.getElem_toArray, List.getElem_cons_zero, List.getElem_cons_succ, List.setIfInBounds_toArray, List.set_cons_zero, List.set_cons_succ]
  refine wpAnyH_take (i := 2) (v := ?_) rfl (by kernel_rfl) (by kernel_rfl) (by kernel_rfl) (fun _ _ _ h => h) (Or.inl ⟨by rfl, ?_⟩) (by assumption) ?_
  rotate_left
  · intro w hSw
    (try dsimp only at hSw)
    go_simp
    (try with_reducible rfl)
  try simp only [Act.put, List.getElem_toArray, List.getElem_cons_zero, List.getElem_cons_succ, List.setIfInBounds_toArray, List.set_cons_zero, List.set_cons_succ]
  refine wpAnyH_take (i := 3) (v := ?_) rfl (by kernel_rfl) (by kernel_rfl) (by kernel_rfl) (fun _ _ _ h => h) (Or.inl ⟨by rfl, ?_⟩) (by assumption) ?_
  rotate_left
  · intro w hSw
    (try dsimp only at hSw)
    go_simp
    (try with_reducible rfl)
  try simp only [Act.put, List.getElem_toArray, List.getElem_cons_zero, List.getElem_cons_succ, List.setIfInBounds_toArray, List.set_cons_zero, List.set_cons_succ]
  refine wpAnyH_take (i := 4) (v := ?_) rfl (by kernel_rfl) (by kernel_rfl) (by kernel_rfl) (fun _ _ _ h => h) (Or.inl ⟨by rfl, ?_⟩) (by assumption) ?_
  rotate_left
  · intro w hSw
    (try dsimp only at hSw)
    go_simp
    (try with_reducible rfl)
  try simp only [Act.put, List.getElem_toArray, List.getElem_cons_zero, List.getElem_cons_succ, List.setIfInBounds_toArray, List.set_cons_zero, List.set_cons_succ]
  refine wpAnyH_take (i := 5) (v := ?_) rfl (by kernel_rfl) (by kernel_rfl) (by kernel_rfl) (fun _ _ _ h => h) (Or.inl ⟨by rfl, ?_⟩) (by assumption) ?_
  rotate_left
  · intro w hSw
    (try dsimp only at hSw)
    go_simp
    (try with_reducible rfl)
  try simp only [Act.put, List.getElem_toArray, List.getElem_cons_zero, List.getElem_cons_succ, List.setIfInBounds_toArray, List.set_cons_zero, List.set_cons_succ]
  refine wpAnyH_take (i := 6) (v := ?_) rfl (by kernel_rfl) (by kernel_rfl) (by kernel_rfl) (fun _ _ _ h => h) (Or.inl ⟨by rfl, ?_⟩) (by assumption) ?_
  rotate_left
  · intro w hSw
    (try dsimp only at hSw)
    go_simp
    (try with_reducible rfl)
  try simp only [Act.put, List.getElem_toArray, List.getElem_cons_zero, List.getElem_cons_succ, List.setIfInBounds_toArray, List.set_cons_zero, List.set_cons_succ]
  refine wpAnyH_take (i := 7) (v := ?_) rfl (by kernel_rfl) (by kernel_rfl) (by kernel_rfl) (fun _ _ _ h => h) (Or.inl ⟨by rfl, ?_⟩) (by assumption) ?_
  rotate_left
  · intro w hSw
    (try dsimp only at hSw)
    go_simp
    (try with_reducible rfl)
  try simp only [Act.put, List.getElem_toArray, List.getElem_cons_zero, List.getElem_cons_succ, List.setIfInBounds_toArray, List.set_cons_zero, List.set_cons_succ]
  refine wpAnyH_ready (rs := [8]) (by kernel_rfl) (by simp) ?_
  refine AllReadyH.cons rfl (fun K hK => ?_) AllReadyH.nil
  go_simp
  refine ((HM0.out.on hHeld.2).canRun q).mono ?_
  rintro e u1 ⟨rfl, rfl⟩
  rw [HRn.out]
  first | show K _ _ | go_wp2_with fail
  refine hK.out _ _ ?_ (fun hHeld1 => ?_)
  · exact hHeld
  clear hK K
  try simp only [Act.put, List.getElem_toArray, List.getElem_cons_zero, List.getElem_cons_succ, List.setIfInBounds_toArray, List.set_cons_zero, List.set_cons_succ]
  refine wpAnyH_take (i := 9) (v := ?_) rfl (by kernel_rfl) (by kernel_rfl) (by kernel_rfl) (fun _ _ _ h => h) (Or.inl ⟨by rfl, ?_⟩) (by assumption) ?_
  rotate_left
  · intro w hSw
    (try dsimp only at hSw)
    go_simp
    (try with_reducible rfl)
  try simp only [Act.put, List.getElem_toArray, List.getElem_cons_zero, List.getElem_cons_succ, List.setIfInBounds_toArray, List.set_cons_zero, List.set_cons_succ]
  refine wpAnyH_done (by kernel_rfl) ?_ _
  have K1 := Lib.hid hHeld1.2
  clear hHeld hHeld1
  go_wp2_with fail
  refine wp_region_held_drew (S := fun w' => (w'.cell? ⟨xp, 0, none⟩ = some (.slice (some ⟨xb, 0, none⟩) 2048 2048) ∧ w'.cell? ⟨xp, 1, none⟩ = some mv ∧ w'.cell? ⟨tp, 1, none⟩ = some (.int .i64 q)) ∧ Kept No w w') (by kernel_rfl) ?_ (fun hHeld => ?_)
  · exact HS.out _ K1.out.drew
  refine wpAnyH_take (i := 0) (v := ?_) rfl (by kernel_rfl) (by kernel_rfl) (by kernel_rfl) (fun _ _ _ h => h) (Or.inl ⟨by rfl, ?_⟩) (by assumption) ?_
  rotate_left
  · intro w hSw
    (try dsimp only at hSw)
    go_simp
    (try with_reducible rfl)
  try simp only [Act.put, List.getElem_toArray, List.getElem_cons_zero, List.setIfInBounds_toArray, List.set_cons_zero, List.set_cons_succ]
  refine wpAnyH_take (i := 1) (v := ?_) rfl (by kernel_rfl) (by kernel_rfl) (by kernel_rfl) (fun _ _ _ h => h) (Or.inl ⟨by rfl, ?_⟩) (by assumption) ?_
  rotate_left
  · intro w hSw
    (try dsimp only at hSw)
    go_simp
    (try with_reducible rfl)
  try simp only [Act.put, List.getElem_toArray, List.getElem_cons_zero, List.getElem_cons_succ, List.setIfInBounds_toArray, List.set_cons_zero, List.set_cons_succ]
  refine wpAnyH_take (i := 2) (v := ?_) rfl (by kernel_rfl) (by kernel_rfl) (by kernel_rfl) (fun _ _ _ h => h) (Or.inl ⟨by rfl, ?_⟩) (by assumption) ?_
  rotate_left
  · intro w hSw
    (try dsimp only at hSw)
    go_simp
    (try with_reducible rfl)
  try simp only [Act.put, List.getElem_toArray, List.getElem_cons_zero, List.getElem_cons_succ, List.setIfInBounds_toArray, List.set_cons_zero, List.set_cons_succ]
  refine wpAnyH_take (i := 3) (v := ?_) rfl (by kernel_rfl) (by kernel_rfl) (by kernel_rfl) (fun _ _ _ h => h) (Or.inl ⟨by rfl, ?_⟩) (by assumption) ?_
  rotate_left
  · intro w hSw
    (try dsimp only at hSw)
    go_simp
    (try with_reducible rfl)
  try simp only [Act.put, List.getElem_toArray, List.getElem_cons_zero, List.getElem_cons_succ, List.setIfInBounds_toArray, List.set_cons_zero, List.set_cons_succ]
  refine wpAnyH_take (i := 4) (v := ?_) rfl (by kernel_rfl) (by kernel_rfl) (by kernel_rfl) (fun _ _ _ h => h) (Or.inl ⟨by rfl, ?_⟩) (by assumption) ?_
  rotate_left
  · intro w hSw
    (try dsimp only at hSw)
    go_simp
    (try with_reducible rfl)
  try simp only [Act.put, List.getElem_toArray, List.getElem_cons_zero, List.getElem_cons_succ, List.setIfInBounds_toArray, List.set_cons_zero, List.set_cons_succ]
  refine wpAnyH_take (i := 5) (v := ?_) rfl (by kernel_rfl) (by kernel_rfl) (by kernel_rfl) (fun _ _ _ h => h) (Or.inl ⟨by rfl, ?_⟩) (by assumption) ?_
  rotate_left
  · intro w hSw
    (try dsimp only at hSw)
    go_simp
    (try with_reducible rfl)
  try simp only [Act.put, List.getElem_toArray, List.getElem_cons_zero, List.getElem_cons_succ, List.setIfInBounds_toArray, List.set_cons_zero, List.set_cons_succ]
  refine wpAnyH_take (i := 6) (v := ?_) rfl (by kernel_rfl) (by kernel_rfl) (by kernel_rfl) (fun _ _ _ h => h) (Or.inl ⟨by rfl, ?_⟩) (by assumption) ?_
  rotate_left
  · intro w hSw
    (try dsimp only at hSw)
    go_simp
    (try with_reducible rfl)
  try simp only [Act.put, List.getElem_toArray, List.getElem_cons_zero, List.getElem_cons_succ, List.setIfInBounds_toArray, List.set_cons_zero, List.set_cons_succ]
  refine wpAnyH_take (i := 7) (v := ?_) rfl (by kernel_rfl) (by kernel_rfl) (by kernel_rfl) (fun _ _ _ h => h) (Or.inl ⟨by rfl, ?_⟩) (by assumption) ?_
  rotate_left
  · intro w hSw
    (try dsimp only at hSw)
    go_simp
    (try with_reducible rfl)
  try simp only [Act.put, List.getElem_toArray, List.getElem_cons_zero, List.getElem_cons_succ, List.setIfInBounds_toArray, List.set_cons_zero, List.set_cons_succ]
  refine wpAnyH_take (i := 8) (v := ?_) rfl (by kernel_rfl) (by kernel_rfl) (by kernel_rfl) (fun _ _ _ h => h) (Or.inl ⟨by rfl, ?_⟩) (by assumption) ?_
  rotate_left
  · intro w hSw
    (try dsimp only at hSw)
    go_simp
    (try with_reducible rfl)
  try simp only [Act.put, List.getElem_toArray, List.getElem_cons_zero, List.getElem_cons_succ, List.setIfInBounds_toArray, List.set_cons_zero, List.set_cons_succ]
  refine wpAnyH_take (i := 9) (v := ?_) rfl (by kernel_rfl) (by kernel_rfl) (by kernel_rfl) (fun _ _ _ h => h) (Or.inl ⟨by rfl, ?_⟩) (by assumption) ?_
  rotate_left
  · intro w hSw
    (try dsimp only at hSw)
    go_simp
    (try with_reducible rfl)
  try simp only [Act.put, List.getElem_toArray, List.getElem_cons_zero, List.getElem_cons_succ, List.setIfInBounds_toArray, List.set_cons_zero, List.set_cons_succ]
  refine wpAnyH_take (i := 10) (v := ?_) rfl (by kernel_rfl) (by kernel_rfl) (by kernel_rfl) (fun _ _ _ h => h) (Or.inl ⟨by rfl, ?_⟩) (by assumption) ?_
  rotate_left
  · intro w hSw
    (try dsimp only at hSw)
    go_simp
    (try with_reducible rfl)
  try simp only [Act.put, List.getElem_toArray, List.getElem_cons_zero, List.getElem_cons_succ, List.setIfInBounds_toArray, List.set_cons_zero, List.set_cons_succ]
  refine wpAnyH_take (i := 11) (v := ?_) rfl (by kernel_rfl) (by kernel_rfl) (by kernel_rfl) (fun _ _ _ h => h) (Or.inl ⟨by rfl, ?_⟩) (by assumption) ?_
  rotate_left
  · intro w hSw
    (try dsimp only at hSw)
    go_simp
    (try with_reducible rfl)
  try simp only [Act.put, List.getElem_toArray, List.getElem_cons_zero, List.getElem_cons_succ, List.setIfInBounds_toArray, List.set_cons_zero, List.set_cons_succ]
  refine wpAnyH_take (i := 12) (v := ?_) rfl (by kernel_rfl) (by kernel_rfl) (by kernel_rfl) (fun _ _ _ h => h) (Or.inl ⟨by rfl, ?_⟩) (by assumption) ?_
  rotate_left
  · intro w hSw
    (try dsimp only at hSw)
    go_simp
    (try with_reducible rfl)
  try simp only [Act.put, List.getElem_toArray, List.getElem_cons_zero, List.getElem_cons_succ, List.setIfInBounds_toArray, List.set_cons_zero, List.set_cons_succ]
  refine wpAnyH_take (i := 13) (v := ?_) rfl (by kernel_rfl) (by kernel_rfl) (by kernel_rfl) (fun _ _ _ h => h) (Or.inl ⟨by rfl, ?_⟩) (by assumption) ?_
  rotate_left
  · intro w hSw
    (try dsimp only at hSw)
    go_simp
    (try with_reducible rfl)
  try simp only [Act.put, List.getElem_toArray, List.getElem_cons_zero, List.getElem_cons_succ, List.setIfInBounds_toArray, List.set_cons_zero, List.set_cons_succ]
  refine wpAnyH_take (i := 14) (v := ?_) rfl (by kernel_rfl) (by kernel_rfl) (by kernel_rfl) (fun _ _ _ h => h) (Or.inl ⟨by rfl, ?_⟩) (by assumption) ?_
  rotate_left
  · intro w hSw
    (try dsimp only at hSw)
    go_simp
    (try with_reducible rfl)
  try simp only [Act.put, List.getElem_toArray, List.getElem_cons_zero, List.getElem_cons_succ, List.setIfInBounds_toArray, List.set_cons_zero, List.set_cons_succ]
  refine wpAnyH_done (by kernel_rfl) ?_ _
  have K2 := Lib.hid hHeld.2
  have x0 := hHeld.1.1
  have x1 := hHeld.1.2.1
  have s1 := hHeld.1.2.2
  clear hHeld
  go_wp2_with fail
  refine (rword_any (HM0.out.on K2.out) q HL.out).mono ?_
  rintro e u2 ⟨rfl, rfl⟩
  go_wp2_with fail
  refine (HG.out _).mono ?_
  rintro e w3 ⟨rfl, k3⟩
  have K4 := Lib.hid ((K2.out.trans k3).alloc (.cells #[.int .i64 0, .int .i64 0, .int .i64 0, .int .i64 0] 57))
  clear k3 x0 x1 s1
  go_wp2_with fail
  go_ret
  exact HM0.out.same 1 K4.out

theorem out_if (d x : Out) : (if d.t = 0 then (⟨0, d.r, d.p, d.l⟩ : Out) else x) = if d.t = 0 then d else x := by
  obtain ⟨t, r, p, l⟩ := d
  simp only
  split
  · rename_i h
    rw [h]
  · rfl

theorem rstep_ins {w0 w : World} {xp xb tp tr : Nat} {mv : Value} {M : List ZR} {r : List Int} {q : Nat} {l : List Nat} (h : RMach w0 w xp xb tp tr mv M r (q : Int) l) (hrun : Proofs.YtlnjcaicagcinaaGreat.canRun (M.map ZR.z) (q : Int) = true) (hl : q + 4 ≤ 2048) {o c : Int} {a b : Nat} (hmay : MayP o a b c) (hg : GetsIns (wordAt l q) o c a b) :
    Calls Tryz.prog 9 #[.pointer (some ⟨xp, 0, none⟩), .pointer (some ⟨tp, 0, none⟩)] w fun e w' => RDid w0 w w' e xp xb tp tr mv M (if (doOf (M.map ZR.z) r ((q : Int) + 4) l o a b c).t = 0 then doOf (M.map ZR.z) r ((q : Int) + 4) l o a b c else ⟨(doOf (M.map ZR.z) r ((q : Int) + 4) l o a b c).t, r, q, (doOf (M.map ZR.z) r ((q : Int) + 4) l o a b c).l⟩) := by
  obtain ⟨h1, h2, h3, h4⟩ := hmay
  unfold isOpP at h1
  unfold isRegP at h2 h3
  unfold isNumP at h4
  have ha : a < 16 := by omega
  have hb : b < 16 := by omega
  have hcs : o = 1 ∨ o = 11 ∨ o = 12 ∨ o = 13 ∨ o = 14 ∨ o = 15 ∨ (16 ≤ o ∧ o ≤ 19) ∨ o = 20 ∨ o = 21 ∨ (2 ≤ o ∧ o ≤ 10) := by omega
  rcases hcs with rfl | rfl | rfl | rfl | rfl | rfl | ho | rfl | rfl | ho
  · exact rstep_set h hrun hl c ha hb hg
  · exact rstep_more h hrun hl c ha hb hg
  · rw [← out_if]; exact rstep_load h hrun hl c ha hb hg
  · rw [← out_if]; exact rstep_store h hrun hl c ha hb hg
  · rw [← out_if]; exact rstep_loadB h hrun hl c ha hb hg
  · rw [← out_if]; exact rstep_storB h hrun hl c ha hb hg
  · have hc : -131072 ≤ c ∧ c ≤ 131071 := by omega
    have hq : o = 16 ∨ o = 17 ∨ o = 18 ∨ o = 19 := by omega
    rcases hq with rfl | rfl | rfl | rfl
    · exact rstep_cond16 h hrun hl c ha hb hc hg
    · exact rstep_cond17 h hrun hl c ha hb hc hg
    · exact rstep_cond18 h hrun hl c ha hb hc hg
    · exact rstep_cond19 h hrun hl c ha hb hc hg
  · exact rstep_call h hrun hl c ha hb (by omega) hg
  · exact rstep_go h hrun hl c ha hb hg
  · obtain ⟨m, rfl⟩ : ∃ m : Nat, c = m := ⟨c.toNat, by omega⟩
    have e : doOf (M.map ZR.z) r ((q : Int) + 4) l o a b m = ⟨(reckonOf r o a b m).1, (reckonOf r o a b m).2, (q : Int) + 4, l⟩ := by
      unfold doOf
      rw [if_neg (by omega), if_neg (by omega), if_neg (by omega), if_neg (by omega), if_neg (by omega), if_neg (by omega), if_neg (by omega), if_neg (by omega), if_neg (by omega)]
      rfl
    rw [← out_if, e]
    exact rstep_alu h hrun hl o m ha hb ho.1 ho.2 (by omega) hg

theorem rstep_any {w0 w : World} {xp xb tp tr : Nat} {mv : Value} {M : List ZR} {r : List Int} {p : Int} {l : List Nat} (h : RMach w0 w xp xb tp tr mv M r p l) :
    Calls Tryz.prog 9 #[.pointer (some ⟨xp, 0, none⟩), .pointer (some ⟨tp, 0, none⟩)] w fun e w' => RDid w0 w w' e xp xb tp tr mv M (stepOf (M.map ZR.z) r p l) := by
  have hlen := h.len
  unfold stepOf
  by_cases hj : Proofs.YtlnjcaicagcinaaGreat.canRun (M.map ZR.z) p = false ∨ l.length < p.toNat + 4
  · rw [if_pos hj]
    cases hr : Proofs.YtlnjcaicagcinaaGreat.canRun (M.map ZR.z) p with
    | false => exact rstep_norun h hr
    | true =>
      have hb := canRun_bounds h.good hr
      obtain ⟨q, rfl⟩ : ∃ q : Nat, p = q := ⟨p.toNat, by omega⟩
      refine rstep_far h hr ?_
      rcases hj with hj | hj
      · rw [hr] at hj; cases hj
      · omega
  · rw [if_neg hj]
    have hr : Proofs.YtlnjcaicagcinaaGreat.canRun (M.map ZR.z) p = true := by
      cases hc : Proofs.YtlnjcaicagcinaaGreat.canRun (M.map ZR.z) p with
      | true => rfl
      | false => exact absurd (.inl hc) hj
    have hb := canRun_bounds h.good hr
    obtain ⟨q, rfl⟩ : ∃ q : Nat, p = q := ⟨p.toNat, by omega⟩
    have hl : q + 4 ≤ 2048 := by
      rcases Nat.lt_or_ge l.length (q + 4) with h1 | h1
      · exact absurd (.inr h1) hj
      · omega
    have hw := wordAt_lt h.bytes q
    rw [Int.toNat_natCast]
    by_cases hm : MayP (insO (wordAt l q)) (insA (wordAt l q)) (insB (wordAt l q)) (insC (wordAt l q))
    · rw [if_pos hm]
      exact rstep_ins h hr hl hm (fun v => (refGetIns_yes (wordAt l q) v hw hm).mono fun _ _ ⟨he, hk⟩ => ⟨he, Kept.of_below hk⟩)
    · rw [if_neg hm]
      exact rstep_code h hr hl (fun v => (refGetIns_no (wordAt l q) v hw hm).mono fun _ _ ⟨he, hk⟩ => ⟨he, Kept.of_below hk⟩)
end Go.Proofs.YtlnjcaicagcinaaGreat

/-
  A machine and the document's, side by side within a law's walk (layers 7 and 8). No conditions beyond those that each theorem names.
-/
namespace Go.Proofs.YtlnjcaicagcinaaGreat
open Go.ChangeShapes Go.WideShapes Go.ChangeAt Go.RowKit

/- the program's side stays where the document's goes on -/
theorem Run.theirs {w wr w' : World} {sp mp g zp mb xb tp tr : Nat} {lv : Value} {L : List ZR} {r : List Int} {p : Int} {l : List Nat} {c1 c2 c3 : List Value} (h : Run w wr sp mp g zp mb lv L r p l) (hx : RowAt wr xb 5 c1) (ht : RowAt wr tp RST c2) (hr : RowAt wr tr RGT c3) (ne : xb ≠ g)
    (low : w.heap.size ≤ xb ∧ w.heap.size ≤ tp ∧ w.heap.size ≤ tr) (k : Kept (Theirs xb tp tr) wr w') : Run w w' sp mp g zp mb lv L r p l := by
  refine ⟨⟨h.mach.st.keep k ?_, h.mach.mem.keep k ?_ ?_, h.mach.z.keep_row k ?_, h.mach.rl⟩, h.len, k.below h.below h.size ?_, h.low⟩
  · rintro (e | e | e)
    · exact RowAt.ne_type h.mach.st hx (by decide) e
    · exact RowAt.ne_type h.mach.st ht (by decide) e
    · exact RowAt.ne_type h.mach.st hr (by decide) e
  · rintro (e | e | e)
    · exact RowAt.ne_type (mhead h.mach.mem) hx (by decide) e
    · exact RowAt.ne_type (mhead h.mach.mem) ht (by decide) e
    · exact RowAt.ne_type (mhead h.mach.mem) hr (by decide) e
  · rintro (e | e | e)
    · exact ne e.symm
    · exact RowAt.ne_type (brow h.mach.mem.row) ht (by decide) e
    · exact RowAt.ne_type (brow h.mach.mem.row) hr (by decide) e
  · rintro j (rfl | rfl | rfl)
    · exact ⟨_, _, hx, by decide, by decide, by decide⟩
    · exact ⟨_, _, ht, by decide, by decide, by decide⟩
    · exact ⟨_, _, hr, by decide, by decide, by decide⟩
  · rintro j _ (rfl | rfl | rfl)
    · exact low.1
    · exact low.2.1
    · exact low.2.2
/- the document's side stays where the program's goes on -/
theorem RMach.mine {w wr w' : World} {xp xb tp tr sp g : Nat} {mv : Value} {M : List ZR} {r : List Int} {p : Int} {l l2 : List Nat} {c1 : List Value} (h : RMach w wr xp xb tp tr mv M r p l) (hs : RowAt wr sp ST c1) (hg : ByteRow wr g l2) (ne : xb ≠ g) (low : w.heap.size ≤ sp ∧ w.heap.size ≤ g)
    (k : Kept (Mine sp g) wr w') : RMach w w' xp xb tp tr mv M r p l := by
  have hgr := brow hg
  refine ⟨h.mach.keep k ?_, h.bytes.keep k ?_, h.row.keep k ?_, h.ints, h.good, h.small, h.st.keep k ?_, h.regs.keep k ?_, h.rl, h.len, h.fit, k.below h.below h.size ?_, h.low⟩
  · rintro (e | e)
    · exact RowAt.ne_type h.mach hs (by decide) e
    · exact RowAt.ne_type h.mach hgr (by decide) e
  · rintro (e | e)
    · exact RowAt.ne_type (brow h.bytes) hs (by decide) e
    · exact ne e
  · intro j hj e
    obtain ⟨ds, hd⟩ := h.row.own_row j hj
    rcases e with e | e
    · exact RowAt.ne_type hd hs (by decide) e
    · exact RowAt.ne_type hd hgr (by decide) e
  · rintro (e | e)
    · exact RowAt.ne_type h.st hs (by decide) e
    · exact RowAt.ne_type h.st hgr (by decide) e
  · rintro (e | e)
    · exact RowAt.ne_type h.regs hs (by decide) e
    · exact RowAt.ne_type h.regs hgr (by decide) e
  · rintro j _ (rfl | rfl)
    · exact low.1
    · exact low.2

structure Twin (w wr : World) (sp mp g zp mb : Nat) (lv : Value) (L : List ZR) (xp xb tp tr : Nat) (mv : Value) (M : List ZR) (r : List Int) (p : Int) (l : List Nat) : Prop where
  run : Run w wr sp mp g zp mb lv L r p l
  ref : RMach w wr xp xb tp tr mv M r p l
  same : M.map ZR.z = L.map ZR.z
  apart : xb ≠ g
theorem Twin.on {w wr w' : World} {sp mp g zp mb xp xb tp tr : Nat} {lv mv : Value} {L M : List ZR} {r : List Int} {p : Int} {l : List Nat} (h : Twin w wr sp mp g zp mb lv L xp xb tp tr mv M r p l) (k : Kept No wr w') : Twin w w' sp mp g zp mb lv L xp xb tp tr mv M r p l :=
  ⟨h.run.on k, h.ref.on k, h.same, h.apart⟩
/- both steps, one behind the other -/
theorem Twin.after1 {w wr w' : World} {e : Ending} {sp mp g zp mb xp xb tp tr : Nat} {lv mv : Value} {L M : List ZR} {r : List Int} {p : Int} {l : List Nat} (h : Twin w wr sp mp g zp mb lv L xp xb tp tr mv M r p l) (hd : DidIns wr w' e sp mp g (stepOf (L.map ZR.z) r p l)) : RMach w w' xp xb tp tr mv M r p l :=
  h.ref.mine h.run.mach.st h.run.mach.mem.row h.apart h.run.low hd.2.2.2
theorem Twin.after2 {w wr w1 w2 : World} {e e2 : Ending} {sp mp g zp mb xp xb tp tr : Nat} {lv mv : Value} {L M : List ZR} {r : List Int} {p : Int} {l : List Nat} (h : Twin w wr sp mp g zp mb lv L xp xb tp tr mv M r p l) (hd : DidIns wr w1 e sp mp g (stepOf (L.map ZR.z) r p l))
    (hr : RDid w w1 w2 e2 xp xb tp tr mv M (stepOf (M.map ZR.z) r p l)) :
    Twin w w2 sp mp g zp mb lv L xp xb tp tr mv M (stepOf (L.map ZR.z) r p l).r (stepOf (L.map ZR.z) r p l).p (stepOf (L.map ZR.z) r p l).l := by
  have h1 := h.after1 hd
  have hr2 := hr.2.1
  rw [h.same] at hr2
  exact ⟨(h.run.step hd).theirs (brow h1.bytes) h1.st h1.regs h.apart h1.low hr.2.2, hr2, h.same, h.apart⟩
/- a register is set on the program's side, then on the document's -/
theorem Twin.setR1 {w wr : World} {sp mp g zp mb xp xb tp tr : Nat} {lv mv : Value} {L M : List ZR} {r : List Int} {p : Int} {l : List Nat} (h : Twin w wr sp mp g zp mb lv L xp xb tp tr mv M r p l) {j : Nat} (hj : j < 16) (x : Int) :
    Run w (wr.setCell ⟨sp, j, none⟩ (.int .i32 x)) sp mp g zp mb lv L (r.set j x) p l ∧ RMach w (wr.setCell ⟨sp, j, none⟩ (.int .i32 x)) xp xb tp tr mv M r p l :=
  ⟨h.run.state (kept_set wr sp j (.int .i32 x)) (by rw [← cst_set r p h.run.mach.rl j hj x]; exact h.run.mach.st.setCell j _) (by rw [List.length_set]; exact h.run.mach.rl),
    h.ref.mine h.run.mach.st h.run.mach.mem.row h.apart h.run.low ((kept_set wr sp j (.int .i32 x)).wide2 fun _ e => .inl e)⟩
theorem Run.setR2 {w wr : World} {sp mp g zp mb xp xb tp tr : Nat} {lv mv : Value} {L M : List ZR} {r : List Int} {p : Int} {l : List Nat} {j : Nat} {x : Int} (h : Run w wr sp mp g zp mb lv L (r.set j x) p l) (h1 : RMach w wr xp xb tp tr mv M r p l) (same : M.map ZR.z = L.map ZR.z) (apart : xb ≠ g) (hx : I32 x) :
    Twin w (wr.setCell ⟨tr, j, none⟩ (.int .i32 x)) sp mp g zp mb lv L xp xb tp tr mv M (r.set j x) p l :=
  have h3 := h1.setR (a := j) x hx
  ⟨h.theirs (brow h1.bytes) h1.st h1.regs apart h1.low (h3.2.wide2 fun _ e => .inr (.inr e)), h3.1, same, apart⟩
/- sixteen registers of the document's, made -/
def zeros32 : Obj := .cells (regVals (List.replicate 16 0)).toArray RGT
theorem make_regs (w : World) : (Instr.makeSlice 23 (.int .i64 16) (.int .i64 16)).run Tryz.prog w = .ok (.slice (some ⟨w.heap.size, 0, none⟩) 16 16) (w.alloc zeros32) := by
  have h := run_make_row' (P := Tryz.prog) 23 RGT (.int .i32 0) 4 Tryz.underlying23 (by kernel_rfl) rfl .i64 .i64 16 (by omega) (by omega) w
  have e : Obj.cells (madeCells #[Value.int .i32 0] 16) RGT = zeros32 := by kernel_rfl
  rw [e] at h
  exact h
theorem newTwin {w w3 : World} {mp g zp mb xp xb n : Nat} {L M : List ZR} {lv mv : Value} {l : List Nat} (hd : Duo w w3 mp g zp mb xp xb L M mv 2000 l) (hz : ZAt w3 zp mb lv L 2000) (hl : L.length ≤ n) (hn : n ≤ 100) (at_ : Int) :
    Twin w (((w3.alloc (.cells (cst (List.replicate 16 0) at_).toArray ST)).alloc zeros32).alloc (.cells #[.slice (some ⟨w3.heap.size + 1, 0, none⟩) 16 16, .int .i64 at_] RST)) w3.heap.size mp g zp mb lv L xp xb (w3.heap.size + 2) (w3.heap.size + 1) mv M (List.replicate 16 0) at_ l := by
  have hs := hd.both.zoo.size
  have hlow := hd.low
  obtain ⟨w4, hw4⟩ : ∃ w4, w4 = w3.alloc (.cells (cst (List.replicate 16 0) at_).toArray ST) := ⟨_, rfl⟩
  have k4 : Kept No w3 w4 := by rw [hw4]; exact (Kept.refl _ _).alloc _
  have s4 : w4.heap.size = w3.heap.size + 1 := by rw [hw4]; simp
  rw [← hw4]
  obtain ⟨w5, hw5⟩ : ∃ w5, w5 = w4.alloc zeros32 := ⟨_, rfl⟩
  have k5 : Kept No w4 w5 := by rw [hw5]; exact (Kept.refl _ _).alloc _
  have s5 : w5.heap.size = w3.heap.size + 2 := by rw [hw5]; simp [s4]
  rw [← hw5]
  obtain ⟨w6, hw6⟩ : ∃ w6, w6 = w5.alloc (.cells #[.slice (some ⟨w3.heap.size + 1, 0, none⟩) 16 16, .int .i64 at_] RST) := ⟨_, rfl⟩
  have k6 : Kept No w5 w6 := by rw [hw6]; exact (Kept.refl _ _).alloc _
  rw [← hw6]
  have kk := (k4.trans k5).trans k6
  have b3 := hd.both.zoo.below
  have r4 : Run w w4 w3.heap.size mp g zp mb lv L (List.replicate 16 0) at_ l :=
    ⟨⟨by rw [hw4]; exact RowAt.new w3 ST (cst (List.replicate 16 0) at_), hd.mem.keep k4 (fun h => h) (fun h => h), hz.keep_row k4 fun _ h => h.elim, by simp⟩, hd.len, b3.trans (k4.none.mono (by omega)), by omega, by omega⟩
  refine ⟨r4.on (k5.trans k6), ?_, hd.both.same, hd.apart⟩
  have rr : RowAt w5 (w3.heap.size + 1) RGT (regVals (List.replicate 16 0)) := by
    have := RowAt.new w4 RGT (regVals (List.replicate 16 0))
    rw [s4] at this
    rw [hw5]
    exact this
  have rs : RowAt w6 (w3.heap.size + 2) RST [.slice (some ⟨w3.heap.size + 1, 0, none⟩) 16 16, .int .i64 at_] := by
    have := RowAt.new w5 RST [.slice (some ⟨w3.heap.size + 1, 0, none⟩) 16 16, .int .i64 at_]
    rw [s5] at this
    rw [hw6]
    exact this
  refine ⟨hd.mach.keep kk (fun h => h), hd.bytes.keep kk (fun h => h), hd.both.row.keep kk (fun _ _ h => h), hd.both.ints, ?_, ?_, rs, rr.keep k6 (fun h => h), by simp, hd.len, ?_, b3.trans (kk.none.mono (by omega)), by omega, by omega, by omega⟩
  · rw [hd.both.same]; exact hz.good
  · have := congrArg List.length hd.both.same
    simp at this
    omega
  · intro x hx
    have := List.eq_of_mem_replicate hx
    subst this
    unfold I32
    omega
end Go.Proofs.YtlnjcaicagcinaaGreat
