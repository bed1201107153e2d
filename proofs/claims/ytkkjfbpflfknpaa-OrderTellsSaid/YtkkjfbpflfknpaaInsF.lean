/-
  Contracts of the document's GetIns (layer 2). No conditions beyond those that each theorem names.
-/
import Derived.Test.YtkkjfbpflfknpaaInsB
import Derived.Test.YtkkjfbpflfknpaaMathB
import Derived.Test.YtkkjfbpflfknpaaInsC
import Derived.Test.YtkkjfbpflfknpaaRefS
namespace Go.Proofs.Ytkkjfbpflfknpaa
open Go.ChangeShapes Go.WideShapes Go.ChangeAt Go.RowKit

set_option maxRecDepth 100000 in
set_option maxHeartbeats 1000000 in
theorem refGetIns_yes (x : Nat) (w : World) (hx : x < 4294967296) (h : MayP (getN x 26 6 : Nat) (getN x 22 4 : Nat) (getN x 18 4 : Nat) (signI (getN x 0 18) 18)) :
    Calls Try.prog 34 #[.int .u32 x] w fun e w' => e = .returned (.tuple #[.agg #[.int .i64 (getN x 26 6 : Nat), .int .i64 (getN x 22 4 : Nat), .int .i64 (getN x 18 4 : Nat), .int .i64 (signI (getN x 0 18) 18)], .bool true]) ∧ Below w.heap.size w w' := by
  have H := Lib.hid h
  clear h
  have b4 := getN_lt x 0 18
  have b5 := signI_18 (getN x 0 18)
  simp only [Nat.reducePow] at b4
  go_enter Try.func34, Try.ntmps34
  go_wp2_with fail
  rw [← getN_26_div x hx, ← getN_22_div x, ← getN_18_div x, ← getN_0_mod x]
  refine (refSign_yes (getN x 0 18) 18 _ (by omega) (by omega) (by omega)).mono ?_
  rintro e w1 ⟨rfl, rfl⟩
  go_wp2_with fail
  refine (refMay_yes _ _ _ _ _ H.out).mono ?_
  rintro e w6 ⟨rfl, hb6⟩
  have hc := old_cell hb6
  have hf := old_mark hb6
  go_wp2_with fail
  have gs : ∀ i, i < 4 → w6.cell? ⟨w.heap.size, i, none⟩ = some (.int .i64 0) := by
    intro i hi
    rw [hc w.heap.size i (by simp; omega)]
    match i, hi with
    | 0, _ => simp [go_sem]
    | 1, _ => simp [go_sem]
    | 2, _ => simp [go_sem]
    | 3, _ => simp [go_sem]
  have g0 := gs 0 (by omega)
  have g1 := gs 1 (by omega)
  have g2 := gs 2 (by omega)
  have g3 := gs 3 (by omega)
  clear gs hc hf
  refine bodyPost_ret (v := .tuple #[.agg #[.int .i64 (getN x 26 6 : Nat), .int .i64 (getN x 22 4 : Nat), .int .i64 (getN x 18 4 : Nat), .int .i64 (signI (getN x 0 18) 18)], .bool true]) (by simp [results, Try.results34, go_sem, g0, g1, g2, g3]) rfl ⟨rfl, ?_⟩
  have hb7 := (((Below.refl w.heap.size w).alloc (Nat.le_refl _) _).alloc (by simp) _).trans (hb6.mono (by simp; omega))
  exact (((hb7.setCell (Nat.le_refl _) _).setCell (Nat.le_refl _) _).setCell (Nat.le_refl _) _).setCell (Nat.le_refl _) _

set_option maxRecDepth 100000 in
set_option maxHeartbeats 1000000 in
theorem refGetIns_no (x : Nat) (w : World) (hx : x < 4294967296) (h : ¬ MayP (getN x 26 6 : Nat) (getN x 22 4 : Nat) (getN x 18 4 : Nat) (signI (getN x 0 18) 18)) :
    Calls Try.prog 34 #[.int .u32 x] w fun e w' => e = .returned (.tuple #[.agg #[.int .i64 0, .int .i64 0, .int .i64 0, .int .i64 0], .bool false]) ∧ Below w.heap.size w w' := by
  have H := Lib.hid h
  clear h
  have b4 := getN_lt x 0 18
  have b5 := signI_18 (getN x 0 18)
  simp only [Nat.reducePow] at b4
  go_enter Try.func34, Try.ntmps34
  go_wp2_with fail
  rw [← getN_26_div x hx, ← getN_22_div x, ← getN_18_div x, ← getN_0_mod x]
  refine (refSign_yes (getN x 0 18) 18 _ (by omega) (by omega) (by omega)).mono ?_
  rintro e w1 ⟨rfl, rfl⟩
  go_wp2_with fail
  refine (refMay_no _ _ _ _ _ H.out).mono ?_
  rintro e w6 ⟨rfl, hb6⟩
  have hc := old_cell hb6
  have hf := old_mark hb6
  go_wp2_with fail
  have gs : ∀ i, i < 4 → w6.cell? ⟨w.heap.size, i, none⟩ = some (.int .i64 0) := by
    intro i hi
    rw [hc w.heap.size i (by simp; omega)]
    match i, hi with
    | 0, _ => simp [go_sem]
    | 1, _ => simp [go_sem]
    | 2, _ => simp [go_sem]
    | 3, _ => simp [go_sem]
  have g0 := gs 0 (by omega)
  have g1 := gs 1 (by omega)
  have g2 := gs 2 (by omega)
  have g3 := gs 3 (by omega)
  clear gs hc hf
  refine bodyPost_ret (v := .tuple #[.agg #[.int .i64 0, .int .i64 0, .int .i64 0, .int .i64 0], .bool false]) (by simp [results, Try.results34, go_sem, g0, g1, g2, g3]) rfl ⟨rfl, ?_⟩
  have hb7 := (((Below.refl w.heap.size w).alloc (Nat.le_refl _) _).alloc (by simp) _).trans (hb6.mono (by simp; omega))
  exact (((hb7.setCell (Nat.le_refl _) _).setCell (Nat.le_refl _) _).setCell (Nat.le_refl _) _).setCell (Nat.le_refl _) _

end Go.Proofs.Ytkkjfbpflfknpaa
