/-
  Contracts of slices.Insert, Replace, Clone, IndexFunc, ContainsFunc over holes, as package heap (layer 5) calls them. No conditions beyond those that each theorem names.
-/
import Derived.Test.YtiloflgpflgjnaaHeapA
namespace Go.Proofs.Ytiloflgpflgjnaa
open Go.ChangeShapes Go.WideShapes Go.ChangeAt Go.RowKit

theorem insert_any (v : Value) (A B : List (Int × Int)) (x : Int × Int) (vb : Nat) (w : World) (h : SRow HT 2 w v (A.length + B.length) (pcs (A ++ B))) (hx : RowAt w vb HT (pcs [x])) (hne : ¬ own v vb) (small : A.length + B.length ≤ 100000) :
    Calls Try.prog 34 #[v, .int .i64 (A.length : Nat), .slice (some ⟨vb, 0, none⟩) 1 1] w fun e w' => Inserted w w' v e (A ++ x :: B) := by
  by_cases hB : B = []
  · subst hB
    simp only [List.append_nil] at h
    exact insert_end v A x vb w h hx small
  · have hl := List.length_pos_iff.2 hB
    rcases h.is with ⟨_, h0⟩ | ⟨b, cap, rest, rfl, hr, h1, h2, h3⟩
    · omega
    · by_cases hc : cap = A.length + B.length
      · subst hc
        have : rest = [] := List.eq_nil_of_length_eq_zero (by omega)
        subst this
        rw [List.append_nil] at hr
        exact insert_grow b A B x vb w hr hB hx small
      · exact insert_shift b cap A B x rest vb w hr h1 h3 hB (by omega) hx hne small

def ZH : Value := .agg #[.int .i64 0, .int .i64 0]
theorem ZH_ones : Ones ZH.cells.toList := by intro u hu; simp [ZH, Value.cells] at hu; subst hu; rfl
theorem ZH_size : ZH.cells.size = 2 := rfl
theorem zeroH : ∀ w, (zeroValue HT).run Try.prog w = .ok ZH w := Try.zeroValue54

set_option maxRecDepth 100000 in
set_option maxHeartbeats 2000000 in
theorem replace_end (b cap : Nat) (A M : List (Int × Int)) (x : Int × Int) (rest : List Value) (vb : Nat) (w : World) (h : RowAt w b HT (pcs (A ++ M) ++ rest)) (hl : (A.length + M.length) * 2 + rest.length = cap * 2) (hm : cap ≤ maxLen) (hM : M ≠ []) (hx : RowAt w vb HT (pcs [x])) (small : A.length + M.length ≤ 100000) :
    Calls Try.prog 32 #[.slice (some ⟨b, 0, none⟩) (A.length + M.length) cap, .int .i64 (A.length : Nat), .int .i64 ((A.length : Nat) + (M.length : Nat)), .slice (some ⟨vb, 0, none⟩) 1 1] w fun e w' =>
      Inserted w w' (.slice (some ⟨b, 0, none⟩) (A.length + M.length) cap) e (A ++ [x]) := by
  have hA := pcs_length A
  have hMl := pcs_length M
  have hM0 : 0 < M.length := List.length_pos_iff.2 hM
  have h0 : RowAt w b HT (pcs A ++ (pcs M ++ rest)) := by simpa [pcs_append] using h
  have hap := fun ty => append_room (P := Try.prog) h0 hA 44 ty Try.underlying44 sizeH (one_src hx) (by simp [hMl]; omega) (show A.length + 1 ≤ cap by omega)
  have h1 := h0.set (pcs A ++ pcs [x] ++ (pcs M ++ rest).drop (pcs [x]).length)
  have k1 : Kept (· = b) w (w.setRow b (pcs A ++ pcs [x] ++ (pcs M ++ rest).drop (pcs [x]).length).toArray) := kept_row w b _
  have hr1 : ((pcs M ++ rest).drop (pcs [x]).length).length = (M.length - 1) * 2 + rest.length := by simp [hMl, pcs_length]; omega
  generalize (pcs M ++ rest).drop (pcs [x]).length = r1 at *
  have hAx : (pcs A ++ pcs [x]).length = (A.length + 1) * 2 := by simp [hA, pcs_length]; omega
  have hclr := fun ty c => clear_rows (P := Try.prog) h1 ty Try.underlying44 zeroH ((A.length + 1) * 2) (M.length - 1) c (by rw [List.length_append, hAx, hr1, ZH_size]; omega) ZH_ones
  have hsp := splice_end (pcs A ++ pcs [x]) r1 (zrs ZH (M.length - 1))
  rw [hAx] at hsp
  rw [hsp] at hclr
  have h2 := h1.set (pcs A ++ pcs [x] ++ zrs ZH (M.length - 1) ++ r1.drop (zrs ZH (M.length - 1)).length)
  have k2 := k1.setRow (g := b) (fun _ => rfl) (pcs A ++ pcs [x] ++ zrs ZH (M.length - 1) ++ r1.drop (zrs ZH (M.length - 1)).length).toArray
  have R1 : Hid (M.length = 1 → ∀ e, e = Ending.returned (.slice (some ⟨b, 0, none⟩) (A.length + 1) cap) → Inserted w _ (.slice (some ⟨b, 0, none⟩) (A.length + M.length) cap) e (A ++ [x])) := fun h1' e he =>
    ⟨_, he, ⟨.inr ⟨b, cap, r1, by simp, by rw [pcs_append]; exact h1, by simp; omega, by simp; omega, hm⟩, pcs_length _, pcs_ones _⟩, k1, fun j hj => .inl hj⟩
  have R2 : Hid (∀ e, e = Ending.returned (.slice (some ⟨b, 0, none⟩) (A.length + 1) cap) → Inserted w _ (.slice (some ⟨b, 0, none⟩) (A.length + M.length) cap) e (A ++ [x])) := fun e he =>
    ⟨_, he, ⟨.inr ⟨b, cap, zrs ZH (M.length - 1) ++ r1.drop (zrs ZH (M.length - 1)).length, by simp, by rw [pcs_append, ← List.append_assoc]; exact h2, by simp [zrs_length, ZH_size]; omega, by simp; omega, hm⟩, pcs_length _, pcs_ones _⟩, k2, fun j hj => .inl hj⟩
  clear h h0 h1 h2 k1 k2 hsp hx hAx hr1
  generalize (pcs A ++ pcs [x] ++ zrs ZH (M.length - 1) ++ r1.drop (zrs ZH (M.length - 1)).length).toArray = Y at *
  generalize (pcs A ++ pcs [x] ++ r1).toArray = X at *
  generalize A.length = a at *
  generalize M.length = m at *
  have hm' : cap ≤ 9223372036854775807 := hm
  have HA := Lib.hid hap
  clear hA hMl hap hm
  have e1 : ((a : Int) == (a : Int) + (m : Int)) = false := by simp; omega
  have e2 : ((a : Int) + (m : Int)).toNat = a + m := by omega
  have e3 : (0 : Int) ≤ (a : Int) + (m : Int) := by omega
  have e4 : (a : Int) ≤ (a : Int) + (m : Int) := by omega
  have e6 : a ≤ cap := by omega
  by_cases hm1 : m = 1
  · have e7 : ¬ (a : Int) + 1 < (a : Int) + (m : Int) := by omega
    go_enter Try.func32, Try.ntmps32
    go_wp2_with (at_builtin; refine Lib.wpList_append_run _ rfl _ _ _ _ rfl _ _ rfl rfl _ _ (HA.out _) ?_)
    all_goals
      go_ret
      exact R1.out hm1 _ rfl
  · have e7 : (a : Int) + 1 < (a : Int) + (m : Int) := by omega
    have e8 : ¬ cap = a + 1 := by omega
    have e9 : a + m - (a + 1) = m - 1 := by omega
    go_enter Try.func32, Try.ntmps32
    go_wp2_with (at_builtin; refine Lib.wpList_append_run _ rfl _ _ _ _ rfl _ _ rfl rfl _ _ (HA.out _) ?_)
    all_goals
      go_ret
      exact R2.out _ rfl
end Go.Proofs.Ytiloflgpflgjnaa
