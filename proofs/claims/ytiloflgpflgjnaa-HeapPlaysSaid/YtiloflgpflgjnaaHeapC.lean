/-
  Contracts of slices.Replace, Clone, IndexFunc, ContainsFunc over holes, as package heap (layer 5) calls them. No conditions beyond those that each theorem names.
-/
import Derived.Test.YtiloflgpflgjnaaHeapB
namespace Go.Proofs.Ytiloflgpflgjnaa
open Go.ChangeShapes Go.WideShapes Go.ChangeAt Go.RowKit

set_option maxRecDepth 100000 in
set_option maxHeartbeats 2000000 in
theorem replace_mid (b cap : Nat) (A M B : List (Int × Int)) (x : Int × Int) (rest : List Value) (vb : Nat) (w : World) (h : RowAt w b HT (pcs (A ++ (M ++ B)) ++ rest)) (hl : (A.length + (M.length + B.length)) * 2 + rest.length = cap * 2) (hm : cap ≤ maxLen) (hM : M ≠ []) (hB : B ≠ []) (hx : RowAt w vb HT (pcs [x])) (small : A.length + (M.length + B.length) ≤ 100000) :
    Calls Try.prog 32 #[.slice (some ⟨b, 0, none⟩) (A.length + (M.length + B.length)) cap, .int .i64 (A.length : Nat), .int .i64 ((A.length : Nat) + (M.length : Nat)), .slice (some ⟨vb, 0, none⟩) 1 1] w fun e w' =>
      Inserted w w' (.slice (some ⟨b, 0, none⟩) (A.length + (M.length + B.length)) cap) e (A ++ x :: B) := by
  have hA := pcs_length A
  have hMl := pcs_length M
  have hBl := pcs_length B
  have hM0 : 0 < M.length := List.length_pos_iff.2 hM
  have hB0 : 0 < B.length := List.length_pos_iff.2 hB
  have h0 : RowAt w.drew b HT (pcs A ++ (pcs M ++ (pcs B ++ rest))) := by simpa [pcs_append] using h.drew
  have hcp1 : ∀ ty dc, (Builtin.copy_ #[44, 44] ty #[.slice (some ⟨b, A.length * 2, none⟩) (B.length + 1) dc, .slice (some ⟨vb, 0, none⟩) 1 1]).run Try.prog w.drew = _ := fun ty dc =>
    copy_rows h0 _ ty Try.underlying44 sizeH (A.length * 2) (B.length + 1) dc ⟨vb, 0, none⟩ 1 1 (pcs [x]) (by rw [pcs_length]; congr 1 <;> exact (Nat.min_eq_left (by omega)).symm) (fun j u hu => by rw [Addr.add_lit, Nat.zero_add, hx.drew.cell, hu]) (by simp [hA, hMl, hBl, pcs_length]; omega) (pcs_ones _)
  have hsp1 := splice_over (pcs A) (pcs M) (pcs B ++ rest) (pcs [x]) rfl (by omega)
  rw [hA] at hsp1
  rw [hsp1, show Nat.min 1 (B.length + 1) = 1 from Nat.min_eq_left (by omega)] at hcp1
  have h1 := (h0.set (pcs A ++ (pcs [x] ++ ((pcs M).drop 2 ++ (pcs B ++ rest))))).drew
  have k1 := ((Kept.refl (· = b) w).drew.setRow (g := b) (fun _ => rfl) (pcs A ++ (pcs [x] ++ ((pcs M).drop 2 ++ (pcs B ++ rest)))).toArray).drew
  have hcp2 : ∀ ty dc sc, (Builtin.copy_ #[44, 44] ty #[.slice (some ⟨b, (A.length + 1) * 2, none⟩) B.length dc, .slice (some ⟨b, (A.length + M.length) * 2, none⟩) B.length sc]).run Try.prog (w.drew.setRow b (pcs A ++ (pcs [x] ++ ((pcs M).drop 2 ++ (pcs B ++ rest)))).toArray).drew = _ := fun ty dc sc =>
    copy_rows h1 _ ty Try.underlying44 sizeH ((A.length + 1) * 2) B.length dc ⟨b, (A.length + M.length) * 2, none⟩ B.length sc (pcs B) (by rw [hBl]; congr 1; exact (Nat.min_self _).symm) (read_from (A := pcs A ++ (pcs [x] ++ (pcs M).drop 2)) (rest := rest) (by simpa using h1) _ (by simp [hA, hMl, pcs_length]; omega)) (by simp [hA, hMl, hBl, pcs_length]; omega) (pcs_ones _)
  have hAx : (pcs A ++ pcs [x]).length = (A.length + 1) * 2 := by simp [hA, pcs_length]; omega
  have hsp2 := splice_end (pcs A ++ pcs [x]) ((pcs M).drop 2 ++ (pcs B ++ rest)) (pcs B)
  rw [hAx, List.append_assoc (pcs A) (pcs [x]) ((pcs M).drop 2 ++ (pcs B ++ rest))] at hsp2
  rw [hsp2, show Nat.min B.length B.length = B.length from Nat.min_self _] at hcp2
  have h2 := h1.set (pcs A ++ pcs [x] ++ pcs B ++ ((pcs M).drop 2 ++ (pcs B ++ rest)).drop (pcs B).length)
  have k2 := k1.setRow (g := b) (fun _ => rfl) (pcs A ++ pcs [x] ++ pcs B ++ ((pcs M).drop 2 ++ (pcs B ++ rest)).drop (pcs B).length).toArray
  have hr2 : (((pcs M).drop 2 ++ (pcs B ++ rest)).drop (pcs B).length).length = (M.length - 1) * 2 + rest.length := by simp [hMl, hBl]; omega
  generalize ((pcs M).drop 2 ++ (pcs B ++ rest)).drop (pcs B).length = r2 at *
  have hAxB : (pcs A ++ pcs [x] ++ pcs B).length = (A.length + 1 + B.length) * 2 := by rw [List.length_append, hAx, hBl]; omega
  have hclr := fun ty c => clear_rows (P := Try.prog) h2 ty Try.underlying44 zeroH ((A.length + 1 + B.length) * 2) (M.length - 1) c (by rw [List.length_append, hAxB, hr2, ZH_size]; omega) ZH_ones
  have hsp3 := splice_end (pcs A ++ pcs [x] ++ pcs B) r2 (zrs ZH (M.length - 1))
  rw [hAxB] at hsp3
  rw [hsp3] at hclr
  have h3 := h2.set (pcs A ++ pcs [x] ++ pcs B ++ zrs ZH (M.length - 1) ++ r2.drop (zrs ZH (M.length - 1)).length)
  have k3 := k2.setRow (g := b) (fun _ => rfl) (pcs A ++ pcs [x] ++ pcs B ++ zrs ZH (M.length - 1) ++ r2.drop (zrs ZH (M.length - 1)).length).toArray
  have hpx : pcs (A ++ x :: B) = pcs A ++ pcs [x] ++ pcs B := by simp [pcs_append, pcs_cons, pcs_nil]
  have R1 : Hid (M.length = 1 → ∀ e, e = Ending.returned (.slice (some ⟨b, 0, none⟩) (A.length + 1 + B.length) cap) → Inserted w _ (.slice (some ⟨b, 0, none⟩) (A.length + (M.length + B.length)) cap) e (A ++ x :: B)) := fun h1' e he =>
    ⟨_, he, ⟨.inr ⟨b, cap, r2, by simp; omega, by rw [hpx]; exact h2, by simp; omega, by simp; omega, hm⟩, pcs_length _, pcs_ones _⟩, k2, fun j hj => .inl hj⟩
  have R2 : Hid (∀ e, e = Ending.returned (.slice (some ⟨b, 0, none⟩) (A.length + 1 + B.length) cap) → Inserted w _ (.slice (some ⟨b, 0, none⟩) (A.length + (M.length + B.length)) cap) e (A ++ x :: B)) := fun e he =>
    ⟨_, he, ⟨.inr ⟨b, cap, zrs ZH (M.length - 1) ++ r2.drop (zrs ZH (M.length - 1)).length, by simp; omega, by rw [hpx, ← List.append_assoc (pcs A ++ pcs [x] ++ pcs B)]; exact h3, by simp [zrs_length, ZH_size]; omega, by simp; omega, hm⟩, pcs_length _, pcs_ones _⟩, k3, fun j hj => .inl hj⟩
  clear h h0 h1 h2 h3 k1 k2 k3 hsp1 hsp2 hsp3 hx hAx hAxB hr2 hpx
  generalize (pcs A ++ pcs [x] ++ pcs B ++ zrs ZH (M.length - 1) ++ r2.drop (zrs ZH (M.length - 1)).length).toArray = V3 at *
  generalize (pcs A ++ pcs [x] ++ pcs B ++ r2).toArray = V2 at *
  generalize (pcs A ++ (pcs [x] ++ ((pcs M).drop 2 ++ (pcs B ++ rest)))).toArray = V1 at *
  generalize A.length = a at *
  generalize M.length = m at *
  generalize B.length = c at *
  have hm' : cap ≤ 9223372036854775807 := hm
  have c1 : ∀ ty dc, (Builtin.copy_ #[44, 44] ty #[.slice (some ⟨b, a * 2, none⟩) (c + 1) dc, .slice (some ⟨vb, 0, none⟩) 1 1]).run Try.prog w.drew = .ok (goInt 1) (w.setRow b V1).drew := hcp1
  have c2 : ∀ ty dc sc, (Builtin.copy_ #[44, 44] ty #[.slice (some ⟨b, (a + 1) * 2, none⟩) c dc, .slice (some ⟨b, (a + m) * 2, none⟩) c sc]).run Try.prog (w.setRow b V1).drew.drew = .ok (goInt c) ((w.setRow b V1).setRow b V2).drew.drew := hcp2
  have c3 : ∀ ty k, (Builtin.clear_ #[44] ty #[.slice (some ⟨b, (a + 1 + c) * 2, none⟩) (m - 1) k]).run Try.prog ((w.setRow b V1).setRow b V2).drew.drew = .ok (.tuple #[]) (((w.setRow b V1).setRow b V2).setRow b V3).drew.drew := hclr
  clear hA hMl hBl hm hcp1 hcp2 hclr
  have e1 : ((a : Int) == (a : Int) + (m : Int)) = false := by simp; omega
  have e1' : ((a : Int) + (m : Int) == (a : Int) + ((m : Int) + (c : Int))) = false := by simp; omega
  have e2 : ((a : Int) + (m : Int)).toNat = a + m := by omega
  have e3 : (0 : Int) ≤ (a : Int) + (m : Int) := by omega
  have e4 : (a : Int) ≤ (a : Int) + (m : Int) := by omega
  have e4' : (a : Int) + (m : Int) ≤ (a : Int) + ((m : Int) + (c : Int)) := by omega
  have e6 : a ≤ cap := by omega
  have e7 : ¬ cap = a := by omega
  have e8 : ¬ cap = a + m := by omega
  have e9 : a + (m + c) - (a + m) = c := by omega
  have f1 : IntKind.i64.wrap ((a : Int) + 1) = (a : Int) + 1 := IntWalk.i64_in _ (by omega)
  have f2 : IntKind.i64.wrap ((a : Int) + 1 + (c : Int)) = (a : Int) + 1 + (c : Int) := IntWalk.i64_in _ (by omega)
  have f3 : ((a : Int) + 1 + (c : Int)).toNat = a + 1 + c := by omega
  have f4 : (0 : Int) ≤ (a : Int) + 1 + (c : Int) := by omega
  have f5 : ((a : Int) + 1).toNat = a + 1 := by omega
  have f6 : (0 : Int) ≤ (a : Int) + 1 := by omega
  have f7 : (a : Int) + 1 ≤ (a : Int) + 1 + (c : Int) := by omega
  have f8 : a + 1 + c - (a + 1) = c := by omega
  have f9 : a + 1 + c - a = c + 1 := by omega
  have g1 : ¬ cap = a + 1 := by omega
  have g2 : a + (m + c) - (a + 1 + c) = m - 1 := by omega
  have g3 : (a : Int) + 1 + (c : Int) ≤ (a : Int) + ((m : Int) + (c : Int)) := by omega
  by_cases hm1 : m = 1
  · subst hm1
    have c0 : ∀ ty a k w, (Builtin.clear_ #[44] ty #[.slice a 0 k]).run Try.prog w = .ok (.tuple #[]) w := fun ty a k w => by cases a <;> simp [Builtin.clear_, run_underlying Try.underlying44]
    clear c3 R2
    rw [show 1 - 1 = 0 from rfl] at g2
    by_cases hcap : cap = a + 1 + c
    · subst hcap
      go_enter Try.func32, Try.ntmps32
      go_wp2_with fail
      go_region
      go_wp2
      go_region
      go_wp2
      go_ret
      exact R1.out trivial _ rfl
    · go_enter Try.func32, Try.ntmps32
      go_wp2_with fail
      go_region
      go_wp2
      go_region
      go_wp2
      go_ret
      exact R1.out trivial _ rfl
  · have g4 : ¬ cap = a + 1 + c := by omega
    have g5 : (a : Int) + 1 ≤ (a : Int) + (m : Int) := by omega
    clear R1
    go_enter Try.func32, Try.ntmps32
    go_wp2_with fail
    go_region
    go_wp2
    go_region
    go_wp2
    all_goals
      go_ret
      exact R2.out _ rfl
end Go.Proofs.Ytiloflgpflgjnaa
