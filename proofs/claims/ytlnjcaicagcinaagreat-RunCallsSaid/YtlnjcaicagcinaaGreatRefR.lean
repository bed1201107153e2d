/-
  The document's zones (dowelref05): Fits, Cell. No conditions beyond those that each theorem names.
-/
import Derived.Test.YtlnjcaicagcinaaGreatRefQ
namespace Go.Proofs.YtlnjcaicagcinaaGreat
open Go.ChangeShapes Go.WideShapes Go.ChangeAt Go.RowKit

theorem ahead_at (v : Int) (x : ZR) : within v 1 x.z.b x.z.r = decide (x.z.b ≤ v ∧ v < x.z.r) := by
  unfold within
  rw [Bool.eq_iff_iff]
  simp only [decide_eq_true_eq]
  omega

set_option maxRecDepth 100000 in
set_option maxHeartbeats 2000000 in
theorem rfits_any (kd u : Int) (v : Value) (M : List ZR) (w : World) (h : RefAt w v M) (g : Good (M.map ZR.z)) (small : M.length ≤ 100) :
    Calls Tryz.prog 65 #[v, .int .i64 kd, .int .i64 u] w fun e w' => e = .returned (.bool (fitsZ (M.map ZR.z) kd u)) ∧ w = w' := by
  have HRun := Lib.hid (rrun_any u v M w h g small)
  obtain ⟨sa, c, rfl, hc1, hc2⟩ := h.row.shape
  have HR := Lib.hid h.row
  have HG := Lib.hid g
  clear h g
  generalize hN : M.length = N at *
  have HN := Lib.hid hN
  clear hN
  by_cases k0 : kd = 0
  · subst k0
    rw [show fitsZ (M.map ZR.z) 0 u = true by simp [fitsZ]]
    go_enter Tryz.func65, Tryz.ntmps65
    go_wp2_with fail
    go_ret
    exact ⟨rfl, rfl⟩
  · have g0 : (kd == 0) = false := by simpa using k0
    by_cases k1 : kd < 0
    · rw [show fitsZ (M.map ZR.z) kd u = false by simp [fitsZ, k0, show kd ≠ 1 by omega, show kd ≠ 2 by omega]]
      clear k0
      go_enter Tryz.func65, Tryz.ntmps65
      go_wp2_with fail
      go_ret
      exact ⟨rfl, rfl⟩
    · by_cases k2 : 2 < kd
      · rw [show fitsZ (M.map ZR.z) kd u = false by simp [fitsZ, k0, show kd ≠ 1 by omega, show kd ≠ 2 by omega]]
        clear k0
        go_enter Tryz.func65, Tryz.ntmps65
        go_wp2_with fail
        go_ret
        exact ⟨rfl, rfl⟩
      · by_cases u0 : u = 0
        · rw [show fitsZ (M.map ZR.z) kd u = true by
            rcases (show kd = 1 ∨ kd = 2 by omega) with h | h <;> simp [fitsZ, h, u0]]
          have g1 : (u == 0) = true := by simpa using u0
          clear k0 u0
          go_enter Tryz.func65, Tryz.ntmps65
          go_wp2_with fail
          go_ret
          exact ⟨rfl, rfl⟩
        · have g1 : (u == 0) = false := by simpa using u0
          by_cases k3 : kd = 2
          · subst k3
            rw [show fitsZ (M.map ZR.z) 2 u = canRun (M.map ZR.z) u by simp [fitsZ, u0]]
            clear k0 u0 k1 k2
            go_enter Tryz.func65, Tryz.ntmps65
            go_wp2_with fail
            refine HRun.out.mono ?_
            rintro e w' ⟨rfl, rfl⟩
            go_wp2_with fail
            go_ret
            exact ⟨rfl, rfl⟩
          · obtain rfl : kd = 1 := by omega
            have hfit : fitsZ (M.map ZR.z) 1 u = (M.map ZR.z).any fun z => within u 1 z.b z.r := by simp [fitsZ, u0, ahead]
            rw [hfit, List.any_map]
            clear k0 u0 k1 k2 k3 hfit HRun g0
            go_enter Tryz.func65, Tryz.ntmps65
            go_wp2_with fail
            go_loopw [7] (fun i wr => wr = w ∧ ∃ k : Nat, k ≤ N ∧ i = .int .i64 k ∧ Hid (∀ y ∈ M.take k, within u 1 y.z.b y.z.r = false)) (fun i _ => N - (intOf i).toNat)
            case atStart => exact ⟨rfl, 0, Nat.zero_le _, rfl, fun y hy => by simp at hy⟩
            case round =>
              obtain ⟨rfl, k, hk, rfl, HF⟩ := hrel
              by_cases hlt : k < N
              · obtain ⟨x, hx⟩ : ∃ x, M[k]? = some x := ⟨_, List.getElem?_eq_getElem (by rw [HN.out]; exact hlt)⟩
                obtain ⟨b, cap, hv, hbl, hcap1, hcap2, hcs⟩ := HR.out.cell (by omega)
                cases hv
                obtain ⟨s0, s1, s2, s3, s4, s5⟩ := six_of HN.out hcs hx
                have HX := Lib.hid hx
                have haa := ahead_at u x
                have e5 : (k : Int) < (N : Int) := by omega
                have e6 : (0 : Int) ≤ (k : Int) := by omega
                clear hx hcs
                have NO : Hid (within u 1 x.z.b x.z.r = false → Hid (∀ y ∈ M.take (k + 1), within u 1 y.z.b y.z.r = false)) := fun h y hy => by
                  rw [List.take_add_one, HX.out] at hy
                  rcases List.mem_append.1 hy with hy | hy
                  · exact HF.out y hy
                  · simp at hy; subst hy; exact h
                by_cases h1 : x.z.b ≤ u
                · by_cases h2 : u < x.z.r
                  · have HYes : Hid (M.any (fun y => within u 1 y.z.b y.z.r) = true) := List.any_eq_true.2 ⟨x, List.mem_of_getElem? HX.out, by rw [haa]; simp [h1, h2]⟩
                    clear haa
                    go_wp2_with fail
                    go_ret
                    exact ⟨end_bool (HYes.out).symm, rfl⟩
                  · have HNo := Lib.hid (NO.out (by rw [haa]; simp; omega))
                    clear haa
                    go_wp2_with fail
                    go_roundw
                    case rel => exact ⟨trivial, k + 1, by omega, by go_num, HNo.out⟩
                    case measure => simp [intOf]; omega
                · have HNo := Lib.hid (NO.out (by rw [haa]; simp; omega))
                  clear haa
                  go_wp2_with fail
                  go_roundw
                  case rel => exact ⟨trivial, k + 1, by omega, by go_num, HNo.out⟩
                  case measure => simp [intOf]; omega
              · obtain rfl : k = N := by omega
                have e5 : ¬ (k : Int) < (k : Int) := by omega
                go_wp2_with fail
                go_ret
                refine ⟨end_bool ?_, rfl⟩
                symm
                rw [List.any_eq_false]
                intro y hy
                have := HF.out y (by rw [List.take_of_length_le (by rw [HN.out]; exact Nat.le_refl _)]; exact hy)
                simp only [Function.comp]
                rw [this]
                decide
end Go.Proofs.YtlnjcaicagcinaaGreat
