/-
  The document's zones (dowelref05): CanRun, Fits, Cell. No conditions beyond those that each theorem names.
-/
import Derived.Test.YtlnjcaicagcinaaGreatRefP
namespace Go.Proofs.YtlnjcaicagcinaaGreat
open Go.ChangeShapes Go.WideShapes Go.ChangeAt Go.RowKit

def runs (a : Int) (x : ZR) : Bool := decide (x.z.r ≤ a ∧ a < x.z.e ∧ a % 4 = 0)
theorem any_runs {M : List ZR} (g : Good (M.map ZR.z)) (a : Int) : M.any (runs a) = canRun (M.map ZR.z) a := by
  unfold canRun
  rw [List.any_map, Bool.eq_iff_iff]
  simp only [Bool.and_eq_true, List.any_eq_true, Function.comp]
  constructor
  · rintro ⟨x, hx, h⟩
    have := zone_edges g hx
    simp only [runs, decide_eq_true_eq] at h
    refine ⟨by simp [aligned]; omega, x, hx, ?_⟩
    simp only [within, decide_eq_true_eq]
    omega
  · rintro ⟨ha, x, hx, h⟩
    simp [aligned] at ha
    simp only [within, decide_eq_true_eq] at h
    exact ⟨x, hx, by simp only [runs, decide_eq_true_eq]; omega⟩
theorem tm4n (a : Int) : (a.tmod 4 != 0) = !aligned a := by
  rw [← tm4]
  rfl

set_option maxRecDepth 100000 in
set_option maxHeartbeats 2000000 in
theorem rrun_any (a : Int) (v : Value) (M : List ZR) (w : World) (h : RefAt w v M) (g : Good (M.map ZR.z)) (small : M.length ≤ 100) :
    Calls Tryz.prog 25 #[v, .int .i64 a] w fun e w' => e = .returned (.bool (canRun (M.map ZR.z) a)) ∧ w = w' := by
  obtain ⟨sa, c, rfl, hc1, hc2⟩ := h.row.shape
  have HR := Lib.hid h.row
  have HG := Lib.hid (any_runs g a)
  have q := tm4 a
  clear h g
  generalize hN : M.length = N at *
  have HN := Lib.hid hN
  clear hN
  go_enter Tryz.func25, Tryz.ntmps25
  go_wp2_with fail
  go_loopw [5] (fun i wr => wr = w ∧ ∃ k : Nat, k ≤ N ∧ i = .int .i64 k ∧ Hid (∀ y ∈ M.take k, runs a y = false)) (fun i _ => N - (intOf i).toNat)
  case atStart => exact ⟨rfl, 0, Nat.zero_le _, rfl, fun y hy => by simp at hy⟩
  case round =>
    obtain ⟨rfl, k, hk, rfl, HF⟩ := hrel
    by_cases hlt : k < N
    · obtain ⟨x, hx⟩ : ∃ x, M[k]? = some x := ⟨_, List.getElem?_eq_getElem (by rw [HN.out]; exact hlt)⟩
      obtain ⟨b, cap, hv, hbl, hcap1, hcap2, hcs⟩ := HR.out.cell (by omega)
      cases hv
      obtain ⟨s0, s1, s2, s3, s4, s5⟩ := six_of HN.out hcs hx
      have HX := Lib.hid hx
      have e5 : (k : Int) < (N : Int) := by omega
      have e6 : (0 : Int) ≤ (k : Int) := by omega
      clear hx hcs
      have NO : Hid (runs a x = false → Hid (∀ y ∈ M.take (k + 1), runs a y = false)) := fun h y hy => by
        rw [List.take_add_one, HX.out] at hy
        rcases List.mem_append.1 hy with hy | hy
        · exact HF.out y hy
        · simp at hy; subst hy; exact h
      by_cases h1 : x.z.r ≤ a
      · by_cases h2 : a < x.z.e
        · cases h3 : aligned a with
          | true =>
            rw [h3] at q
            have hy : runs a x = true := by simp [aligned] at h3; simp [runs, h1, h2, h3]
            have HYes : Hid (M.any (runs a) = true) := List.any_eq_true.2 ⟨x, List.mem_of_getElem? HX.out, hy⟩
            clear h3 hy
            go_wp2_with fail
            go_ret
            exact ⟨by rw [← HG.out, HYes.out]; rfl, rfl⟩
          | false =>
            rw [h3] at q
            have hy : runs a x = false := by simp [aligned] at h3; simp [runs, h3]
            have HNo := Lib.hid (NO.out hy)
            clear h3 hy
            go_wp2_with fail
            go_roundw
            case rel => exact ⟨trivial, k + 1, by omega, by go_num, HNo.out⟩
            case measure => simp [intOf]; omega
        · have hy : runs a x = false := by simp [runs]; omega
          have HNo := Lib.hid (NO.out hy)
          clear hy
          go_wp2_with fail
          go_roundw
          case rel => exact ⟨trivial, k + 1, by omega, by go_num, HNo.out⟩
          case measure => simp [intOf]; omega
      · have hy : runs a x = false := by simp [runs]; omega
        have HNo := Lib.hid (NO.out hy)
        clear hy
        go_wp2_with fail
        go_roundw
        case rel => exact ⟨trivial, k + 1, by omega, by go_num, HNo.out⟩
        case measure => simp [intOf]; omega
    · obtain rfl : k = N := by omega
      have e5 : ¬ (k : Int) < (k : Int) := by omega
      go_wp2_with fail
      go_ret
      refine ⟨end_bool ?_, rfl⟩
      rw [← HG.out]
      symm
      rw [List.any_eq_false]
      intro y hy
      have := HF.out y (by rw [List.take_of_length_le (by rw [HN.out]; exact Nat.le_refl _)]; exact hy)
      rw [this]
      decide
end Go.Proofs.YtlnjcaicagcinaaGreat
