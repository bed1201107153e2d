/-
  The document's zones (dowelref05): Cell. No conditions beyond those that the theorem names.
-/
import Derived.Test.YtlnjcaicagcinaaGreatRefR
namespace Go.Proofs.YtlnjcaicagcinaaGreat
open Go.ChangeShapes Go.WideShapes Go.ChangeAt Go.RowKit

theorem kind_at {M : List ZV} {k : Nat} {x : ZV} {y : Int} (hx : M[k]? = some x) (h : ∀ z ∈ M.take k, y ∉ z.P ∧ y ∉ z.Q) : kindOf M y = if y ∈ x.P then 1 else if y ∈ x.Q then 2 else kindOf (M.drop (k + 1)) y := by
  obtain ⟨hk, rfl⟩ := List.getElem?_eq_some_iff.1 hx
  have e : M = M.take k ++ M[k] :: M.drop (k + 1) := by rw [← List.drop_eq_getElem_cons hk, List.take_append_drop]
  have e2 : kindOf M y = kindOf (M.take k ++ M[k] :: M.drop (k + 1)) y := congrArg (fun l => kindOf l y) e
  rw [e2, kindOf_append, kindOf_zero h, if_pos rfl, kindOf_cons]

set_option maxRecDepth 100000 in
set_option maxHeartbeats 4000000 in
theorem rcell_any (a : Int) (v : Value) (M : List ZR) (w : World) (h : RefAt w v M) (g : Good (M.map ZR.z)) (small : M.length ≤ 100) :
    Calls Tryz.prog 64 #[v, .int .i64 a] w fun e w' => e = .returned (.int .i64 (kindOf (M.map ZR.z) (a - a % 4))) ∧ w = w' := by
  obtain ⟨sa, c, rfl, hc1, hc2⟩ := h.row.shape
  have HR := Lib.hid h.row
  have HG := Lib.hid g
  have HI := Lib.hid h.ints
  clear h g
  generalize hN : M.length = N at *
  have HN := Lib.hid hN
  clear hN
  obtain ⟨y, hy⟩ : ∃ y, y = a - a % 4 := ⟨_, rfl⟩
  rw [← hy]
  have HY := Lib.hid hy
  clear hy
  go_enter Tryz.func64, Tryz.ntmps64
  go_wp2_with fail
  go_loopw [5] (fun i wr => wr = w ∧ ∃ k : Nat, k ≤ N ∧ i = .int .i64 k ∧ Hid (∀ z ∈ (M.map ZR.z).take k, y ∉ z.P ∧ y ∉ z.Q)) (fun i _ => N - (intOf i).toNat)
  case atStart => exact ⟨rfl, 0, Nat.zero_le _, rfl, fun z hz => by simp at hz⟩
  case round =>
    obtain ⟨rfl, k, hk, rfl, HF⟩ := hrel
    by_cases hlt : k < N
    · obtain ⟨x, hx⟩ : ∃ x, M[k]? = some x := ⟨_, List.getElem?_eq_getElem (by rw [HN.out]; exact hlt)⟩
      obtain ⟨b, cap, hv, hbl, hcap1, hcap2, hcs⟩ := HR.out.cell (by omega)
      cases hv
      obtain ⟨s0, s1, s2, s3, s4, s5⟩ := six_of HN.out hcs hx
      have hm := List.mem_of_getElem? hx
      have hii := HI.out x hm
      have hcx := HG.out.cells x.z (List.mem_map.2 ⟨x, hm, rfl⟩)
      have hed := (zone_edges HG.out hm).1
      have hkx : (M.map ZR.z)[k]? = some x.z := by simp [hx]
      have HKA := Lib.hid (kind_at hkx HF.out)
      have HKX := Lib.hid hkx
      obtain ⟨xz, ⟨pa, pn, pc⟩, ⟨qa, qn, qc⟩⟩ := x
      simp only [Sl.mk_v] at s4 s5
      simp only at hii hcx hed
      have hpl : pn = xz.P.length := hii.1.len
      have hql : qn = xz.Q.length := hii.2.len
      have hpc : pn ≤ pc ∧ pc ≤ maxLen := hii.1.cap
      have hqc : qn ≤ qc ∧ qc ≤ maxLen := hii.2.cap
      have HPQ := Lib.hid hii
      have HCX := Lib.hid hcx
      have HED := Lib.hid hed
      have HPL := Lib.hid hpl
      have HQL := Lib.hid hql
      have e5 : (k : Int) < (N : Int) := by omega
      have e6 : (0 : Int) ≤ (k : Int) := by omega
      clear hx hcs hm hii hcx hed hkx hpl hql s0 s1 s2 s3
      simp only [maxLen] at hpc hqc
      go_wp2_with fail
      go_loopw [6] (fun j wx => wx = wr ∧ ∃ m : Nat, m ≤ pn ∧ j = .int .i64 m ∧ Hid (y ∉ xz.P.take m)) (fun j _ => pn - (intOf j).toNat)
      case atStart => exact ⟨rfl, 0, Nat.zero_le _, rfl, (fun h => by simp at h : ¬ _)⟩
      case round =>
        obtain ⟨rfl, m, hm, rfl, HM⟩ := hrel
        by_cases hmt : m < pn
        · obtain ⟨u, hu⟩ : ∃ u, xz.P[m]? = some u := ⟨_, List.getElem?_eq_getElem (by rw [← HPL.out]; exact hmt)⟩
          rcases HPQ.out.1.at_ with h0 | ⟨qb, qo, ha, hqb, hqs⟩
          · simp only at h0; omega
          · simp only at ha
            subst ha
            have hc := hqs m u hu
            have hub := cells_P HCX.out (List.mem_of_getElem? hu)
            have hed := HED.out
            have hua : 272 ≤ u ∧ u ≤ 65536 ∧ u % 4 = 0 := by omega
            have hwr : IntKind.i64.wrap (u + 4) = u + 4 := IntWalk.i64_in _ (by omega)
            have HU := Lib.hid hu
            have HUA := Lib.hid hua
            have e7 : (m : Int) < (pn : Int) := by omega
            have e8 : (0 : Int) ≤ (m : Int) := by omega
            clear hqs hu hub hed
            by_cases h1 : u ≤ a
            · by_cases h2 : a < u + 4
              · have hyu : y = u := by have := HY.out; omega
                have HRes : Hid (kindOf (M.map ZR.z) y = 1) := by
                  show _ = _
                  rw [HKA.out]
                  have hin : y ∈ xz.P := by rw [hyu]; exact List.mem_of_getElem? HU.out
                  rw [if_pos hin]
                clear hyu
                go_wp2_with fail
                go_ret
                exact ⟨end_int HRes.out.symm, rfl⟩
              · have HNo : Hid (y ∉ xz.P.take (m + 1)) := fun h => by
                  rw [List.take_add_one, HU.out] at h
                  rcases List.mem_append.1 h with h | h
                  · exact HM.out h
                  · simp at h; have := HY.out; have := HUA.out; omega
                go_wp2_with fail
                go_roundw
                case rel => exact ⟨trivial, m + 1, by omega, by go_num, HNo⟩
                case measure => simp [intOf]; omega
            · have HNo : Hid (y ∉ xz.P.take (m + 1)) := fun h => by
                rw [List.take_add_one, HU.out] at h
                rcases List.mem_append.1 h with h | h
                · exact HM.out h
                · simp at h; have := HY.out; have := HUA.out; omega
              go_wp2_with fail
              go_roundw
              case rel => exact ⟨trivial, m + 1, by omega, by go_num, HNo⟩
              case measure => simp [intOf]; omega
        · obtain rfl : m = pn := by omega
          have HP : Hid (y ∉ xz.P) := fun h => HM.out (by rw [List.take_of_length_le (by rw [← HPL.out]; exact Nat.le_refl _)]; exact h)
          have e7 : ¬ (m : Int) < (m : Int) := by omega
          clear HM
          go_wp2_with fail
          go_loopw [7] (fun j wy => wy = wr ∧ ∃ m : Nat, m ≤ qn ∧ j = .int .i64 m ∧ Hid (y ∉ xz.Q.take m)) (fun j _ => qn - (intOf j).toNat)
          case atStart => exact ⟨rfl, 0, Nat.zero_le _, rfl, (fun h => by simp at h : ¬ _)⟩
          case round =>
            obtain ⟨rfl, m, hm, rfl, HM⟩ := hrel
            by_cases hmt : m < qn
            · obtain ⟨u, hu⟩ : ∃ u, xz.Q[m]? = some u := ⟨_, List.getElem?_eq_getElem (by rw [← HQL.out]; exact hmt)⟩
              rcases HPQ.out.2.at_ with h0 | ⟨qb, qo, ha, hqb, hqs⟩
              · simp only at h0; omega
              · simp only at ha
                subst ha
                have hc := hqs m u hu
                have hub := cells_Q HCX.out (List.mem_of_getElem? hu)
                have hed := HED.out
                have hua : 272 ≤ u ∧ u ≤ 65536 ∧ u % 4 = 0 := by omega
                have hwr : IntKind.i64.wrap (u + 4) = u + 4 := IntWalk.i64_in _ (by omega)
                have HU := Lib.hid hu
                have HUA := Lib.hid hua
                have e7 : (m : Int) < (qn : Int) := by omega
                have e8 : (0 : Int) ≤ (m : Int) := by omega
                clear hqs hu hub hed
                by_cases h1 : u ≤ a
                · by_cases h2 : a < u + 4
                  · have hyu : y = u := by have := HY.out; omega
                    have HRes : Hid (kindOf (M.map ZR.z) y = 2) := by
                      show _ = _
                      rw [HKA.out]
                      have hin : y ∈ xz.Q := by rw [hyu]; exact List.mem_of_getElem? HU.out
                      rw [if_neg HP.out, if_pos hin]
                    clear hyu
                    go_wp2_with fail
                    go_ret
                    exact ⟨end_int HRes.out.symm, rfl⟩
                  · have HNo : Hid (y ∉ xz.Q.take (m + 1)) := fun h => by
                      rw [List.take_add_one, HU.out] at h
                      rcases List.mem_append.1 h with h | h
                      · exact HM.out h
                      · simp at h; have := HY.out; have := HUA.out; omega
                    go_wp2_with fail
                    go_roundw
                    case rel => exact ⟨trivial, m + 1, by omega, by go_num, HNo⟩
                    case measure => simp [intOf]; omega
                · have HNo : Hid (y ∉ xz.Q.take (m + 1)) := fun h => by
                    rw [List.take_add_one, HU.out] at h
                    rcases List.mem_append.1 h with h | h
                    · exact HM.out h
                    · simp at h; have := HY.out; have := HUA.out; omega
                  go_wp2_with fail
                  go_roundw
                  case rel => exact ⟨trivial, m + 1, by omega, by go_num, HNo⟩
                  case measure => simp [intOf]; omega
            · obtain rfl : m = qn := by omega
              have HQ : Hid (y ∉ xz.Q) := fun h => HM.out (by rw [List.take_of_length_le (by rw [← HQL.out]; exact Nat.le_refl _)]; exact h)
              have e7 : ¬ (m : Int) < (m : Int) := by omega
              clear HM
              go_wp2_with fail
              go_roundw
              case rel =>
                refine ⟨trivial, k + 1, by omega, by go_num, (show Hid _ from fun z hz => ?_)⟩
                rw [List.take_add_one, HKX.out] at hz
                rcases List.mem_append.1 hz with hz | hz
                · exact HF.out z hz
                · simp at hz; subst hz; exact ⟨HP.out, HQ.out⟩
              case measure => simp [intOf]; omega
    · obtain rfl : k = N := by omega
      have e5 : ¬ (k : Int) < (k : Int) := by omega
      go_wp2_with fail
      go_ret
      refine ⟨end_int ?_, rfl⟩
      symm
      exact kindOf_zero fun z hz => HF.out z (by rw [List.take_of_length_le (by rw [List.length_map, HN.out]; exact Nat.le_refl _)]; exact hz)
end Go.Proofs.YtlnjcaicagcinaaGreat
