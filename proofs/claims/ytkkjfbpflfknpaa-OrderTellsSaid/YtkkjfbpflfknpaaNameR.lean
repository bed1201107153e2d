/-
  The document's Name (dowelref09, layer 9): it is a name. Its condition: a text of at most 1000 signs.
-/
import Derived.Test.YtkkjfbpflfknpaaNameM
namespace Go.Proofs.Ytkkjfbpflfknpaa
open Go.ChangeShapes Go.WideShapes Go.ChangeAt Go.RowKit
open Go.PlainAid (bt get_bt bt_nonneg bt_le)

set_option maxRecDepth 100000 in
set_option maxHeartbeats 2000000 in
theorem refName_walk (s : ByteArray) (b : Nat) (w : World) (h1000 : s.size ≤ 1000) (hb : Upto s b) (v : Bool) (hv : v = true ↔ b = s.size ∧ 0 < s.size ∧ s.size ≤ 16) :
    Calls Try.prog 33 #[.string s] w fun e w' => e = .returned (.bool v) ∧ w = w' := by
  have HB := Lib.hid hb
  have HV := Lib.hid hv
  clear hb hv
  go_enter Try.func33, Try.ntmps33
  go_wp2_with fail
  go_loopw [3] (fun i wr => wr = w ∧ ∃ k : Nat, k ≤ b ∧ i = .int .i64 k) (fun i _ => b - (intOf i).toNat)
  case atStart => exact ⟨rfl, 0, Nat.zero_le _, rfl⟩
  case round =>
    obtain ⟨rfl, k, hk, rfl⟩ := hrel
    have hbs := HB.out.1
    by_cases hlt : k < s.size
    · have f1 : (k : Int) < (s.size : Int) := by omega
      have f2 : (0 : Int) ≤ (k : Int) := by omega
      have e4 := get_bt s k hlt
      by_cases hg : goodI s k
      · have hkb : k < b := by
          rcases Nat.lt_or_ge k b with h | h
          · exact h
          · exact absurd hg ((show b = k by omega) ▸ HB.out.2.2 (by omega) : ¬ goodI s k)
        rcases hg with (⟨c1, c2⟩ | ⟨c1, c2⟩) | ⟨hk1, c1, c2⟩
        all_goals
          go_wp2_with fail
          go_roundw
          case rel => exact ⟨trivial, k + 1, by omega, by go_num⟩
          case measure => simp [intOf]; omega
      · have HE : Hid (v = false) := by
          show _ = _
          refine Bool.eq_false_iff.2 fun e => ?_
          have e := HV.out.1 e
          exact hg (HB.out.2.1 k (by omega))
        have hc : bt s k < 48 ∨ (48 ≤ bt s k ∧ bt s k ≤ 57 ∧ k = 0) ∨ (57 < bt s k ∧ bt s k < 65) ∨ (90 < bt s k ∧ bt s k < 97) ∨ 122 < bt s k := by
          unfold goodI isLet isDig at hg
          omega
        clear hg
        rcases hc with c1 | ⟨c1, c2, c3⟩ | ⟨c1, c2⟩ | ⟨c1, c2⟩ | c1
        · go_wp2_with fail
          go_ret
          exact ⟨end_bool HE.out.symm, rfl⟩
        · have hk0 : ¬ (0 : Int) < (k : Int) := by omega
          have d0 : decide (0 < k) = false := by simp; omega
          clear c3
          go_wp2_with fail
          go_ret
          exact ⟨end_bool HE.out.symm, rfl⟩
        · go_wp2_with fail
          go_ret
          exact ⟨end_bool HE.out.symm, rfl⟩
        · have d1 : decide (bt s k ≤ 90) = false := by simp; omega
          go_wp2_with fail
          go_ret
          exact ⟨end_bool HE.out.symm, rfl⟩
        · have d1 : decide (bt s k ≤ 90) = false := by simp; omega
          have d2 : decide (bt s k ≤ 122) = false := by simp; omega
          go_wp2_with fail
          go_ret
          exact ⟨end_bool HE.out.symm, rfl⟩
    · have f1 : ¬ (k : Int) < (s.size : Int) := by omega
      have hkb : b = s.size := by omega
      by_cases h0 : 0 < s.size
      · have f2 : (0 : Int) < (s.size : Int) := by omega
        by_cases h16 : s.size ≤ 16
        · have f3 : (s.size : Int) ≤ 16 := by omega
          have HE : Hid (v = true) := HV.out.2 ⟨hkb, h0, h16⟩
          clear hkb h16 h0
          go_wp2_with fail
          go_ret
          exact ⟨end_bool (by rw [HE.out] <;> simp <;> omega), rfl⟩
        · have f3 : ¬ (s.size : Int) ≤ 16 := by omega
          have HE : Hid (v = false) := Bool.eq_false_iff.2 fun e => h16 (HV.out.1 e).2.2
          clear hkb h16 h0
          go_wp2_with fail
          go_ret
          exact ⟨end_bool (by rw [HE.out] <;> simp <;> omega), rfl⟩
      · have f2 : ¬ (0 : Int) < (s.size : Int) := by omega
        have HE : Hid (v = false) := Bool.eq_false_iff.2 fun e => h0 (HV.out.1 e).2.1
        clear hkb h0
        go_wp2_with fail
        go_ret
        exact ⟨end_bool (by rw [HE.out] <;> simp <;> omega), rfl⟩

open Classical in
theorem refName_any (s : ByteArray) (w : World) (h1000 : s.size ≤ 1000) : Calls Try.prog 33 #[.string s] w fun e w' => e = .returned (.bool (decide (NameP s))) ∧ w = w' := by
  obtain ⟨b, hb⟩ := upto_any s
  refine refName_walk s b w h1000 hb _ ?_
  simp only [decide_eq_true_eq]
  exact ⟨fun h => ⟨(hb.name h.1 h.2.1).1 h, h.1, h.2.1⟩, fun h => (hb.name h.2.1 h.2.2).2 h.1⟩
end Go.Proofs.Ytkkjfbpflfknpaa
