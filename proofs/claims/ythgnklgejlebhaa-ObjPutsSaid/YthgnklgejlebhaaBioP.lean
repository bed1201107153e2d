/-
  The program's Put and PutText (layer 11): numbers and texts behind a row of bytes. No conditions beyond those that each theorem names.
-/
import Derived.Test.YthgnklgejlebhaaBioW
namespace Go.Proofs.Ythgnklgejlebhaa
open Go.ChangeShapes Go.WideShapes Go.ChangeAt Go.RowKit

def wideK (k : Int) : Bool := decide (1 ≤ k) && decide (k ≤ 4)
set_option maxRecDepth 100000 in
theorem bwide_any (k : Int) (w : World) : Calls Try.prog 65 #[.int .i64 k] w fun e w' => e = .returned (.bool (wideK k)) ∧ w = w' := by
  by_cases h1 : 1 ≤ k
  · by_cases h4 : k ≤ 4
    · rw [show wideK k = true by simp [wideK, h1, h4]]
      go_enter Try.func65, Try.ntmps65
      go_wp2_with fail
      go_ret
      exact ⟨rfl, rfl⟩
    · rw [show wideK k = false by simp [wideK, h4]]
      have g : decide (k ≤ 4) = false := by simpa using h4
      go_enter Try.func65, Try.ntmps65
      go_wp2_with fail
      go_ret
      exact ⟨rfl, rfl⟩
  · rw [show wideK k = false by simp [wideK, h1]]
    have g : decide (1 ≤ k) = false := by simpa using h1
    have g2 : k < 1 := by omega
    go_enter Try.func65, Try.ntmps65
    go_wp2_with fail
    go_ret
    exact ⟨rfl, rfl⟩

theorem outN_not {k : Int} (h : wideK k = false) (n : Nat) : outN n k = [] := by
  have : outK k = 0 := by
    simp [wideK] at h
    unfold outK
    split
    · by_cases h1 : 1 ≤ k
      · have := h h1; omega
      · omega
    · rfl
  rw [outN, this]
  rfl
set_option maxRecDepth 100000 in
set_option maxHeartbeats 1000000 in
theorem bput_any (v : Value) (l : List Nat) (n : Nat) (k : Int) (w : World) (h : Bs w v l) (hn : n < 4294967296) (small : l.length ≤ 500000) :
    Calls Try.prog 36 #[v, .int .u32 (n : Nat), .int .i64 k] w fun e w' => ∃ v', e = .returned v' ∧ Bs w' v' (l ++ outN n k) ∧ Grew w w' v v' := by
  cases hk : wideK k with
  | false =>
    have RES := Lib.hid (show Bs w v (l ++ outN n k) ∧ Grew w w v v from ⟨by rw [outN_not hk, List.append_nil]; exact h, Grew.refl _ _⟩)
    clear h hn small
    go_enter Try.func36, Try.ntmps36
    go_wp2_with fail
    refine (bwide_any k _).mono ?_
    rw [hk]
    rintro e w1 ⟨rfl, rfl⟩
    go_wp2_with fail
    go_ret
    exact ⟨_, rfl, RES.out⟩
  | true =>
    have hk' := hk
    simp [wideK] at hk'
    obtain ⟨k, rfl⟩ : ∃ m : Nat, k = m := ⟨k.toNat, by omega⟩
    have hK : outK (k : Nat) = k := by unfold outK; rw [if_pos hk'.2]; simp
    have H0 : Hid (Bs w v (l ++ numB n 0) ∧ Grew w w v v) := ⟨by simpa [numB] using h, Grew.refl _ _⟩
    have HN := Lib.hid hn
    have HS := Lib.hid small
    have H4 : Hid (k ≤ 4) := by have := hk'.2; show _ ≤ _; omega
    have HRES : Hid (∀ w' v', Bs w' v' (l ++ numB n k) ∧ Grew w w' v v' → Bs w' v' (l ++ outN n (k : Nat)) ∧ Grew w w' v v') := fun w' v' q => by
      rw [outN, hK]; exact q
    have e0 : n / 256 ^ 0 = n := by simp
    clear h hn small hk' hK
    go_enter Try.func36, Try.ntmps36
    go_wp2_with fail
    refine (bwide_any _ _).mono ?_
    rw [hk]
    rintro e w1 ⟨rfl, rfl⟩
    clear hk
    go_wp2_with fail
    go_loopw [0, 1, 12] (fun out x i wr => ∃ (m : Nat), m ≤ k ∧ i = .int .i64 m ∧ x = .int .u32 ((n / 256 ^ m : Nat) : Int) ∧ Bs wr out (l ++ numB n m) ∧ Grew w wr v out) (fun _ _ i _ => k - (intOf i).toNat)
    case atStart => exact ⟨0, Nat.zero_le _, rfl, by rw [e0], H0.out⟩
    case round =>
      obtain ⟨m, hm, rfl, rfl, hb, hg⟩ := hrel
      have hn := HN.out
      have hsm := HS.out
      by_cases hlt : m < k
      · have hk4 := H4.out
        obtain ⟨v', w', hr, hb', hg'⟩ := more_byte hb (n / 256 ^ m % 256) (by rw [List.length_append, numB_length]; omega)
        have hy : n / 256 ^ m < 4294967296 := Nat.lt_of_le_of_lt (Nat.div_le_self _ _) hn
        have hnext : n / 256 ^ (m + 1) = n / 256 ^ m / 256 := by rw [Nat.pow_succ, Nat.div_div_eq_div_mul]
        have HB : Hid (Bs w' v' (l ++ numB n (m + 1)) ∧ Grew w w' v v') := ⟨by rw [numB_snoc, ← List.append_assoc]; exact hb', hg.trans hg'⟩
        clear hb hg hb' hg' hsm hm
        generalize n / 256 ^ m = y at *
        have HNX := Lib.hid hnext
        clear hnext
        have t4 : IntKind.u8.wrap (y : Int) = ((y % 256 : Nat) : Int) := by rw [IntKind.wrap_u8]; omega
        have HM : Hid (m < k) := hlt
        have HK4 : Hid (k ≤ 4) := hk4
        have i1 : IntKind.i64.wrap ((m : Int) + 1) = (m : Int) + 1 := IntWalk.i64_in _ (by omega)
        clear hk4
        go_wp2_with (at_builtin; refine Lib.wpList_append_run _ rfl _ _ _ _ rfl _ _ rfl rfl _ _ hr ?_)
        go_roundw
        case rel => exact ⟨m + 1, HM.out, by go_num, congrArg (Value.int .u32) (by rw [HNX.out]; omega), HB.out⟩
        case measure => simp [intOf]; omega
      · obtain rfl : m = k := by omega
        have RES := Lib.hid (HRES.out _ _ ⟨hb, hg⟩)
        clear hb hg hlt hm
        go_wp2_with fail
        go_ret
        exact ⟨_, rfl, RES.out⟩

theorem extract_all (s : ByteArray) : s.extract 0 s.size = s := by simp
set_option maxRecDepth 100000 in
set_option maxHeartbeats 1000000 in
theorem btext_cut (v : Value) (l : List Nat) (s0 : ByteArray) (w : World) (h : Bs w v l) (small : l.length ≤ 500000) (m : Nat) (hm : m = min s0.size 255) :
    Calls Try.prog 35 #[v, .string s0] w fun e w' => ∃ v', e = .returned v' ∧ Bs w' v' (l ++ m :: (sb s0).take m) ∧ Grew w w' v v' := by
  have hz : (s0.extract 0 m).size = m := by rw [ByteArray.size_extract]; omega
  obtain ⟨v2, w2, v3, w3, h1, h2, h3, h4⟩ := more_both h (s0.extract 0 m) small (by omega)
  rw [hz, sb_cut] at h3
  have RES := Lib.hid (And.intro h3 h4)
  have e1 := Lib.hid (show (if (255 : Int) < (s0.size : Int) then (255 : Int) else (s0.size : Int)) = (m : Int) by split <;> omega)
  have e3 : m ≤ s0.size := by omega
  have e4 : IntKind.u8.wrap (m : Int) = (m : Int) := by rw [IntKind.wrap_u8]; omega
  rw [hz] at h1
  clear h small h3 h4 hm
  go_enter Try.func35, Try.ntmps35
  go_upto_region 2 with fail
  rw [e1.out, Int.toNat_natCast]
  generalize s0.extract 0 m = s at *
  go_wp2_with (at_builtin; first | refine Lib.wpList_append_run _ rfl _ _ _ _ rfl v (.slice (some ⟨w.heap.size, 0, none⟩) 1 1) rfl rfl _ _ h1 ?_ | refine Lib.wpList_append_run _ rfl _ _ _ _ rfl v2 (.string s) rfl rfl _ _ h2 ?_)
  go_ret
  exact ⟨_, rfl, RES.out⟩
theorem btext_any (v : Value) (l : List Nat) (s : ByteArray) (w : World) (h : Bs w v l) (small : l.length ≤ 500000) :
    Calls Try.prog 35 #[v, .string s] w fun e w' => ∃ v', e = .returned v' ∧ Bs w' v' (l ++ textB (sb s)) ∧ Grew w w' v v' := by
  have e : textB (sb s) = min s.size 255 :: (sb s).take (min s.size 255) := by
    unfold textB
    rw [sb_length]
    by_cases hs : 255 < s.size
    · rw [if_pos hs, Nat.min_eq_right (by omega)]
    · rw [if_neg hs, Nat.min_eq_left (by omega), List.take_of_length_le (by rw [sb_length]; omega), List.take_of_length_le (by rw [sb_length]; omega)]
  rw [e]
  exact btext_cut v l s w h small _ rfl
end Go.Proofs.Ythgnklgejlebhaa
