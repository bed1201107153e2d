/-
  The examples at the head of layer 10's statements (up): true. No conditions.
-/
import Derived.Test.YtidncccbgihhhaaFilesB
import Derived.Lib.IfaceEq
import Derived.Lib.SlBytesConst
namespace Go.Proofs.Ytidncccbgihhhaa
open Go.ChangeShapes Go.WideShapes Go.ChangeAt Go.RowKit

theorem name_a : NameP (ByteArray.mk #[97]) := by
  refine ⟨by decide, by decide, fun i hi => ?_⟩
  obtain rfl : i = 0 := by have : (ByteArray.mk #[97]).size = 1 := rfl; omega
  exact .inl (.inl (by decide))
theorem name_none : ¬ NameP (ByteArray.mk #[]) := fun h => by have := h.1; revert this; decide
set_option maxRecDepth 100000 in
theorem none_eql (w : World) : (binOp .eql 36 (.iface 48 (.int .i64 3)) (.iface 48 (.int .i64 3))).run Try.prog w = .ok (.bool true) w := by kernel_rfl
set_option maxRecDepth 100000 in
theorem name_eql (w : World) : (binOp .eql 36 (.iface 48 (.int .i64 2)) (.iface 48 (.int .i64 2))).run Try.prog w = .ok (.bool true) w := by kernel_rfl
theorem str_x : strOf [120] = ByteArray.mk #[120] := rfl

theorem bytes_x (w : World) : BytesAt (w.alloc (.cells #[.int .u8 120] BT (1, 2))) (.slice (some ⟨w.heap.size, 0, none⟩) 1 1) [120] := by
  refine ⟨⟨_, 1, 1, rfl, rfl, Nat.le_refl _, by simp [maxLen], (fun h => by cases h), .inr ⟨w.heap.size, 0, rfl, by simp, fun i hi => ?_⟩⟩, fun x hx => by simp at hx; omega⟩
  obtain rfl : i = 0 := by omega
  have hn := heap_alloc_new w (.cells #[.int .u8 120] BT (1, 2))
  simp only [World.cell?, hn]
  rfl
theorem bytes_nil (w : World) : BytesAt w (.slice none 0 0) [] := ⟨⟨none, 0, 0, rfl, rfl, Nat.le_refl _, Nat.zero_le _, fun _ => rfl, .inl rfl⟩, fun x hx => by cases hx⟩

theorem BytesAt.keep_map {lo : Nat} {w w' : World} {fb mb : Nat} {R : RL} {v : Value} {l : List Nat} (h : BytesAt w v l) (k : Kept (· = mb) w w') (hf : FilesAt lo w fb mb R) : BytesAt w' v l := by
  obtain ⟨⟨a, n, cap, rfl, h1, h2, h3, h4, h5⟩, hfit⟩ := h
  refine ⟨⟨a, n, cap, rfl, h1, h2, h3, h4, ?_⟩, hfit⟩
  rcases h5 with h5 | ⟨b, off, e, hl, hc⟩
  · exact .inl h5
  · rcases Nat.eq_zero_or_pos n with h0 | h0
    · exact .inl h0
    · refine .inr ⟨b, off, e, Nat.lt_of_lt_of_le hl k.more, fun i hi => ?_⟩
      rw [k.cell (p := ⟨b, off + i, none⟩) hl ?_]
      · exact hc i hi
      · rintro rfl
        obtain ⟨es, c, hb⟩ := hf.map.obj
        have := hc i hi
        simp [World.cell?, hb] at this
abbrev sA : ByteArray := ByteArray.mk #[97]
theorem putC_a : putC ([] : RL) sA 1 = 0 := by simp [putC, name_a, nms]
theorem putN_a (x : Value × List Nat) : putN ([] : RL) sA 1 x = [(sA, x)] := by
  unfold putN
  rw [if_pos putC_a]
  rfl
theorem missC_a (x : Value × List Nat) : missC [(sA, x)] sA = 0 := missC_yes name_a (by simp [nms])
theorem delN_a (x : Value × List Nat) : delN [(sA, x)] sA = [] := by
  unfold delN
  rw [if_pos (missC_a x)]
  simp [delF]
theorem missC_a0 : missC ([] : RL) sA = 2 + 1 := missC_none name_a (by simp [nms])
theorem putC_none : putC ([] : RL) (ByteArray.mk #[]) 0 = 2 := by simp [putC, name_none]

set_option maxRecDepth 100000 in
set_option maxHeartbeats 1000000 in
theorem up10 (w : World) : Calls Try.prog 5 #[] w fun e w' => e = .returned (.bool true) ∧ Below w.heap.size w w' := by
  have q1 := none_eql
  have q2 := name_eql
  have HSZ : Hid (sA.size ≤ maxLen) := by show _ ≤ _; simp [maxLen]; decide
  go_enter Try.func5, Try.ntmps5
  go_wp2_with fail
  refine (fnew_any 0 _).mono ?_
  rintro e w1 ⟨fb, mb, rfl, hf, hb, hmb, _⟩
  have HF : Hid (FilesAt 0 (w1.alloc (.cells #[.int .u8 120] BT (1, 2))) fb mb []) := hf.on ((Below.refl _ _).alloc (Nat.le_refl _) _)
  have HB : Hid (Below w.heap.size w (w1.alloc (.cells #[.int .u8 120] BT (1, 2)))) := hb.alloc hb.size _
  have HX := Lib.hid (bytes_x w1)
  have q3 := Lib.run_convert_bytes_const (P := Try.prog) w1 BS BT #[.int .u8 120] 1 1 Try.underlying30 Try.underlying5
  clear hf hb
  go_wp2_with fail
  refine (put_any 0 fb mb [] sA _ [120] _ HF.out (Nat.zero_le _) HSZ.out HX.out).mono ?_
  rintro e w2 ⟨rfl, v2, hf, hk⟩
  rw [show [120].length = 1 from rfl, putC_a, errV_zero]
  rw [show [120].length = 1 from rfl, putN_a] at hf
  have HF2 := Lib.hid hf
  have HMB := Lib.hid hmb
  have HB2 := Lib.hid (hk.below HB.out HB.out.size fun k _ e => by have := HMB.out; omega)
  clear hf hk q3 HX HF HB hmb
  generalize w1.heap.size = sp at *
  go_wp2_with fail
  refine (get_yes 0 fb mb _ sA v2 [120] w2 HF2.out HSZ.out name_a (by simp) (by simp)).mono ?_
  rintro e w3 ⟨v3, rfl, hr, ho, hb⟩
  have HF3 := Lib.hid (HF2.out.on hb)
  have HB3 := Lib.hid (below_on HB2.out hb HB2.out.size)
  have HY := Lib.hid (hr.bytes (by simp))
  clear hr ho hb HF2 HB2
  go_wp2_with fail
  refine (fdel_any 0 fb mb _ sA w3 HF3.out HSZ.out).mono ?_
  rintro e w4 ⟨rfl, hf, hk⟩
  rw [missC_a, errV_zero]
  rw [delN_a] at hf
  have HF4 := Lib.hid hf
  have HB4 := Lib.hid (hk.below HB3.out HB3.out.size fun k _ e => by have := HMB.out; omega)
  have HY4 := Lib.hid (BytesAt.keep_map HY.out hk HF3.out)
  clear hf hk HF3 HB3 HY
  go_wp2_with fail
  refine (get_no 0 fb mb [] sA w4 HF4.out HSZ.out 2 missC_a0).mono ?_
  rintro e w' ⟨rfl, rfl⟩
  rw [errV_succ]
  have hcv := HY4.out.string
  rw [str_x] at hcv
  go_wp2_with fail
  refine (put_any 0 fb mb [] _ _ [] w4 HF4.out (Nat.zero_le _) (Nat.zero_le _) (bytes_nil w4)).mono ?_
  rintro e w5 ⟨rfl, v5, hf, hk⟩
  rw [show ([] : List Nat).length = 0 from rfl, putC_none, errV_succ]
  have HB5 := Lib.hid (hk.below HB4.out HB4.out.size fun k _ e => by have := HMB.out; omega)
  clear hf hk HF4 HB4
  go_wp2_with fail
  go_ret
  exact ⟨rfl, HB5.out⟩
end Go.Proofs.Ytidncccbgihhhaa
