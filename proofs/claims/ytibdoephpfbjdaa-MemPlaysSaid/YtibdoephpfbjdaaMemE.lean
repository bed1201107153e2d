/-
  The walk of MemPlays (layer 4), all but its small scripts: it returns true and changes nothing that was there. No conditions.
-/
import Derived.Test.YtibdoephpfbjdaaMemD
namespace Go.Proofs.Ytibdoephpfbjdaa
open Go.ChangeShapes Go.WideShapes Go.ChangeAt Go.RowKit

theorem kept_set (w : World) (g i : Nat) (v : Value) : Kept (· = g) w (w.setCell ⟨g, i, none⟩ v) := (Kept.refl (· = g) w).setCell (p := ⟨g, i, none⟩) (fun _ => rfl) v

/- bytes that are laid over a row one by one -/
def LaidRel (w wi : World) (o i : Nat) (l bs : List Nat) (v : Value) : Prop := ∃ j : Nat, j ≤ 4 ∧ v = .int .i64 j ∧ ByteRow wi o (splice l i (bs.take j)) ∧ Kept (· = o) w wi
theorem laid_start {w : World} {o : Nat} {l bs : List Nat} (h : ByteRow w o l) (i : Nat) : ByteRow w o (splice l i (bs.take 0)) := by
  have : splice l i (bs.take 0) = l := by simp [splice]
  rw [this]
  exact h
theorem laid_step (l : List Nat) (i : Nat) (bs : List Nat) (j : Nat) (hi : i + bs.length ≤ l.length) (hj : j < bs.length) : (splice l i (bs.take j)).set (i + j) (bs.getD j 0) = splice l i (bs.take (j + 1)) := by
  apply List.ext_getElem?
  intro m
  have hd : bs.getD j 0 = bs[j] := by simp [List.getD, hj]
  have hl : (bs.take j).length = j := by rw [List.length_take]; omega
  have hl' : (bs.take (j + 1)).length = j + 1 := by rw [List.length_take]; omega
  have ht : (l.take i).length = i := by rw [List.length_take]; omega
  simp only [splice, List.getElem?_set, List.length_append, List.length_drop, hl, hl', ht, List.getElem?_append, List.getElem?_take, List.getElem?_drop, hd]
  by_cases h1 : m < i
  · simp [h1, show ¬ i + j = m by omega]
  · by_cases h2 : i + j = m
    · subst h2
      rw [if_pos rfl, if_pos (by omega), if_neg (by omega), if_pos (by omega), if_pos (by omega)]
      simp [hj]
    · by_cases h3 : m - i < j
      · simp [h1, h2, h3, show m - i < j + 1 by omega]
      · simp [h1, h2, h3, show ¬ m - i < j + 1 by omega]
        congr 1
        omega

theorem refWord_at (g i cap : Nat) (l : List Nat) (w : World) (h : ByteRow w g l) (hi : i + 4 ≤ l.length) (hcap : 4 ≤ cap) (hm : cap ≤ 65536) :
    Calls Try.prog 9 #[.slice (some ⟨g, i, none⟩) 4 cap] w fun e w' => e = .returned (.int .u32 (wordAt l i : Nat)) ∧ w = w' := by
  have hl : (piece l i (i + 4)).length = 4 := by rw [piece_length l i (i + 4) hi]; omega
  have := refWord_some g i cap (piece l i (i + 4)) w (by omega) (by omega) (by omega) (piece_lt h.2 _ _) (fun k hk => by
    rw [h.at_ (i + k) (by omega), piece_getD l i (i + 4) k (by omega)])
  rw [hl] at this
  unfold wordOf at this
  rw [List.take_of_length_le (by omega)] at this
  exact this
theorem refBytes_new (x : Nat) (w : World) (hx : x < 4294967296) :
    Calls Try.prog 11 #[.int .u32 x] w fun e w' => e = .returned (.slice (some ⟨w.heap.size, 0, none⟩) 4 4) ∧ w.alloc (.cells (byteVals (bytes4 x)).toArray 5) = w' := refBytes_any x w hx

set_option maxRecDepth 100000 in
set_option maxHeartbeats 1000000 in
theorem memPlays_bad (s : Int) (a : Option Addr) (n cap : Nat) (f t : Int) (w : World) (h : s < 1024 ∨ 65536 < s ∨ s.tmod 4 ≠ 0) :
    Calls Try.prog 3 #[.int .i64 s, .slice a n cap, .int .i64 f, .int .i64 t] w fun e w' => e = .returned (.bool true) ∧ Below w.heap.size w w' := by
  have q := arg_eql
  have HN := Lib.hid (fun w => memNew_no s w h)
  by_cases h1 : s < 1024
  · clear h
    go_enter Try.func3, Try.ntmps3
    go_wp2_with fail
    refine (up04 _).mono ?_
    rintro e w0 ⟨rfl, b0⟩
    go_wp2_with fail
    refine (HN.out _).mono ?_
    rintro e w1 ⟨rfl, rfl⟩
    go_wp2_with fail
    go_ret
    exact ⟨rfl, b0⟩
  · by_cases h2 : 65536 < s
    · clear h
      go_enter Try.func3, Try.ntmps3
      go_wp2_with fail
      refine (up04 _).mono ?_
      rintro e w0 ⟨rfl, b0⟩
      go_wp2_with fail
      refine (HN.out _).mono ?_
      rintro e w1 ⟨rfl, rfl⟩
      go_wp2_with fail
      go_ret
      exact ⟨rfl, b0⟩
    · have h3 : s % 4 ≠ 0 := by
        rcases h with h | h | h
        · exact absurd h h1
        · exact absurd h h2
        · rwa [Int.tmod_eq_emod_of_nonneg (by omega)] at h
      have h4 : (s % 4 != 0) = true := by simpa using h3
      have g1 : 1024 ≤ s := by omega
      have g2 : s ≤ 65536 := by omega
      clear h h1 h2 h3
      go_enter Try.func3, Try.ntmps3
      go_wp2_with fail
      refine (up04 _).mono ?_
      rintro e w0 ⟨rfl, b0⟩
      go_wp2_with fail
      refine (HN.out _).mono ?_
      rintro e w1 ⟨rfl, rfl⟩
      go_wp2_with fail
      go_ret
      exact ⟨rfl, b0⟩

set_option maxRecDepth 100000 in
set_option maxHeartbeats 1000000 in
theorem memPlays_big (s : Nat) (a : Option Addr) (n cap : Nat) (f t : Int) (w : World) (h1 : 1024 ≤ s) (h2 : s ≤ 65536) (h4 : s % 4 = 0) (h : 4096 < s ∨ 150 < n) :
    Calls Try.prog 3 #[.int .i64 s, .slice a n cap, .int .i64 f, .int .i64 t] w fun e w' => e = .returned (.bool true) ∧ Below w.heap.size w w' := by
  have hq : (((s : Int) % 4) != 0) = false := by simp; omega
  have HN := Lib.hid (fun w => memNew_raw s w h1 h2 h4)
  clear h4
  by_cases h3 : 4096 < s
  · clear h
    go_enter Try.func3, Try.ntmps3
    go_wp2_with fail
    refine (up04 _).mono ?_
    rintro e w0 ⟨rfl, b0⟩
    go_wp2_with fail
    refine (HN.out _).mono ?_
    rintro e w1 ⟨rfl, hw1⟩
    have b1 : Below w.heap.size w w1 := below_on b0 (hw1 ▸ (newMem_kept w0 s (fun _ => False)).none) b0.size
    clear hw1
    go_wp2_with fail
    go_ret
    exact ⟨rfl, b1⟩
  · have h5 : 150 < n := by omega
    clear h
    go_enter Try.func3, Try.ntmps3
    go_wp2_with fail
    refine (up04 _).mono ?_
    rintro e w0 ⟨rfl, b0⟩
    go_wp2_with fail
    refine (HN.out _).mono ?_
    rintro e w1 ⟨rfl, hw1⟩
    have b1 : Below w.heap.size w w1 := below_on b0 (hw1 ▸ (newMem_kept w0 s (fun _ => False)).none) b0.size
    clear hw1
    go_wp2_with fail
    go_ret
    exact ⟨rfl, b1⟩
end Go.Proofs.Ytibdoephpfbjdaa
