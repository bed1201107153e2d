/-
  Contracts of package mem (layer 4): New, Size, Word, SetWord, Byte, SetByte, Bytes and their helpers. No conditions beyond those that each theorem names.
-/
import Derived.Test.YtlnjcaicagcinaaByteA
import Derived.RegionTactic
import Derived.Deep.RegionWith
namespace Go.Proofs.Ytlnjcaicagcinaa
open Go.ChangeShapes Go.WideShapes Go.ChangeAt Go.RowKit

/- a memory: the struct lies in block p, its bytes in block g -/
structure MemAt (w : World) (p g : Nat) (l : List Nat) : Prop where
  head : w.heap[p]? = some (.cells #[.slice (some ⟨g, 0, none⟩) l.length l.length] 70 (0, 0))
  row : ByteRow w g l
  apart : p ≠ g
  small : l.length ≤ 65536

theorem MemAt.cell {w : World} {p g : Nat} {l : List Nat} (h : MemAt w p g l) : w.cell? ⟨p, 0, none⟩ = some (.slice (some ⟨g, 0, none⟩) l.length l.length) := by
  rw [cell_of_row w p 0 _ _ _ h.head]
  rfl
theorem MemAt.keep {S : Nat → Prop} {w w' : World} {p g : Nat} {l : List Nat} (h : MemAt w p g l) (k : Kept S w w') (hp : ¬ S p) (hg : ¬ S g) : MemAt w' p g l := ⟨k.block h.head hp, h.row.keep k hg, h.apart, h.small⟩
theorem MemAt.drew {w : World} {p g : Nat} {l : List Nat} (h : MemAt w p g l) : MemAt w.drew p g l := ⟨h.head, h.row, h.apart, h.small⟩
theorem MemAt.lt {w : World} {p g : Nat} {l : List Nat} (h : MemAt w p g l) : p < w.heap.size := (Array.getElem?_eq_some_iff.1 h.head).1

set_option maxRecDepth 100000 in
theorem aligned_yes (a : Int) (w : World) (h : a.tmod 4 = 0) :
    Calls Try.prog 21 #[.int .i64 a] w fun e w' => e = .returned (.bool true) ∧ w = w' := by
  have hq : (a.tmod 4 == 0) = true := by simp [h]
  clear h
  go_enter Try.func21, Try.ntmps21
  go_wp2
  go_ret
  exact ⟨rfl, rfl⟩

set_option maxRecDepth 100000 in
theorem aligned_no (a : Int) (w : World) (h : a.tmod 4 ≠ 0) :
    Calls Try.prog 21 #[.int .i64 a] w fun e w' => e = .returned (.bool false) ∧ w = w' := by
  have hq : (a.tmod 4 == 0) = false := by simp [h]
  clear h
  go_enter Try.func21, Try.ntmps21
  go_wp2
  go_ret
  exact ⟨rfl, rfl⟩

set_option maxRecDepth 100000 in
theorem size_any (p n c : Nat) (a : Option Addr) (w : World) (hc : w.cell? ⟨p, 0, none⟩ = some (.slice a n c)) :
    Calls Try.prog 20 #[.pointer (some ⟨p, 0, none⟩)] w fun e w' => e = .returned (.int .i64 n) ∧ w = w' := by
  go_enter Try.func20, Try.ntmps20
  go_wp2
  go_ret
  exact ⟨rfl, rfl⟩

set_option maxRecDepth 100000 in
theorem has_yes (p n c : Nat) (a : Option Addr) (i k : Int) (w : World) (hc : w.cell? ⟨p, 0, none⟩ = some (.slice a n c)) (hn : n ≤ 65536) (h0 : 0 ≤ i) (hk : 0 ≤ k) (h1 : i ≤ n - k) (hk4 : k ≤ 4) :
    Calls Try.prog 46 #[.pointer (some ⟨p, 0, none⟩), .int .i64 i, .int .i64 k] w fun e w' => e = .returned (.bool true) ∧ w = w' := by
  go_enter Try.func46, Try.ntmps46
  go_wp2_with fail
  refine (size_any p n c a _ hc).mono ?_
  rintro e w' ⟨rfl, rfl⟩
  go_wp2_with fail
  go_ret
  exact ⟨rfl, rfl⟩

set_option maxRecDepth 100000 in
theorem has_no (p n c : Nat) (a : Option Addr) (i k : Int) (w : World) (hc : w.cell? ⟨p, 0, none⟩ = some (.slice a n c)) (hn : n ≤ 65536) (hk : 0 ≤ k) (hk4 : k ≤ 4) (h : i < 0 ∨ n - k < i) :
    Calls Try.prog 46 #[.pointer (some ⟨p, 0, none⟩), .int .i64 i, .int .i64 k] w fun e w' => e = .returned (.bool false) ∧ w = w' := by
  by_cases h0 : i < 0
  · clear h
    go_enter Try.func46, Try.ntmps46
    go_wp2_with fail
    go_ret
    exact ⟨rfl, rfl⟩
  · have h1 : 0 ≤ i := by omega
    have h2 : n - k < i := by omega
    clear h h0
    go_enter Try.func46, Try.ntmps46
    go_wp2_with fail
    refine (size_any p n c a _ hc).mono ?_
    rintro e w' ⟨rfl, rfl⟩
    go_wp2_with fail
    go_ret
    exact ⟨end_bool (by simp <;> omega), rfl⟩

set_option maxRecDepth 100000 in
theorem trap_odd (p : Nat) (i : Int) (w : World) (h : i.tmod 4 ≠ 0) :
    Calls Try.prog 31 #[.pointer (some ⟨p, 0, none⟩), .int .i64 i] w fun e w' => e = .returned (.int .i64 3) ∧ w = w' := by
  have H := Lib.hid h
  clear h
  go_enter Try.func31, Try.ntmps31
  go_wp2_with fail
  refine (aligned_no i _ H.out).mono ?_
  rintro e w' ⟨rfl, rfl⟩
  go_wp2_with fail
  go_ret
  exact ⟨rfl, rfl⟩

set_option maxRecDepth 100000 in
theorem trap_far (p n c : Nat) (a : Option Addr) (i : Int) (w : World) (hc : w.cell? ⟨p, 0, none⟩ = some (.slice a n c)) (hn : n ≤ 65536) (h4 : i.tmod 4 = 0) (h : i < 0 ∨ (n : Int) - 4 < i) :
    Calls Try.prog 31 #[.pointer (some ⟨p, 0, none⟩), .int .i64 i] w fun e w' => e = .returned (.int .i64 2) ∧ w = w' := by
  have H := Lib.hid h
  have H4 := Lib.hid h4
  clear h h4
  go_enter Try.func31, Try.ntmps31
  go_wp2_with fail
  refine (aligned_yes i _ H4.out).mono ?_
  rintro e w' ⟨rfl, rfl⟩
  go_wp2_with fail
  refine (has_no p n c a i 4 _ hc hn (by omega) (by omega) H.out).mono ?_
  rintro e w' ⟨rfl, rfl⟩
  go_wp2_with fail
  go_ret
  exact ⟨rfl, rfl⟩

set_option maxRecDepth 100000 in
theorem trap_none (p n c : Nat) (a : Option Addr) (i : Int) (w : World) (hc : w.cell? ⟨p, 0, none⟩ = some (.slice a n c)) (hn : n ≤ 65536) (h4 : i.tmod 4 = 0) (h0 : 0 ≤ i) (h1 : i ≤ (n : Int) - 4) :
    Calls Try.prog 31 #[.pointer (some ⟨p, 0, none⟩), .int .i64 i] w fun e w' => e = .returned (.int .i64 0) ∧ w = w' := by
  have H4 := Lib.hid h4
  clear h4
  go_enter Try.func31, Try.ntmps31
  go_wp2_with fail
  refine (aligned_yes i _ H4.out).mono ?_
  rintro e w' ⟨rfl, rfl⟩
  go_wp2_with fail
  refine (has_yes p n c a i 4 _ hc hn h0 (by omega) h1 (by omega)).mono ?_
  rintro e w' ⟨rfl, rfl⟩
  go_wp2_with fail
  go_ret
  exact ⟨rfl, rfl⟩

/- what a word is made of, and where it lies -/
def wordAt (l : List Nat) (i : Nat) : Nat := wordN (piece l i (i + 4))
def setWordAt (l : List Nat) (i x : Nat) : List Nat := splice l i [byteN x 0, byteN x 1, byteN x 2, byteN x 3]

theorem word_at (g i cap : Nat) (l : List Nat) (w : World) (h : ByteRow w g l) (hi : i + 4 ≤ l.length) (hcap : 4 ≤ cap) (hm : cap ≤ 65536) :
    Calls Try.prog 65 #[.slice (some ⟨g, i, none⟩) 4 cap] w fun e w' => e = .returned (.int .u32 (wordAt l i : Nat)) ∧ w = w' := by
  have hl : (piece l i (i + 4)).length = 4 := by rw [piece_length l i (i + 4) hi]; omega
  have := word_some g i cap (piece l i (i + 4)) w (by omega) (by omega) (by omega) (piece_lt h.2 _ _) (fun k hk => by
    rw [h.at_ (i + k) (by omega), piece_getD l i (i + 4) k (by omega)])
  rw [hl] at this
  unfold wordOf at this
  rw [List.take_of_length_le (by omega)] at this
  exact this

set_option maxRecDepth 100000 in
theorem memWord_odd (p : Nat) (i : Int) (w : World) (h : i.tmod 4 ≠ 0) :
    Calls Try.prog 48 #[.pointer (some ⟨p, 0, none⟩), .int .i64 i] w fun e w' => e = .returned (.tuple #[.int .u32 0, .int .i64 3]) ∧ w = w' := by
  have H := Lib.hid h
  clear h
  go_enter Try.func48, Try.ntmps48
  go_wp2_with fail
  refine (trap_odd p i _ H.out).mono ?_
  rintro e w' ⟨rfl, rfl⟩
  go_wp2_with fail
  go_ret2
  exact ⟨rfl, rfl⟩

set_option maxRecDepth 100000 in
theorem memWord_far (p g : Nat) (l : List Nat) (i : Int) (w : World) (hm : MemAt w p g l) (h4 : i.tmod 4 = 0) (h : i < 0 ∨ (l.length : Int) - 4 < i) :
    Calls Try.prog 48 #[.pointer (some ⟨p, 0, none⟩), .int .i64 i] w fun e w' => e = .returned (.tuple #[.int .u32 0, .int .i64 2]) ∧ w = w' := by
  have H := Lib.hid (trap_far p _ _ _ i w hm.cell hm.small h4 h)
  clear h h4
  go_enter Try.func48, Try.ntmps48
  go_wp2_with fail
  refine H.out.mono ?_
  rintro e w' ⟨rfl, rfl⟩
  go_wp2_with fail
  go_ret2
  exact ⟨rfl, rfl⟩

set_option maxRecDepth 100000 in
theorem memWord_yes (p g : Nat) (l : List Nat) (i : Nat) (w : World) (hm : MemAt w p g l) (h4 : i % 4 = 0) (h : i + 4 ≤ l.length) :
    Calls Try.prog 48 #[.pointer (some ⟨p, 0, none⟩), .int .i64 i] w fun e w' => e = .returned (.tuple #[.int .u32 (wordAt l i : Nat), .int .i64 0]) ∧ w = w' := by
  have hs := hm.small
  have H := Lib.hid (trap_none p _ _ _ (i : Int) w hm.cell hm.small (by rw [Int.tmod_eq_emod_of_nonneg (by omega)]; omega) (by omega) (by omega))
  have HW := Lib.hid (word_at g i (l.length - i) l w hm.row h (by omega) (by omega))
  have hc := hm.cell
  have HM := Lib.hid hm
  clear h4 hm
  generalize l.length = n at *
  go_enter Try.func48, Try.ntmps48
  go_wp2_with fail
  refine H.out.mono ?_
  rintro e w' ⟨rfl, rfl⟩
  go_wp2_with fail
  refine HW.out.mono ?_
  rintro e w' ⟨rfl, rfl⟩
  go_wp2_with fail
  go_ret2
  exact ⟨rfl, rfl⟩

set_option maxRecDepth 100000 in
theorem memByte_no (p g : Nat) (l : List Nat) (i : Int) (w : World) (hm : MemAt w p g l) (h : i < 0 ∨ (l.length : Int) ≤ i) :
    Calls Try.prog 75 #[.pointer (some ⟨p, 0, none⟩), .int .i64 i] w fun e w' => e = .returned (.tuple #[.int .u8 0, .int .i64 2]) ∧ w = w' := by
  have H := Lib.hid (has_no p _ _ _ i 1 w hm.cell hm.small (by omega) (by omega) (by omega))
  clear h
  go_enter Try.func75, Try.ntmps75
  go_wp2_with fail
  refine H.out.mono ?_
  rintro e w' ⟨rfl, rfl⟩
  go_wp2_with fail
  go_ret2
  exact ⟨rfl, rfl⟩

set_option maxRecDepth 100000 in
theorem memByte_yes (p g : Nat) (l : List Nat) (i : Nat) (w : World) (hm : MemAt w p g l) (h : i < l.length) :
    Calls Try.prog 75 #[.pointer (some ⟨p, 0, none⟩), .int .i64 i] w fun e w' => e = .returned (.tuple #[.int .u8 (l.getD i 0 : Nat), .int .i64 0]) ∧ w = w' := by
  have H := Lib.hid (has_yes p _ _ _ (i : Int) 1 w hm.cell hm.small (by omega) (by omega) (by omega) (by omega))
  have hc := hm.cell
  have hb := hm.row.at_ i h
  have HM := Lib.hid hm
  clear hm
  generalize l.getD i 0 = b at *
  generalize l.length = n at *
  go_enter Try.func75, Try.ntmps75
  go_wp2_with fail
  refine H.out.mono ?_
  rintro e w' ⟨rfl, rfl⟩
  go_wp2_with fail
  go_ret2
  exact ⟨rfl, rfl⟩

set_option maxRecDepth 100000 in
theorem memSetByte_no (p g : Nat) (l : List Nat) (i : Int) (b : Int) (w : World) (hm : MemAt w p g l) (h : i < 0 ∨ (l.length : Int) ≤ i) :
    Calls Try.prog 76 #[.pointer (some ⟨p, 0, none⟩), .int .i64 i, .int .u8 b] w fun e w' => e = .returned (.int .i64 2) ∧ w = w' := by
  have H := Lib.hid (has_no p _ _ _ i 1 w hm.cell hm.small (by omega) (by omega) (by omega))
  clear h
  go_enter Try.func76, Try.ntmps76
  go_wp2_with fail
  refine H.out.mono ?_
  rintro e w' ⟨rfl, rfl⟩
  go_wp2_with fail
  go_ret
  exact ⟨rfl, rfl⟩

/- behind a byte that is set -/
theorem MemAt.setCell {w : World} {p g : Nat} {l : List Nat} (h : MemAt w p g l) (i b : Nat) (hb : b < 256) : MemAt (w.setCell ⟨g, i, none⟩ (.int .u8 (b : Int))) p g (l.set i b) :=
  ⟨by rw [List.length_set]; exact (Below.heap_setCell w ⟨g, i, none⟩ _ p h.apart).trans h.head, h.row.setCell i b hb, h.apart, by rw [List.length_set]; exact h.small⟩

set_option maxRecDepth 100000 in
theorem memSetByte_yes (p g : Nat) (l : List Nat) (i b : Nat) (w : World) (hm : MemAt w p g l) (h : i < l.length) :
    Calls Try.prog 76 #[.pointer (some ⟨p, 0, none⟩), .int .i64 i, .int .u8 b] w fun e w' => e = .returned (.int .i64 0) ∧ w.setCell ⟨g, i, none⟩ (.int .u8 (b : Int)) = w' := by
  have H := Lib.hid (has_yes p _ _ _ (i : Int) 1 w hm.cell hm.small (by omega) (by omega) (by omega) (by omega))
  have hc := hm.cell
  have hb := hm.row.at_ i h
  have hf := hm.row.free i
  have HM := Lib.hid hm
  clear hm
  generalize l.length = n at *
  go_enter Try.func76, Try.ntmps76
  go_wp2_with fail
  refine H.out.mono ?_
  rintro e w' ⟨rfl, rfl⟩
  go_wp2_with fail
  go_ret
  exact ⟨rfl, rfl⟩

set_option maxRecDepth 100000 in
theorem memSetWord_odd (p : Nat) (i : Int) (x : Int) (w : World) (h : i.tmod 4 ≠ 0) :
    Calls Try.prog 16 #[.pointer (some ⟨p, 0, none⟩), .int .i64 i, .int .u32 x] w fun e w' => e = .returned (.int .i64 3) ∧ w = w' := by
  have H := Lib.hid h
  clear h
  go_enter Try.func16, Try.ntmps16
  go_wp2_with fail
  refine (trap_odd p i _ H.out).mono ?_
  rintro e w' ⟨rfl, rfl⟩
  go_wp2_with fail
  go_ret
  exact ⟨rfl, rfl⟩

set_option maxRecDepth 100000 in
theorem memSetWord_far (p g : Nat) (l : List Nat) (i : Int) (x : Int) (w : World) (hm : MemAt w p g l) (h4 : i.tmod 4 = 0) (h : i < 0 ∨ (l.length : Int) - 4 < i) :
    Calls Try.prog 16 #[.pointer (some ⟨p, 0, none⟩), .int .i64 i, .int .u32 x] w fun e w' => e = .returned (.int .i64 2) ∧ w = w' := by
  have H := Lib.hid (trap_far p _ _ _ i w hm.cell hm.small h4 h)
  clear h h4
  go_enter Try.func16, Try.ntmps16
  go_wp2_with fail
  refine H.out.mono ?_
  rintro e w' ⟨rfl, rfl⟩
  go_wp2_with fail
  go_ret
  exact ⟨rfl, rfl⟩

/- a word's bytes, in new memory; and those bytes, laid over a row -/
def bytes4 (x : Nat) : List Nat := [byteN x 0, byteN x 1, byteN x 2, byteN x 3]
theorem bytes4_lt (x : Nat) : ∀ b ∈ bytes4 x, b < 256 := by
  intro b hb
  simp [bytes4] at hb
  rcases hb with rfl | rfl | rfl | rfl <;> exact byteN_lt _ _
theorem bytes_new (x : Nat) (w : World) (hx : x < 4294967296) :
    Calls Try.prog 32 #[.int .u32 x] w fun e w' => e = .returned (.slice (some ⟨w.heap.size, 0, none⟩) 4 4) ∧ w.alloc (.cells (byteVals (bytes4 x)).toArray 5) = w' := bytes_any x w hx

set_option maxRecDepth 100000 in
theorem copy_row {w : World} {g h i n cap m : Nat} {l s : List Nat} (ty : TypeId) (hg : ByteRow w g l) (hs : ByteRow w h s) (hn : n = s.length) (hi : i + s.length ≤ l.length) :
    (Builtin.copy_ #[33, 33] ty #[.slice (some ⟨g, i, none⟩) n cap, .slice (some ⟨h, 0, none⟩) n m]).run Try.prog w = .ok (goInt s.length) (w.setRow g (byteVals (splice l i s)).toArray) := by
  subst hn
  have := run_copy_row (P := Try.prog) w 33 33 ty 5 g i s.length cap ⟨h, 0, none⟩ s.length m (byteVals l).toArray 5 (byteVals s) Try.underlying33 (by kernel_rfl) hg.1 (by simp [byteVals_length]) (fun j v hj => by
    have hjl : j < s.length := by
      rcases Nat.lt_or_ge j s.length with hj' | hj'
      · exact hj'
      · rw [List.getElem?_eq_none (by simpa [byteVals_length] using hj')] at hj
        cases hj
    rw [byteVals_at s j hjl] at hj
    have hadd : (⟨h, 0, none⟩ : Addr).add j = ⟨h, j, none⟩ := by unfold Addr.add; split <;> simp_all
    rw [hadd, hs.at_ j hjl]
    exact hj) (by simpa [byteVals_length] using hi) (byteVals_one s)
  rw [byteVals_length] at this
  rw [this, ← byteVals_splice]
  simp [splice, byteVals_length]

set_option maxRecDepth 100000 in
set_option maxHeartbeats 1000000 in
theorem memSetWord_raw (p g : Nat) (l : List Nat) (i x : Nat) (w : World) (hm : MemAt w p g l) (hx : x < 4294967296) (h4 : i % 4 = 0) (h : i + 4 ≤ l.length) :
    Calls Try.prog 16 #[.pointer (some ⟨p, 0, none⟩), .int .i64 i, .int .u32 x] w fun e w' => e = .returned (.int .i64 0) ∧ ((w.alloc (.cells (byteVals (bytes4 x)).toArray 5)).setRow g (byteVals (splice l i (bytes4 x))).toArray).drew = w' := by
  have hs := hm.small
  have H := Lib.hid (trap_none p _ _ _ (i : Int) w hm.cell hm.small (by rw [Int.tmod_eq_emod_of_nonneg (by omega)]; omega) (by omega) (by omega))
  have hk : Kept (fun _ => False) w (w.alloc (.cells (byteVals (bytes4 x)).toArray 5)).drew := ((Kept.refl _ w).alloc _).drew
  have cp : ∀ ty, (Builtin.copy_ #[33, 33] ty #[.slice (some ⟨g, i, none⟩) 4 (l.length - i), .slice (some ⟨w.heap.size, 0, none⟩) 4 4]).run Try.prog (w.alloc (.cells (byteVals (bytes4 x)).toArray 5)).drew = .ok (goInt 4) ((w.alloc (.cells (byteVals (bytes4 x)).toArray 5)).setRow g (byteVals (splice l i (bytes4 x))).toArray).drew :=
    fun ty => copy_row ty (hm.row.keep hk (by simp)) (ByteRow.new w (bytes4 x) (bytes4_lt x)).drew rfl h
  have HB : Hid (∀ w : World, Calls Try.prog 32 #[.int .u32 x] w fun e w' => e = .returned (.slice (some ⟨w.heap.size, 0, none⟩) 4 4) ∧ w.alloc (.cells (byteVals (bytes4 x)).toArray 5) = w') := fun w => bytes_new x w hx
  have hc := hm.cell
  have HM := Lib.hid hm
  have hlt := hm.lt
  clear h4 hm hk
  generalize (byteVals (splice l i (bytes4 x))).toArray = cs2 at *
  generalize Obj.cells (byteVals (bytes4 x)).toArray 5 = cs1 at *
  generalize l.length = n at *
  go_enter Try.func16, Try.ntmps16
  go_wp2_with fail
  refine H.out.mono ?_
  rintro e w' ⟨rfl, rfl⟩
  go_wp2_with fail
  have a1 : IntKind.i64.wrap ((i : Int) + 4) = (i : Int) + 4 := IntWalk.i64_in _ (by omega)
  have a2 : ((i : Int) + 4).toNat = i + 4 := by omega
  have a3 : (0 : Int) ≤ (i : Int) + 4 := by omega
  have a4 : (i : Int) + 4 ≤ (n : Int) := by omega
  have a5 : (i : Int) ≤ (i : Int) + 4 := by omega
  have a6 : ¬ n = i := by omega
  have a7 : i + 4 - i = 4 := by omega
  go_region_with ((go_at_call 32; refine (HB.out _).mono ?_; rintro e w' ⟨rfl, rfl⟩))
  all_goals
    go_wp2
    go_ret
    exact ⟨rfl, rfl⟩
end Go.Proofs.Ytlnjcaicagcinaa
