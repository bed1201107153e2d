/-
  Contracts of package mem (layer 4): New, Size, Word, SetWord, Byte, SetByte, Bytes and their helpers. No conditions beyond those that each theorem names.
-/
import Derived.Test.YticancimnhnhbaaByteA
import Derived.RegionTactic
import Derived.Deep.RegionWith
namespace Go.Proofs.Yticancimnhnhbaa
open Go.ChangeShapes Go.WideShapes Go.ChangeAt Go.RowKit

/- a memory: the struct lies in block p, its bytes in block g -/
structure MemAt (w : World) (p g : Nat) (l : List Nat) : Prop where
  head : w.heap[p]? = some (.cells #[.slice (some ⟨g, 0, none⟩) l.length l.length] 99 (0, 0))
  row : ByteRow w g l
  apart : p ≠ g
  small : l.length ≤ 65536

theorem MemAt.cell {w : World} {p g : Nat} {l : List Nat} (h : MemAt w p g l) : w.cell? ⟨p, 0, none⟩ = some (.slice (some ⟨g, 0, none⟩) l.length l.length) := by
  rw [cell_of_row w p 0 _ _ _ h.head]
  rfl
theorem MemAt.keep {S : Nat → Prop} {w w' : World} {p g : Nat} {l : List Nat} (h : MemAt w p g l) (k : Kept S w w') (hp : ¬ S p) (hg : ¬ S g) : MemAt w' p g l := ⟨k.block h.head hp, h.row.keep k hg, h.apart, h.small⟩
theorem MemAt.drew {w : World} {p g : Nat} {l : List Nat} (h : MemAt w p g l) : MemAt w.drew p g l := ⟨h.head, h.row, h.apart, h.small⟩
theorem MemAt.lt {w : World} {p g : Nat} {l : List Nat} (h : MemAt w p g l) : p < w.heap.size := (Array.getElem?_eq_some_iff.1 h.head).1

set_option maxRecDepth 100000 in
theorem aligned_yes (a : Int) (w : World) (h : a.tmod 4 = 0) :
    Calls Try.prog 70 #[.int .i64 a] w fun e w' => e = .returned (.bool true) ∧ w = w' := by
  have hq : (a.tmod 4 == 0) = true := by simp [h]
  clear h
  go_enter Try.func70, Try.ntmps70
  go_wp2
  go_ret
  exact ⟨rfl, rfl⟩

set_option maxRecDepth 100000 in
theorem aligned_no (a : Int) (w : World) (h : a.tmod 4 ≠ 0) :
    Calls Try.prog 70 #[.int .i64 a] w fun e w' => e = .returned (.bool false) ∧ w = w' := by
  have hq : (a.tmod 4 == 0) = false := by simp [h]
  clear h
  go_enter Try.func70, Try.ntmps70
  go_wp2
  go_ret
  exact ⟨rfl, rfl⟩

set_option maxRecDepth 100000 in
theorem size_any (p n c : Nat) (a : Option Addr) (w : World) (hc : w.cell? ⟨p, 0, none⟩ = some (.slice a n c)) :
    Calls Try.prog 54 #[.pointer (some ⟨p, 0, none⟩)] w fun e w' => e = .returned (.int .i64 n) ∧ w = w' := by
  go_enter Try.func54, Try.ntmps54
  go_wp2
  go_ret
  exact ⟨rfl, rfl⟩

set_option maxRecDepth 100000 in
theorem has_yes (p n c : Nat) (a : Option Addr) (i k : Int) (w : World) (hc : w.cell? ⟨p, 0, none⟩ = some (.slice a n c)) (hn : n ≤ 65536) (h0 : 0 ≤ i) (hk : 0 ≤ k) (h1 : i ≤ n - k) (hk4 : k ≤ 4) :
    Calls Try.prog 88 #[.pointer (some ⟨p, 0, none⟩), .int .i64 i, .int .i64 k] w fun e w' => e = .returned (.bool true) ∧ w = w' := by
  go_enter Try.func88, Try.ntmps88
  go_wp2_with fail
  refine (size_any p n c a _ hc).mono ?_
  rintro e w' ⟨rfl, rfl⟩
  go_wp2_with fail
  go_ret
  exact ⟨rfl, rfl⟩

set_option maxRecDepth 100000 in
theorem has_no (p n c : Nat) (a : Option Addr) (i k : Int) (w : World) (hc : w.cell? ⟨p, 0, none⟩ = some (.slice a n c)) (hn : n ≤ 65536) (hk : 0 ≤ k) (hk4 : k ≤ 4) (h : i < 0 ∨ n - k < i) :
    Calls Try.prog 88 #[.pointer (some ⟨p, 0, none⟩), .int .i64 i, .int .i64 k] w fun e w' => e = .returned (.bool false) ∧ w = w' := by
  by_cases h0 : i < 0
  · clear h
    go_enter Try.func88, Try.ntmps88
    go_wp2_with fail
    go_ret
    exact ⟨rfl, rfl⟩
  · have h1 : 0 ≤ i := by omega
    have h2 : n - k < i := by omega
    clear h h0
    go_enter Try.func88, Try.ntmps88
    go_wp2_with fail
    refine (size_any p n c a _ hc).mono ?_
    rintro e w' ⟨rfl, rfl⟩
    go_wp2_with fail
    go_ret
    exact ⟨end_bool (by simp <;> omega), rfl⟩

set_option maxRecDepth 100000 in
theorem trap_odd (p : Nat) (i : Int) (w : World) (h : i.tmod 4 ≠ 0) :
    Calls Try.prog 71 #[.pointer (some ⟨p, 0, none⟩), .int .i64 i] w fun e w' => e = .returned (.int .i64 3) ∧ w = w' := by
  have H := Lib.hid h
  clear h
  go_enter Try.func71, Try.ntmps71
  go_wp2_with fail
  refine (aligned_no i _ H.out).mono ?_
  rintro e w' ⟨rfl, rfl⟩
  go_wp2_with fail
  go_ret
  exact ⟨rfl, rfl⟩

set_option maxRecDepth 100000 in
theorem trap_far (p n c : Nat) (a : Option Addr) (i : Int) (w : World) (hc : w.cell? ⟨p, 0, none⟩ = some (.slice a n c)) (hn : n ≤ 65536) (h4 : i.tmod 4 = 0) (h : i < 0 ∨ (n : Int) - 4 < i) :
    Calls Try.prog 71 #[.pointer (some ⟨p, 0, none⟩), .int .i64 i] w fun e w' => e = .returned (.int .i64 2) ∧ w = w' := by
  have H := Lib.hid h
  have H4 := Lib.hid h4
  clear h h4
  go_enter Try.func71, Try.ntmps71
  go_wp2_with fail
  refine (aligned_yes i _ H4.out).mono ?_
  rintro e w' ⟨rfl, rfl⟩
  go_wp2_with fail
  refine (has_no p n c a i 4 _ hc hn (by omega) (by omega) H.out).mono ?_
  rintro e w' ⟨rfl, rfl⟩
  go_wp2_with fail
  go_ret
  exact ⟨rfl, rfl⟩

set_option maxRecDepth 100000 in
theorem trap_none (p n c : Nat) (a : Option Addr) (i : Int) (w : World) (hc : w.cell? ⟨p, 0, none⟩ = some (.slice a n c)) (hn : n ≤ 65536) (h4 : i.tmod 4 = 0) (h0 : 0 ≤ i) (h1 : i ≤ (n : Int) - 4) :
    Calls Try.prog 71 #[.pointer (some ⟨p, 0, none⟩), .int .i64 i] w fun e w' => e = .returned (.int .i64 0) ∧ w = w' := by
  have H4 := Lib.hid h4
  clear h4
  go_enter Try.func71, Try.ntmps71
  go_wp2_with fail
  refine (aligned_yes i _ H4.out).mono ?_
  rintro e w' ⟨rfl, rfl⟩
  go_wp2_with fail
  refine (has_yes p n c a i 4 _ hc hn h0 (by omega) h1 (by omega)).mono ?_
  rintro e w' ⟨rfl, rfl⟩
  go_wp2_with fail
  go_ret
  exact ⟨rfl, rfl⟩

/- what a word is made of, and where it lies -/
def wordAt (l : List Nat) (i : Nat) : Nat := wordN (piece l i (i + 4))
def setWordAt (l : List Nat) (i x : Nat) : List Nat := splice l i [byteN x 0, byteN x 1, byteN x 2, byteN x 3]

theorem word_at (g i cap : Nat) (l : List Nat) (w : World) (h : ByteRow w g l) (hi : i + 4 ≤ l.length) (hcap : 4 ≤ cap) (hm : cap ≤ 65536) :
    Calls Try.prog 89 #[.slice (some ⟨g, i, none⟩) 4 cap] w fun e w' => e = .returned (.int .u32 (wordAt l i : Nat)) ∧ w = w' := by
  have hl : (piece l i (i + 4)).length = 4 := by rw [piece_length l i (i + 4) hi]; omega
  have := word_some g i cap (piece l i (i + 4)) w (by omega) (by omega) (by omega) (piece_lt h.2 _ _) (fun k hk => by
    rw [h.at_ (i + k) (by omega), piece_getD l i (i + 4) k (by omega)])
  rw [hl] at this
  unfold wordOf at this
  rw [List.take_of_length_le (by omega)] at this
  exact this

set_option maxRecDepth 100000 in
theorem memWord_odd (p : Nat) (i : Int) (w : World) (h : i.tmod 4 ≠ 0) :
    Calls Try.prog 74 #[.pointer (some ⟨p, 0, none⟩), .int .i64 i] w fun e w' => e = .returned (.tuple #[.int .u32 0, .int .i64 3]) ∧ w = w' := by
  have H := Lib.hid h
  clear h
  go_enter Try.func74, Try.ntmps74
  go_wp2_with fail
  refine (trap_odd p i _ H.out).mono ?_
  rintro e w' ⟨rfl, rfl⟩
  go_wp2_with fail
  go_ret2
  exact ⟨rfl, rfl⟩

set_option maxRecDepth 100000 in
theorem memWord_far (p g : Nat) (l : List Nat) (i : Int) (w : World) (hm : MemAt w p g l) (h4 : i.tmod 4 = 0) (h : i < 0 ∨ (l.length : Int) - 4 < i) :
    Calls Try.prog 74 #[.pointer (some ⟨p, 0, none⟩), .int .i64 i] w fun e w' => e = .returned (.tuple #[.int .u32 0, .int .i64 2]) ∧ w = w' := by
  have H := Lib.hid (trap_far p _ _ _ i w hm.cell hm.small h4 h)
  clear h h4
  go_enter Try.func74, Try.ntmps74
  go_wp2_with fail
  refine H.out.mono ?_
  rintro e w' ⟨rfl, rfl⟩
  go_wp2_with fail
  go_ret2
  exact ⟨rfl, rfl⟩

set_option maxRecDepth 100000 in
theorem memWord_yes (p g : Nat) (l : List Nat) (i : Nat) (w : World) (hm : MemAt w p g l) (h4 : i % 4 = 0) (h : i + 4 ≤ l.length) :
    Calls Try.prog 74 #[.pointer (some ⟨p, 0, none⟩), .int .i64 i] w fun e w' => e = .returned (.tuple #[.int .u32 (wordAt l i : Nat), .int .i64 0]) ∧ w = w' := by
  have hs := hm.small
  have H := Lib.hid (trap_none p _ _ _ (i : Int) w hm.cell hm.small (by rw [Int.tmod_eq_emod_of_nonneg (by omega)]; omega) (by omega) (by omega))
  have HW := Lib.hid (word_at g i (l.length - i) l w hm.row h (by omega) (by omega))
  have hc := hm.cell
  have HM := Lib.hid hm
  clear h4 hm
  generalize l.length = n at *
  go_enter Try.func74, Try.ntmps74
  go_wp2_with fail
  refine H.out.mono ?_
  rintro e w' ⟨rfl, rfl⟩
  go_wp2_with fail
  refine HW.out.mono ?_
  rintro e w' ⟨rfl, rfl⟩
  go_wp2_with fail
  go_ret2
  exact ⟨rfl, rfl⟩

set_option maxRecDepth 100000 in
theorem memByte_no (p g : Nat) (l : List Nat) (i : Int) (w : World) (hm : MemAt w p g l) (h : i < 0 ∨ (l.length : Int) ≤ i) :
    Calls Try.prog 95 #[.pointer (some ⟨p, 0, none⟩), .int .i64 i] w fun e w' => e = .returned (.tuple #[.int .u8 0, .int .i64 2]) ∧ w = w' := by
  have H := Lib.hid (has_no p _ _ _ i 1 w hm.cell hm.small (by omega) (by omega) (by omega))
  clear h
  go_enter Try.func95, Try.ntmps95
  go_wp2_with fail
  refine H.out.mono ?_
  rintro e w' ⟨rfl, rfl⟩
  go_wp2_with fail
  go_ret2
  exact ⟨rfl, rfl⟩

set_option maxRecDepth 100000 in
theorem memByte_yes (p g : Nat) (l : List Nat) (i : Nat) (w : World) (hm : MemAt w p g l) (h : i < l.length) :
    Calls Try.prog 95 #[.pointer (some ⟨p, 0, none⟩), .int .i64 i] w fun e w' => e = .returned (.tuple #[.int .u8 (l.getD i 0 : Nat), .int .i64 0]) ∧ w = w' := by
  have H := Lib.hid (has_yes p _ _ _ (i : Int) 1 w hm.cell hm.small (by omega) (by omega) (by omega) (by omega))
  have hc := hm.cell
  have hb := hm.row.at_ i h
  have HM := Lib.hid hm
  clear hm
  generalize l.getD i 0 = b at *
  generalize l.length = n at *
  go_enter Try.func95, Try.ntmps95
  go_wp2_with fail
  refine H.out.mono ?_
  rintro e w' ⟨rfl, rfl⟩
  go_wp2_with fail
  go_ret2
  exact ⟨rfl, rfl⟩

set_option maxRecDepth 100000 in
theorem memSetByte_no (p g : Nat) (l : List Nat) (i : Int) (b : Int) (w : World) (hm : MemAt w p g l) (h : i < 0 ∨ (l.length : Int) ≤ i) :
    Calls Try.prog 96 #[.pointer (some ⟨p, 0, none⟩), .int .i64 i, .int .u8 b] w fun e w' => e = .returned (.int .i64 2) ∧ w = w' := by
  have H := Lib.hid (has_no p _ _ _ i 1 w hm.cell hm.small (by omega) (by omega) (by omega))
  clear h
  go_enter Try.func96, Try.ntmps96
  go_wp2_with fail
  refine H.out.mono ?_
  rintro e w' ⟨rfl, rfl⟩
  go_wp2_with fail
  go_ret
  exact ⟨rfl, rfl⟩

/- behind a byte that is set -/
theorem MemAt.setCell {w : World} {p g : Nat} {l : List Nat} (h : MemAt w p g l) (i b : Nat) (hb : b < 256) : MemAt (w.setCell ⟨g, i, none⟩ (.int .u8 (b : Int))) p g (l.set i b) :=
  ⟨by rw [List.length_set]; exact (Below.heap_setCell w ⟨g, i, none⟩ _ p h.apart).trans h.head, h.row.setCell i b hb, h.apart, by rw [List.length_set]; exact h.small⟩

set_option maxRecDepth 100000 in
theorem memSetByte_yes (p g : Nat) (l : List Nat) (i b : Nat) (w : World) (hm : MemAt w p g l) (h : i < l.length) :
    Calls Try.prog 96 #[.pointer (some ⟨p, 0, none⟩), .int .i64 i, .int .u8 b] w fun e w' => e = .returned (.int .i64 0) ∧ w.setCell ⟨g, i, none⟩ (.int .u8 (b : Int)) = w' := by
  have H := Lib.hid (has_yes p _ _ _ (i : Int) 1 w hm.cell hm.small (by omega) (by omega) (by omega) (by omega))
  have hc := hm.cell
  have hb := hm.row.at_ i h
  have hf := hm.row.free i
  have HM := Lib.hid hm
  clear hm
  generalize l.length = n at *
  go_enter Try.func96, Try.ntmps96
  go_wp2_with fail
  refine H.out.mono ?_
  rintro e w' ⟨rfl, rfl⟩
  go_wp2_with fail
  go_ret
  exact ⟨rfl, rfl⟩

set_option maxRecDepth 100000 in
theorem memSetWord_odd (p : Nat) (i : Int) (x : Int) (w : World) (h : i.tmod 4 ≠ 0) :
    Calls Try.prog 52 #[.pointer (some ⟨p, 0, none⟩), .int .i64 i, .int .u32 x] w fun e w' => e = .returned (.int .i64 3) ∧ w = w' := by
  have H := Lib.hid h
  clear h
  go_enter Try.func52, Try.ntmps52
  go_wp2_with fail
  refine (trap_odd p i _ H.out).mono ?_
  rintro e w' ⟨rfl, rfl⟩
  go_wp2_with fail
  go_ret
  exact ⟨rfl, rfl⟩

set_option maxRecDepth 100000 in
theorem memSetWord_far (p g : Nat) (l : List Nat) (i : Int) (x : Int) (w : World) (hm : MemAt w p g l) (h4 : i.tmod 4 = 0) (h : i < 0 ∨ (l.length : Int) - 4 < i) :
    Calls Try.prog 52 #[.pointer (some ⟨p, 0, none⟩), .int .i64 i, .int .u32 x] w fun e w' => e = .returned (.int .i64 2) ∧ w = w' := by
  have H := Lib.hid (trap_far p _ _ _ i w hm.cell hm.small h4 h)
  clear h h4
  go_enter Try.func52, Try.ntmps52
  go_wp2_with fail
  refine H.out.mono ?_
  rintro e w' ⟨rfl, rfl⟩
  go_wp2_with fail
  go_ret
  exact ⟨rfl, rfl⟩

/- a word's bytes, in new memory; and those bytes, laid over a row -/
def bytes4 (x : Nat) : List Nat := [byteN x 0, byteN x 1, byteN x 2, byteN x 3]
theorem bytes4_lt (x : Nat) : ∀ b ∈ bytes4 x, b < 256 := by
  intro b hb
  simp [bytes4] at hb
  rcases hb with rfl | rfl | rfl | rfl <;> exact byteN_lt _ _
theorem bytes_new (x : Nat) (w : World) (hx : x < 4294967296) :
    Calls Try.prog 72 #[.int .u32 x] w fun e w' => e = .returned (.slice (some ⟨w.heap.size, 0, none⟩) 4 4) ∧ w.alloc (.cells (byteVals (bytes4 x)).toArray 5) = w' := bytes_any x w hx

set_option maxRecDepth 100000 in
theorem copy_row {w : World} {g h i n cap m : Nat} {l s : List Nat} (ty : TypeId) (hg : ByteRow w g l) (hs : ByteRow w h s) (hn : n = s.length) (hi : i + s.length ≤ l.length) :
    (Builtin.copy_ #[64, 64] ty #[.slice (some ⟨g, i, none⟩) n cap, .slice (some ⟨h, 0, none⟩) n m]).run Try.prog w = .ok (goInt s.length) (w.setRow g (byteVals (splice l i s)).toArray) := by
  subst hn
  have := run_copy_row (P := Try.prog) w 64 64 ty 5 g i s.length cap ⟨h, 0, none⟩ s.length m (byteVals l).toArray 5 (byteVals s) Try.underlying64 (by kernel_rfl) hg.1 (by simp [byteVals_length]) (fun j v hj => by
    have hjl : j < s.length := by
      rcases Nat.lt_or_ge j s.length with hj' | hj'
      · exact hj'
      · rw [List.getElem?_eq_none (by simpa [byteVals_length] using hj')] at hj
        cases hj
    rw [byteVals_at s j hjl] at hj
    have hadd : (⟨h, 0, none⟩ : Addr).add j = ⟨h, j, none⟩ := by unfold Addr.add; split <;> simp_all
    rw [hadd, hs.at_ j hjl]
    exact hj) (by simpa [byteVals_length] using hi) (byteVals_one s)
  rw [byteVals_length] at this
  rw [this, ← byteVals_splice]
  simp [splice, byteVals_length]

set_option maxRecDepth 100000 in
set_option maxHeartbeats 1000000 in
theorem memSetWord_raw (p g : Nat) (l : List Nat) (i x : Nat) (w : World) (hm : MemAt w p g l) (hx : x < 4294967296) (h4 : i % 4 = 0) (h : i + 4 ≤ l.length) :
    Calls Try.prog 52 #[.pointer (some ⟨p, 0, none⟩), .int .i64 i, .int .u32 x] w fun e w' => e = .returned (.int .i64 0) ∧ ((w.alloc (.cells (byteVals (bytes4 x)).toArray 5)).setRow g (byteVals (splice l i (bytes4 x))).toArray).drew = w' := by
  have hs := hm.small
  have H := Lib.hid (trap_none p _ _ _ (i : Int) w hm.cell hm.small (by rw [Int.tmod_eq_emod_of_nonneg (by omega)]; omega) (by omega) (by omega))
  have hk : Kept (fun _ => False) w (w.alloc (.cells (byteVals (bytes4 x)).toArray 5)).drew := ((Kept.refl _ w).alloc _).drew
  have cp : ∀ ty, (Builtin.copy_ #[64, 64] ty #[.slice (some ⟨g, i, none⟩) 4 (l.length - i), .slice (some ⟨w.heap.size, 0, none⟩) 4 4]).run Try.prog (w.alloc (.cells (byteVals (bytes4 x)).toArray 5)).drew = .ok (goInt 4) ((w.alloc (.cells (byteVals (bytes4 x)).toArray 5)).setRow g (byteVals (splice l i (bytes4 x))).toArray).drew :=
    fun ty => copy_row ty (hm.row.keep hk (by simp)) (ByteRow.new w (bytes4 x) (bytes4_lt x)).drew rfl h
  have HB : Hid (∀ w : World, Calls Try.prog 72 #[.int .u32 x] w fun e w' => e = .returned (.slice (some ⟨w.heap.size, 0, none⟩) 4 4) ∧ w.alloc (.cells (byteVals (bytes4 x)).toArray 5) = w') := fun w => bytes_new x w hx
  have hc := hm.cell
  have HM := Lib.hid hm
  have hlt := hm.lt
  clear h4 hm hk
  generalize (byteVals (splice l i (bytes4 x))).toArray = cs2 at *
  generalize Obj.cells (byteVals (bytes4 x)).toArray 5 = cs1 at *
  generalize l.length = n at *
  go_enter Try.func52, Try.ntmps52
  go_wp2_with fail
  refine H.out.mono ?_
  rintro e w' ⟨rfl, rfl⟩
  go_wp2_with fail
  have a1 : IntKind.i64.wrap ((i : Int) + 4) = (i : Int) + 4 := IntWalk.i64_in _ (by omega)
  have a2 : ((i : Int) + 4).toNat = i + 4 := by omega
  have a3 : (0 : Int) ≤ (i : Int) + 4 := by omega
  have a4 : (i : Int) + 4 ≤ (n : Int) := by omega
  have a5 : (i : Int) ≤ (i : Int) + 4 := by omega
  have a6 : ¬ n = i := by omega
  have a7 : i + 4 - i = 4 := by omega
  go_region_with ((go_at_call 72; refine (HB.out _).mono ?_; rintro e w' ⟨rfl, rfl⟩))
  all_goals
    go_wp2
    go_ret
    exact ⟨rfl, rfl⟩
end Go.Proofs.Yticancimnhnhbaa

/-
  Contracts of package mem (layer 4), more: New, Bytes, SetWord; of the statements' Pick. No conditions beyond those that each theorem names.
-/
namespace Go.Proofs.Yticancimnhnhbaa
open Go.ChangeShapes Go.WideShapes Go.ChangeAt Go.RowKit

theorem splice_lt {l s : List Nat} (hl : ∀ b ∈ l, b < 256) (hs : ∀ b ∈ s, b < 256) (i : Nat) : ∀ b ∈ splice l i s, b < 256 := by
  intro b hb
  simp only [splice, List.mem_append] at hb
  rcases hb with hb | hb | hb
  · exact hl b (List.mem_of_mem_take hb)
  · exact hs b hb
  · exact hl b (List.mem_of_mem_drop hb)

theorem memSetWord_yes (p g : Nat) (l : List Nat) (i x : Nat) (w : World) (hm : MemAt w p g l) (hx : x < 4294967296) (h4 : i % 4 = 0) (h : i + 4 ≤ l.length) :
    Calls Try.prog 52 #[.pointer (some ⟨p, 0, none⟩), .int .i64 i, .int .u32 x] w fun e w' => e = .returned (.int .i64 0) ∧ MemAt w' p g (splice l i (bytes4 x)) ∧ Kept (· = g) w w' := by
  refine (memSetWord_raw p g l i x w hm hx h4 h).mono ?_
  rintro e w' ⟨rfl, rfl⟩
  have hl : (splice l i (bytes4 x)).length = l.length := length_splice l i (bytes4 x) h
  have hk : Kept (fun _ => False) w (w.alloc (.cells (byteVals (bytes4 x)).toArray 5)) := (Kept.refl _ w).alloc _
  have hr := (hm.row.keep hk (by simp)).setRow (splice_lt hm.row.2 (bytes4_lt x) i)
  refine ⟨rfl, ⟨?_, hr, hm.apart, by rw [hl]; exact hm.small⟩, ((Kept.refl (· = g) w).alloc _).setRow (fun _ => rfl) _ |>.drew⟩
  rw [hl]
  exact (setRow_other _ g p _ hm.apart).trans (hk.block hm.head (by simp))

theorem made_zeros (n : Nat) : madeCells #[.int .u8 0] n = (byteVals (List.replicate n 0)).toArray := by
  apply Array.ext
  · simp [size_madeCells, byteVals]
  · intro i h1 h2
    simp [madeCells, byteVals, Nat.mod_one]

set_option maxRecDepth 100000 in
theorem info8 : (Try.prog.info? 5).map (fun i => (i.zero, i.size, i.bytes)) = some (some (.int .u8 0), 1, 1) := by kernel_rfl

set_option maxRecDepth 100000 in
theorem memNew_no (n : Int) (w : World) (h : n < 1024 ∨ 65536 < n ∨ n.tmod 4 ≠ 0) :
    Calls Try.prog 51 #[.int .i64 n] w fun e w' => e = .returned (.tuple #[.pointer none, .iface 42 (.int .i64 1)]) ∧ w = w' := by
  by_cases h1 : n < 1024
  · clear h
    go_enter Try.func51, Try.ntmps51
    go_wp2_with fail
    go_ret2
    exact ⟨rfl, rfl⟩
  · by_cases h2 : 65536 < n
    · clear h
      go_enter Try.func51, Try.ntmps51
      go_wp2_with fail
      go_ret2
      exact ⟨rfl, rfl⟩
    · have H : Hid (n.tmod 4 ≠ 0) := by
        rcases h with h | h | h
        · exact absurd h h1
        · exact absurd h h2
        · exact h
      have g1 : 1024 ≤ n := by omega
      have g2 : n ≤ 65536 := by omega
      clear h h1 h2
      go_enter Try.func51, Try.ntmps51
      go_wp2_with fail
      refine (aligned_no n _ H.out).mono ?_
      rintro e w' ⟨rfl, rfl⟩
      go_wp2_with fail
      go_ret2
      exact ⟨rfl, rfl⟩

def newMem (w : World) (n : Nat) : World := (w.alloc (.cells (byteVals (List.replicate n 0)).toArray 5)).alloc (.cells #[.slice (some ⟨w.heap.size, 0, none⟩) n n] 99)

set_option maxRecDepth 100000 in
theorem memNew_raw (n : Nat) (w : World) (h1 : 1024 ≤ n) (h2 : n ≤ 65536) (h4 : n % 4 = 0) :
    Calls Try.prog 51 #[.int .i64 n] w fun e w' => e = .returned (.tuple #[.pointer (some ⟨w.heap.size + 1, 0, none⟩), .nilIface]) ∧ newMem w n = w' := by
  have H : Hid ((n : Int).tmod 4 = 0) := by show (n : Int).tmod 4 = 0; rw [Int.tmod_eq_emod_of_nonneg (by omega)]; omega
  have hmk := run_make_row' (P := Try.prog) 64 5 (.int .u8 0) 1 Try.underlying64 info8 rfl .i64 .i64 n (by omega) (by omega)
  rw [made_zeros] at hmk
  unfold newMem
  generalize (byteVals (List.replicate n 0)).toArray = cs at *
  clear h4
  go_enter Try.func51, Try.ntmps51
  go_wp2_with fail
  refine (aligned_yes n _ H.out).mono ?_
  rintro e w' ⟨rfl, rfl⟩
  go_wp2_with fail
  go_ret2
  exact ⟨rfl, rfl⟩

theorem newMem_at (w : World) (n : Nat) (h : n ≤ 65536) : MemAt (newMem w n) (w.heap.size + 1) w.heap.size (List.replicate n 0) := by
  refine ⟨?_, ?_, by omega, by simpa using h⟩
  · have := heap_alloc_new (w.alloc (.cells (byteVals (List.replicate n 0)).toArray 5)) (.cells #[.slice (some ⟨w.heap.size, 0, none⟩) n n] 99)
    simpa [newMem] using this
  · exact (ByteRow.new w (List.replicate n 0) (by simp)).keep (S := fun _ => False) ((Kept.refl _ _).alloc _) (by simp)
theorem newMem_kept (w : World) (n : Nat) (S : Nat → Prop) : Kept S w (newMem w n) := ((Kept.refl _ _).alloc _).alloc _
theorem newMem_size (w : World) (n : Nat) : (newMem w n).heap.size = w.heap.size + 2 := by simp [newMem]

set_option maxRecDepth 100000 in
theorem memBytes_no (p g : Nat) (l : List Nat) (f t : Int) (w : World) (hm : MemAt w p g l) (h : t ≤ f ∨ t ≤ 0 ∨ (l.length : Int) ≤ f) :
    Calls Try.prog 29 #[.pointer (some ⟨p, 0, none⟩), .int .i64 f, .int .i64 t] w fun e w' => e = .returned (.slice none 0 0) ∧ w = w' := by
  have hc := hm.cell
  have hs := hm.small
  clear hm
  generalize l.length = n at *
  by_cases h1 : f < 0
  all_goals by_cases h2 : (n : Int) < t
  all_goals
    go_enter Try.func29, Try.ntmps29
    go_wp2_with fail
    refine (size_any p n _ _ _ hc).mono ?_
    rintro e w' ⟨rfl, rfl⟩
    go_wp2_with fail
    all_goals (try (go_ret; exact ⟨rfl, rfl⟩))

def zeros (k : Nat) : Obj := .cells (byteVals (List.replicate k 0)).toArray 5
theorem make_zeros (D : Int) (k : Nat) (hD : D = k) (hk : k ≤ 65536) (w : World) : (Instr.makeSlice 64 (.int .i64 D) (.int .i64 D)).run Try.prog w = .ok (.slice (some ⟨w.heap.size, 0, none⟩) k k) (w.alloc (zeros k)) := by
  subst hD
  have h := run_make_row' (P := Try.prog) 64 5 (.int .u8 0) 1 Try.underlying64 info8 rfl .i64 .i64 k (by omega) (by omega) w
  rw [made_zeros] at h
  exact h

/- copy out of a row, into all of a new one -/
set_option maxRecDepth 100000 in
theorem copy_out {w : World} {g : Nat} {l : List Nat} (h : ByteRow w g l) (a b k : Nat) (hb : b ≤ l.length) (hk : k = b - a) (ty : TypeId) (cap m : Nat) :
    (Builtin.copy_ #[64, 64] ty #[.slice (some ⟨w.heap.size, 0, none⟩) k cap, .slice (some ⟨g, a, none⟩) k m]).run Try.prog (w.alloc (zeros k)) = .ok (goInt k) (w.alloc (.cells (byteVals (piece l a b)).toArray 5)) := by
  subst hk
  have hl : (piece l a b).length = b - a := piece_length l a b hb
  have hr : ByteRow (w.alloc (zeros (b - a))) g l := h.keep (S := fun _ => False) ((Kept.refl _ _).alloc _) (by simp)
  have hn := heap_alloc_new w (zeros (b - a))
  have := run_copy_row (P := Try.prog) (w.alloc (zeros (b - a))) 64 64 ty 5 w.heap.size 0 (b - a) cap ⟨g, a, none⟩ (b - a) m (byteVals (List.replicate (b - a) 0)).toArray 5 (byteVals (piece l a b)) Try.underlying64 (by kernel_rfl) hn (by simp [byteVals_length, hl]) (fun j v hj => by
    have hjl : j < (piece l a b).length := by
      rcases Nat.lt_or_ge j (piece l a b).length with hj' | hj'
      · exact hj'
      · rw [List.getElem?_eq_none (by simpa [byteVals_length] using hj')] at hj
        cases hj
    rw [byteVals_at _ j hjl, piece_getD l a b j (by omega)] at hj
    have hadd : (⟨g, a, none⟩ : Addr).add j = ⟨g, a + j, none⟩ := by unfold Addr.add; split <;> simp_all
    rw [hadd, hr.at_ (a + j) (by omega)]
    exact hj) (by simp [byteVals_length, hl]) (byteVals_one _)
  rw [byteVals_length, hl] at this
  rw [this]
  unfold zeros
  rw [setRow_alloc]
  simp [byteVals]

set_option maxRecDepth 100000 in
set_option maxHeartbeats 1000000 in
theorem memBytes_yes (p g : Nat) (l : List Nat) (f t : Int) (a b : Nat) (w : World) (hm : MemAt w p g l) (ha : (f = a ∨ f < 0 ∧ a = 0)) (hb : t = b ∧ b ≤ l.length ∨ (l.length : Int) < t ∧ b = l.length) (hab : a < b) :
    Calls Try.prog 29 #[.pointer (some ⟨p, 0, none⟩), .int .i64 f, .int .i64 t] w fun e w' => e = .returned (.slice (some ⟨w.heap.size, 0, none⟩) (b - a : Nat) (b - a : Nat)) ∧ w.alloc (.cells (byteVals (piece l a b)).toArray 5) = w' := by
  have hc := hm.cell
  have hs := hm.small
  have hbl : b ≤ l.length := by omega
  have hcp := copy_out hm.row a b (b - a) hbl rfl
  have HM := Lib.hid hm
  have hlt := hm.row.lt
  have hpl := hm.lt
  clear hm
  generalize (byteVals (piece l a b)).toArray = cs at *
  generalize l.length = n at *
  have mk1 := make_zeros ((b : Int) - (a : Int)) (b - a) (by omega) (by omega)
  generalize zeros (b - a) = z at *
  rcases ha with rfl | ⟨ha, rfl⟩
  · rcases hb with ⟨rfl, hb⟩ | ⟨hb, rfl⟩
    all_goals
      go_enter Try.func29, Try.ntmps29
      go_wp2_with fail
      refine (size_any p _ _ _ _ hc).mono ?_
      rintro e w' ⟨rfl, rfl⟩
      go_wp2_with fail
      go_ret
      exact ⟨rfl, rfl⟩
  · rw [Int.natCast_zero, Int.sub_zero] at mk1
    rw [Nat.sub_zero] at mk1 hcp
    rcases hb with ⟨rfl, hb⟩ | ⟨hb, rfl⟩
    all_goals
      go_enter Try.func29, Try.ntmps29
      go_wp2_with fail
      refine (size_any p _ _ _ _ hc).mono ?_
      rintro e w' ⟨rfl, rfl⟩
      go_wp2_with fail
      go_ret
      exact ⟨rfl, rfl⟩
end Go.Proofs.Yticancimnhnhbaa
