/-
  Contracts of field.Word and field.Bytes, and of the document's answers Word and Bytes (layer 1). No conditions beyond those that each theorem names.
-/
import Derived.Test.YtlnjcaicagcinaaRow8
import Derived.Test.YtlnjcaicagcinaaMathA
namespace Go.Proofs.Ytlnjcaicagcinaa
open Go.ChangeShapes Go.WideShapes Go.ChangeAt Go.RowKit

/- a slice of bytes that reads as the list l -/
def RowB (w : World) (a : Option Addr) (l : List Nat) : Prop :=
  (∀ b ∈ l, b < 256) ∧ (0 < l.length → ∃ b off, a = some ⟨b, off, none⟩ ∧ ∀ i, i < l.length → w.cell? ⟨b, off + i, none⟩ = some (.int .u8 ((l.getD i 0 : Nat) : Int)))

theorem RowB.lt {w : World} {a : Option Addr} {l : List Nat} (h : RowB w a l) : ∀ b ∈ l, b < 256 := h.1
theorem RowB.keep {w w' : World} {a : Option Addr} {l : List Nat} (h : RowB w a l) (hb : Below w.heap.size w w') : RowB w' a l := by
  refine ⟨h.1, fun hl => ?_⟩
  obtain ⟨b, off, e, hc⟩ := h.2 hl
  refine ⟨b, off, e, fun i hi => ?_⟩
  have h1 := hc i hi
  have hlt : b < w.heap.size := by
    rcases Nat.lt_or_ge b w.heap.size with hlt | hge
    · exact hlt
    · simp [World.cell?, Array.getElem?_eq_none hge] at h1
  exact (hb.cell (p := ⟨b, off + i, none⟩) hlt).trans h1

theorem rowB_new (w : World) (l : List Nat) (t : TypeId) (h : ∀ b ∈ l, b < 256) : RowB (w.alloc (.cells (l.map fun b : Nat => Value.int .u8 (b : Int)).toArray t)) (some ⟨w.heap.size, 0, none⟩) l := by
  refine ⟨h, fun _ => ⟨w.heap.size, 0, rfl, fun i hi => ?_⟩⟩
  rw [cell_of_row _ w.heap.size (0 + i) _ t (0, 0) (heap_alloc_new w _)]
  simp [List.getD, hi]

set_option maxRecDepth 100000 in
theorem word_nil (a : Option Addr) (cap : Nat) (w : World) :
    Calls Try.prog 65 #[.slice a 0 cap] w fun e w' => e = .returned (.int .u32 0) ∧ w = w' := by
  go_enter Try.func65, Try.ntmps65
  go_wp2
  go_loop [3, 12] (fun v i => i = .int .i64 0 ∧ v = .int .u32 0) (fun _ _ => 0)
  case atStart => exact ⟨rfl, rfl⟩
  case round =>
    obtain ⟨rfl, rfl⟩ := hrel
    go_wp2
    go_ret
    exact ⟨rfl, rfl⟩

set_option maxRecDepth 100000 in
set_option maxHeartbeats 400000 in
theorem word_some (b off cap : Nat) (l : List Nat) (w : World) (h0 : 0 < l.length) (hcap : l.length ≤ cap) (hm : cap ≤ 9223372036854775807) (hb : ∀ b ∈ l, b < 256) (hc : ∀ i, i < l.length → w.cell? ⟨b, off + i, none⟩ = some (.int .u8 ((l.getD i 0 : Nat) : Int))) :
    Calls Try.prog 65 #[.slice (some ⟨b, off, none⟩) l.length cap] w fun e w' => e = .returned (.int .u32 (wordOf l : Nat)) ∧ w = w' := by
  have HB := Lib.hid hb
  have HC := Lib.hid hc
  clear hb hc
  by_cases h4 : l.length ≤ 4
  · have HW := Lib.hid (show wordOf l = wordN l by unfold wordOf; rw [List.take_of_length_le (by omega)])
    go_enter Try.func65, Try.ntmps65
    go_wp2
    go_loop [3, 12] (fun v i => ∃ k : Nat, k ≤ l.length ∧ i = .int .i64 k ∧ v = .int .u32 (wordN (l.take k) : Nat)) (fun _ i => l.length - (intOf i).toNat)
    case atStart => exact ⟨0, Nat.zero_le _, rfl, rfl⟩
    case round =>
      obtain ⟨k, hk, rfl, rfl⟩ := hrel
      by_cases hlt : k < l.length
      · have hcell := HC.out k hlt
        have hr := Lib.hid (word_round l k HB.out hlt (by omega))
        have hbyte := getD_lt l k HB.out
        generalize l.getD k 0 = c at hcell hr hbyte
        go_wp2
        go_round
        case rel => exact ⟨k + 1, by omega, by go_num, by rw [← hr.out]⟩
        case measure => simp [intOf]; omega
      · obtain rfl : k = l.length := by omega
        go_wp2
        go_ret
        exact ⟨end_int (by rw [HW.out]), rfl⟩
  · have h4' : 4 < l.length := by omega
    have hmax : max (4 : Int) 0 = 4 := by decide
    clear h4
    go_enter Try.func65, Try.ntmps65
    go_wp2
    go_loop [3, 12] (fun v i => ∃ k : Nat, k ≤ 4 ∧ i = .int .i64 k ∧ v = .int .u32 (wordN (l.take k) : Nat)) (fun _ i => 4 - (intOf i).toNat)
    case atStart => exact ⟨0, Nat.zero_le _, rfl, rfl⟩
    case round =>
      obtain ⟨k, hk, rfl, rfl⟩ := hrel
      by_cases hlt : k < 4
      · have hcell := HC.out k (by omega)
        have hr := Lib.hid (word_round l k HB.out (by omega) (by omega))
        have hbyte := getD_lt l k HB.out
        generalize l.getD k 0 = c at hcell hr hbyte
        go_wp2
        go_round
        case rel => exact ⟨k + 1, by omega, by go_num, by rw [← hr.out]⟩
        case measure => simp [intOf]; omega
      · obtain rfl : k = 4 := by omega
        go_wp2
        go_ret
        exact ⟨rfl, rfl⟩

/- Word, of any bytes -/
theorem word_any (a : Option Addr) (cap : Nat) (l : List Nat) (w : World) (h : RowB w a l) (hcap : l.length ≤ cap) (hm : cap ≤ 9223372036854775807) :
    Calls Try.prog 65 #[.slice a l.length cap] w fun e w' => e = .returned (.int .u32 (wordOf l : Nat)) ∧ w = w' := by
  rcases Nat.eq_zero_or_pos l.length with h0 | h0
  · obtain rfl : l = [] := List.eq_nil_of_length_eq_zero h0
    exact word_nil a cap w
  · obtain ⟨b, off, rfl, hc⟩ := h.2 h0
    exact word_some b off cap l w h0 hcap hm h.1 hc

set_option maxRecDepth 100000 in
set_option maxHeartbeats 400000 in
theorem bytes_any (x : Nat) (w : World) (hx : x < 4294967296) :
    Calls Try.prog 32 #[.int .u32 x] w fun e w' => e = .returned (.slice (some ⟨w.heap.size, 0, none⟩) 4 4) ∧ w.alloc (.cells #[.int .u8 (byteN x 0 : Nat), .int .u8 (byteN x 1 : Nat), .int .u8 (byteN x 2 : Nat), .int .u8 (byteN x 3 : Nat)] 5) = w' := by
  have hmk : ∀ w : World, (Instr.makeSlice 33 (.int .i64 4) (.int .i64 4)).run Try.prog w = .ok (.slice (some ⟨w.heap.size, 0, none⟩) 4 4) (w.alloc (.cells #[.int .u8 0, .int .u8 0, .int .u8 0, .int .u8 0] 5)) := fun _ => by kernel_rfl
  rw [byte_0, byte_1, byte_2, byte_3 x hx]
  go_enter Try.func32, Try.ntmps32
  go_wp2
  go_loopw [8] (fun i wr => (i = .int .i64 0 ∧ wr = w.alloc (.cells #[.int .u8 0, .int .u8 0, .int .u8 0, .int .u8 0] 5)) ∨ (i = .int .i64 1 ∧ wr = w.alloc (.cells #[.int .u8 ((x : Int) % 256), .int .u8 0, .int .u8 0, .int .u8 0] 5)) ∨ (i = .int .i64 2 ∧ wr = w.alloc (.cells #[.int .u8 ((x : Int) % 256), .int .u8 ((x : Int) / 256 % 256), .int .u8 0, .int .u8 0] 5)) ∨ (i = .int .i64 3 ∧ wr = w.alloc (.cells #[.int .u8 ((x : Int) % 256), .int .u8 ((x : Int) / 256 % 256), .int .u8 ((x : Int) / 65536 % 256), .int .u8 0] 5)) ∨ (i = .int .i64 4 ∧ wr = w.alloc (.cells #[.int .u8 ((x : Int) % 256), .int .u8 ((x : Int) / 256 % 256), .int .u8 ((x : Int) / 65536 % 256), .int .u8 ((x : Int) / 16777216)] 5))) (fun i _ => 4 - (intOf i).toNat)
  case atStart => exact .inl ⟨rfl, rfl⟩
  case round =>
    rcases hrel with ⟨rfl, rfl⟩ | ⟨rfl, rfl⟩ | ⟨rfl, rfl⟩ | ⟨rfl, rfl⟩ | ⟨rfl, rfl⟩
    · go_wp2
      go_roundw
      case rel => simp
      case measure => simp [intOf]
    · go_wp2
      go_roundw
      case rel => simp
      case measure => simp [intOf]
    · go_wp2
      go_roundw
      case rel => simp
      case measure => simp [intOf]
    · go_wp2
      go_roundw
      case rel => simp
      case measure => simp [intOf]
    · go_wp2
      go_ret
      exact ⟨rfl, rfl⟩

set_option maxRecDepth 100000 in
set_option maxHeartbeats 400000 in
theorem refBytes_any (x : Nat) (w : World) (hx : x < 4294967296) :
    Calls Try.prog 33 #[.int .u32 x] w fun e w' => e = .returned (.slice (some ⟨w.heap.size, 0, none⟩) 4 4) ∧ w.alloc (.cells #[.int .u8 (byteN x 0 : Nat), .int .u8 (byteN x 1 : Nat), .int .u8 (byteN x 2 : Nat), .int .u8 (byteN x 3 : Nat)] 5) = w' := by
  rw [byte_0, byte_1, byte_2, byte_3 x hx]
  go_enter Try.func33, Try.ntmps33
  go_wp2
  go_ret
  exact ⟨rfl, rfl⟩
end Go.Proofs.Ytlnjcaicagcinaa
