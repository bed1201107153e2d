/-
  The walk of FieldWords (layer 1): it returns true and changes nothing that was there. No conditions.
-/
import Derived.Test.YtldfpnflkkbfeaaLawA
import Derived.Laws.BytesArg
import Derived.RegionTactic
import Derived.Deep.RegionWith
namespace Go.Proofs.Ytldfpnflkkbfeaa
open Go.ChangeShapes Go.WideShapes Go.ChangeAt Go.RowKit

def cells4 (x : Nat) : Obj := .cells #[.int .u8 (byteN x 0 : Nat), .int .u8 (byteN x 1 : Nat), .int .u8 (byteN x 2 : Nat), .int .u8 (byteN x 3 : Nat)] 5
def str4 (x : Nat) : ByteArray := strOfNums [(byteN x 0 : Nat), (byteN x 1 : Nat), (byteN x 2 : Nat), (byteN x 3 : Nat)]

theorem conv4 (x : Nat) (w : World) (b cap : Nat) (hb : w.heap[b]? = some (cells4 x)) :
    (convert 28 9 (.slice (some ⟨b, 0, none⟩) 4 cap)).run Try.prog w = .ok (.string (str4 x)) w := by
  refine run_convert_bytes_arg w 28 5 Try.underlying28 Try.underlying5 b 0 4 cap [(byteN x 0 : Nat), (byteN x 1 : Nat), (byteN x 2 : Nat), (byteN x 3 : Nat)] rfl ?_ 9 Try.underlying9
  intro i hi
  rw [cell_of_row _ b (0 + i) _ 5 (0, 0) hb]
  match i, hi with
  | 0, _ => rfl
  | 1, _ => rfl
  | 2, _ => rfl
  | 3, _ => rfl

theorem conv4a (x : Nat) (w : World) : (convert 28 9 (.slice (some ⟨w.heap.size, 0, none⟩) 4 4)).run Try.prog (w.alloc (cells4 x)).drew = .ok (.string (str4 x)) (w.alloc (cells4 x)).drew :=
  conv4 x _ _ 4 (heap_alloc_new w _)
theorem conv4b (x : Nat) (w : World) : (convert 28 9 (.slice (some ⟨w.heap.size, 0, none⟩) 4 4)).run Try.prog ((w.alloc (cells4 x)).alloc (cells4 x)).drew = .ok (.string (str4 x)) ((w.alloc (cells4 x)).alloc (cells4 x)).drew :=
  conv4 x _ _ 4 ((Below.heap_alloc (w.alloc (cells4 x)) (cells4 x) w.heap.size (by simp)).trans (heap_alloc_new w _))
theorem conv4c (x : Nat) (w : World) : (convert 28 9 (.slice (some ⟨w.heap.size + 1, 0, none⟩) 4 4)).run Try.prog ((w.alloc (cells4 x)).alloc (cells4 x)).drew = .ok (.string (str4 x)) ((w.alloc (cells4 x)).alloc (cells4 x)).drew := by
  have h := heap_alloc_new (w.alloc (cells4 x)) (cells4 x)
  have e : (w.alloc (cells4 x)).heap.size = w.heap.size + 1 := by simp
  rw [e] at h
  exact conv4 x _ _ 4 h

theorem RowB.drew {w : World} {a : Option Addr} {l : List Nat} (h : RowB w a l) : RowB w.drew a l := h

set_option maxHeartbeats 2000000 in
theorem fieldWords_small (a : Option Addr) (cap : Nat) (l : List Nat) (x : Nat) (w : World) (h : RowB w a l) (hcap : l.length ≤ cap) (hm : cap ≤ 9223372036854775807) (hx : x < 4294967296) (h100 : l.length ≤ 100) :
    Calls Try.prog 4 #[.slice a l.length cap, .int .u32 x] w fun e w' => e = .returned (.bool true) ∧ Below w.heap.size w w' := by
  have c1 := conv4a x
  have c2 := conv4b x
  have c3 := conv4c x
  have B1 : ∀ w : World, Calls Try.prog 15 #[.int .u32 x] w fun e w' => e = .returned (.slice (some ⟨w.heap.size, 0, none⟩) 4 4) ∧ w.alloc (cells4 x) = w' := fun w => bytes_any x w hx
  have B2 : ∀ w : World, Calls Try.prog 16 #[.int .u32 x] w fun e w' => e = .returned (.slice (some ⟨w.heap.size, 0, none⟩) 4 4) ∧ w.alloc (cells4 x) = w' := fun w => refBytes_any x w hx
  have HB1 := Lib.hid B1
  have HB2 := Lib.hid B2
  clear B1 B2
  go_enter Try.func4, Try.ntmps4
  go_wp2_with fail
  refine (up01 _).mono ?_
  rintro e w0 ⟨rfl, hw0⟩
  have hr := h.keep hw0
  have HW1 := Lib.hid (word_any a cap l w0.drew hr.drew hcap hm)
  have HW2 := Lib.hid (refWord_any a cap l w0.drew hr.drew hcap hm)
  generalize l.length = n at hcap h100 HW1 HW2 ⊢
  generalize wordOf l = u at HW1 HW2
  go_wp2_with fail
  go_region_with (first | (go_at_call 13; refine HW1.out.mono ?_; rintro e w' ⟨rfl, rfl⟩) | (go_at_call 14; refine HW2.out.mono ?_; rintro e w' ⟨rfl, rfl⟩) | (go_at_call 15; refine (HB1.out _).mono ?_; rintro e w' ⟨rfl, rfl⟩) | (go_at_call 16; refine (HB2.out _).mono ?_; rintro e w' ⟨rfl, rfl⟩))
  all_goals
    go_wp2
    go_ret
    exact ⟨rfl, ((hw0.alloc hw0.size _).alloc (by have := hw0.size; simp; omega) _).drew⟩

set_option maxHeartbeats 400000 in
theorem fieldWords_large (a : Option Addr) (cap n : Nat) (x : Nat) (w : World) (h100 : 100 < n) :
    Calls Try.prog 4 #[.slice a n cap, .int .u32 x] w fun e w' => e = .returned (.bool true) ∧ Below w.heap.size w w' := by
  go_enter Try.func4, Try.ntmps4
  go_wp2_with fail
  refine (up01 _).mono ?_
  rintro e w0 ⟨rfl, hw0⟩
  go_wp2_with fail
  go_ret
  exact ⟨rfl, hw0⟩

theorem row_of_ints {w : World} {a : Option Addr} {len cap : Nat} {zs : List Int} (h : (a = none ∧ len = 0 ∧ cap = 0 ∧ zs = []) ∨
    ∃ x, a = some x ∧ len ≤ cap ∧ cap ≤ maxLen ∧ zs.length = cap ∧ (∀ i, i < zs.length → w.cell? (x.add i) = some (.int .u8 (zs.getD i 0))) ∧ ∀ n ∈ zs, (Lit.int .u8 n).wf = true) :
    ∃ l : List Nat, l.length = len ∧ len ≤ cap ∧ cap ≤ 9223372036854775807 ∧ RowB w a l := by
  rcases h with ⟨rfl, rfl, rfl, rfl⟩ | ⟨ad, rfl, hl, hm, hz, hc, hw⟩
  · exact ⟨[], rfl, Nat.le_refl _, by omega, by simp, by simp⟩
  · unfold maxLen at hm
    refine ⟨(zs.take len).map Int.toNat, by simp; omega, hl, by omega, ?_, ?_⟩
    · intro b hb
      obtain ⟨z, hz1, rfl⟩ := List.mem_map.1 hb
      have := bounds_u8 (hw z (List.mem_of_mem_take hz1))
      omega
    · intro hp
      have hp' : 0 < zs.length := by simp at hp; omega
      obtain ⟨b, off, rfl, hcell⟩ := ints_at hc hp'
      refine ⟨b, off, rfl, fun i hi => ?_⟩
      have hi' : i < len ∧ i < zs.length := by simp at hi; omega
      rw [hcell i hi'.2]
      have hb := bounds_u8 (hw _ (List.getElem_mem hi'.2))
      have e : ((zs.take len).map Int.toNat).getD i 0 = (zs[i]'hi'.2).toNat := by
        simp [List.getD, hi'.1, List.getElem?_eq_getElem hi'.2]
      rw [e]
      have e2 : zs.getD i 0 = zs[i]'hi'.2 := by simp [List.getD, List.getElem?_eq_getElem hi'.2]
      rw [e2, Int.toNat_of_nonneg hb.1]

theorem fieldWords_walk (a0 : Option Addr) (len0 cap0 : Nat) (z0 : List Int) (a1 : Int) (w : World) (w0 : (a0 = none ∧ len0 = 0 ∧ cap0 = 0 ∧ z0 = []) ∨
    ∃ x, a0 = some x ∧ len0 ≤ cap0 ∧ cap0 ≤ maxLen ∧ z0.length = cap0 ∧ (∀ i, i < z0.length → w.cell? (x.add i) = some (.int .u8 (z0.getD i 0))) ∧ ∀ n ∈ z0, (Lit.int .u8 n).wf = true) (w1 : (Lit.int .u32 a1).wf = true) :
    Calls Try.prog 4 #[.slice a0 len0 cap0, .int .u32 a1] w fun e w' => e = .returned (.bool true) ∧ Below w.heap.size w w' := by
  obtain ⟨x, rfl, hx⟩ := u32_nat w1
  obtain ⟨l, rfl, hcap, hm, hr⟩ := row_of_ints w0
  by_cases h : l.length ≤ 100
  · exact fieldWords_small a0 cap0 l x w hr hcap hm hx h
  · exact fieldWords_large a0 cap0 l.length x w (by omega)
end Go.Proofs.Ytldfpnflkkbfeaa
