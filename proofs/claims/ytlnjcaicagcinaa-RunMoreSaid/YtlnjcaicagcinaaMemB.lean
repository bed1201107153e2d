/-
  Contracts of package mem (layer 4), more: New, Bytes, SetWord; of the statements' Pick. No conditions beyond those that each theorem names.
-/
import Derived.Test.YtlnjcaicagcinaaMemA
namespace Go.Proofs.Ytlnjcaicagcinaa
open Go.ChangeShapes Go.WideShapes Go.ChangeAt Go.RowKit

theorem splice_lt {l s : List Nat} (hl : ∀ b ∈ l, b < 256) (hs : ∀ b ∈ s, b < 256) (i : Nat) : ∀ b ∈ splice l i s, b < 256 := by
  intro b hb
  simp only [splice, List.mem_append] at hb
  rcases hb with hb | hb | hb
  · exact hl b (List.mem_of_mem_take hb)
  · exact hs b hb
  · exact hl b (List.mem_of_mem_drop hb)

theorem memSetWord_yes (p g : Nat) (l : List Nat) (i x : Nat) (w : World) (hm : MemAt w p g l) (hx : x < 4294967296) (h4 : i % 4 = 0) (h : i + 4 ≤ l.length) :
    Calls Try.prog 16 #[.pointer (some ⟨p, 0, none⟩), .int .i64 i, .int .u32 x] w fun e w' => e = .returned (.int .i64 0) ∧ MemAt w' p g (splice l i (bytes4 x)) ∧ Kept (· = g) w w' := by
  refine (memSetWord_raw p g l i x w hm hx h4 h).mono ?_
  rintro e w' ⟨rfl, rfl⟩
  have hl : (splice l i (bytes4 x)).length = l.length := length_splice l i (bytes4 x) h
  have hk : Kept (fun _ => False) w (w.alloc (.cells (byteVals (bytes4 x)).toArray 5)) := (Kept.refl _ w).alloc _
  have hr := (hm.row.keep hk (by simp)).setRow (splice_lt hm.row.2 (bytes4_lt x) i)
  refine ⟨rfl, ⟨?_, hr, hm.apart, by rw [hl]; exact hm.small⟩, ((Kept.refl (· = g) w).alloc _).setRow (fun _ => rfl) _ |>.drew⟩
  rw [hl]
  exact (setRow_other _ g p _ hm.apart).trans (hk.block hm.head (by simp))

theorem made_zeros (n : Nat) : madeCells #[.int .u8 0] n = (byteVals (List.replicate n 0)).toArray := by
  apply Array.ext
  · simp [size_madeCells, byteVals]
  · intro i h1 h2
    simp [madeCells, byteVals, Nat.mod_one]

set_option maxRecDepth 100000 in
theorem info8 : (Try.prog.info? 5).map (fun i => (i.zero, i.size, i.bytes)) = some (some (.int .u8 0), 1, 1) := by kernel_rfl

set_option maxRecDepth 100000 in
theorem memNew_no (n : Int) (w : World) (h : n < 1024 ∨ 65536 < n ∨ n.tmod 4 ≠ 0) :
    Calls Try.prog 11 #[.int .i64 n] w fun e w' => e = .returned (.tuple #[.pointer none, .iface 72 (.int .i64 1)]) ∧ w = w' := by
  by_cases h1 : n < 1024
  · clear h
    go_enter Try.func11, Try.ntmps11
    go_wp2_with fail
    go_ret2
    exact ⟨rfl, rfl⟩
  · by_cases h2 : 65536 < n
    · clear h
      go_enter Try.func11, Try.ntmps11
      go_wp2_with fail
      go_ret2
      exact ⟨rfl, rfl⟩
    · have H : Hid (n.tmod 4 ≠ 0) := by
        rcases h with h | h | h
        · exact absurd h h1
        · exact absurd h h2
        · exact h
      have g1 : 1024 ≤ n := by omega
      have g2 : n ≤ 65536 := by omega
      clear h h1 h2
      go_enter Try.func11, Try.ntmps11
      go_wp2_with fail
      refine (aligned_no n _ H.out).mono ?_
      rintro e w' ⟨rfl, rfl⟩
      go_wp2_with fail
      go_ret2
      exact ⟨rfl, rfl⟩

def newMem (w : World) (n : Nat) : World := (w.alloc (.cells (byteVals (List.replicate n 0)).toArray 5)).alloc (.cells #[.slice (some ⟨w.heap.size, 0, none⟩) n n] 70)

set_option maxRecDepth 100000 in
theorem memNew_raw (n : Nat) (w : World) (h1 : 1024 ≤ n) (h2 : n ≤ 65536) (h4 : n % 4 = 0) :
    Calls Try.prog 11 #[.int .i64 n] w fun e w' => e = .returned (.tuple #[.pointer (some ⟨w.heap.size + 1, 0, none⟩), .nilIface]) ∧ newMem w n = w' := by
  have H : Hid ((n : Int).tmod 4 = 0) := by show (n : Int).tmod 4 = 0; rw [Int.tmod_eq_emod_of_nonneg (by omega)]; omega
  have hmk := run_make_row' (P := Try.prog) 33 5 (.int .u8 0) 1 Try.underlying33 info8 rfl .i64 .i64 n (by omega) (by omega)
  rw [made_zeros] at hmk
  unfold newMem
  generalize (byteVals (List.replicate n 0)).toArray = cs at *
  clear h4
  go_enter Try.func11, Try.ntmps11
  go_wp2_with fail
  refine (aligned_yes n _ H.out).mono ?_
  rintro e w' ⟨rfl, rfl⟩
  go_wp2_with fail
  go_ret2
  exact ⟨rfl, rfl⟩

theorem newMem_at (w : World) (n : Nat) (h : n ≤ 65536) : MemAt (newMem w n) (w.heap.size + 1) w.heap.size (List.replicate n 0) := by
  refine ⟨?_, ?_, by omega, by simpa using h⟩
  · have := heap_alloc_new (w.alloc (.cells (byteVals (List.replicate n 0)).toArray 5)) (.cells #[.slice (some ⟨w.heap.size, 0, none⟩) n n] 70)
    simpa [newMem] using this
  · exact (ByteRow.new w (List.replicate n 0) (by simp)).keep (S := fun _ => False) ((Kept.refl _ _).alloc _) (by simp)
theorem newMem_kept (w : World) (n : Nat) (S : Nat → Prop) : Kept S w (newMem w n) := ((Kept.refl _ _).alloc _).alloc _
theorem newMem_size (w : World) (n : Nat) : (newMem w n).heap.size = w.heap.size + 2 := by simp [newMem]

set_option maxRecDepth 100000 in
theorem memBytes_no (p g : Nat) (l : List Nat) (f t : Int) (w : World) (hm : MemAt w p g l) (h : t ≤ f ∨ t ≤ 0 ∨ (l.length : Int) ≤ f) :
    Calls Try.prog 8 #[.pointer (some ⟨p, 0, none⟩), .int .i64 f, .int .i64 t] w fun e w' => e = .returned (.slice none 0 0) ∧ w = w' := by
  have hc := hm.cell
  have hs := hm.small
  clear hm
  generalize l.length = n at *
  by_cases h1 : f < 0
  all_goals by_cases h2 : (n : Int) < t
  all_goals
    go_enter Try.func8, Try.ntmps8
    go_wp2_with fail
    refine (size_any p n _ _ _ hc).mono ?_
    rintro e w' ⟨rfl, rfl⟩
    go_wp2_with fail
    all_goals (try (go_ret; exact ⟨rfl, rfl⟩))

def zeros (k : Nat) : Obj := .cells (byteVals (List.replicate k 0)).toArray 5
theorem make_zeros (D : Int) (k : Nat) (hD : D = k) (hk : k ≤ 65536) (w : World) : (Instr.makeSlice 33 (.int .i64 D) (.int .i64 D)).run Try.prog w = .ok (.slice (some ⟨w.heap.size, 0, none⟩) k k) (w.alloc (zeros k)) := by
  subst hD
  have h := run_make_row' (P := Try.prog) 33 5 (.int .u8 0) 1 Try.underlying33 info8 rfl .i64 .i64 k (by omega) (by omega) w
  rw [made_zeros] at h
  exact h

/- copy out of a row, into all of a new one -/
set_option maxRecDepth 100000 in
theorem copy_out {w : World} {g : Nat} {l : List Nat} (h : ByteRow w g l) (a b k : Nat) (hb : b ≤ l.length) (hk : k = b - a) (ty : TypeId) (cap m : Nat) :
    (Builtin.copy_ #[33, 33] ty #[.slice (some ⟨w.heap.size, 0, none⟩) k cap, .slice (some ⟨g, a, none⟩) k m]).run Try.prog (w.alloc (zeros k)) = .ok (goInt k) (w.alloc (.cells (byteVals (piece l a b)).toArray 5)) := by
  subst hk
  have hl : (piece l a b).length = b - a := piece_length l a b hb
  have hr : ByteRow (w.alloc (zeros (b - a))) g l := h.keep (S := fun _ => False) ((Kept.refl _ _).alloc _) (by simp)
  have hn := heap_alloc_new w (zeros (b - a))
  have := run_copy_row (P := Try.prog) (w.alloc (zeros (b - a))) 33 33 ty 5 w.heap.size 0 (b - a) cap ⟨g, a, none⟩ (b - a) m (byteVals (List.replicate (b - a) 0)).toArray 5 (byteVals (piece l a b)) Try.underlying33 (by kernel_rfl) hn (by simp [byteVals_length, hl]) (fun j v hj => by
    have hjl : j < (piece l a b).length := by
      rcases Nat.lt_or_ge j (piece l a b).length with hj' | hj'
      · exact hj'
      · rw [List.getElem?_eq_none (by simpa [byteVals_length] using hj')] at hj
        cases hj
    rw [byteVals_at _ j hjl, piece_getD l a b j (by omega)] at hj
    have hadd : (⟨g, a, none⟩ : Addr).add j = ⟨g, a + j, none⟩ := by unfold Addr.add; split <;> simp_all
    rw [hadd, hr.at_ (a + j) (by omega)]
    exact hj) (by simp [byteVals_length, hl]) (byteVals_one _)
  rw [byteVals_length, hl] at this
  rw [this]
  unfold zeros
  rw [setRow_alloc]
  simp [byteVals]

set_option maxRecDepth 100000 in
set_option maxHeartbeats 1000000 in
theorem memBytes_yes (p g : Nat) (l : List Nat) (f t : Int) (a b : Nat) (w : World) (hm : MemAt w p g l) (ha : (f = a ∨ f < 0 ∧ a = 0)) (hb : t = b ∧ b ≤ l.length ∨ (l.length : Int) < t ∧ b = l.length) (hab : a < b) :
    Calls Try.prog 8 #[.pointer (some ⟨p, 0, none⟩), .int .i64 f, .int .i64 t] w fun e w' => e = .returned (.slice (some ⟨w.heap.size, 0, none⟩) (b - a : Nat) (b - a : Nat)) ∧ w.alloc (.cells (byteVals (piece l a b)).toArray 5) = w' := by
  have hc := hm.cell
  have hs := hm.small
  have hbl : b ≤ l.length := by omega
  have hcp := copy_out hm.row a b (b - a) hbl rfl
  have HM := Lib.hid hm
  have hlt := hm.row.lt
  have hpl := hm.lt
  clear hm
  generalize (byteVals (piece l a b)).toArray = cs at *
  generalize l.length = n at *
  have mk1 := make_zeros ((b : Int) - (a : Int)) (b - a) (by omega) (by omega)
  generalize zeros (b - a) = z at *
  rcases ha with rfl | ⟨ha, rfl⟩
  · rcases hb with ⟨rfl, hb⟩ | ⟨hb, rfl⟩
    all_goals
      go_enter Try.func8, Try.ntmps8
      go_wp2_with fail
      refine (size_any p _ _ _ _ hc).mono ?_
      rintro e w' ⟨rfl, rfl⟩
      go_wp2_with fail
      go_ret
      exact ⟨rfl, rfl⟩
  · rw [Int.natCast_zero, Int.sub_zero] at mk1
    rw [Nat.sub_zero] at mk1 hcp
    rcases hb with ⟨rfl, hb⟩ | ⟨hb, rfl⟩
    all_goals
      go_enter Try.func8, Try.ntmps8
      go_wp2_with fail
      refine (size_any p _ _ _ _ hc).mono ?_
      rintro e w' ⟨rfl, rfl⟩
      go_wp2_with fail
      go_ret
      exact ⟨rfl, rfl⟩
end Go.Proofs.Ytlnjcaicagcinaa
