/-
  Layer 4's statements: how their deeds are read; Pick; the examples at their head (up). No conditions.
-/
import Derived.Test.YtibdoephpfbjdaaMemB
import Derived.Test.YtibdoephpfbjdaaArgs
namespace Go.Proofs.Ytibdoephpfbjdaa
open Go.ChangeShapes Go.WideShapes Go.ChangeAt Go.RowKit

/- two errors that are ErrArg, held against each other -/
theorem arg_eql (w : World) : (binOp .eql 26 (.iface 29 (.int .i64 1)) (.iface 29 (.int .i64 1))).run Try.prog w = .ok (.bool true) w := by kernel_rfl

/- deeds that came in -/
structure Deeds (w : World) (a : Option Addr) (n : Nat) (x y : Nat → Int) (z : Nat → Nat) : Prop where
  cells : n = 0 ∨ ∃ b off, a = some ⟨b, off, none⟩ ∧ b < w.heap.size ∧ ∀ i, i < n → w.cell? ⟨b, off + i * 3, none⟩ = some (.int .i64 (x i)) ∧ w.cell? ⟨b, off + i * 3 + 1, none⟩ = some (.int .i64 (y i)) ∧ w.cell? ⟨b, off + i * 3 + 2, none⟩ = some (.int .u32 (z i : Nat))
  xs : ∀ i, i < n → -9223372036854775808 ≤ x i ∧ x i ≤ 9223372036854775807
  ys : ∀ i, i < n → -9223372036854775808 ≤ y i ∧ y i ≤ 9223372036854775807
  zs : ∀ i, i < n → z i < 4294967296

theorem deeds_of {H : Type} {enc : TypeId × Value → H} {w : World} {base : Nat} {sp : Nat → Bool} {held : Bool} {a : Option Addr} {len cap : Nat} {d : DataW H} {p : List MemPlace}
    (h : DataW.Trod enc Try.prog w base sp held 22 (.slice a len cap) d p) : ∃ x y z, Deeds w a len x y z := by
  obtain ⟨_, _, h⟩ := elems_of Try.underlying22 (c := 3) (by kernel_rfl) (by decide) h
  rcases h with rfl | ⟨b, off, rfl, hb, hi⟩
  · exact ⟨fun _ => 0, fun _ => 0, fun _ => 0, .inl rfl, fun i hi => by omega, fun i hi => by omega, fun i hi => by omega⟩
  · have key : ∀ i, i < len → ∃ x : Int × Int × Nat, (w.cell? ⟨b, off + i * 3, none⟩ = some (.int .i64 x.1) ∧ w.cell? ⟨b, off + i * 3 + 1, none⟩ = some (.int .i64 x.2.1) ∧ w.cell? ⟨b, off + i * 3 + 2, none⟩ = some (.int .u32 (x.2.2 : Nat))) ∧ (-9223372036854775808 ≤ x.1 ∧ x.1 ≤ 9223372036854775807) ∧ (-9223372036854775808 ≤ x.2.1 ∧ x.2.1 ≤ 9223372036854775807) ∧ x.2.2 < 4294967296 := by
      intro i hil
      obtain ⟨cs, n, x, hl, hc, ht⟩ := hi i hil
      match cs, hl with
      | [c0, c1, c2], _ =>
        obtain ⟨xs, n', _, _, _, hxl, hf⟩ := DataW.trod_struct Try.underlying33 ht
        match xs, hxl with
        | [y0, y1, y2], _ =>
          obtain ⟨z0, e0, _, w0⟩ := DataW.trod_int Try.underlying3 (hf 0 _ rfl)
          obtain ⟨z1, e1, _, w1⟩ := DataW.trod_int Try.underlying3 (hf 1 _ rfl)
          obtain ⟨z2, e2, _, w2⟩ := DataW.trod_int Try.underlying31 (hf 2 _ rfl)
          have k3 : Try.prog.cellsOf 3 = 1 := by kernel_rfl
          have k31 : Try.prog.cellsOf 31 = 1 := by kernel_rfl
          simp [k3] at e0 e1
          simp [k31] at e2
          subst e0 e1 e2
          obtain ⟨m, rfl, hm⟩ := u32_nat w2
          exact ⟨(z0, z1, m), ⟨hc 0 (by decide), hc 1 (by decide), hc 2 (by decide)⟩, bounds_i64 w0, bounds_i64 w1, hm⟩
    obtain ⟨f, hf⟩ := Go.Deep.choose_lt key
    exact ⟨fun i => (f i).1, fun i => (f i).2.1, fun i => (f i).2.2, .inr ⟨b, off, rfl, hb, fun i h => (hf i h).1⟩, fun i h => (hf i h).2.1, fun i h => (hf i h).2.2.1, fun i h => (hf i h).2.2.2⟩

theorem wordAt_set (l : List Nat) (i x : Nat) (hi : i ≤ l.length) (hx : x < 4294967296) : wordAt (splice l i (bytes4 x)) i = x := by
  unfold wordAt
  rw [show i + 4 = i + (bytes4 x).length from rfl, splice_same l _ i hi]
  exact word_bytes x hx

def pickI (c n : Int) : Int := (if c < 0 then -(c + 1) else c) % n
theorem pickI_range (c n : Int) (h : 0 < n) : 0 ≤ pickI c n ∧ pickI c n < n := ⟨Int.emod_nonneg _ (by omega), Int.emod_lt_of_pos _ h⟩
theorem pick_any (c n : Int) (w : World) (hlo : -9223372036854775808 ≤ c) (hhi : c ≤ 9223372036854775807) (hn : 1 ≤ n) (hm : n ≤ 65536) :
    Calls Try.prog 7 #[.int .i64 c, .int .i64 n] w fun e w' => e = .returned (.int .i64 (pickI c n)) ∧ w = w' := by
  have hnz : (n == 0) = false := by simp; omega
  unfold pickI
  by_cases hc : c < 0
  · go_enter Try.func7, Try.ntmps7
    go_wp2_with fail
    go_ret
    exact ⟨end_int (by rw [← Int.neg_tmod]; exact Int.tmod_eq_emod_of_nonneg (by omega)), rfl⟩
  · have hc' : 0 ≤ c := by omega
    go_enter Try.func7, Try.ntmps7
    go_wp2_with fail
    go_ret
    exact ⟨rfl, rfl⟩

theorem ones_length (n : Nat) (h : 8 ≤ n) : (splice (List.replicate n 0) 4 (bytes4 258)).length = n := by
  rw [length_splice _ _ _ (by rw [List.length_replicate]; exact h), List.length_replicate]
theorem ones_at5 (n : Nat) (h : 8 ≤ n) : (splice (List.replicate n 0) 4 (bytes4 258)).getD 5 0 = 1 := by
  obtain ⟨m, rfl⟩ : ∃ m, n = 4 + m := ⟨n - 4, by omega⟩
  simp [splice, bytes4, byteN, List.getD]

set_option maxHeartbeats 1000000 in
theorem up04 (w : World) :
    Calls Try.prog 5 #[] w fun e w' => e = .returned (.bool true) ∧ Below w.heap.size w w' := by
  have q := arg_eql
  go_enter Try.func5, Try.ntmps5
  go_wp2_with fail
  refine (memNew_raw 1024 _ (by omega) (by omega) (by omega)).mono ?_
  rintro e w1 ⟨rfl, hw1⟩
  have h1 : MemAt w1 (w.heap.size + 1) w.heap.size (List.replicate 1024 0) := hw1 ▸ newMem_at w 1024 (by omega)
  have b1 : Below w.heap.size w w1 := hw1 ▸ (newMem_kept w 1024 (fun _ => False)).none
  clear hw1
  go_wp2_with fail
  refine (memNew_no 1020 _ (.inl (by omega))).mono ?_
  rintro e w' ⟨rfl, rfl⟩
  go_wp2_with fail
  refine (memSetWord_yes _ _ _ 4 258 _ h1 (by omega) (by omega) (by rw [List.length_replicate]; omega)).mono ?_
  rintro e w2 ⟨rfl, h2, k2⟩
  have l2 := Lib.hid (ones_length 1024 (by omega))
  have g2 := Lib.hid (ones_at5 1024 (by omega))
  have b2 := k2.below b1 b1.size (by omega)
  clear h1 k2 b1
  generalize splice (List.replicate 1024 0) 4 (bytes4 258) = l at *
  go_wp2_with fail
  refine (memByte_yes _ _ _ 5 _ h2 (by rw [l2.out]; omega)).mono ?_
  rintro e w' ⟨rfl, rfl⟩
  rw [g2.out]
  go_wp2_with fail
  refine (memWord_odd _ 2 _ (by decide)).mono ?_
  rintro e w' ⟨rfl, rfl⟩
  go_wp2_with fail
  refine (memWord_far _ _ _ 1024 _ h2 (by decide) (.inr (by rw [l2.out]; omega))).mono ?_
  rintro e w' ⟨rfl, rfl⟩
  have hc := h2.cell
  rw [l2.out] at hc
  have HC := Lib.hid hc
  clear hc h2
  go_wp2_with fail
  refine (size_any _ _ _ _ _ HC.out).mono ?_
  rintro e w' ⟨rfl, rfl⟩
  go_wp2_with fail
  go_ret
  exact ⟨rfl, b2⟩
end Go.Proofs.Ytibdoephpfbjdaa
