/-
  Slices of bytes, as they are read: of arguments, of new rows; as a string; copied by append. No conditions beyond those that each theorem names.
-/
import Derived.Test.YthgnklgejlebhaaRow8
import Derived.Test.YthgnklgejlebhaaSeq
import Derived.Test.YthgnklgejlebhaaArgs
import Derived.Lib.SliceRun
namespace Go.Proofs.Ythgnklgejlebhaa
open Go.ChangeShapes Go.WideShapes Go.ChangeAt Go.RowKit

abbrev BT : TypeId := 5
abbrev BS : TypeId := 34
structure BytesAt (w : World) (v : Value) (l : List Nat) : Prop where
  is : ∃ a n cap, v = .slice a n cap ∧ n = l.length ∧ n ≤ cap ∧ cap ≤ maxLen ∧ (a = none → cap = 0) ∧ (n = 0 ∨ ∃ b off, a = some ⟨b, off, none⟩ ∧ b < w.heap.size ∧ ∀ i, i < n → w.cell? ⟨b, off + i, none⟩ = some (.int .u8 ((l.getD i 0 : Nat) : Int)))
  fit : ∀ x ∈ l, x < 256

theorem BytesAt.on {w w' : World} {v : Value} {l : List Nat} (h : BytesAt w v l) (hb : Below w.heap.size w w') : BytesAt w' v l := by
  obtain ⟨⟨a, n, cap, rfl, h1, h2, h3, h4, h5⟩, hf⟩ := h
  refine ⟨⟨a, n, cap, rfl, h1, h2, h3, h4, ?_⟩, hf⟩
  rcases h5 with h5 | ⟨b, off, e, hl, hc⟩
  · exact .inl h5
  · exact .inr ⟨b, off, e, Nat.lt_of_lt_of_le hl hb.size, fun i hi => (hb.cell (p := ⟨b, off + i, none⟩) hl).trans (hc i hi)⟩
theorem BytesAt.shape {w : World} {v : Value} {l : List Nat} (h : BytesAt w v l) : ∃ a cap, v = .slice a l.length cap ∧ l.length ≤ cap ∧ cap ≤ maxLen ∧ (a = none → cap = 0) := by
  obtain ⟨⟨a, n, cap, rfl, rfl, h2, h3, h4, h5⟩, hf⟩ := h
  exact ⟨a, cap, rfl, h2, h3, h4⟩
theorem BytesAt.string {w : World} {v : Value} {l : List Nat} (h : BytesAt w v l) : (convert BS 9 v).run Try.prog w = .ok (.string (strOf l)) w := by
  obtain ⟨⟨a, n, cap, rfl, rfl, h2, h3, h4, h5⟩, hf⟩ := h
  rcases h5 with h5 | ⟨b, off, rfl, hl, hc⟩
  · have : l = [] := List.eq_nil_of_length_eq_zero h5
    subst this
    cases a with
    | none => exact no_string w 0 cap
    | some a =>
      have := run_convert_bytes_string (P := Try.prog) w BS 9 BT (some a) 0 cap Try.underlying34 Try.underlying5 Try.underlying9
      simp only [List.length_nil]
      rw [this, run_bytesToString w a 0 cap [] (by simpa using run_loadCells_list (P := Try.prog) w a [] (fun j v hj => by simp at hj))]
      rfl
  · refine run_convert_bytes_arg w BS BT Try.underlying34 Try.underlying5 b off l.length cap (l.map fun b : Nat => (b : Int)) (by simp) (fun i hi => ?_) 9 Try.underlying9
    rw [hc i hi]
    congr 2
    simp [List.getD, List.getElem?_eq_getElem hi]
theorem BytesAt.src {w : World} {v : Value} {l : List Nat} (h : BytesAt w v l) : Src Try.prog 1 BS v l.length (byteVals l) w := by
  obtain ⟨⟨a, n, cap, rfl, rfl, h2, h3, h4, h5⟩, hf⟩ := h
  rcases h5 with h5 | ⟨b, off, rfl, hl, hc⟩
  · have : l = [] := List.eq_nil_of_length_eq_zero h5
    subst this
    cases a with
    | none => exact Src.ofNil w Try.underlying34 cap
    | some a => exact Src.ofSlice w Try.underlying34 a 0 cap [] rfl (fun j u hu => by simp at hu) (fun u hu => by cases hu)
  · refine Src.ofSlice w Try.underlying34 _ l.length cap (byteVals l) (by simp [byteVals_length]) (fun j u hu => ?_) (byteVals_one l)
    have hj : j < l.length := by
      have := (List.getElem?_eq_some_iff.1 hu).1
      rwa [byteVals_length] at this
    rw [byteVals_at l j hj] at hu
    rw [Addr.add_lit, hc j hj, hu]
theorem SRow.bytes {w : World} {v : Value} {l : List Nat} (h : SRow BT 1 w v l.length (byteVals l)) (hf : ∀ x ∈ l, x < 256) : BytesAt w v l := by
  refine ⟨?_, hf⟩
  rcases h.is with ⟨rfl, h0⟩ | ⟨b, cap, rest, rfl, hr, _, h1, h2⟩
  · exact ⟨none, 0, 0, rfl, h0.symm, Nat.le_refl _, Nat.zero_le _, fun _ => rfl, .inl rfl⟩
  · refine ⟨_, l.length, cap, rfl, rfl, h1, h2, (fun h => by cases h), .inr ⟨b, 0, rfl, hr.lt, fun i hi => ?_⟩⟩
    rw [Nat.zero_add, hr.cell, List.getElem?_append_left (by rw [byteVals_length]; exact hi), byteVals_at l i hi]

/- bytes that came in -/
theorem bytes_of {H : Type} {enc : TypeId × Value → H} {w : World} {base : Nat} {sp : Nat → Bool} {held : Bool} {a : Option Addr} {len cap : Nat} {d : DataW H} {p : List MemPlace}
    (h : DataW.Trod enc Try.prog w base sp held BS (.slice a len cap) d p) : ∃ l, BytesAt w (.slice a len cap) l ∧ l.length = len := by
  have h0 := h
  obtain ⟨h1, h2, h⟩ := elems_of Try.underlying34 (c := 1) (by kernel_rfl) (by decide) h
  have hn : a = none → cap = 0 := by
    rintro rfl
    obtain ⟨fuel, hf⟩ := h0
    rcases Go.Deep.open_slice Try.underlying34 hf with ⟨hcs, _⟩ | ⟨ad, l, k, m, n, D, Pl, hcs, _⟩
    · simp [Value.cells] at hcs
      exact hcs.2
    · simp [Value.cells] at hcs
  rcases h with rfl | ⟨b, off, rfl, hb, hi⟩
  · exact ⟨[], ⟨⟨a, 0, cap, rfl, rfl, h1, h2, hn, .inl rfl⟩, fun x hx => by cases hx⟩, rfl⟩
  · have key : ∀ i, i < len → ∃ x : Nat, w.cell? ⟨b, off + i, none⟩ = some (.int .u8 (x : Int)) ∧ x < 256 := by
      intro i hil
      obtain ⟨cs, n, x, hl, hc, ht⟩ := hi i hil
      match cs, hl with
      | [c0], _ =>
        obtain ⟨z0, e0, _, w0⟩ := DataW.trod_int Try.underlying5 ht
        simp at e0
        subst e0
        obtain ⟨m, rfl, hm⟩ := u8_nat w0
        have := hc 0 (by decide)
        simp only [Nat.mul_one, Nat.add_zero] at this
        exact ⟨m, this, hm⟩
    obtain ⟨f, hf⟩ := Go.Deep.choose_lt key
    refine ⟨(List.range len).map f, ⟨⟨_, len, cap, rfl, by simp, h1, h2, hn, .inr ⟨b, off, rfl, hb, fun i hil => ?_⟩⟩, fun x hx => ?_⟩, by simp⟩
    · rw [(hf i hil).1]
      simp [List.getD, hil]
    · obtain ⟨i, hi, rfl⟩ := List.mem_map.1 hx
      exact (hf i (List.mem_range.1 hi)).2

set_option maxRecDepth 100000 in
theorem infoB : (Try.prog.info? BT).map (fun i => (i.zero, i.size, i.bytes)) = some (some (.int .u8 0), 1, 1) := by kernel_rfl
/- append([]byte{}, b..) -/
theorem copy_run {w : World} {v : Value} {l : List Nat} (h : BytesAt w v l) (small : l.length ≤ 1000000) :
    ∃ v' w', (Builtin.append_ #[BS, BS] BS #[.slice (some ⟨w.heap.size, 0, none⟩) 0 0, v]).run Try.prog (w.alloc (.cells #[] BT)) = .ok v' w' ∧ SRow BT 1 w' v' l.length (byteVals l) ∧ (∀ j, own v' j → w.heap.size ≤ j) ∧ Below w.heap.size w w' ∧ v' ≠ .slice none 0 0 := by
  have n0 : SRow BT 1 (w.alloc (.cells #[] BT)) (.slice (some ⟨w.heap.size, 0, none⟩) 0 0) 0 [] := ⟨.inr ⟨w.heap.size, 0, [], rfl, RowAt.new w BT [], by simp, Nat.le_refl _, by simp [maxLen]⟩, rfl, fun _ h => by cases h⟩
  have k0 : Kept (fun _ => False) w (w.alloc (.cells #[] BT)) := (Kept.refl _ w).alloc _
  have hs := (h.on ((Below.refl _ _).alloc (Nat.le_refl _) (.cells #[] BT))).src
  obtain ⟨v', w', hr', q1, q2, q3, q4⟩ := n0.append (P := Try.prog) BS BS Try.underlying34 infoB rfl (by omega) hs (.inr (by simp)) (by omega)
  rw [List.nil_append, Nat.zero_add] at q1
  refine ⟨v', w', hr', q1, fun j hj => ?_, (k0.then q2 (fun k hk ht => by simp [own] at ht; omega)).none, q4⟩
  rcases q3 j hj with hj | hj
  · simp [own] at hj; omega
  · simp at hj; omega
end Go.Proofs.Ythgnklgejlebhaa
