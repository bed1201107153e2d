/-
  Both readers side by side (layer 11), plain data: the program's keeps what is left, the document's all and a place. Slices of ints, as they came in. Nothing of the program but the numbers of types.
-/
import Derived.Test.YtahgeggmjaageaaBioU
namespace Go.Proofs.Ytahgeggmjaageaa
open Go.ChangeShapes Go.WideShapes Go.ChangeAt Go.RowKit

/- what is left, of bytes that are read up to a place -/
def curL (l : List Nat) (at_ : Nat) (sh : Bool) : List Nat := if sh then [] else l.drop at_
theorem curL_length (l : List Nat) (at_ : Nat) (sh : Bool) : (curL l at_ sh).length = leftN l at_ sh := by
  cases sh <;> simp [curL, leftN]
theorem okN_wide (k : Int) : okN false k = wideK k := by simp [okN, wideK]
theorem take_nil (k : Nat) : takeV [] k = [] := by simp [takeV]
theorem drop_nil (k : Nat) : takeL [] k = [] := by simp [takeL]
theorem take_drop (l : List Nat) (at_ k : Nat) (h : at_ ≤ l.length) : takeV (l.drop at_) k = if fitN l at_ k then piece l at_ (at_ + k) else [] := by
  unfold takeV
  rw [List.length_drop]
  by_cases hk : k ≤ l.length - at_
  · rw [if_pos hk, if_pos (by simp [fitN]; omega), piece, Nat.add_sub_cancel_left]
  · rw [if_neg hk, if_neg (by simp [fitN]; omega)]
theorem drop_drop (l : List Nat) (at_ k : Nat) (h : at_ ≤ l.length) : takeL (l.drop at_) k = if fitN l at_ k then l.drop (at_ + k) else [] := by
  unfold takeL
  rw [List.length_drop]
  by_cases hk : k ≤ l.length - at_
  · rw [if_pos hk, if_pos (by simp [fitN]; omega), List.drop_drop]
  · rw [if_neg hk, if_neg (by simp [fitN]; omega)]
theorem takeS_drop (l : List Nat) (at_ k : Nat) (h : at_ ≤ l.length) : takeS (l.drop at_) false k = !fitN l at_ k := by
  unfold takeS fitN
  rw [List.length_drop, Bool.false_or, ← decide_not, decide_eq_decide]
  omega
theorem wide_pos {k : Int} (h : wideK k = true) : 0 < k.toNat := by
  simp [wideK] at h
  omega
theorem num_same (l : List Nat) (at_ : Nat) (sh : Bool) (k : Int) (h : at_ ≤ l.length) :
    pnumV (curL l at_ sh) k = numV l at_ sh k ∧ pnumL (curL l at_ sh) k = curL l (numAt l at_ sh k) (numSh l at_ sh k) ∧ pnumS (curL l at_ sh) sh k = numSh l at_ sh k := by
  cases sh with
  | true =>
    have e : okN true k = false := by simp [okN]
    refine ⟨?_, ?_, ?_⟩
    · simp [pnumV, numV, curL, e, take_nil, valB]
    · simp [pnumL, numSh, curL, drop_nil]
    · simp [pnumS, numSh, takeS]
  | false =>
    cases hk : wideK k with
    | false =>
      have e : okN false k = false := by rw [okN_wide, hk]
      exact ⟨by simp [pnumV, numV, e, hk], by simp [pnumL, numSh, numAt, e, hk], by simp [pnumS, numSh, e, hk]⟩
    | true =>
      have e : okN false k = true := by rw [okN_wide, hk]
      have t1 := take_drop l at_ k.toNat h
      have t2 := drop_drop l at_ k.toNat h
      have t3 := takeS_drop l at_ k.toNat h
      cases hf : fitN l at_ k.toNat <;> rw [hf] at t1 t2 t3
      · exact ⟨by simp [pnumV, numV, curL, e, hk, hf, t1, valB], by simp [pnumL, numSh, curL, e, hk, hf, t2], by simp [pnumS, numSh, curL, e, hk, hf, t3]⟩
      · exact ⟨by simp [pnumV, numV, curL, e, hk, hf, t1], by simp [pnumL, numSh, numAt, curL, e, hk, hf, t2], by simp [pnumS, numSh, curL, e, hk, hf, t3]⟩
theorem txt_same (l : List Nat) (at_ : Nat) (sh : Bool) (h : at_ ≤ l.length) :
    ptxtV (curL l at_ sh) = textV l at_ sh ∧ ptxtL (curL l at_ sh) = curL l (textAt l at_ sh) (textSh l at_ sh) ∧ ptxtS (curL l at_ sh) sh = textSh l at_ sh := by
  obtain ⟨e1, e2, e3⟩ := num_same l at_ sh 1 h
  unfold ptxtV ptxtL ptxtS
  rw [e1, e2, e3]
  have hle := numAt_le h sh 1
  unfold textV textAt textSh
  generalize numV l at_ sh 1 = x at *
  generalize numAt l at_ sh 1 = a1 at *
  cases hs : numSh l at_ sh 1 with
  | true => exact ⟨by simp [curL, take_nil], by simp [curL, drop_nil], by simp [takeS]⟩
  | false =>
    have t1 := take_drop l a1 x hle
    have t2 := drop_drop l a1 x hle
    have t3 := takeS_drop l a1 x hle
    have e : curL l a1 false = l.drop a1 := rfl
    rw [e, t1, t2, t3]
    cases fitN l a1 x <;> exact ⟨by simp, by simp [curL], by simp⟩

/- both, side by side -/
structure Reads (w0 w : World) (pb rb : Nat) (v : Value) (l : List Nat) (at_ : Nat) (sh : Bool) : Prop where
  prog : PrAt w pb (curL l at_ sh) sh
  ref : RdAt w rb v l at_ sh
  apart : pb ≠ rb
  late : w0.heap.size ≤ pb ∧ w0.heap.size ≤ rb
  below : Below w0.heap.size w0 w
theorem PrAt.keep_ref {w w' : World} {pb rb at_ : Nat} {l lp : List Nat} {sh sh' : Bool} {v : Value} (h : PrAt w pb lp sh) (hr : RdAt w rb v l at_ sh') (hne : pb ≠ rb) (k : Kept (· = rb) w w') : PrAt w' pb lp sh := by
  obtain ⟨⟨u, hp, hd⟩, hs, hg⟩ := h
  exact ⟨⟨u, hp.keep k hne, hd.off_row hr.head hr.ne8 k⟩, hs, hg⟩
theorem RdAt.keep_prog {w w' : World} {pb rb at_ : Nat} {l lp : List Nat} {sh sh' : Bool} {v : Value} (h : RdAt w rb v l at_ sh) (hp : PrAt w pb lp sh') (hne : pb ≠ rb) (k : Kept (· = pb) w w') : RdAt w' rb v l at_ sh := by
  obtain ⟨u, hrow, hd⟩ := hp.is
  exact ⟨h.head.keep k fun e => hne e.symm, h.data.off_two hrow hd.ne8 (ne8_bool _) k, h.le, h.small⟩
theorem Reads.on {w0 w w' : World} {pb rb at_ : Nat} {v : Value} {l : List Nat} {sh : Bool} (h : Reads w0 w pb rb v l at_ sh) (hb : Below w.heap.size w w') : Reads w0 w' pb rb v l at_ sh :=
  ⟨h.prog.on hb, h.ref.on hb, h.apart, h.late, below_on h.below hb h.below.size⟩
/- behind the program's step, and then the document's -/
theorem Reads.step {w0 w w1 w2 : World} {pb rb at_ a' : Nat} {v : Value} {l lp : List Nat} {sh sh' : Bool} (h : Reads w0 w pb rb v l at_ sh) (hp : PrAt w1 pb lp sh') (k1 : Kept (· = pb) w w1) (hr : RdAt w2 rb v l a' sh') (k2 : Kept (· = rb) w1 w2) (hl : lp = curL l a' sh') : Reads w0 w2 pb rb v l a' sh' := by
  subst hl
  have hr1 := h.ref.keep_prog h.prog h.apart k1
  have b1 := k1.below h.below h.below.size fun j _ e => by have := h.late.1; omega
  exact ⟨hp.keep_ref hr1 h.apart k2, hr, h.apart, h.late, k2.below b1 b1.size fun j _ e => by have := h.late.2; omega⟩

/- ints that came in -/
structure NumsAt (w : World) (a : Option Addr) (n : Nat) (X : Nat → Int) : Prop where
  cells : n = 0 ∨ ∃ b off, a = some ⟨b, off, none⟩ ∧ b < w.heap.size ∧ ∀ i, i < n → w.cell? ⟨b, off + i, none⟩ = some (.int .i64 (X i))
set_option maxRecDepth 100000 in
theorem nums_of {H : Type} {enc : TypeId × Value → H} {w : World} {base : Nat} {sp : Nat → Bool} {held : Bool} {a : Option Addr} {len cap : Nat} {d : DataW H} {p : List MemPlace}
    (h : DataW.Trod enc Try.prog w base sp held 28 (.slice a len cap) d p) : ∃ X, NumsAt w a len X := by
  obtain ⟨_, _, h3⟩ := elems_of Try.underlying28 (c := 1) (by kernel_rfl) (by decide) h
  rcases h3 with rfl | ⟨b, off, rfl, hb, hi⟩
  · exact ⟨fun _ => 0, ⟨.inl rfl⟩⟩
  · have key : ∀ i, i < len → ∃ x : Int, w.cell? ⟨b, off + i, none⟩ = some (.int .i64 x) := by
      intro i hil
      obtain ⟨cs, n', x, hl, hc, hx⟩ := hi i hil
      match cs, hl with
      | [c0], _ =>
        obtain ⟨z0, e0, _, w0⟩ := DataW.trod_int Try.underlying3 hx
        simp at e0
        subst e0
        have := hc 0 (by decide)
        simp at this
        exact ⟨z0, this⟩
    obtain ⟨f, hf⟩ := Go.Deep.choose_lt key
    exact ⟨f, ⟨.inr ⟨b, off, rfl, hb, hf⟩⟩⟩
end Go.Proofs.Ytahgeggmjaageaa
