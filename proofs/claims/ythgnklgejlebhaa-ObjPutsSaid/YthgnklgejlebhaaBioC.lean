/-
  Both readers side by side (layer 11), plain data: the program's keeps what is left, the document's all and a place. Nothing of the program.
-/
import Derived.Test.YthgnklgejlebhaaBioQ
namespace Go.Proofs.Ythgnklgejlebhaa
open Go.ChangeShapes Go.WideShapes Go.ChangeAt Go.RowKit

/- what is left, of bytes that are read up to a place -/
def curL (l : List Nat) (at_ : Nat) (sh : Bool) : List Nat := if sh then [] else l.drop at_
theorem curL_length (l : List Nat) (at_ : Nat) (sh : Bool) : (curL l at_ sh).length = leftN l at_ sh := by
  cases sh <;> simp [curL, leftN]
theorem okN_wide (k : Int) : okN false k = wideK k := by simp [okN, wideK]
theorem take_nil (k : Nat) : takeV [] k = [] := by simp [takeV]
theorem drop_nil (k : Nat) : takeL [] k = [] := by simp [takeL]
theorem take_drop (l : List Nat) (at_ k : Nat) (h : at_ ≤ l.length) : takeV (l.drop at_) k = if fitN l at_ k then piece l at_ (at_ + k) else [] := by
  unfold takeV
  rw [List.length_drop]
  by_cases hk : k ≤ l.length - at_
  · rw [if_pos hk, if_pos (by simp [fitN]; omega), piece, Nat.add_sub_cancel_left]
  · rw [if_neg hk, if_neg (by simp [fitN]; omega)]
theorem drop_drop (l : List Nat) (at_ k : Nat) (h : at_ ≤ l.length) : takeL (l.drop at_) k = if fitN l at_ k then l.drop (at_ + k) else [] := by
  unfold takeL
  rw [List.length_drop]
  by_cases hk : k ≤ l.length - at_
  · rw [if_pos hk, if_pos (by simp [fitN]; omega), List.drop_drop]
  · rw [if_neg hk, if_neg (by simp [fitN]; omega)]
theorem takeS_drop (l : List Nat) (at_ k : Nat) (h : at_ ≤ l.length) : takeS (l.drop at_) false k = !fitN l at_ k := by
  unfold takeS fitN
  rw [List.length_drop, Bool.false_or, ← decide_not, decide_eq_decide]
  omega
theorem wide_pos {k : Int} (h : wideK k = true) : 0 < k.toNat := by
  simp [wideK] at h
  omega
theorem num_same (l : List Nat) (at_ : Nat) (sh : Bool) (k : Int) (h : at_ ≤ l.length) :
    pnumV (curL l at_ sh) k = numV l at_ sh k ∧ pnumL (curL l at_ sh) k = curL l (numAt l at_ sh k) (numSh l at_ sh k) ∧ pnumS (curL l at_ sh) sh k = numSh l at_ sh k := by
  cases sh with
  | true =>
    have e : okN true k = false := by simp [okN]
    refine ⟨?_, ?_, ?_⟩
    · simp [pnumV, numV, curL, e, take_nil, valB]
    · simp [pnumL, numSh, curL, drop_nil]
    · simp [pnumS, numSh, takeS]
  | false =>
    cases hk : wideK k with
    | false =>
      have e : okN false k = false := by rw [okN_wide, hk]
      exact ⟨by simp [pnumV, numV, e, hk], by simp [pnumL, numSh, numAt, e, hk], by simp [pnumS, numSh, e, hk]⟩
    | true =>
      have e : okN false k = true := by rw [okN_wide, hk]
      have t1 := take_drop l at_ k.toNat h
      have t2 := drop_drop l at_ k.toNat h
      have t3 := takeS_drop l at_ k.toNat h
      cases hf : fitN l at_ k.toNat <;> rw [hf] at t1 t2 t3
      · exact ⟨by simp [pnumV, numV, curL, e, hk, hf, t1, valB], by simp [pnumL, numSh, curL, e, hk, hf, t2], by simp [pnumS, numSh, curL, e, hk, hf, t3]⟩
      · exact ⟨by simp [pnumV, numV, curL, e, hk, hf, t1], by simp [pnumL, numSh, numAt, curL, e, hk, hf, t2], by simp [pnumS, numSh, curL, e, hk, hf, t3]⟩
theorem txt_same (l : List Nat) (at_ : Nat) (sh : Bool) (h : at_ ≤ l.length) :
    ptxtV (curL l at_ sh) = textV l at_ sh ∧ ptxtL (curL l at_ sh) = curL l (textAt l at_ sh) (textSh l at_ sh) ∧ ptxtS (curL l at_ sh) sh = textSh l at_ sh := by
  obtain ⟨e1, e2, e3⟩ := num_same l at_ sh 1 h
  unfold ptxtV ptxtL ptxtS
  rw [e1, e2, e3]
  have hle := numAt_le h sh 1
  unfold textV textAt textSh
  generalize numV l at_ sh 1 = x at *
  generalize numAt l at_ sh 1 = a1 at *
  cases hs : numSh l at_ sh 1 with
  | true => exact ⟨by simp [curL, take_nil], by simp [curL, drop_nil], by simp [takeS]⟩
  | false =>
    have t1 := take_drop l a1 x hle
    have t2 := drop_drop l a1 x hle
    have t3 := takeS_drop l a1 x hle
    have e : curL l a1 false = l.drop a1 := rfl
    rw [e, t1, t2, t3]
    cases fitN l a1 x <;> exact ⟨by simp, by simp [curL], by simp⟩

end Go.Proofs.Ythgnklgejlebhaa
