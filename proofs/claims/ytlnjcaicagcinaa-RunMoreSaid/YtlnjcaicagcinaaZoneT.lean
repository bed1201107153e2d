/-
  All that is held of zones in a world, and what a deed does to it; the head of layer 6's laws. No conditions beyond those that each theorem names.
-/
import Derived.Test.YtlnjcaicagcinaaZoneK
import Derived.Test.YtlnjcaicagcinaaErr
namespace Go.Proofs.Ytlnjcaicagcinaa
open Go.ChangeShapes Go.WideShapes Go.ChangeAt Go.RowKit

structure Zoo (B : Nat) (w0 w : World) (zp mb : Nat) (L : List ZR) (n : Nat) : Prop where
  is : ∃ lv, ZAt w zp mb lv L n ∧ ∀ j, own lv j → B ≤ j
  lz : B ≤ zp
  lm : B ≤ mb
  below : Below B w0 w
  few : ∀ x ∈ L, x.z.P.length ≤ 100 ∧ x.z.Q.length ≤ 100

theorem Zoo.size {B : Nat} {w0 w : World} {zp mb n : Nat} {L : List ZR} (h : Zoo B w0 w zp mb L n) : B ≤ w.heap.size := by
  obtain ⟨lv, hz, _⟩ := h.is
  have := hz.head.lt
  have := h.lz
  omega
theorem Zoo.on {B : Nat} {w0 w w' : World} {zp mb n : Nat} {L : List ZR} (h : Zoo B w0 w zp mb L n) (hb : Below w.heap.size w w') : Zoo B w0 w' zp mb L n := by
  obtain ⟨lv, hz, ho⟩ := h.is
  exact ⟨⟨lv, hz.on hb, ho⟩, h.lz, h.lm, h.below.trans (hb.mono h.size), h.few⟩
theorem Zoo.good {B : Nat} {w0 w : World} {zp mb n : Nat} {L : List ZR} (h : Zoo B w0 w zp mb L n) : Good (L.map ZR.z) := by
  obtain ⟨lv, hz, _⟩ := h.is
  exact hz.good

def AddedTo (M : List ZV) (z : ZV) (M' : List ZV) : Prop := ∃ A B, Split M A B z.b ∧ M' = A ++ z :: B
theorem kept3_below {B : Nat} {w0 w w' : World} {zp mb : Nat} {lv : Value} (hb : Below B w0 w) (hk : Kept (Own3 zp mb lv) w w') (hB : B ≤ w.heap.size) (hz : B ≤ zp) (hm : B ≤ mb) (ho : ∀ j, own lv j → B ≤ j) : Below B w0 w' :=
  hk.below hb hB fun k _ hs => by
    rcases hs with h | h | h
    · omega
    · omega
    · exact ho k h

theorem Zoo.add {B : Nat} {w0 w : World} {zp mb n : Nat} {L : List ZR} (h : Zoo B w0 w zp mb L n) (x : ZR) (hp : IntsAt w x.p x.z.P) (hq : IntsAt w x.q x.z.Q) (sp : x.z.P.length ≤ 100) (sq : x.z.Q.length ≤ 100) (few : L.length < 100) (nb : n ≤ 20000) :
    Calls Try.prog 13 #[.pointer (some ⟨zp, 0, none⟩), x.v] w fun e w' =>
      (MayAdd (L.map ZR.z) x.z ∧ e = .returned .nilIface ∧ ∃ L', AddedTo (L.map ZR.z) x.z (L'.map ZR.z) ∧ L'.length = L.length + 1 ∧ Zoo B w0 w' zp mb L' (n + 200)) ∨
      (¬ MayAdd (L.map ZR.z) x.z ∧ e = .returned (.iface 72 (.int .i64 1)) ∧ Zoo B w0 w' zp mb L n) := by
  obtain ⟨lv, hz, ho⟩ := h.is
  cases hb : blockZ x.z with
  | false => exact (add_bad zp mb lv L n x w hz hp hq hb).mono fun _ _ ⟨he, hk⟩ => .inr ⟨fun hm => (by have := hm.1; rw [hb] at this; cases this), he, h.on hk.none⟩
  | true =>
    cases hm : (L.map ZR.z).any (meetsZ x.z) with
    | true => exact (add_meet zp mb lv L n x w hz hp hq sp sq hb hm).mono fun _ _ ⟨he, hk⟩ => .inr ⟨fun h' => (by have := h'.2.1; rw [hm] at this; cases this), he, h.on hk.none⟩
    | false =>
      by_cases hc : cellsOk x.z
      · refine (add_yes zp mb lv L n x w hz hp hq sp sq few nb hb hm hc).mono ?_
        rintro e w' ⟨he, ⟨A, B', y, v', rfl, hs, hyz, hz', ho'⟩, hk⟩
        refine .inl ⟨⟨hb, hm, hc⟩, he, A ++ y :: B', ⟨_, _, hs, by simp [hyz]⟩, by simp; omega, ⟨v', hz', fun j hj => ?_⟩, h.lz, h.lm, kept3_below h.below hk h.size h.lz h.lm ho, fun u hu => ?_⟩
        · rcases ho' j hj with h1 | h1
          · exact ho j h1
          · have := h.size; omega
        · have hcase : u ∈ A ++ B' ∨ u = y := by
            simp at hu ⊢
            rcases hu with hu | hu | hu <;> simp [hu]
          rcases hcase with hu | rfl
          · exact h.few u hu
          · rw [hyz]; exact ⟨sp, sq⟩
      · exact (add_decl zp mb lv L n x w hz hp hq sp sq hb hm hc).mono fun _ _ ⟨he, hk⟩ => .inr ⟨fun h' => hc h'.2.2, he, h.on hk.none⟩

theorem Zoo.new (w : World) : Calls Try.prog 12 #[] w fun e w' => ∃ zp mb, e = .returned (.pointer (some ⟨zp, 0, none⟩)) ∧ Zoo w.heap.size w w' zp mb [] 0 :=
  (znew_any w).mono fun _ _ ⟨⟨zp, mb, he, hz, h1, h2⟩, hb⟩ => ⟨zp, mb, he, ⟨_, hz, fun _ h => h.elim⟩, h1, h2, hb, by simp⟩

/- what can be done at a place, and what all are -/
theorem Zoo.load {B : Nat} {w0 w : World} {zp mb n : Nat} {L : List ZR} (h : Zoo B w0 w zp mb L n) (a k : Int) :
    Calls Try.prog 71 #[.pointer (some ⟨zp, 0, none⟩), .int .i64 a, .int .i64 k] w fun e w' => e = .returned (.bool (canLoad (L.map ZR.z) a k)) ∧ Zoo B w0 w' zp mb L n := by
  obtain ⟨lv, hz, ho⟩ := h.is
  exact (canload_any zp mb lv L n a k w hz).mono fun _ _ ⟨he, hb⟩ => ⟨he, h.on hb⟩
theorem Zoo.store {B : Nat} {w0 w : World} {zp mb n : Nat} {L : List ZR} (h : Zoo B w0 w zp mb L n) (a k : Int) :
    Calls Try.prog 72 #[.pointer (some ⟨zp, 0, none⟩), .int .i64 a, .int .i64 k] w fun e w' => e = .returned (.bool (canStore (L.map ZR.z) a k)) ∧ Zoo B w0 w' zp mb L n := by
  obtain ⟨lv, hz, ho⟩ := h.is
  exact (canstore_any zp mb lv L n a k w hz).mono fun _ _ ⟨he, hb⟩ => ⟨he, h.on hb⟩
theorem Zoo.run {B : Nat} {w0 w : World} {zp mb n : Nat} {L : List ZR} (h : Zoo B w0 w zp mb L n) (a : Int) :
    Calls Try.prog 47 #[.pointer (some ⟨zp, 0, none⟩), .int .i64 a] w fun e w' => e = .returned (.bool (canRun (L.map ZR.z) a)) ∧ Zoo B w0 w' zp mb L n := by
  obtain ⟨lv, hz, ho⟩ := h.is
  exact (canrun_any zp mb lv L n a w hz).mono fun _ _ ⟨he, hb⟩ => ⟨he, h.on hb⟩
theorem Zoo.fits {B : Nat} {w0 w : World} {zp mb n : Nat} {L : List ZR} (h : Zoo B w0 w zp mb L n) (k v : Int) :
    Calls Try.prog 73 #[.pointer (some ⟨zp, 0, none⟩), .int .i64 k, .int .i64 v] w fun e w' => e = .returned (.bool (fitsZ (L.map ZR.z) k v)) ∧ Zoo B w0 w' zp mb L n := by
  obtain ⟨lv, hz, ho⟩ := h.is
  exact (zfits_any zp mb lv L n k v w hz).mono fun _ _ ⟨he, hb⟩ => ⟨he, h.on hb⟩
theorem Zoo.cell {B : Nat} {w0 w : World} {zp mb n : Nat} {L : List ZR} (h : Zoo B w0 w zp mb L n) (a : Int) (ha : (Lit.int .i64 a).wf = true) :
    Calls Try.prog 74 #[.pointer (some ⟨zp, 0, none⟩), .int .i64 a] w fun e w' => e = .returned (.int .i64 (kindOf (L.map ZR.z) (a - a % 4))) ∧ Zoo B w0 w' zp mb L n := by
  obtain ⟨lv, hz, ho⟩ := h.is
  exact (zcell_any zp mb lv L n a w hz ha).mono fun _ _ ⟨he, hb⟩ => ⟨he, hb ▸ h⟩
end Go.Proofs.Ytlnjcaicagcinaa
