/-
  Both sides of ZonePlays: lists that are the same, and what the program's deeds leave alone. No conditions beyond those that each theorem names.
-/
import Derived.Test.YtlnjcaicagcinaaZoneT
import Derived.Test.YtlnjcaicagcinaaRefT
namespace Go.Proofs.Ytlnjcaicagcinaa
open Go.ChangeShapes Go.WideShapes Go.ChangeAt Go.RowKit

/- a list is split at a place in one way -/
theorem split_one {L A B A' B' : List ZV} {a : Int} (h : Split L A B a) (h' : Split L A' B' a) : A = A' ∧ B = B' := by
  have e : A ++ B = A' ++ B' := h.eq.symm.trans h'.eq
  rcases List.append_eq_append_iff.1 e with ⟨C, e1, e2⟩ | ⟨C, e1, e2⟩
  · cases C with
    | nil => simp at e1 e2; exact ⟨e1.symm, e2⟩
    | cons z C =>
      have := h'.lo z (by rw [e1]; simp)
      have := h.hi z (by rw [e2]; simp)
      omega
  · cases C with
    | nil => simp at e1 e2; exact ⟨e1, e2.symm⟩
    | cons z C =>
      have := h.lo z (by rw [e1]; simp)
      have := h'.hi z (by rw [e2]; simp)
      omega
theorem same_add {L M A B : List ZR} {x : ZR} {L' : List ZR} (e : M.map ZR.z = L.map ZR.z) (h : AddedTo (L.map ZR.z) x.z (L'.map ZR.z)) (h' : Split (M.map ZR.z) (A.map ZR.z) (B.map ZR.z) x.z.b) : (A ++ x :: B).map ZR.z = L'.map ZR.z := by
  obtain ⟨A', B', hs, hL⟩ := h
  rw [e] at h'
  obtain ⟨e1, e2⟩ := split_one h' hs
  rw [List.map_append, List.map_cons, e1, e2, hL]

/- rows of another type than the program's own are left alone -/
def Spares (w w' : World) : Prop := ∀ b cs, RowAt w b 58 cs → RowAt w' b 58 cs
theorem Spares.of_no {w w' : World} (k : Kept No w w') : Spares w w' := fun _ _ h => h.keep k (fun h => h)
theorem Spares.of_own {w w' : World} {zp mb n : Nat} {lv : Value} {L : List ZR} (h : ZAt w zp mb lv L n) (k : Kept (Own3 zp mb lv) w w') : Spares w w' := fun b cs hr => hr.keep k fun hj => by
  rcases hj with hj | hj | hj
  · exact (hr.ne_type h.head (by decide)) hj
  · exact (hr.ne_map h.cells) hj
  · obtain ⟨ds, hr'⟩ := h.list.own_row b hj
    exact (hr.ne_type hr' (by decide)) rfl
theorem SRow.spared {w w' : World} {v : Value} {n : Nat} {cs : List Value} (h : SRow 58 6 w v n cs) (s : Spares w w') : SRow 58 6 w' v n cs := by
  refine ⟨?_, h.len, h.one⟩
  rcases h.is with h0 | ⟨b, cap, rest, rfl, hr, h1⟩
  · exact .inl h0
  · exact .inr ⟨b, cap, rest, rfl, s b _ hr, h1⟩

theorem Zoo.add2 {B : Nat} {w0 w : World} {zp mb n : Nat} {L : List ZR} (h : Zoo B w0 w zp mb L n) (x : ZR) (hp : IntsAt w x.p x.z.P) (hq : IntsAt w x.q x.z.Q) (sp : x.z.P.length ≤ 100) (sq : x.z.Q.length ≤ 100) (few : L.length < 100) (nb : n ≤ 20000) :
    Calls Try.prog 13 #[.pointer (some ⟨zp, 0, none⟩), x.v] w fun e w' => Spares w w' ∧
      ((MayAdd (L.map ZR.z) x.z ∧ e = .returned .nilIface ∧ ∃ L', AddedTo (L.map ZR.z) x.z (L'.map ZR.z) ∧ L'.length = L.length + 1 ∧ Zoo B w0 w' zp mb L' (n + 200)) ∨
      (¬ MayAdd (L.map ZR.z) x.z ∧ e = .returned (.iface 72 (.int .i64 1)) ∧ Zoo B w0 w' zp mb L n)) := by
  obtain ⟨lv, hz, ho⟩ := h.is
  cases hb : blockZ x.z with
  | false => exact (add_bad zp mb lv L n x w hz hp hq hb).mono fun _ _ ⟨he, hk⟩ => ⟨.of_no hk, .inr ⟨fun hm => (by have := hm.1; rw [hb] at this; cases this), he, h.on hk.none⟩⟩
  | true =>
    cases hm : (L.map ZR.z).any (meetsZ x.z) with
    | true => exact (add_meet zp mb lv L n x w hz hp hq sp sq hb hm).mono fun _ _ ⟨he, hk⟩ => ⟨.of_no hk, .inr ⟨fun h' => (by have := h'.2.1; rw [hm] at this; cases this), he, h.on hk.none⟩⟩
    | false =>
      by_cases hc : cellsOk x.z
      · refine (add_yes zp mb lv L n x w hz hp hq sp sq few nb hb hm hc).mono ?_
        rintro e w' ⟨he, ⟨A, B', y, v', rfl, hs, hyz, hz', ho'⟩, hk⟩
        refine ⟨.of_own hz hk, .inl ⟨⟨hb, hm, hc⟩, he, A ++ y :: B', ⟨_, _, hs, by simp [hyz]⟩, by simp; omega, ⟨v', hz', fun j hj => ?_⟩, h.lz, h.lm, kept3_below h.below hk h.size h.lz h.lm ho, fun u hu => ?_⟩⟩
        · rcases ho' j hj with h1 | h1
          · exact ho j h1
          · have := h.size; omega
        · have hcase : u ∈ A ++ B' ∨ u = y := by
            simp at hu ⊢
            rcases hu with hu | hu | hu <;> simp [hu]
          rcases hcase with hu | rfl
          · exact h.few u hu
          · rw [hyz]; exact ⟨sp, sq⟩
      · exact (add_decl zp mb lv L n x w hz hp hq sp sq hb hm hc).mono fun _ _ ⟨he, hk⟩ => ⟨.of_no hk, .inr ⟨fun h' => hc h'.2.2, he, h.on hk.none⟩⟩
end Go.Proofs.Ytlnjcaicagcinaa
