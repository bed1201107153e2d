/-
  Plain mathematics: holes and blocks that were taken part a range between them. Nothing of the program.
-/
import Derived.Test.YtiloflgpflgjnaaHeapU
namespace Go.Proofs.Ytiloflgpflgjnaa

structure Parted (t : Int) (L D : List (Int × Int)) : Prop where
  each : ∀ d ∈ D, 0 ≤ d.1 ∧ 0 < d.2 ∧ d.1 + d.2 ≤ t ∧ d.1 % 4 = 0 ∧ d.2 % 4 = 0
  sep : ∀ p, Covers L p → ¬ Covers D p
  all : ∀ p, 0 ≤ p → p < t → Covers L p ∨ Covers D p
  alone : D.Pairwise fun x y => x.1 + x.2 ≤ y.1 ∨ y.1 + y.2 ≤ x.1

theorem Parted.start {t : Int} : Parted t (whole 0 t) [] := ⟨fun d hd => by (cases hd), fun p _ h => covers_nil p h, fun p h1 h2 => .inl ((whole_covers p).2 ⟨h1, h2⟩), List.Pairwise.nil⟩
theorem Parted.end_ {t : Int} {L : List (Int × Int)} (h : Parted t L []) (hL : Tidy 0 t L) (ht : t % 4 = 0) : L = whole 0 t :=
  tidy_eq hL (whole_tidy (by omega) ht) fun p _ => by
    rw [whole_covers]
    constructor
    · exact fun hp => hL.inside hp
    · exact fun hp => (h.all p hp.1 hp.2).resolve_right (covers_nil p)
/- a block of a hole lies in no block that was taken -/
theorem Parted.free {t a n : Int} {L D : List (Int × Int)} {x : Int × Int} (h : Parted t L D) (hx : x ∈ L) (ha : a = x.1) (hn : 0 < n ∧ n ≤ x.2) : ∀ d ∈ D, ¬ (a < d.1 + d.2 ∧ d.1 < a + n) := fun d hd hc => by
  have := h.each d hd
  refine h.sep (max a d.1) ⟨x, hx, by omega⟩ ⟨d, hd, by omega⟩
theorem Parted.take {f t n : Int} {A B D : List (Int × Int)} {x : Int × Int} (h : Parted t (A ++ x :: B) D) (hT : Tidy f t (A ++ x :: B)) (hf : 0 ≤ f) (h0 : 0 < n) (h4 : n % 4 = 0) (hn : n ≤ x.2) : Parted t (A ++ (rest_ x n ++ B)) (D ++ [(x.1, n)]) := by
  have hx : x ∈ A ++ x :: B := by simp
  have ex := hT.each x hx
  have hc := covers_take hT n h0 hn
  refine ⟨fun d hd => ?_, fun p hp hd => ?_, fun p h1 h2 => ?_, List.pairwise_append.2 ⟨h.alone, List.pairwise_singleton _ _, fun d hd y hy => ?_⟩⟩
  · rcases List.mem_append.1 hd with hd | hd
    · exact h.each d hd
    · simp at hd; subst hd; simp only; omega
  · obtain ⟨h1, h2⟩ := (hc p).1 hp
    rcases (covers_append _ _ _).1 hd with h3 | ⟨y, hy, h3⟩
    · exact h.sep p h1 h3
    · simp at hy; subst hy; exact h2 h3
  · rw [hc p, covers_append D, covers_cons]
    simp only [covers_nil, or_false]
    rcases h.all p h1 h2 with h3 | h3
    · by_cases h4 : x.1 ≤ p ∧ p < x.1 + n
      · exact .inr (.inr h4)
      · exact .inl ⟨h3, h4⟩
    · exact .inr (.inl h3)
  · simp at hy; subst hy
    have := h.free hx rfl ⟨h0, hn⟩ d hd
    omega
theorem up4_same {n : Int} (h : n % 4 = 0) : up4 n = n := by unfold up4; omega
theorem Parted.may {t : Int} {L D : List (Int × Int)} {d : Int × Int} (h : Parted t L D) (hT : Tidy 0 t L) (hd : d ∈ D) (ht : t ≤ 65536) : MayGive 0 t L d.1 d.2 := by
  have e := h.each d hd
  rw [MayGive, up4_same e.2.2.2.2]
  refine ⟨e.2.2.2.1, by omega, e.1, by omega, fun y hy hc => ?_⟩
  have := hT.each y hy
  exact h.sep (max y.1 d.1) ⟨y, hy, by omega⟩ ⟨d, hd, by omega⟩
theorem Parted.give {f t : Int} {L L' D1 D2 : List (Int × Int)} {d : Int × Int} (h : Parted t L (D1 ++ d :: D2)) (hw : GiveWay f t L d.1 d.2 0 L') : Parted t L' (D1 ++ D2) := by
  have ed := h.each d (by simp)
  have hc := hw.covers
  rw [up4_same ed.2.2.2.2] at hc
  obtain ⟨q1, q2, q3⟩ := List.pairwise_append.1 h.alone
  obtain ⟨q4, q5⟩ := List.pairwise_cons.1 q2
  have hD : ∀ p, Covers (D1 ++ D2) p → Covers (D1 ++ d :: D2) p := fun p hp => by
    rw [covers_append] at hp ⊢
    rw [covers_cons]
    rcases hp with hp | hp
    · exact .inl hp
    · exact .inr (.inr hp)
  refine ⟨fun x hx => h.each x (by rcases List.mem_append.1 hx with hx | hx <;> simp [hx]), fun p hp hd => ?_, fun p h1 h2 => ?_, List.pairwise_append.2 ⟨q1, q5, fun x hx y hy => q3 x hx y (by simp [hy])⟩⟩
  · rcases (hc p).1 hp with h3 | h3
    · exact h.sep p h3 (hD p hd)
    · rcases (covers_append _ _ _).1 hd with ⟨x, hx, h4⟩ | ⟨x, hx, h4⟩
      · have := q3 x hx d (by simp); omega
      · have := q4 x hx; omega
  · rw [hc p]
    rcases h.all p h1 h2 with h3 | h3
    · exact .inl (.inl h3)
    · rw [covers_append, covers_cons] at h3
      rw [covers_append]
      rcases h3 with h3 | h3 | h3
      · exact .inr (.inl h3)
      · exact .inl (.inr h3)
      · exact .inr (.inr h3)
theorem again_no {f t : Int} {L L' : List (Int × Int)} {d : Int × Int} (hw : GiveWay f t L d.1 d.2 0 L') (h0 : 0 < d.2) (h4 : d.2 % 4 = 0) : ¬ MayGive f t L' d.1 d.2 := fun hm => by
  have hc := (hw.covers d.1).2 (.inr (by rw [up4_same h4]; omega))
  obtain ⟨y, hy, h1⟩ := hc
  exact hm.2.2.2.2 y hy (by rw [up4_same h4]; omega)
end Go.Proofs.Ytiloflgpflgjnaa
