/-
  Plain mathematics of holes: lists of holes that rise and do not touch, what they cover, what they become when a block is taken, or given back; rows of words that are free or not. Nothing of the program.
-/
namespace Go.Proofs.Ytiloflgpflgjnaa

def Covers (L : List (Int × Int)) (p : Int) : Prop := ∃ x ∈ L, x.1 ≤ p ∧ p < x.1 + x.2
structure Tidy (f t : Int) (L : List (Int × Int)) : Prop where
  each : ∀ x ∈ L, f ≤ x.1 ∧ 0 < x.2 ∧ x.1 + x.2 ≤ t ∧ x.1 % 4 = 0 ∧ x.2 % 4 = 0
  rise : L.Pairwise fun x y => x.1 + x.2 < y.1

theorem covers_nil (p : Int) : ¬ Covers [] p := fun ⟨_, h, _⟩ => by cases h
theorem covers_cons (x : Int × Int) (L : List (Int × Int)) (p : Int) : Covers (x :: L) p ↔ (x.1 ≤ p ∧ p < x.1 + x.2) ∨ Covers L p := by
  constructor
  · rintro ⟨y, hy, h⟩
    rcases List.mem_cons.1 hy with rfl | hy
    · exact .inl h
    · exact .inr ⟨y, hy, h⟩
  · rintro (h | ⟨y, hy, h⟩)
    · exact ⟨x, List.mem_cons_self, h⟩
    · exact ⟨y, List.mem_cons_of_mem _ hy, h⟩
theorem covers_append (A B : List (Int × Int)) (p : Int) : Covers (A ++ B) p ↔ Covers A p ∨ Covers B p := by
  induction A with
  | nil => simp [covers_nil]
  | cons x A ih => rw [List.cons_append, covers_cons, ih, covers_cons, or_assoc]

theorem Tidy.nil (f t : Int) : Tidy f t [] := ⟨(fun _ h => by cases h), List.Pairwise.nil⟩
theorem Tidy.one {f t : Int} (h : f < t) (hf : f % 4 = 0) (ht : t % 4 = 0) : Tidy f t [(f, t - f)] :=
  ⟨fun x hx => by simp at hx; subst hx; simp only; omega, List.pairwise_singleton _ _⟩
theorem Tidy.tail {f t : Int} {x : Int × Int} {L : List (Int × Int)} (h : Tidy f t (x :: L)) : Tidy (x.1 + x.2 + 4) t L := by
  refine ⟨fun y hy => ?_, (List.pairwise_cons.1 h.rise).2⟩
  have h1 := h.each x List.mem_cons_self
  have h2 := h.each y (List.mem_cons_of_mem _ hy)
  have h3 := (List.pairwise_cons.1 h.rise).1 y hy
  omega
theorem Tidy.wide {f t f' t' : Int} {L : List (Int × Int)} (h : Tidy f t L) (hf : f' ≤ f) (ht : t ≤ t') : Tidy f' t' L :=
  ⟨fun x hx => by have := h.each x hx; omega, h.rise⟩
theorem Tidy.few {f t : Int} {L : List (Int × Int)} (h : Tidy f t L) (ht : f ≤ t + 4) : (L.length : Int) * 8 ≤ t - f + 4 := by
  induction L generalizing f with
  | nil => simp; omega
  | cons x L ih =>
    have h1 := h.each x List.mem_cons_self
    have := ih h.tail (by omega)
    rw [List.length_cons]
    omega
theorem Tidy.inside {f t : Int} {L : List (Int × Int)} (h : Tidy f t L) {p : Int} (hp : Covers L p) : f ≤ p ∧ p < t := by
  obtain ⟨x, hx, h1⟩ := hp
  have := h.each x hx
  omega

theorem tidy_eq {f t f' t' : Int} {L L' : List (Int × Int)} (h : Tidy f t L) (h' : Tidy f' t' L') (hc : ∀ p, p % 4 = 0 → (Covers L p ↔ Covers L' p)) : L = L' := by
  induction L generalizing f L' f' with
  | nil =>
    cases L' with
    | nil => rfl
    | cons y B =>
      have h1 := h'.each y List.mem_cons_self
      exact absurd ((hc y.1 h1.2.2.2.1).2 ⟨y, List.mem_cons_self, by omega⟩) (covers_nil _)
  | cons x A ih =>
    have h1 := h.each x List.mem_cons_self
    cases L' with
    | nil => exact absurd ((hc x.1 h1.2.2.2.1).1 ⟨x, List.mem_cons_self, by omega⟩) (covers_nil _)
    | cons y B =>
      have h2 := h'.each y List.mem_cons_self
      have hA := (List.pairwise_cons.1 h.rise).1
      have hB := (List.pairwise_cons.1 h'.rise).1
      have e1 : y.1 ≤ x.1 := by
        obtain ⟨z, hz, hz1⟩ := (hc x.1 h1.2.2.2.1).1 ⟨x, List.mem_cons_self, by omega⟩
        rcases List.mem_cons.1 hz with rfl | hz
        · exact hz1.1
        · have := hB z hz; omega
      have e2 : x.1 ≤ y.1 := by
        obtain ⟨z, hz, hz1⟩ := (hc y.1 h2.2.2.2.1).2 ⟨y, List.mem_cons_self, by omega⟩
        rcases List.mem_cons.1 hz with rfl | hz
        · exact hz1.1
        · have := hA z hz; omega
      have e3 : ¬ x.1 + x.2 < y.1 + y.2 := fun hlt => by
        obtain ⟨z, hz, hz1⟩ := (hc (x.1 + x.2) (by omega)).2 ⟨y, List.mem_cons_self, by omega⟩
        rcases List.mem_cons.1 hz with rfl | hz
        · omega
        · have := hA z hz; omega
      have e4 : ¬ y.1 + y.2 < x.1 + x.2 := fun hlt => by
        obtain ⟨z, hz, hz1⟩ := (hc (y.1 + y.2) (by omega)).1 ⟨x, List.mem_cons_self, by omega⟩
        rcases List.mem_cons.1 hz with rfl | hz
        · omega
        · have := hB z hz; omega
      have exy : x = y := Prod.ext (by omega) (by omega)
      subst exy
      rw [ih h.tail h'.tail fun p hp => ?_]
      constructor
      · rintro ⟨z, hz, hz1⟩
        rcases (covers_cons _ _ _).1 ((hc p hp).1 ⟨z, List.mem_cons_of_mem _ hz, hz1⟩) with h3 | h3
        · have := hA z hz; omega
        · exact h3
      · rintro ⟨z, hz, hz1⟩
        rcases (covers_cons _ _ _).1 ((hc p hp).2 ⟨z, List.mem_cons_of_mem _ hz, hz1⟩) with h3 | h3
        · have := hB z hz; omega
        · exact h3

/- what a hole is when its first bytes are taken -/
def rest_ (x : Int × Int) (n : Int) : List (Int × Int) := if x.2 = n then [] else [(x.1 + n, x.2 - n)]
theorem mem_parts {A B : List (Int × Int)} {y : Int × Int} (C : List (Int × Int)) (hy : y ∈ A ++ (C ++ B)) : y ∈ A ∨ y ∈ C ∨ y ∈ B := by simpa using hy
theorem pair_parts {R : Int × Int → Int × Int → Prop} {A B C : List (Int × Int)} : (A ++ (C ++ B)).Pairwise R ↔ A.Pairwise R ∧ C.Pairwise R ∧ B.Pairwise R ∧ (∀ a ∈ A, ∀ c ∈ C, R a c) ∧ (∀ a ∈ A, ∀ b ∈ B, R a b) ∧ (∀ c ∈ C, ∀ b ∈ B, R c b) := by
  rw [List.pairwise_append, List.pairwise_append]
  constructor
  · rintro ⟨h1, ⟨h2, h3, h4⟩, h5⟩
    exact ⟨h1, h2, h3, fun a ha c hc => h5 a ha c (List.mem_append_left _ hc), fun a ha b hb => h5 a ha b (List.mem_append_right _ hb), h4⟩
  · rintro ⟨h1, h2, h3, h4, h5, h6⟩
    exact ⟨h1, ⟨h2, h3, h6⟩, fun a ha b hb => (List.mem_append.1 hb).elim (h4 a ha b) (h5 a ha b)⟩
theorem Tidy.take {f t : Int} {A B : List (Int × Int)} {x : Int × Int} (h : Tidy f t (A ++ x :: B)) (n : Int) (h0 : 0 < n) (h4 : n % 4 = 0) (hn : n ≤ x.2) : Tidy f t (A ++ (rest_ x n ++ B)) := by
  have hx := h.each x (by simp)
  obtain ⟨p1, _, p3, p4, p5, p6⟩ := pair_parts (C := [x]).1 h.rise
  have key : ∀ c ∈ rest_ x n, c.1 + c.2 = x.1 + x.2 ∧ x.1 < c.1 ∧ 0 < c.2 ∧ c.1 % 4 = 0 ∧ c.2 % 4 = 0 := by
    intro c hc
    unfold rest_ at hc
    split at hc
    · cases hc
    · simp at hc; subst hc; simp only; omega
  refine ⟨fun y hy => ?_, pair_parts.2 ⟨p1, ?_, p3, fun a ha c hc => ?_, p5, fun c hc b hb => ?_⟩⟩
  · rcases mem_parts _ hy with hy | hy | hy
    · exact h.each y (by simp [hy])
    · have := key y hy; omega
    · exact h.each y (by simp [hy])
  · unfold rest_; split <;> simp
  · have := p4 a ha x (by simp); have := key c hc; omega
  · have := p6 x (by simp) b hb; have := key c hc; omega
theorem covers_take {f t : Int} {A B : List (Int × Int)} {x : Int × Int} (h : Tidy f t (A ++ x :: B)) (n : Int) (h0 : 0 < n) (hn : n ≤ x.2) (p : Int) : Covers (A ++ (rest_ x n ++ B)) p ↔ Covers (A ++ x :: B) p ∧ ¬ (x.1 ≤ p ∧ p < x.1 + n) := by
  obtain ⟨p1, _, p3, p4, p5, p6⟩ := pair_parts (C := [x]).1 h.rise
  have hA : Covers A p → ¬ (x.1 ≤ p ∧ p < x.1 + n) := fun ⟨y, hy, h1⟩ => by have := p4 y hy x (by simp); omega
  have hB : Covers B p → ¬ (x.1 ≤ p ∧ p < x.1 + n) := fun ⟨y, hy, h1⟩ => by have := p6 x (by simp) y hy; omega
  have hC : Covers (rest_ x n) p ↔ (x.1 ≤ p ∧ p < x.1 + x.2) ∧ ¬ (x.1 ≤ p ∧ p < x.1 + n) := by
    unfold rest_
    split
    · simp only [covers_nil, false_iff]; omega
    · simp only [covers_cons, covers_nil, or_false]; omega
  rw [covers_append, covers_append, hC, covers_append, covers_cons]
  constructor
  · rintro (h1 | ⟨h1, h2⟩ | h1)
    · exact ⟨.inl h1, hA h1⟩
    · exact ⟨.inr (.inl h1), h2⟩
    · exact ⟨.inr (.inr h1), hB h1⟩
  · rintro ⟨h1 | h1 | h1, h2⟩
    · exact .inl h1
    · exact .inr (.inl ⟨h1, h2⟩)
    · exact .inr (.inr h1)

/- a block and the holes that touch it: one -/
def Joined (a n : Int) (M : List (Int × Int)) (lo hi : Int) : Prop := lo ≤ a ∧ a + n ≤ hi ∧ lo % 4 = 0 ∧ hi % 4 = 0 ∧ ∀ p, (lo ≤ p ∧ p < hi) ↔ (a ≤ p ∧ p < a + n) ∨ Covers M p
theorem Joined.start {a n : Int} (ha : a % 4 = 0) (hn : n % 4 = 0) : Joined a n [] a (a + n) := ⟨Int.le_refl _, Int.le_refl _, ha, by omega, fun p => by simp [covers_nil]⟩
theorem Joined.step {a n lo hi : Int} {M : List (Int × Int)} {y : Int × Int} (h : Joined a n M lo hi) (hy1 : y.1 ≤ a + n) (hy2 : a ≤ y.1 + y.2) (hp : 0 < y.2) (m1 : y.1 % 4 = 0) (m2 : y.2 % 4 = 0) : Joined a n (M ++ [y]) (min lo y.1) (max hi (y.1 + y.2)) := by
  obtain ⟨h1, h2, h3, h4, h5⟩ := h
  refine ⟨by omega, by omega, by omega, by omega, fun p => ?_⟩
  rw [covers_append, covers_cons, ← or_assoc, ← h5 p]
  simp only [covers_nil, or_false]
  omega
theorem Tidy.join {f t a n lo hi : Int} {A M B : List (Int × Int)} (h : Tidy f t (A ++ (M ++ B))) (hj : Joined a n M lo hi) (h0 : 0 < n) (hf : f ≤ a) (ht : a + n ≤ t) (hA : ∀ y ∈ A, y.1 + y.2 < a) (hB : ∀ y ∈ B, a + n < y.1) : Tidy f t (A ++ (lo, hi - lo) :: B) := by
  obtain ⟨p1, p2, p3, p4, p5, p6⟩ := pair_parts.1 h.rise
  obtain ⟨j1, j2, j3, j4, j5⟩ := hj
  have hlo : (a ≤ lo) ∨ ∃ z ∈ M, z.1 ≤ lo := by
    rcases (j5 lo).1 (by omega) with h1 | ⟨z, hz, h1⟩
    · exact .inl h1.1
    · exact .inr ⟨z, hz, h1.1⟩
  have hhi : (hi ≤ a + n) ∨ ∃ z ∈ M, hi ≤ z.1 + z.2 := by
    rcases (j5 (hi - 1)).1 (by omega) with h1 | ⟨z, hz, h1⟩
    · exact .inl (by omega)
    · exact .inr ⟨z, hz, by omega⟩
  refine ⟨fun y hy => ?_, (pair_parts (C := [(lo, hi - lo)])).2 ⟨p1, List.pairwise_singleton _ _, p3, fun y hy c hc => ?_, p5, fun c hc b hb => ?_⟩⟩
  · rcases mem_parts [(lo, hi - lo)] hy with hy | hy | hy
    · exact h.each y (by simp [hy])
    · simp at hy
      subst hy
      simp only
      refine ⟨?_, by omega, ?_, j3, by omega⟩
      · rcases hlo with h1 | ⟨z, hz, h1⟩
        · omega
        · have := h.each z (by simp [hz]); omega
      · rcases hhi with h1 | ⟨z, hz, h1⟩
        · omega
        · have := h.each z (by simp [hz]); omega
    · exact h.each y (by simp [hy])
  · simp at hc
    subst hc
    simp only
    have := hA y hy
    rcases hlo with h1 | ⟨z, hz, h1⟩
    · omega
    · have := p4 y hy z hz; omega
  · simp at hc
    subst hc
    simp only
    have := hB b hb
    rcases hhi with h1 | ⟨z, hz, h1⟩
    · omega
    · have := p6 z hz b hb; omega
theorem covers_join {a n lo hi : Int} {A M B : List (Int × Int)} (hj : Joined a n M lo hi) (p : Int) : Covers (A ++ (lo, hi - lo) :: B) p ↔ Covers (A ++ (M ++ B)) p ∨ (a ≤ p ∧ p < a + n) := by
  have h1 := hj.2.2.2.2 p
  rw [covers_append, covers_cons, covers_append, covers_append]
  simp only [show lo + (hi - lo) = hi by omega]
  rw [h1]
  constructor
  · rintro (h | (h | h) | h)
    · exact .inl (.inl h)
    · exact .inr h
    · exact .inl (.inr (.inl h))
    · exact .inl (.inr (.inr h))
  · rintro ((h | h | h) | h)
    · exact .inl h
    · exact .inr (.inl (.inr h))
    · exact .inr (.inr h)
    · exact .inr (.inl (.inl h))
/- the first that reaches up to a block, and all behind it; the first that lies behind it, and all behind that -/
theorem Tidy.all_reach {f t a : Int} {A R : List (Int × Int)} (h : Tidy f t (A ++ R)) (hR : ∀ y, R.head? = some y → a ≤ y.1 + y.2) : ∀ y ∈ R, a ≤ y.1 + y.2 := by
  cases R with
  | nil => intro y hy; cases hy
  | cons x R =>
    have hx := hR x rfl
    have h2 := (List.pairwise_cons.1 (List.pairwise_append.1 h.rise).2.1).1
    intro y hy
    rcases List.mem_cons.1 hy with rfl | hy
    · exact hx
    · have := h2 y hy
      have := h.each y (by simp [hy])
      omega
theorem Tidy.all_behind {f t e : Int} {A R : List (Int × Int)} (h : Tidy f t (A ++ R)) (hR : ∀ y, R.head? = some y → e < y.1) : ∀ y ∈ R, e < y.1 := by
  cases R with
  | nil => intro y hy; cases hy
  | cons x R =>
    have hx := hR x rfl
    have h2 := (List.pairwise_cons.1 (List.pairwise_append.1 h.rise).2.1).1
    intro y hy
    rcases List.mem_cons.1 hy with rfl | hy
    · exact hx
    · have := h2 y hy
      have := h.each x (by simp)
      omega

/- words, free or not, and holes that say the same -/
def Tells (f : Int) (F : List Bool) (L : List (Int × Int)) : Prop := ∀ k : Nat, Covers L (f + 4 * (k : Int)) ↔ F[k]? = some true
def Window (F : List Bool) (s n : Nat) : Prop := ∀ j, s ≤ j → j < s + n → F[j]? = some true
def FirstWindow (F : List Bool) (s n : Nat) : Prop := Window F s n ∧ ∀ s', s' < s → ¬ Window F s' n
theorem first_eq {F : List Bool} {s s' n : Nat} (h : FirstWindow F s n) (h' : FirstWindow F s' n) : s = s' := by
  rcases Nat.lt_trichotomy s s' with h1 | h1 | h1
  · exact absurd h.1 (h'.2 s h1)
  · exact h1
  · exact absurd h'.1 (h.2 s' h1)
theorem window_hole {f t : Int} {F : List Bool} {L : List (Int × Int)} (hL : Tidy f t L) (hF : Tells f F L) (hf : f % 4 = 0) {s n : Nat} (hn : 0 < n) (hw : Window F s n) : ∃ y ∈ L, y.1 ≤ f + 4 * (s : Int) ∧ f + 4 * ((s : Int) + n) ≤ y.1 + y.2 := by
  induction n with
  | zero => omega
  | succ n ih =>
    rcases Nat.eq_zero_or_pos n with h0 | h0
    · subst h0
      obtain ⟨y, hy, h1⟩ := (hF s).2 (hw s (Nat.le_refl _) (by omega))
      have := hL.each y hy
      exact ⟨y, hy, h1.1, by omega⟩
    · obtain ⟨y, hy, h1, h2⟩ := ih h0 fun j h1 h2 => hw j h1 (by omega)
      obtain ⟨z, hz, h3⟩ := (hF (s + n)).2 (hw (s + n) (by omega) (by omega))
      have ey := hL.each y hy
      have ez := hL.each z hz
      by_cases he : f + 4 * ((s : Int) + n) < y.1 + y.2
      · exact ⟨y, hy, h1, by omega⟩
      · exfalso
        have key : y = z ∨ y.1 + y.2 < z.1 ∨ z.1 + z.2 < y.1 := by
          have hr := hL.rise
          clear hF ih hL
          induction L with
          | nil => cases hy
          | cons x L ihL =>
            obtain ⟨r1, r2⟩ := List.pairwise_cons.1 hr
            rcases List.mem_cons.1 hy with rfl | hy'
            · rcases List.mem_cons.1 hz with rfl | hz'
              · exact .inl rfl
              · exact .inr (.inl (r1 z hz'))
            · rcases List.mem_cons.1 hz with hzx | hz'
              · subst hzx
                exact .inr (.inr (r1 y hy'))
              · exact ihL hy' hz' r2
        rcases key with rfl | h4 | h4 <;> omega
theorem take_first {f t : Int} {F : List Bool} {A B : List (Int × Int)} {x : Int × Int} (hL : Tidy f t (A ++ x :: B)) (hF : Tells f F (A ++ x :: B)) (hf : f % 4 = 0) {n : Nat} (hn : 0 < n) (hA : ∀ y ∈ A, y.2 < 4 * (n : Int)) (hx : 4 * (n : Int) ≤ x.2) :
    ∃ s : Nat, x.1 = f + 4 * (s : Int) ∧ FirstWindow F s n := by
  have ex := hL.each x (by simp)
  refine ⟨((x.1 - f) / 4).toNat, by omega, fun j h1 h2 => (hF j).1 ⟨x, by simp, by omega⟩, fun s' hs hw => ?_⟩
  obtain ⟨y, hy, h1, h2⟩ := window_hole hL hF hf hn hw
  obtain ⟨_, _, _, p4, _, p6⟩ := pair_parts (C := [x]).1 hL.rise
  rcases mem_parts [x] hy with hy | hy | hy
  · have := hA y hy; omega
  · simp at hy; subst hy; omega
  · have := p6 x (by simp) y hy; omega
theorem take_none {f t : Int} {F : List Bool} {L : List (Int × Int)} (hL : Tidy f t L) (hF : Tells f F L) (hf : f % 4 = 0) {n : Nat} (hn : 0 < n) (hA : ∀ y ∈ L, y.2 < 4 * (n : Int)) (s : Nat) : ¬ Window F s n := fun hw => by
  obtain ⟨y, hy, h1, h2⟩ := window_hole hL hF hf hn hw
  have := hA y hy
  omega
/- words that are set, one behind the other -/
def setW (F : List Bool) (s n : Nat) (b : Bool) : List Bool := F.take s ++ (List.replicate n b ++ F.drop (s + n))
theorem setW_length (F : List Bool) (s n : Nat) (b : Bool) (h : s + n ≤ F.length) : (setW F s n b).length = F.length := by simp [setW]; omega
theorem setW_zero (F : List Bool) (s : Nat) (b : Bool) : setW F s 0 b = F := by simp [setW]
theorem setW_at (F : List Bool) (s n k : Nat) (b : Bool) (h : s + n ≤ F.length) : (setW F s n b)[k]? = if s ≤ k ∧ k < s + n then some b else F[k]? := by
  have h1 : (F.take s).length = s := by rw [List.length_take]; omega
  unfold setW
  by_cases hk : k < s
  · rw [List.getElem?_append_left (by omega), if_neg (by omega), List.getElem?_take, if_pos hk]
  · rw [List.getElem?_append_right (by omega), h1]
    by_cases hk2 : k < s + n
    · rw [List.getElem?_append_left (by simp; omega), if_pos (by omega), List.getElem?_replicate, if_pos (by omega)]
    · rw [List.getElem?_append_right (by simp; omega), if_neg (by omega), List.length_replicate, List.getElem?_drop]
      congr 1
      omega
theorem setW_step (F : List Bool) (s n : Nat) (b : Bool) (h : s + n < F.length) : (setW F s n b).set (s + n) b = setW F s (n + 1) b := by
  apply List.ext_getElem?
  intro k
  rw [List.getElem?_set, setW_length F s n b (by omega), setW_at F s n k b (by omega), setW_at F s (n + 1) k b (by omega)]
  by_cases h1 : s + n = k
  · subst h1
    rw [if_pos rfl, if_pos (by omega), if_pos (by omega)]
  · rw [if_neg h1]
    by_cases h2 : s ≤ k ∧ k < s + n
    · rw [if_pos h2, if_pos (by omega)]
    · rw [if_neg h2, if_neg (by omega)]
theorem tells_take {f t : Int} {F : List Bool} {A B : List (Int × Int)} {x : Int × Int} (hL : Tidy f t (A ++ x :: B)) (hF : Tells f F (A ++ x :: B)) {n s : Nat} (hn : 0 < n) (hx : 4 * (n : Int) ≤ x.2) (hs : x.1 = f + 4 * (s : Int)) (hl : s + n ≤ F.length) :
    Tells f (setW F s n false) (A ++ (rest_ x (4 * (n : Int)) ++ B)) := fun k => by
  rw [covers_take hL _ (by omega) hx, hF k, setW_at F s n k false hl]
  by_cases h : s ≤ k ∧ k < s + n
  · rw [if_pos h]
    simp
    omega
  · rw [if_neg h]
    constructor
    · exact fun h => h.1
    · exact fun h1 => ⟨h1, by omega⟩
theorem tells_join {f a lo hi : Int} {F : List Bool} {A M B : List (Int × Int)} (hF : Tells f F (A ++ (M ++ B))) {n s : Nat} (hj : Joined a (4 * (n : Int)) M lo hi) (hs : a = f + 4 * (s : Int)) (hl : s + n ≤ F.length) :
    Tells f (setW F s n true) (A ++ (lo, hi - lo) :: B) := fun k => by
  rw [covers_join hj, hF k, setW_at F s n k true hl]
  by_cases h : s ≤ k ∧ k < s + n
  · rw [if_pos h]
    simp
    omega
  · rw [if_neg h]
    constructor
    · rintro (h1 | h1)
      · exact h1
      · omega
    · exact fun h1 => .inl h1

/- holes, made of words one by one -/
structure Built (f : Int) (F : List Bool) (i : Nat) (R : List (Int × Int)) : Prop where
  tidy : Tidy f (f + 4 * (i : Int)) R
  tells : ∀ k : Nat, Covers R (f + 4 * (k : Int)) ↔ k < i ∧ F[k]? = some true
theorem Built.start (f : Int) (F : List Bool) : Built f F 0 [] := ⟨Tidy.nil _ _, fun k => by simp [covers_nil]⟩
theorem Built.skip {f : Int} {F : List Bool} {i : Nat} {R : List (Int × Int)} (h : Built f F i R) (hi : F[i]? ≠ some true) : Built f F (i + 1) R :=
  ⟨h.tidy.wide (Int.le_refl _) (by omega), fun k => by
    rw [h.tells k]
    constructor
    · exact fun h => ⟨by omega, h.2⟩
    · rintro ⟨h1, h2⟩
      refine ⟨?_, h2⟩
      rcases Nat.lt_or_ge k i with h3 | h3
      · exact h3
      · obtain rfl : k = i := by omega
        exact absurd h2 hi⟩
theorem Built.grow {f : Int} {F : List Bool} {i : Nat} {R : List (Int × Int)} (h : Built f F (i + 1) R) (h1 : F[i + 1]? = some true) (h0 : F[i]? = some true) (hf : f % 4 = 0) :
    ∃ R0 x, R = R0 ++ [x] ∧ Built f F (i + 1 + 1) (R0 ++ [(x.1, x.2 + 4)]) := by
  obtain ⟨y, hy, hy1⟩ := (h.tells i).2 ⟨by omega, h0⟩
  have ey := h.tidy.each y hy
  have hne : R ≠ [] := by rintro rfl; cases hy
  obtain ⟨R0, x, rfl⟩ : ∃ R0 x, R = R0 ++ [x] := ⟨R.dropLast, R.getLast hne, (List.dropLast_concat_getLast hne).symm⟩
  have hr := List.pairwise_append.1 h.tidy.rise
  have ex := h.tidy.each x (by simp)
  have hyx : y = x := by
    rcases List.mem_append.1 hy with hy | hy
    · have := hr.2.2 y hy x (by simp); omega
    · simpa using hy
  subst hyx
  refine ⟨R0, y, rfl, ⟨fun z hz => ?_, List.pairwise_append.2 ⟨hr.1, List.pairwise_singleton _ _, fun a ha b hb => ?_⟩⟩, fun k => ?_⟩
  · rcases List.mem_append.1 hz with hz | hz
    · have := h.tidy.each z (by simp [hz]); omega
    · simp at hz; subst hz; simp only; omega
  · simp at hb; subst hb
    have := hr.2.2 a ha y (by simp)
    simpa using this
  · have hk := h.tells k
    rw [covers_append, covers_cons] at hk ⊢
    simp only [covers_nil, or_false] at hk ⊢
    constructor
    · rintro (h2 | h2)
      · have := hk.1 (.inl h2); exact ⟨by omega, this.2⟩
      · by_cases h3 : k < i + 1
        · have := hk.1 (.inr (by omega)); exact ⟨by omega, this.2⟩
        · obtain rfl : k = i + 1 := by omega
          exact ⟨by omega, h1⟩
    · rintro ⟨h2, h3⟩
      by_cases h4 : k < i + 1
      · rcases hk.2 ⟨h4, h3⟩ with h5 | h5
        · exact .inl h5
        · exact .inr (by omega)
      · exact .inr (by omega)
theorem Built.new {f : Int} {F : List Bool} {i : Nat} {R : List (Int × Int)} (h : Built f F i R) (h1 : F[i]? = some true) (h0 : i = 0 ∨ R = [] ∨ F[i - 1]? ≠ some true) (hf : f % 4 = 0) : Built f F (i + 1) (R ++ [(f + 4 * (i : Int), 4)]) := by
  have key : ∀ y ∈ R, y.1 + y.2 < f + 4 * (i : Int) := by
    intro y hy
    have ey := h.tidy.each y hy
    rcases h0 with h0 | h0 | h0
    · omega
    · subst h0; cases hy
    · by_cases he : y.1 + y.2 = f + 4 * (i : Int)
      · exfalso
        have := (h.tells (i - 1)).1 ⟨y, hy, by omega⟩
        exact h0 this.2
      · omega
  refine ⟨⟨fun z hz => ?_, List.pairwise_append.2 ⟨h.tidy.rise, List.pairwise_singleton _ _, fun a ha b hb => ?_⟩⟩, fun k => ?_⟩
  · rcases List.mem_append.1 hz with hz | hz
    · have := h.tidy.each z hz; omega
    · simp at hz; subst hz; simp only; omega
  · simp at hb; subst hb
    exact key a ha
  · rw [covers_append, covers_cons, h.tells k]
    simp only [covers_nil, or_false]
    constructor
    · rintro (h2 | h2)
      · exact ⟨by omega, h2.2⟩
      · obtain rfl : k = i := by omega
        exact ⟨by omega, h1⟩
    · rintro ⟨h2, h3⟩
      by_cases h4 : k < i
      · exact .inl ⟨h4, h3⟩
      · exact .inr (by omega)
theorem built_eq {f t : Int} {F : List Bool} {L R : List (Int × Int)} (hL : Tidy f t L) (hF : Tells f F L) (h : Built f F F.length R) (hf : f % 4 = 0) : L = R := by
  refine tidy_eq hL h.tidy fun p hp => ?_
  by_cases hpf : f ≤ p
  · have := hF ((p - f) / 4).toNat
    have h2 := h.tells ((p - f) / 4).toNat
    rw [show f + 4 * ((((p - f) / 4).toNat : Nat) : Int) = p by omega] at this h2
    rw [this, h2]
    constructor
    · exact fun h => ⟨(List.getElem?_eq_some_iff.1 h).1, h⟩
    · exact fun h => h.2
  · constructor
    · exact fun hc => absurd (hL.inside hc).1 hpf
    · exact fun hc => absurd (h.tidy.inside hc).1 hpf
end Go.Proofs.Ytiloflgpflgjnaa
