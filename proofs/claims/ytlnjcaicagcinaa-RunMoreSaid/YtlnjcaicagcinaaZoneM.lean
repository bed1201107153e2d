/-
  Zones as plain data: what can be loaded, stored, run there; which declared cell has a byte; the one zone that can have a byte. Nothing of the program.
-/
import Derived.Test.YtlnjcaicagcinaaRows
import Derived.WalkKit
namespace Go.Proofs.Ytlnjcaicagcinaa

structure ZV where
  b : Int
  d : Int
  r : Int
  e : Int
  P : List Int
  Q : List Int

def within (a n f t : Int) : Bool := decide (f ≤ a ∧ a < t ∧ 1 ≤ n ∧ n ≤ t - a)
def aligned (x : Int) : Bool := decide (x % 4 = 0)
def edge (x : Int) : Bool := decide (272 ≤ x ∧ x ≤ 65536 ∧ x % 4 = 0)
def blockZ (z : ZV) : Bool := decide (z.b ≤ z.d ∧ z.d ≤ z.r ∧ z.r ≤ z.e ∧ z.b < z.e) && edge z.b && edge z.d && edge z.r && edge z.e
def meetsZ (x y : ZV) : Bool := decide (x.b < y.e ∧ y.b < x.e)
def cellOk (z : ZV) (x : Int) : Bool := aligned x && within x 4 z.b z.d
/- may these be declared, where f tells what is declared already -/
def DeclOk (z : ZV) (f : Int → Int) (xs : List Int) : Prop := xs.Nodup ∧ ∀ x ∈ xs, cellOk z x = true ∧ f x = 0
def upd (f : Int → Int) (xs : List Int) (k : Int) (y : Int) : Int := if y ∈ xs then k else f y
def cellsOk (z : ZV) : Prop := DeclOk z (fun _ => 0) z.P ∧ DeclOk z (upd (fun _ => 0) z.P 1) z.Q

def canLoad (L : List ZV) (a n : Int) : Bool := within a n 16 272 || L.any fun z => within a n z.b z.r
def canStore (L : List ZV) (a n : Int) : Bool := within a n 16 272 || L.any fun z => within a n z.b z.d
def canRun (L : List ZV) (a : Int) : Bool := aligned a && L.any fun z => within a 4 z.r z.e
def ahead (L : List ZV) (a : Int) : Bool := L.any fun z => within a 1 z.b z.r
def kindOf : List ZV → Int → Int
  | [], _ => 0
  | z :: L, y => if y ∈ z.P then 1 else if y ∈ z.Q then 2 else kindOf L y
def fitsZ (L : List ZV) (k v : Int) : Bool := if k = 0 then true else if k = 1 then decide (v = 0) || ahead L v else if k = 2 then decide (v = 0) || canRun L v else false

structure Good (L : List ZV) : Prop where
  rise : L.Pairwise fun x y => x.e ≤ y.b
  block : ∀ z ∈ L, blockZ z = true
  cells : ∀ z ∈ L, cellsOk z

theorem blockZ_iff (z : ZV) : blockZ z = true ↔ (z.b ≤ z.d ∧ z.d ≤ z.r ∧ z.r ≤ z.e ∧ z.b < z.e) ∧ (272 ≤ z.b ∧ z.b ≤ 65536 ∧ z.b % 4 = 0) ∧ (272 ≤ z.d ∧ z.d ≤ 65536 ∧ z.d % 4 = 0) ∧ (272 ≤ z.r ∧ z.r ≤ 65536 ∧ z.r % 4 = 0) ∧ (272 ≤ z.e ∧ z.e ≤ 65536 ∧ z.e % 4 = 0) := by
  simp [blockZ, edge, and_assoc]
theorem cellOk_iff (z : ZV) (x : Int) : cellOk z x = true ↔ x % 4 = 0 ∧ z.b ≤ x ∧ x < z.d ∧ 4 ≤ z.d - x := by
  simp [cellOk, aligned, within]
theorem Good.nil : Good [] := ⟨.nil, by simp, by simp⟩
theorem Good.sub {A B : List ZV} {x : ZV} (h : Good (A ++ x :: B)) : Good (A ++ B) := by
  refine ⟨h.rise.sublist (by simp), fun z hz => h.block z ?_, fun z hz => h.cells z ?_⟩ <;> (simp at hz ⊢; rcases hz with hz | hz <;> simp [hz])

def ZV0 : ZV := ⟨0, 0, 0, 0, [], []⟩
/- z is the one zone that can have the byte at a -/
structure Near (L : List ZV) (a : Int) (z : ZV) : Prop where
  is : z ∈ L ∨ z = ZV0
  one : ∀ y ∈ L, y.b ≤ a → a < y.e → y = z

theorem Near.any {L : List ZV} {a n : Int} {z : ZV} (h : Near L a z) (f g : ZV → Int) (hf : ∀ y ∈ L, y.b ≤ f y) (hg : ∀ y ∈ L, g y ≤ y.e) (h0 : f ZV0 = 0 ∧ g ZV0 = 0) : within a n (f z) (g z) = L.any fun y => within a n (f y) (g y) := by
  rw [Bool.eq_iff_iff, List.any_eq_true]
  constructor
  · intro hw
    rcases h.is with hm | rfl
    · exact ⟨z, hm, hw⟩
    · simp [within, h0.1, h0.2] at hw
      omega
  · rintro ⟨y, hy, hw⟩
    have hw' := hw
    simp [within] at hw'
    have := h.one y hy (by have := hf y hy; omega) (by have := hg y hy; omega)
    rw [← this]
    exact hw

structure Split (L A B : List ZV) (a : Int) : Prop where
  eq : L = A ++ B
  lo : ∀ y ∈ A, y.b < a
  hi : ∀ y ∈ B, a ≤ y.b

theorem near_at {L A B : List ZV} {z : ZV} {a : Int} (g : Good L) (h : Split L A (z :: B) a) (hz : z.b = a) : Near L a z := by
  have hp := g.rise
  rw [h.eq] at hp
  obtain ⟨_, h2, h3⟩ := List.pairwise_append.1 hp
  obtain ⟨h4, _⟩ := List.pairwise_cons.1 h2
  refine ⟨.inl (by rw [h.eq]; simp), fun y hy h5 h6 => ?_⟩
  have bz := (blockZ_iff z).1 (g.block z (by rw [h.eq]; simp))
  rw [h.eq] at hy
  rcases List.mem_append.1 hy with hy | hy
  · have := h3 y hy z (by simp); omega
  · rcases List.mem_cons.1 hy with hy | hy
    · exact hy
    · have := h4 y hy; omega
theorem not_hi {L A B : List ZV} {a : Int} (g : Good L) (h : Split L A B a) (hB : ∀ y ∈ B.head?, y.b ≠ a) : ∀ y ∈ B, y.b ≠ a := by
  cases B with
  | nil => simp
  | cons z B =>
    have hz := hB z (by simp)
    have hp := g.rise
    rw [h.eq] at hp
    obtain ⟨_, h2, _⟩ := List.pairwise_append.1 hp
    obtain ⟨h4, _⟩ := List.pairwise_cons.1 h2
    have bz := (blockZ_iff z).1 (g.block z (by rw [h.eq]; simp))
    intro y hy
    rcases List.mem_cons.1 hy with rfl | hy
    · exact hz
    · have := h4 y hy
      have := h.hi z (by simp)
      omega
theorem near_none {L B : List ZV} {a : Int} (g : Good L) (h : Split L [] B a) (hB : ∀ y ∈ B.head?, y.b ≠ a) : Near L a ZV0 := by
  refine ⟨.inr rfl, fun y hy h5 h6 => ?_⟩
  have e : L = B := h.eq
  subst e
  have := not_hi g h hB y hy
  have := h.hi y hy
  omega
theorem near_last {L A B : List ZV} {z : ZV} {a : Int} (g : Good L) (h : Split L (A ++ [z]) B a) (hB : ∀ y ∈ B.head?, y.b ≠ a) : Near L a z := by
  refine ⟨.inl (by rw [h.eq]; simp), fun y hy h5 h6 => ?_⟩
  have hy' := hy
  rw [h.eq] at hy'
  rcases List.mem_append.1 hy' with hy' | hy'
  · rcases List.mem_append.1 hy' with hy' | hy'
    · have hp := g.rise
      rw [h.eq] at hp
      obtain ⟨h1, _, _⟩ := List.pairwise_append.1 hp
      obtain ⟨_, _, h3⟩ := List.pairwise_append.1 h1
      have := h3 y hy' z (by simp)
      have := h.lo z (by simp)
      omega
    · simpa using hy'
  · have := not_hi g h hB y hy'
    have := h.hi y hy'
    omega

/- by the one zone -/
theorem near_load {L : List ZV} {a : Int} {z : ZV} (g : Good L) (h : Near L a z) (n : Int) : within a n z.b z.r = L.any fun y => within a n y.b y.r :=
  h.any ZV.b ZV.r (fun _ _ => Int.le_refl _) (fun y hy => by have := (blockZ_iff y).1 (g.block y hy); omega) ⟨rfl, rfl⟩
theorem near_store {L : List ZV} {a : Int} {z : ZV} (g : Good L) (h : Near L a z) (n : Int) : within a n z.b z.d = L.any fun y => within a n y.b y.d :=
  h.any ZV.b ZV.d (fun _ _ => Int.le_refl _) (fun y hy => by have := (blockZ_iff y).1 (g.block y hy); omega) ⟨rfl, rfl⟩
theorem near_run {L : List ZV} {a : Int} {z : ZV} (g : Good L) (h : Near L a z) (n : Int) : within a n z.r z.e = L.any fun y => within a n y.r y.e :=
  h.any ZV.r ZV.e (fun y hy => by have := (blockZ_iff y).1 (g.block y hy); omega) (fun _ _ => Int.le_refl _) ⟨rfl, rfl⟩
theorem Near.edges {L : List ZV} {a : Int} {z : ZV} (g : Good L) (h : Near L a z) : 0 ≤ z.b ∧ z.b ≤ z.d ∧ z.d ≤ z.r ∧ z.r ≤ z.e ∧ z.e ≤ 65536 := by
  rcases h.is with hm | rfl
  · have := (blockZ_iff z).1 (g.block z hm); omega
  · simp [ZV0]

/- one zone more -/
theorem no_meet {L : List ZV} {x : ZV} (h : L.any (meetsZ x) = false) : ∀ y ∈ L, x.e ≤ y.b ∨ y.e ≤ x.b := by
  intro y hy
  have := List.any_eq_false.1 h y hy
  simp [meetsZ] at this
  rcases Int.lt_or_le x.b y.e with h1 | h1
  · exact .inl (this h1)
  · exact .inr h1
theorem Good.add {L A B : List ZV} {x : ZV} (g : Good L) (h : Split L A B x.b) (bx : blockZ x = true) (cx : cellsOk x) (nm : L.any (meetsZ x) = false) : Good (A ++ x :: B) := by
  have bz := (blockZ_iff x).1 bx
  have hm := no_meet nm
  have hp := g.rise
  rw [h.eq] at hp
  obtain ⟨h1, h2, h3⟩ := List.pairwise_append.1 hp
  have hA : ∀ y ∈ A, y.e ≤ x.b := fun y hy => by
    have := h.lo y hy
    have := (blockZ_iff y).1 (g.block y (by rw [h.eq]; simp [hy]))
    rcases hm y (by rw [h.eq]; simp [hy]) with h | h <;> omega
  have hB : ∀ y ∈ B, x.e ≤ y.b := fun y hy => by
    have := h.hi y hy
    have := (blockZ_iff y).1 (g.block y (by rw [h.eq]; simp [hy]))
    rcases hm y (by rw [h.eq]; simp [hy]) with h | h <;> omega
  refine ⟨List.pairwise_append.2 ⟨h1, List.pairwise_cons.2 ⟨hB, h2⟩, fun y hy u hu => ?_⟩, fun z hz => ?_, fun z hz => ?_⟩
  · rcases List.mem_cons.1 hu with rfl | hu
    · exact hA y hy
    · exact h3 y hy u hu
  · rcases List.mem_append.1 hz with hz | hz
    · exact g.block z (by rw [h.eq]; simp [hz])
    · rcases List.mem_cons.1 hz with rfl | hz
      · exact bx
      · exact g.block z (by rw [h.eq]; simp [hz])
  · rcases List.mem_append.1 hz with hz | hz
    · exact g.cells z (by rw [h.eq]; simp [hz])
    · rcases List.mem_cons.1 hz with rfl | hz
      · exact cx
      · exact g.cells z (by rw [h.eq]; simp [hz])

/- declared cells -/
theorem upd_ne {f : Int → Int} {xs : List Int} {k y : Int} : upd f xs k y = 0 → k ≠ 0 → y ∉ xs ∧ f y = 0 := by
  intro h hk
  unfold upd at h
  split at h
  · exact absurd h hk
  · exact ⟨by assumption, h⟩
theorem cells_P {z : ZV} (h : cellsOk z) {y : Int} (hy : y ∈ z.P) : y % 4 = 0 ∧ z.b ≤ y ∧ y < z.d ∧ 4 ≤ z.d - y := (cellOk_iff z y).1 (h.1.2 y hy).1
theorem cells_Q {z : ZV} (h : cellsOk z) {y : Int} (hy : y ∈ z.Q) : y % 4 = 0 ∧ z.b ≤ y ∧ y < z.d ∧ 4 ≤ z.d - y := (cellOk_iff z y).1 (h.2.2 y hy).1
theorem kindOf_cons (z : ZV) (L : List ZV) (y : Int) : kindOf (z :: L) y = if y ∈ z.P then 1 else if y ∈ z.Q then 2 else kindOf L y := rfl
theorem kindOf_append (A B : List ZV) (y : Int) : kindOf (A ++ B) y = if kindOf A y = 0 then kindOf B y else kindOf A y := by
  induction A with
  | nil => simp [kindOf]
  | cons a A ih =>
    rw [List.cons_append, kindOf_cons, kindOf_cons]
    by_cases h1 : y ∈ a.P
    · simp [h1]
    · by_cases h2 : y ∈ a.Q
      · simp [h1, h2]
      · simp [h1, h2, ih]
theorem kindOf_zero {L : List ZV} {y : Int} (h : ∀ z ∈ L, y ∉ z.P ∧ y ∉ z.Q) : kindOf L y = 0 := by
  induction L with
  | nil => rfl
  | cons z L ih =>
    rw [kindOf_cons]
    have := h z (by simp)
    simp [this.1, this.2]
    exact ih fun u hu => h u (by simp [hu])
theorem kindOf_cases (L : List ZV) (y : Int) : kindOf L y = 0 ∨ (kindOf L y = 1 ∧ ∃ z ∈ L, y ∈ z.P) ∨ (kindOf L y = 2 ∧ ∃ z ∈ L, y ∈ z.Q) := by
  induction L with
  | nil => exact .inl rfl
  | cons z L ih =>
    rw [kindOf_cons]
    by_cases h1 : y ∈ z.P
    · simp [h1]
    · by_cases h2 : y ∈ z.Q
      · simp [h1, h2]
      · simp only [h1, h2, if_false]
        rcases ih with h | ⟨h, u, hu, hy⟩ | ⟨h, u, hu, hy⟩
        · exact .inl h
        · exact .inr (.inl ⟨h, u, by simp [hu], hy⟩)
        · exact .inr (.inr ⟨h, u, by simp [hu], hy⟩)
theorem kindOf_in {L : List ZV} (g : Good L) {y : Int} (h : kindOf L y ≠ 0) : ∃ z ∈ L, y % 4 = 0 ∧ z.b ≤ y ∧ y < z.d ∧ 4 ≤ z.d - y := by
  rcases kindOf_cases L y with h0 | ⟨_, z, hz, hy⟩ | ⟨_, z, hz, hy⟩
  · exact absurd h0 h
  · exact ⟨z, hz, cells_P (g.cells z hz) hy⟩
  · exact ⟨z, hz, cells_Q (g.cells z hz) hy⟩
/- the cells of one zone of a good list are no other zone's -/
theorem kindOf_mid {A B : List ZV} {x : ZV} (g : Good (A ++ x :: B)) (y : Int) : kindOf (A ++ x :: B) y = upd (upd (kindOf (A ++ B)) x.Q 2) x.P 1 y := by
  have gx := g.cells x (by simp)
  have key : (y ∈ x.P ∨ y ∈ x.Q) → ∀ z ∈ A ++ B, y ∉ z.P ∧ y ∉ z.Q := by
    intro hy z hz
    have hx : x.b ≤ y ∧ y < x.d := by
      rcases hy with hy | hy
      · have := cells_P gx hy; omega
      · have := cells_Q gx hy; omega
    have gz := g.cells z (by simp at hz ⊢; rcases hz with hz | hz <;> simp [hz])
    have bz := (blockZ_iff z).1 (g.block z (by simp at hz ⊢; rcases hz with hz | hz <;> simp [hz]))
    have bx := (blockZ_iff x).1 (g.block x (by simp))
    have ap : z.e ≤ x.b ∨ x.e ≤ z.b := by
      obtain ⟨_, h2, h3⟩ := List.pairwise_append.1 g.rise
      obtain ⟨h4, _⟩ := List.pairwise_cons.1 h2
      rcases List.mem_append.1 hz with hz | hz
      · exact .inl (h3 z hz x (by simp))
      · exact .inr (h4 z hz)
    constructor
    · intro h; have := cells_P gz h; omega
    · intro h; have := cells_Q gz h; omega
  have e1 : kindOf (A ++ x :: B) y = if kindOf A y = 0 then kindOf (x :: B) y else kindOf A y := kindOf_append _ _ _
  have e2 : kindOf (A ++ B) y = if kindOf A y = 0 then kindOf B y else kindOf A y := kindOf_append _ _ _
  by_cases h1 : y ∈ x.P
  · have hA : kindOf A y = 0 := kindOf_zero fun z hz => key (.inl h1) z (by simp [hz])
    rw [e1, hA]
    simp [kindOf_cons, upd, h1]
  · by_cases h2 : y ∈ x.Q
    · have hA : kindOf A y = 0 := kindOf_zero fun z hz => key (.inr h2) z (by simp [hz])
      rw [e1, hA]
      simp [kindOf_cons, upd, h1, h2]
    · rw [e1]
      simp only [upd, h1, h2, if_false, e2, kindOf_cons]
theorem kindOf_without {A B : List ZV} {x : ZV} (g : Good (A ++ x :: B)) (y : Int) : kindOf (A ++ B) y = if y ∈ x.P ++ x.Q then 0 else kindOf (A ++ x :: B) y := by
  have gx := g.cells x (by simp)
  by_cases hy : y ∈ x.P ++ x.Q
  · rw [if_pos hy]
    refine kindOf_zero fun z hz => ?_
    have hx : x.b ≤ y ∧ y < x.d := by
      rcases List.mem_append.1 hy with hy | hy
      · have := cells_P gx hy; omega
      · have := cells_Q gx hy; omega
    have gz := g.cells z (by simp at hz ⊢; rcases hz with hz | hz <;> simp [hz])
    have bz := (blockZ_iff z).1 (g.block z (by simp at hz ⊢; rcases hz with hz | hz <;> simp [hz]))
    have bx := (blockZ_iff x).1 (g.block x (by simp))
    have ap : z.e ≤ x.b ∨ x.e ≤ z.b := by
      obtain ⟨_, h2, h3⟩ := List.pairwise_append.1 g.rise
      obtain ⟨h4, _⟩ := List.pairwise_cons.1 h2
      rcases List.mem_append.1 hz with hz | hz
      · exact .inl (h3 z hz x (by simp))
      · exact .inr (h4 z hz)
    constructor
    · intro h; have := cells_P gz h; omega
    · intro h; have := cells_Q gz h; omega
  · rw [if_neg hy, kindOf_mid g y]
    simp at hy
    simp [upd, hy.1, hy.2]

/- what follows (P6.4) -/
theorem store_load {L : List ZV} (g : Good L) {a n : Int} (h : canStore L a n = true) : canLoad L a n = true := by
  simp only [canStore, canLoad, Bool.or_eq_true, List.any_eq_true] at *
  rcases h with h | ⟨z, hz, h⟩
  · exact .inl h
  · refine .inr ⟨z, hz, ?_⟩
    have := (blockZ_iff z).1 (g.block z hz)
    simp [within] at h ⊢
    omega
theorem run_load {L : List ZV} (g : Good L) {a : Int} (h : canRun L a = true) : canLoad L a 1 = false := by
  simp only [canRun, Bool.and_eq_true, List.any_eq_true] at h
  obtain ⟨_, z, hz, h⟩ := h
  have bz := (blockZ_iff z).1 (g.block z hz)
  simp [within] at h
  rw [Bool.eq_false_iff]
  intro hl
  simp only [canLoad, Bool.or_eq_true, List.any_eq_true] at hl
  rcases hl with hl | ⟨y, hy, hl⟩
  · simp [within] at hl
    omega
  · simp [within] at hl
    have by_ := (blockZ_iff y).1 (g.block y hy)
    by_cases e : y = z
    · subst e; omega
    · have : y.e ≤ z.b ∨ z.e ≤ y.b := by
        have hp := g.rise
        obtain ⟨A, B, rfl⟩ := List.append_of_mem hz
        obtain ⟨_, h2, h3⟩ := List.pairwise_append.1 hp
        obtain ⟨h4, _⟩ := List.pairwise_cons.1 h2
        rcases List.mem_append.1 hy with hy | hy
        · exact .inl (h3 y hy z (by simp))
        · rcases List.mem_cons.1 hy with hy | hy
          · exact absurd hy e
          · exact .inr (h4 y hy)
      omega
theorem cell_store {L : List ZV} (g : Good L) {a : Int} (h : kindOf L (a - a % 4) ≠ 0) : canStore L a 1 = true := by
  obtain ⟨z, hz, h1, h2, h3, h4⟩ := kindOf_in g h
  simp only [canStore, Bool.or_eq_true, List.any_eq_true]
  refine .inr ⟨z, hz, ?_⟩
  simp [within]
  omega
theorem ahead_load {L : List ZV} {a : Int} (h : ahead L a = true) : canLoad L a 1 = true := by
  simp only [ahead, canLoad, Bool.or_eq_true] at *
  exact .inr h
end Go.Proofs.Ytlnjcaicagcinaa
