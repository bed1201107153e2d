/-
  Elements of k cells each, as rows of cells; slices of ints, as they are read. Nothing of the program but the number of the type int.
-/
import Derived.Test.YtkkjfbpflfknpaaSeq
import Derived.Lib.Overlaps
import Derived.Lib.SliceRun
namespace Go.Proofs.Ytkkjfbpflfknpaa
open Go.ChangeShapes Go.WideShapes Go.ChangeAt Go.RowKit

/- an element of k cells -/
structure El (k : Nat) where
  cs : List Value
  len : cs.length = k
  one : Ones cs
def ecs {k : Nat} (L : List (El k)) : List Value := L.flatMap El.cs
theorem ecs_nil {k : Nat} : ecs ([] : List (El k)) = [] := rfl
theorem ecs_cons {k : Nat} (x : El k) (L : List (El k)) : ecs (x :: L) = x.cs ++ ecs L := rfl
theorem ecs_one {k : Nat} (x : El k) : ecs [x] = x.cs := by simp [ecs]
theorem ecs_append {k : Nat} (A B : List (El k)) : ecs (A ++ B) = ecs A ++ ecs B := by simp [ecs]
theorem ecs_length {k : Nat} (L : List (El k)) : (ecs L).length = L.length * k := by
  induction L with
  | nil => simp [ecs]
  | cons x L ih => rw [ecs_cons, List.length_append, x.len, ih, List.length_cons, Nat.add_mul]; omega
theorem ecs_ones {k : Nat} (L : List (El k)) : Ones (ecs L) := by
  intro u hu
  obtain ⟨x, _, hx⟩ := List.mem_flatMap.1 hu
  exact x.one u hx
theorem ecs_at {k : Nat} (L : List (El k)) (i j : Nat) (hj : j < k) (x : El k) (hx : L[i]? = some x) : (ecs L)[i * k + j]? = x.cs[j]? := by
  induction L generalizing i with
  | nil => simp at hx
  | cons y L ih =>
    rw [ecs_cons]
    cases i with
    | zero =>
      simp at hx
      subst hx
      rw [Nat.zero_mul, Nat.zero_add, List.getElem?_append_left (by rw [y.len]; exact hj)]
    | succ i =>
      rw [List.getElem?_append_right (by rw [y.len, Nat.add_mul]; omega), y.len, show (i + 1) * k + j - k = i * k + j by rw [Nat.add_mul]; omega]
      exact ih i (by simpa using hx)

/- the cells that a slice from an element on reads -/
theorem read_from {w : World} {b : Nat} {t : TypeId} {A B rest : List Value} (h : RowAt w b t (A ++ (B ++ rest))) (o : Nat) (ho : o = A.length) : ∀ j v, B[j]? = some v → w.cell? ((⟨b, o, none⟩ : Addr).add j) = some v := by
  intro j v hj
  have hjl := (List.getElem?_eq_some_iff.1 hj).1
  subst ho
  rw [Addr.add_lit, h.cell, List.getElem?_append_right (by omega), Nat.add_sub_cancel_left, List.getElem?_append_left hjl, hj]
theorem RowAt.shape {w : World} {b : Nat} {t : TypeId} {cs : List Value} (h : RowAt w b t cs) : w.shape? b = some (t, cs.length) := by
  unfold RowAt at h
  simp [World.shape?, h]
theorem splice_shift_n (k : Nat) (A B rest X : List Value) (hX : X.length = k) (h2 : k ≤ (B ++ rest).length) : splice (splice (A ++ (B ++ rest)) (A.length + k) B) A.length X = A ++ (X ++ (B ++ rest.drop k)) := by
  have e1 : splice (A ++ (B ++ rest)) (A.length + k) B = A ++ ((B ++ rest).take k ++ (B ++ rest.drop k)) := by
    unfold splice
    rw [List.take_append, List.take_of_length_le (by omega), Nat.add_sub_cancel_left, List.drop_append, List.drop_of_length_le (by omega), List.nil_append, List.append_assoc,
      show A.length + k + B.length - A.length = B.length + k by omega, List.drop_append, List.drop_of_length_le (by omega), List.nil_append, Nat.add_sub_cancel_left]
  rw [e1]
  have hl : ((B ++ rest).take k).length = k := by rw [List.length_take]; omega
  unfold splice
  rw [List.take_append, List.take_of_length_le (by omega), Nat.sub_self, List.take_zero, List.append_nil, List.drop_append, List.drop_of_length_le (by omega), List.nil_append, hX, Nat.add_sub_cancel_left, List.drop_append, List.drop_of_length_le (by omega), List.nil_append, hl, Nat.sub_self, List.drop_zero]
theorem splice_over_n (k : Nat) (A Z R X : List Value) (hX : X.length = k) (h2 : k ≤ Z.length) : splice (A ++ (Z ++ R)) A.length X = A ++ (X ++ (Z.drop k ++ R)) := by
  unfold splice
  rw [List.take_append, List.take_of_length_le (by omega), Nat.sub_self, List.take_zero, List.append_nil, List.drop_append, List.drop_of_length_le (by omega), List.nil_append, hX, Nat.add_sub_cancel_left, List.drop_append_of_le_length h2]
theorem splice_fill_n (k : Nat) (A X Z R B : List Value) (hX : X.length = k) (hZ : Z.length = B.length) : splice (A ++ (X ++ (Z ++ R))) (A.length + k) B = A ++ (X ++ (B ++ R)) := by
  unfold splice
  rw [List.take_append, List.take_of_length_le (by omega), Nat.add_sub_cancel_left, List.take_append, List.take_of_length_le (by omega), hX, Nat.sub_self, List.take_zero, List.append_nil,
    List.drop_append, List.drop_of_length_le (by omega), List.nil_append, show A.length + k + B.length - A.length = k + B.length by omega, List.drop_append, List.drop_of_length_le (by omega), List.nil_append, hX, Nat.add_sub_cancel_left, List.drop_append, List.drop_of_length_le (by omega), hZ, Nat.sub_self, List.drop_zero, List.nil_append, List.append_assoc]

/- a slice's three parts, as a value -/
structure Sl where
  a : Option Addr
  n : Nat
  cap : Nat
def Sl.v (s : Sl) : Value := .slice s.a s.n s.cap

/- a slice of ints, as it is read -/
structure IntsAt (w : World) (s : Sl) (xs : List Int) : Prop where
  len : s.n = xs.length
  cap : s.n ≤ s.cap ∧ s.cap ≤ maxLen
  nil0 : s.a = .none → s.cap = 0
  at_ : s.n = 0 ∨ ∃ b off, s.a = some ⟨b, off, none⟩ ∧ b < w.heap.size ∧ ∀ j x, xs[j]? = some x → w.cell? ⟨b, off + j, none⟩ = some (.int .i64 x)
  fit : ∀ x ∈ xs, (Lit.int .i64 x).wf = true

theorem IntsAt.below {w w' : World} {s : Sl} {xs : List Int} (h : IntsAt w s xs) {B : Nat} (hb : Below B w w') (hB : ∀ b off, s.a = some ⟨b, off, none⟩ → s.n ≠ 0 → b < B) : IntsAt w' s xs := by
  refine ⟨h.len, h.cap, h.nil0, ?_, h.fit⟩
  rcases h.at_ with h0 | ⟨b, off, e, hl, hc⟩
  · exact .inl h0
  · rcases Nat.eq_zero_or_pos s.n with h0 | h0
    · exact .inl h0
    · exact .inr ⟨b, off, e, Nat.lt_of_lt_of_le hl hb.size, fun j x hx => (hb.cell (p := ⟨b, off + j, Option.none⟩) (hB b off e (by omega))).trans (hc j x hx)⟩
theorem IntsAt.on {w w' : World} {s : Sl} {xs : List Int} (h : IntsAt w s xs) (hb : Below w.heap.size w w') : IntsAt w' s xs := by
  refine ⟨h.len, h.cap, h.nil0, ?_, h.fit⟩
  rcases h.at_ with h0 | ⟨b, off, e, hl, hc⟩
  · exact .inl h0
  · exact .inr ⟨b, off, e, Nat.lt_of_lt_of_le hl hb.size, fun j x hx => (hb.cell (p := ⟨b, off + j, Option.none⟩) hl).trans (hc j x hx)⟩

/- ints as cells -/
def ivs (xs : List Int) : List Value := xs.map fun x => Value.int .i64 x
theorem ivs_ones (xs : List Int) : Ones (ivs xs) := by
  intro u hu
  obtain ⟨x, _, rfl⟩ := List.mem_map.1 hu
  rfl
theorem ivs_length (xs : List Int) : (ivs xs).length = xs.length := by simp [ivs]
theorem ivs_append (a b : List Int) : ivs (a ++ b) = ivs a ++ ivs b := by simp [ivs]

/- a slice of ints that has a block of its own -/
theorem SRow.ints {w : World} {v : Value} {xs : List Int} (h : SRow 3 1 w v xs.length (ivs xs)) (hf : ∀ x ∈ xs, (Lit.int .i64 x).wf = true) : ∃ s : Sl, v = s.v ∧ IntsAt w s xs := by
  rcases h.is with ⟨rfl, h0⟩ | ⟨b, cap, rest, rfl, hr, _, h2, h3⟩
  · exact ⟨⟨none, 0, 0⟩, rfl, h0.symm, ⟨Nat.le_refl _, Nat.zero_le _⟩, fun _ => rfl, .inl rfl, hf⟩
  · refine ⟨⟨some ⟨b, 0, none⟩, xs.length, cap⟩, rfl, rfl, ⟨h2, h3⟩, fun h => by simp at h, .inr ⟨b, 0, rfl, hr.lt, fun j x hx => ?_⟩, hf⟩
    rw [Nat.zero_add, hr.cell, List.getElem?_append_left (by rw [ivs_length]; exact (List.getElem?_eq_some_iff.1 hx).1)]
    simp [ivs, hx]
theorem IntsAt.src {P : Program} {tx e' : TypeId} {w : World} {s : Sl} {xs : List Int} (h : IntsAt w s xs) (hk : P.underlying tx = some (.slice e')) : Src P 1 tx s.v s.n (ivs xs) w := by
  obtain ⟨a, n, cap⟩ := s
  have hl := h.len
  simp only at hl
  rcases h.at_ with h0 | ⟨b, off, e, _, hc⟩
  · simp only at h0
    subst h0
    have : xs = [] := List.eq_nil_of_length_eq_zero hl.symm
    subst this
    cases a with
    | none => exact Src.ofNil w hk cap
    | some ad => exact Src.ofSlice w hk _ _ _ _ rfl (fun j u hu => by simp [ivs] at hu) (ivs_ones _)
  · simp only at e
    subst e
    refine Src.ofSlice w hk _ n cap (ivs xs) (by rw [ivs_length]; omega) (fun j u hu => ?_) (ivs_ones _)
    simp [ivs] at hu
    obtain ⟨x, hx, rfl⟩ := hu
    rw [Addr.add_lit]
    exact hc j x hx
end Go.Proofs.Ytkkjfbpflfknpaa
