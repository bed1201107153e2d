/-
  The document's files (layer 10) as they lie in memory: a slice of names and bytes; one more, one less, one that is replaced; where a name stands (At). No conditions beyond those that each theorem names.
-/
import Derived.Test.YtidncccbgihhhaaFilesA
import Derived.Test.YtidncccbgihhhaaEl
import Derived.Test.YtidncccbgihhhaaNameR
namespace Go.Proofs.Ytidncccbgihhhaa
open Go.ChangeShapes Go.WideShapes Go.ChangeAt Go.RowKit

abbrev LT : TypeId := 46
abbrev LS : TypeId := 27
abbrev RFT : TypeId := 29
set_option maxRecDepth 100000 in
theorem infoL : (Try.prog.info? LT).map (fun i => (i.zero, i.size, i.bytes)) = some (some (.agg #[.string ⟨#[]⟩, .slice none 0 0]), 2, 40) := by kernel_rfl

def rcs (R : RL) : List Value := R.flatMap fun p => [.string p.1, p.2.1]
theorem rcs_cons (p : ByteArray × (Value × List Nat)) (R : RL) : rcs (p :: R) = [.string p.1, p.2.1] ++ rcs R := rfl
theorem rcs_append (A B : RL) : rcs (A ++ B) = rcs A ++ rcs B := by simp [rcs]
theorem rcs_length (R : RL) : (rcs R).length = R.length * 2 := by
  induction R with
  | nil => rfl
  | cons p R ih => rw [rcs_cons, List.length_append, ih, List.length_cons]; simp; omega
theorem rcs_at : ∀ (R : RL) (i : Nat) (p : ByteArray × (Value × List Nat)), R[i]? = some p → (rcs R)[i * 2]? = some (.string p.1) ∧ (rcs R)[i * 2 + 1]? = some p.2.1
  | [], i, p, h => by simp at h
  | q :: R, 0, p, h => by
    obtain rfl : q = p := by simpa using h
    exact ⟨rfl, rfl⟩
  | q :: R, i + 1, p, h => by
    have := rcs_at R i p (by simpa using h)
    rw [rcs_cons, show (i + 1) * 2 = i * 2 + 2 by omega, show i * 2 + 2 + 1 = (i * 2 + 1) + 2 by omega]
    simpa using this
theorem rcs_set (A : RL) (p : ByteArray × (Value × List Nat)) (B : RL) (x : Value × List Nat) : (rcs (A ++ p :: B)).set (A.length * 2 + 1) x.1 = rcs (A ++ (p.1, x) :: B) := by
  have hl := rcs_length A
  rw [rcs_append, rcs_append, rcs_cons, rcs_cons, ← hl, List.set_append_right _ _ (by omega)]
  rw [show (rcs A).length + 1 - (rcs A).length = 1 by omega]
  rfl

theorem SRow.set {t : TypeId} {k b n cap : Nat} {w : World} {cs : List Value} (h : SRow t k w (.slice (some ⟨b, 0, none⟩) n cap) n cs) (j : Nat) (hj : j < n * k) (u : Value) (hu : u.oneCell' = true) :
    SRow t k (w.setCell ⟨b, j, none⟩ u) (.slice (some ⟨b, 0, none⟩) n cap) n (cs.set j u) := by
  refine ⟨?_, by rw [List.length_set]; exact h.len, fun x hx => ?_⟩
  · rcases h.is with ⟨e, _⟩ | ⟨b', cap', rest, e, hr, h1⟩
    · cases e
    · cases e
      refine .inr ⟨b, cap, rest, rfl, ?_, h1⟩
      have := hr.setCell j u
      rwa [List.set_append_left _ _ (by rw [h.len]; exact hj)] at this
  · rcases List.mem_or_eq_of_mem_set hx with hx | rfl
    · exact h.one x hx
    · exact hu
theorem SRow.one_cell {t : TypeId} {k : Nat} {w : World} {v : Value} {n : Nat} {cs : List Value} (h : SRow t k w v n cs) : v.oneCell' = true := by
  obtain ⟨a, c, rfl, _⟩ := h.shape
  rfl
theorem row_type {w : World} {b : Nat} {t t' : TypeId} {cs cs' : List Value} (h : RowAt w b t cs) (g : RowAt w b t' cs') : t = t' := by
  unfold RowAt at h g
  rw [h] at g
  cases g
  rfl

/- the document's files -/
structure RefAt (w : World) (rb : Nat) (v : Value) (R : RL) : Prop where
  head : RowAt w rb RFT [v]
  row : SRow LT 2 w v R.length (rcs R)
  rows : ∀ p ∈ R, SRow BT 1 w p.2.1 p.2.2.length (byteVals p.2.2) ∧ ∀ x ∈ p.2.2, x < 256
  nodup : (nms R).Nodup
  le : R.length ≤ 32
theorem RefAt.ones {w : World} {rb : Nat} {v : Value} {R : RL} (h : RefAt w rb v R) : Ones (rcs R) := h.row.one
theorem SRow.row {t : TypeId} {k : Nat} {w : World} {v : Value} {n : Nat} {cs : List Value} (h : SRow t k w v n cs) {j : Nat} (hj : own v j) : ∃ cs', RowAt w j t cs' := by
  rcases h.is with ⟨rfl, _⟩ | ⟨b, cap, rest, rfl, hr, _⟩
  · exact hj.elim
  · simp only [own] at hj
    subst hj
    exact ⟨_, hr⟩
theorem RefAt.keep {S : Nat → Prop} {w w' : World} {rb : Nat} {v : Value} {R : RL} (h : RefAt w rb v R) (k : Kept S w w') (hS : ∀ j t cs, RowAt w j t cs → ¬ S j) : RefAt w' rb v R :=
  ⟨h.head.keep k (hS _ _ _ h.head), h.row.keep k (fun j hj => by obtain ⟨cs', hr⟩ := h.row.row hj; exact hS _ _ _ hr), fun p hp => ⟨(h.rows p hp).1.keep_rows k fun j cs hj => hS _ _ _ hj, (h.rows p hp).2⟩, h.nodup, h.le⟩
theorem RefAt.on {w w' : World} {rb : Nat} {v : Value} {R : RL} (h : RefAt w rb v R) (hb : Below w.heap.size w w') : RefAt w' rb v R := h.keep (Kept.of_below (S := fun _ => False) hb) fun _ _ _ _ h => h
theorem RefAt.cell {w : World} {rb : Nat} {v : Value} {R : RL} (h : RefAt w rb v R) : w.cell? ⟨rb, 0, none⟩ = some v := h.head.cell 0
/- what the document's files may turn -/
def Mine (rb : Nat) (v : Value) (j : Nat) : Prop := j = rb ∨ own v j
theorem RefAt.files {lo : Nat} {w w' : World} {rb fb mb : Nat} {v : Value} {R Q : RL} (h : RefAt w rb v R) (k : Kept (Mine rb v) w w') (hf : FilesAt lo w fb mb Q) : FilesAt lo w' fb mb Q := by
  have key : ∀ j t cs, RowAt w j t cs → t ≠ RFT → t ≠ LT → ¬ Mine rb v j := by
    rintro j t cs hr h1 h2 (rfl | hj)
    · exact h1 (row_type hr h.head)
    · obtain ⟨cs', hr'⟩ := h.row.row hj
      exact h2 (row_type hr hr')
  refine hf.keep k (key _ _ _ hf.head (by decide) (by decide)) ?_ (fun j cs hj _ => key _ _ _ hj (by decide) (by decide))
  rintro (e | hj)
  · exact hf.map.no_row h.head e.symm
  · obtain ⟨cs', hr'⟩ := h.row.row hj
    exact hf.map.no_row hr' rfl

/- one more -/
theorem refs_more {w : World} {v : Value} {R : RL} (h : SRow LT 2 w v R.length (rcs R)) (p : ByteArray × (Value × List Nat)) (hp : p.2.1.oneCell' = true) (ty : TypeId) (small : R.length ≤ 100000) :
    ∃ a n c w2, (Builtin.append_ #[LS, LS] ty #[v, .slice (some ⟨w.heap.size, 0, none⟩) 1 1]).run Try.prog (w.alloc (.cells #[.string p.1, p.2.1] LT)) = .ok (.slice a n c) w2 ∧
      SRow LT 2 w2 (.slice a n c) (R ++ [p]).length (rcs (R ++ [p])) ∧ Kept (own v) w w2 ∧ ∀ j, own (.slice a n c) j → own v j ∨ w.heap.size ≤ j := by
  have k1 : Kept (fun _ => False) w (w.alloc (.cells #[.string p.1, p.2.1] LT)) := (Kept.refl _ w).alloc _
  have hx : RowAt (w.alloc (.cells #[.string p.1, p.2.1] LT)) w.heap.size LT (rcs [p]) := RowAt.new w LT (rcs [p])
  have hone : Ones (rcs [p]) := by
    intro u hu
    simp [rcs] at hu
    rcases hu with rfl | rfl
    · rfl
    · exact hp
  have hsrc : Src Try.prog 2 LS (.slice (some ⟨w.heap.size, 0, none⟩) 1 1) 1 (rcs [p]) (w.alloc (.cells #[.string p.1, p.2.1] LT)) :=
    Src.ofSlice _ Try.underlying27 _ _ _ _ rfl (fun j u hu => by rw [Addr.add_lit, Nat.zero_add, hx.cell, hu]) hone
  obtain ⟨v', w2, q0, q1, q2, q3, _⟩ := (h.keep k1 (fun _ _ h => h)).append (P := Try.prog) LS ty Try.underlying27 infoL rfl (by omega) hsrc (.inl (by omega)) (by omega)
  obtain ⟨a, c, rfl, _⟩ := q1.shape
  refine ⟨a, _, c, w2, q0, by rw [List.length_append, rcs_append]; exact q1, (Kept.of_below k1.none).trans q2, fun j hj => ?_⟩
  rcases q3 j hj with h3 | h3
  · exact .inl h3
  · simp at h3; exact .inr (by omega)

/- all but one, in new memory -/
theorem refs_less {w : World} {b n cap : Nat} {D1 D2 : RL} {d : ByteArray × (Value × List Nat)} (h : SRow LT 2 w (.slice (some ⟨b, 0, none⟩) n cap) (D1 ++ d :: D2).length (rcs (D1 ++ d :: D2))) (ty : TypeId) (small : D1.length + D2.length ≤ 100000) (ad : Addr)
    (had : (if cap = D1.length + 1 then some (⟨b, 0, none⟩ : Addr) else some ⟨b, (D1.length + 1) * 2, none⟩) = some ad) (c2 : Nat) :
    ∃ a1 c1 w1 a2 m2 c3 w2, (Builtin.append_ #[LS, LS] ty #[.slice (some ⟨w.heap.size, 0, none⟩) 0 0, .slice (some ⟨b, 0, none⟩) D1.length cap]).run Try.prog (w.alloc (.cells #[] LT)) = .ok (.slice a1 D1.length c1) w1 ∧
      (Builtin.append_ #[LS, LS] ty #[.slice a1 D1.length c1, .slice (some ad) D2.length c2]).run Try.prog w1 = .ok (.slice a2 m2 c3) w2 ∧
      SRow LT 2 w2 (.slice a2 m2 c3) (D1 ++ D2).length (rcs (D1 ++ D2)) ∧ Below w.heap.size w w1 ∧ Below w.heap.size w w2 ∧ ∀ j, own (.slice a2 m2 c3) j → w.heap.size ≤ j := by
  have k0 : Kept (fun _ => False) w (w.alloc (.cells #[] LT)) := (Kept.refl _ w).alloc _
  have n0 : SRow LT 2 (w.alloc (.cells #[] LT)) (.slice (some ⟨w.heap.size, 0, none⟩) 0 0) 0 [] := ⟨.inr ⟨w.heap.size, 0, [], rfl, RowAt.new w LT [], by simp, Nat.le_refl _, by simp [maxLen]⟩, rfl, fun _ h => by cases h⟩
  have hl1 := rcs_length D1
  have hl2 := rcs_length D2
  have ho : Ones (rcs D1) ∧ Ones (rcs D2) := by
    have := h.one
    rw [rcs_append, rcs_cons] at this
    exact ⟨fun u hu => this u (List.mem_append_left _ hu), fun u hu => this u (List.mem_append_right _ (List.mem_append_right _ hu))⟩
  rcases h.is with ⟨hv, _⟩ | ⟨b', cap', rest, hv, hr, q1, q2, q3⟩
  · cases hv
  · cases hv
    have e1 : rcs (D1 ++ d :: D2) ++ rest = rcs D1 ++ (rcs (d :: D2) ++ rest) := by rw [rcs_append]; simp
    have e2 : rcs (D1 ++ d :: D2) ++ rest = (rcs D1 ++ [.string d.1, d.2.1]) ++ (rcs D2 ++ rest) := by rw [rcs_append, rcs_cons]; simp
    have s1 : Src Try.prog 2 LS (.slice (some ⟨b, 0, none⟩) D1.length cap) D1.length (rcs D1) (w.alloc (.cells #[] LT)) :=
      Src.ofSlice _ Try.underlying27 _ _ _ _ hl1 (read_from (A := []) (by have := hr.keep k0 (fun h => h); rw [e1] at this; exact this) 0 rfl) ho.1
    obtain ⟨v1, w1, r0, r1, r2, r3, r4⟩ := n0.append (P := Try.prog) LS ty Try.underlying27 infoL rfl (by omega) s1 (.inr (by simp)) (by omega)
    rw [List.nil_append, Nat.zero_add] at r1
    obtain ⟨a1, c1, rfl, _⟩ := r1.shape
    have kb : ¬ own (.slice (some (⟨w.heap.size, 0, none⟩ : Addr)) 0 0) b := fun e => by simp [own] at e; have := hr.lt; omega
    have hr1 := (hr.keep k0 (fun h => h)).keep r2 kb
    have s2 : Src Try.prog 2 LS (.slice (some ad) D2.length c2) D2.length (rcs D2) w1 := by
      by_cases hc : cap = D1.length + 1
      · have : D2 = [] := List.eq_nil_of_length_eq_zero (by simp at q2; omega)
        subst this
        exact Src.ofSlice _ Try.underlying27 _ _ _ _ (by simp [rcs]) (by simp [rcs]) ho.2
      · rw [if_neg hc] at had
        cases had
        exact Src.ofSlice _ Try.underlying27 _ _ _ _ hl2 (read_from (by rw [e2] at hr1; exact hr1) _ (by simp [hl1]; omega)) ho.2
    obtain ⟨v2, w2, t0, t1, t2, t3, _⟩ := r1.append (P := Try.prog) LS ty Try.underlying27 infoL rfl (by omega) s2 (.inr r4) (by omega)
    obtain ⟨a2, c3, rfl, _⟩ := t1.shape
    have o1 : ∀ j, own (.slice a1 D1.length c1) j → w.heap.size ≤ j := fun j hj => by
      rcases r3 j hj with h3 | h3
      · simp [own] at h3; omega
      · simp at h3; omega
    have b1 : Below w.heap.size w w1 := r2.below (B := w.heap.size) k0.none (by simp) fun j _ hj => by simp [own] at hj; omega
    refine ⟨a1, c1, w1, a2, _, c3, w2, r0, t0, by rw [List.length_append, rcs_append]; exact t1, b1, t2.below b1 b1.size fun j _ hj => o1 j hj, fun j hj => ?_⟩
    rcases t3 j hj with h3 | h3
    · exact o1 j h3
    · exact Nat.le_trans b1.size h3
end Go.Proofs.Ytidncccbgihhhaa
