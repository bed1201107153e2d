/-
  Blocks that were taken (layer 5's statements): one more; one less. No conditions.
-/
import Derived.Test.YtiloflgpflgjnaaPartM
import Derived.Test.YtiloflgpflgjnaaRefK
import Derived.Test.YtiloflgpflgjnaaPick
namespace Go.Proofs.Ytiloflgpflgjnaa
open Go.ChangeShapes Go.WideShapes Go.ChangeAt Go.RowKit

theorem infoD : (Try.prog.info? 33).map (fun i => (i.zero, i.size, i.bytes)) = some (some (.agg #[.bool false, .bool false, .int .i64 0, .int .i64 0]), 4, 24) := by kernel_rfl

/- what a store into the blocks of v does -/
def Stored (w1 w2 : World) (v v' : Value) : Prop := Kept (own v) w1 w2 ∧ ∀ j, own v' j → own v j ∨ w1.heap.size ≤ j
theorem deeds_more {w : World} {v : Value} {D : List (Int × Int)} (h : SRow DT 4 w v D.length (dcs D)) (x : Int × Int) (ty : TypeId) (small : D.length ≤ 100000) :
    ∃ a n c w2, (Builtin.append_ #[22, 22] ty #[v, .slice (some ⟨w.heap.size, 0, none⟩) 1 1]).run Try.prog (w.alloc (.cells #[.bool false, .bool false, .int .i64 x.1, .int .i64 x.2] DT)) = .ok (.slice a n c) w2 ∧
      SRow DT 4 w2 (.slice a n c) (D ++ [x]).length (dcs (D ++ [x])) ∧ Stored w w2 v (.slice a n c) := by
  have k1 : Kept (fun _ => False) w (w.alloc (.cells #[.bool false, .bool false, .int .i64 x.1, .int .i64 x.2] DT)) := (Kept.refl _ w).alloc _
  have hx : RowAt (w.alloc (.cells #[.bool false, .bool false, .int .i64 x.1, .int .i64 x.2] DT)) w.heap.size DT (dcs [x]) := RowAt.new w DT (dcs [x])
  have hsrc : Src Try.prog 4 22 (.slice (some ⟨w.heap.size, 0, none⟩) 1 1) 1 (dcs [x]) (w.alloc (.cells #[.bool false, .bool false, .int .i64 x.1, .int .i64 x.2] DT)) :=
    Src.ofSlice _ Try.underlying22 _ _ _ _ rfl (fun j u hu => by rw [Addr.add_lit, Nat.zero_add, hx.cell, hu]) (dcs_ones _)
  obtain ⟨v', w2, q0, q1, q2, q3, _⟩ := (h.keep k1 (fun _ _ h => h)).append (P := Try.prog) 22 ty Try.underlying22 infoD rfl (by omega) hsrc (.inl (by omega)) (by omega)
  obtain ⟨a, c, rfl, _⟩ := q1.shape
  refine ⟨a, _, c, w2, q0, by rw [List.length_append, dcs_append]; exact q1, (k1.wide (fun _ h => h.elim)).trans q2, fun j hj => ?_⟩
  rcases q3 j hj with h3 | h3
  · exact .inl h3
  · simp at h3; exact .inr (by omega)

/- all but one, in new memory -/
theorem deeds_less {w : World} {b n cap : Nat} {D1 D2 : List (Int × Int)} {d : Int × Int} (h : SRow DT 4 w (.slice (some ⟨b, 0, none⟩) n cap) (D1 ++ d :: D2).length (dcs (D1 ++ d :: D2))) (ty : TypeId) (small : D1.length + D2.length ≤ 100000) (ad : Addr) (had : (if cap = D1.length + 1 then some (⟨b, 0, none⟩ : Addr) else some ⟨b, (D1.length + 1) * 4, none⟩) = some ad) (c2 : Nat) :
    ∃ a1 c1 w1 a2 m2 c3 w2, (Builtin.append_ #[22, 22] ty #[.slice (some ⟨w.heap.size, 0, none⟩) 0 0, .slice (some ⟨b, 0, none⟩) D1.length cap]).run Try.prog (w.alloc (.cells #[] DT)) = .ok (.slice a1 D1.length c1) w1 ∧
      (Builtin.append_ #[22, 22] ty #[.slice a1 D1.length c1, .slice (some ad) D2.length c2]).run Try.prog w1 = .ok (.slice a2 m2 c3) w2 ∧
      SRow DT 4 w2 (.slice a2 m2 c3) (D1 ++ D2).length (dcs (D1 ++ D2)) ∧ Below w.heap.size w w2 ∧ ∀ j, own (.slice a2 m2 c3) j → w.heap.size ≤ j := by
  have k0 : Kept (fun _ => False) w (w.alloc (.cells #[] DT)) := (Kept.refl _ w).alloc _
  have n0 : SRow DT 4 (w.alloc (.cells #[] DT)) (.slice (some ⟨w.heap.size, 0, none⟩) 0 0) 0 [] := ⟨.inr ⟨w.heap.size, 0, [], rfl, RowAt.new w DT [], by simp, Nat.le_refl _, by simp [maxLen]⟩, rfl, fun _ h => by cases h⟩
  have hl1 := dcs_length D1
  have hl2 := dcs_length D2
  rcases h.is with ⟨hv, _⟩ | ⟨b', cap', rest, hv, hr, q1, q2, q3⟩
  · cases hv
  · cases hv
    have e1 : dcs (D1 ++ d :: D2) ++ rest = dcs D1 ++ (dcs (d :: D2) ++ rest) := by rw [dcs_append]; simp
    have e2 : dcs (D1 ++ d :: D2) ++ rest = (dcs D1 ++ dcs [d]) ++ (dcs D2 ++ rest) := by rw [dcs_append, show dcs (d :: D2) = dcs [d] ++ dcs D2 by rw [← dcs_append]; rfl]; simp
    have s1 : Src Try.prog 4 22 (.slice (some ⟨b, 0, none⟩) D1.length cap) D1.length (dcs D1) (w.alloc (.cells #[] DT)) :=
      Src.ofSlice _ Try.underlying22 _ _ _ _ hl1 (read_from (A := []) (by have := hr.keep k0 (fun h => h); rw [e1] at this; exact this) 0 rfl) (dcs_ones _)
    obtain ⟨v1, w1, r0, r1, r2, r3, r4⟩ := n0.append (P := Try.prog) 22 ty Try.underlying22 infoD rfl (by omega) s1 (.inr (by simp)) (by omega)
    rw [List.nil_append, Nat.zero_add] at r1
    obtain ⟨a1, c1, rfl, _⟩ := r1.shape
    have kb : ¬ own (.slice (some (⟨w.heap.size, 0, none⟩ : Addr)) 0 0) b := fun e => by simp [own] at e; have := hr.lt; omega
    have hr1 := (hr.keep k0 (fun h => h)).keep r2 kb
    have s2 : Src Try.prog 4 22 (.slice (some ad) D2.length c2) D2.length (dcs D2) w1 := by
      by_cases hc : cap = D1.length + 1
      · have : D2 = [] := List.eq_nil_of_length_eq_zero (by simp at q2; omega)
        subst this
        exact Src.ofSlice _ Try.underlying22 _ _ _ _ (by simp [dcs_nil]) (by simp [dcs_nil]) (dcs_ones _)
      · rw [if_neg hc] at had
        cases had
        exact Src.ofSlice _ Try.underlying22 _ _ _ _ hl2 (read_from (by rw [e2] at hr1; exact hr1) _ (by simp [hl1, dcs_length]; omega)) (dcs_ones _)
    obtain ⟨v2, w2, t0, t1, t2, t3, _⟩ := r1.append (P := Try.prog) 22 ty Try.underlying22 infoD rfl (by omega) s2 (.inr r4) (by omega)
    obtain ⟨a2, c3, rfl, _⟩ := t1.shape
    have o1 : ∀ j, own (.slice a1 D1.length c1) j → w.heap.size ≤ j := fun j hj => by
      rcases r3 j hj with h3 | h3
      · simp [own] at h3; omega
      · simp at h3; omega
    refine ⟨a1, c1, w1, a2, _, c3, w2, r0, t0, by rw [List.length_append, dcs_append]; exact t1, ?_, fun j hj => ?_⟩
    · have b1 : Below w.heap.size w w1 := r2.below (B := w.heap.size) k0.none (by simp) fun j _ hj => by simp [own] at hj; omega
      exact t2.below b1 b1.size fun j _ hj => o1 j hj
    · rcases t3 j hj with h3 | h3
      · exact o1 j h3
      · have := r2.more; simp at this; omega
end Go.Proofs.Ytiloflgpflgjnaa
