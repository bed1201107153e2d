/-
  slices.Sorted(maps.Keys(m)) at a map whose names are known: a new slice of the names, each less than the next. No conditions but the map's length.
-/
import Derived.Test.YtidncccbgihhhaaMapF
import Derived.Test.YtidncccbgihhhaaSeq
import Derived.Test.YtidncccbgihhhaaLays
import Derived.Sort.Walk0
namespace Go.Proofs.Ytidncccbgihhhaa
open Go.ChangeShapes Go.WideShapes Go.ChangeAt Go.RowKit

def Rising (l : List (List UInt8)) : Prop := ∀ i a b, l[i]? = some b → l[i + 1]? = some a → (Op.bytesLess a b || a == b) = false
theorem rising_sorted {l : List (List UInt8)} (hn : l.Nodup) : Rising (l.mergeSort fun x y => decide (x ≤ y)) := by
  intro i a b hb ha
  have tr : ∀ a b c : List UInt8, leB a b = true → leB b c = true → leB a c = true := fun a b c h1 h2 => by simp only [leB, decide_eq_true_eq] at *; exact List.le_trans h1 h2
  have to : ∀ a b : List UInt8, (leB a b || leB b a) = true := fun a b => by simp only [leB, Bool.or_eq_true, decide_eq_true_eq]; exact List.le_total a b
  have hp := List.pairwise_mergeSort tr to l
  have hd : (l.mergeSort leB).Nodup := (List.mergeSort_perm l leB).nodup_iff.2 hn
  obtain ⟨hi, rfl⟩ := List.getElem?_eq_some_iff.1 hb
  obtain ⟨hj, rfl⟩ := List.getElem?_eq_some_iff.1 ha
  have h1 := List.pairwise_iff_getElem.1 hp i (i + 1) hi hj (Nat.lt_succ_self i)
  have h2 := List.pairwise_iff_getElem.1 hd i (i + 1) hi hj (Nat.lt_succ_self i)
  simp only [leB, decide_eq_true_eq] at h1
  rw [bytesLess_eq]
  simp only [Bool.or_eq_false_iff, decide_eq_false_iff_not, beq_eq_false_iff_ne]
  exact ⟨List.not_lt.2 h1, fun e => h2 e.symm⟩

/- a new row, in this text's words -/
theorem SRow.of_owns {w : World} {B n : Nat} {e : TypeId} {v : Value} {xs : List Value} (h : w.ownsRow B e 1 v n xs) (h1 : Ones xs) : SRow e 1 w v n xs ∧ ∀ j, own v j → B ≤ j := by
  obtain ⟨hl, h | ⟨g, cap, cur, rfl, hB, hb, hn, hm, hs, ht⟩⟩ := h
  · obtain ⟨rfl, rfl⟩ := h
    exact ⟨⟨.inl ⟨rfl, rfl⟩, hl, h1⟩, fun j hj => hj.elim⟩
  · have hc : cur = (xs ++ cur.toList.drop (n * 1)).toArray := by
      apply Array.ext'
      rw [← ht]
      simp
    refine ⟨⟨.inr ⟨g, cap, cur.toList.drop (n * 1), rfl, ?_, ?_, hn, hm⟩, hl, h1⟩, fun j hj => by simp [own] at hj; omega⟩
    · unfold RowAt
      rw [← hc]
      exact hb
    · rw [List.length_drop, Array.length_toList, hs]
      omega

def NamesOf (l : List ByteArray) (R : RL) : Prop := l.Perm (nms R) ∧ Rising (l.map fun s => s.toList)
def svs (l : List ByteArray) : List Value := l.map fun s => Value.string s
theorem svs_ones (l : List ByteArray) : Ones (svs l) := by
  intro u hu
  obtain ⟨s, _, rfl⟩ := List.mem_map.1 hu
  rfl

theorem mapKeys_any (mb : Nat) (w : World) :
    Calls Try.prog 23 #[.map (some mb)] w fun e w' => e = .returned (.func (.func 29) #[] #[.pointer (some ⟨w.heap.size, 0, none⟩)]) ∧ w' = w.alloc (.cells #[.map (some mb)] MF) :=
  callsIn_wide.1 (AnyZ.keys_in Try.keys23 Fence.wide 5 trivial rfl (some mb) w)

set_option maxHeartbeats 1000000 in
theorem sorted_any (mb : Nat) (R : RL) (w : World) (h : MapAt w mb R) (hl : R.length ≤ 1000) :
    Calls Try.prog 22 #[.func (.func 29) #[] #[.pointer (some ⟨w.heap.size, 0, none⟩)]] (w.alloc (.cells #[.map (some mb)] MF)) fun e w' =>
      ∃ v l, e = .returned v ∧ NamesOf l R ∧ SRow ST 1 w' v l.length (svs l) ∧ Below w.heap.size w w' := by
  have hlt := h.lt
  obtain ⟨h0, D, h1, h2, h3, h4⟩ := h
  obtain ⟨es, clock, hb, F, hs, hD⟩ := id h1
  have hsort : AnyZ.SortsIn Try.prog Try.sorted22_ren Fence.wide 4 :=
    ⟨fun blk off cap ss W hH hblk hsz => callsIn_wide.2 (AnyM.slices_Sort_string Try.sort28 blk off cap ss W hH hblk hsz), fun p cap W => callsIn_wide.2 (AnyM.slices_Sort_string_none Try.sort28 p cap W)⟩
  have hseq := AnyZ.keys_gives (ρ := Try.keys23_ren) { Try.keys23 with } Fence.wide 2 trivial rfl (by omega) w.heap.size mb R.length D
    (w.alloc (.cells #[.map (some mb)] MF)) (by simp) (by simp) ⟨es, clock, (Below.heap_alloc _ _ mb hlt).trans hb, F, hs, hD⟩
  have hc := AnyZ.sorted_in Try.sorted22 Fence.wide 5 trivial trivial trivial trivial rfl (by omega) hsort (enters_of Try.func28 (by kernel_rfl) rfl) 29
    #[.pointer (some ⟨w.heap.size, 0, none⟩)] trivial (enters_of Try.func29 (by kernel_rfl) rfl) _ (Maps.size D) (by rw [h2]; simp [maxLen]; omega) (by rw [h2]; omega) _ hseq
  refine (callsIn_wide.1 hc).mono ?_
  rintro e w' ⟨v, ss, rfl, hS, hrow, _, hb2⟩
  have hperm := (keys_perm h0 h1 h3).symm
  have hssp : (ss.mergeSort fun x y => decide (x ≤ y)).Perm ((nms R).map fun s => s.data.toList) := ((List.mergeSort_perm ss _).trans hS).trans hperm
  have hnd : ss.Nodup := (hS.trans hperm).nodup_iff.2 (List.pairwise_map.2 (h0.imp fun hne e => hne (WideShapes.bytes_inj e)))
  have hlen : (ss.mergeSort fun x y => decide (x ≤ y)).length = ss.length := (List.mergeSort_perm ss _).length_eq
  have hcs : svs ((ss.mergeSort fun x y => decide (x ≤ y)).map fun x => (⟨x.toArray⟩ : ByteArray)) = (ss.mergeSort fun x y => decide (x ≤ y)).map encStr := by
    simp only [svs, List.map_map]
    rfl
  have hr := SRow.of_owns hrow (by rw [← hcs]; exact svs_ones _)
  refine ⟨v, (ss.mergeSort fun x y => decide (x ≤ y)).map fun x => (⟨x.toArray⟩ : ByteArray), rfl, ⟨?_, ?_⟩, ?_, ?_⟩
  · have := hssp.map (fun x : List UInt8 => (⟨x.toArray⟩ : ByteArray))
    rw [List.map_map] at this
    have e1 : ((nms R).map ((fun x : List UInt8 => (⟨x.toArray⟩ : ByteArray)) ∘ fun s => s.data.toList)) = nms R := by
      conv => rhs; rw [← List.map_id (nms R)]
      exact List.map_congr_left fun s _ => WideShapes.bytes_inj rfl
    rw [e1] at this
    exact this
  · rw [List.map_map]
    have e2 : ((ss.mergeSort fun x y => decide (x ≤ y)).map ((fun s : ByteArray => s.toList) ∘ fun x : List UInt8 => (⟨x.toArray⟩ : ByteArray))) = ss.mergeSort fun x y => decide (x ≤ y) := by
      conv => rhs; rw [← List.map_id (ss.mergeSort fun x y => decide (x ≤ y))]
      exact List.map_congr_left fun x _ => by simp
    rw [e2]
    exact rising_sorted hnd
  · rw [List.length_map, hlen, hcs]
    exact hr.1
  · exact ((Below.refl _ w).alloc (Nat.le_refl _) _).trans (hb2.mono (by simp))
end Go.Proofs.Ytidncccbgihhhaa
