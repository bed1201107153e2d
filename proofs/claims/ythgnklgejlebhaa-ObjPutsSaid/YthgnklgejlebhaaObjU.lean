/-
  The program's write of an object (layer 12). Conditions: its lists are not longer than 300 (code: 2000).
-/
import Derived.Test.YthgnklgejlebhaaObjY
import Derived.Lib.SlBytesConst
namespace Go.Proofs.Ythgnklgejlebhaa
open Go.ChangeShapes Go.WideShapes Go.ChangeAt Go.RowKit

/- append to a slice that is full, wherever its cells lie: a new row -/
theorem full_more {P : Program} {t e : TypeId} {k : Nat} {w : World} {base : Option Addr} {n cap : Nat} {cs : List Value} (hold : (Builtin.firstCells k n (.slice base n cap)).run P w.drew = .ok cs.toArray w.drew) (hl : cs.length = n * k) (h1 : Ones cs)
    (tx ty : TypeId) (ht : P.underlying t = some (.slice e)) {z : Value} {by_ : Nat} (hi : (P.info? e).map (fun i => (i.zero, i.size, i.bytes)) = some (some z, k, by_)) (hz : z.cells.size = k) (hb : by_ ≤ 128)
    {x : Value} {m : Nat} {news : List Value} (hs : Src P k tx x m news w) (hcap : cap < n + m) (small : n + m ≤ 1000000) :
    ∃ v' w', (Builtin.append_ #[t, tx] ty #[.slice base n cap, x]).run P w = .ok v' w' ∧ SRow e k w' v' (n + m) (cs ++ news) ∧ Kept (fun _ => False) w w' ∧ (∀ j, own v' j → w.heap.size ≤ j) ∧ v' ≠ .slice none 0 0 := by
  cases hq : P.info? e with
  | none => simp [hq] at hi
  | some i =>
    obtain ⟨hi1, hi2, hi3⟩ : i.zero = some z ∧ i.size = k ∧ i.bytes = by_ := by simpa [hq] using hi
    subst hi2
    have hlen : (cs ++ news).length = (n + m) * i.size := by rw [List.length_append, hl, hs.newsLen, Nat.add_mul]
    have hfit : Builtin.nextslicecap (n + m) cap * i.bytes ≤ 281474976710656 := growslice_fits hcap (by rw [hi3]; exact Nat.le_trans (Nat.mul_le_mul small hb) (by decide))
    have hr := run_append_grow_src (P := P) w t tx ty e i z ht hq hi1 base n cap cs hold x m news hs hcap (by omega) hfit
    refine ⟨_, _, hr, ⟨.inr ⟨w.heap.size, grownCap w (n + m) cap e, (Builtin.zeroCells z.cells (grownCap w (n + m) cap e - (n + m))).toList, rfl, ?_, ?_, grownCap_ge _ _ _ _, grownCap_le_maxLen _ _ _ _ (by simp [maxLen]; omega)⟩, hlen, h1.append hs.one⟩, ((Kept.refl _ _).drew).alloc _, fun j hj => ?_, by simp⟩
    · have := RowAt.new w.drew e (cs ++ news ++ (Builtin.zeroCells z.cells (grownCap w (n + m) cap e - (n + m))).toList)
      have e1 : (cs ++ news).toArray ++ Builtin.zeroCells z.cells (grownCap w (n + m) cap e - (n + m)) = (cs ++ news ++ (Builtin.zeroCells z.cells (grownCap w (n + m) cap e - (n + m))).toList).toArray := by
        apply Array.ext'
        simp
      rw [e1]
      exact this
    · rw [Array.length_toList, size_zeroCells, hz, ← Nat.add_mul]
      have := grownCap_ge w (n + m) cap e
      congr 1
      omega
    · simp [own] at hj
      omega
/- PutText, wherever the two appends are known -/
set_option maxRecDepth 100000 in
theorem btext_from (v : Value) (l : List Nat) (s : ByteArray) (w : World) (Q : World → Value → Prop)
    (H : ∀ s : ByteArray, s.size ≤ 255 → ∃ v2 w2 v3 w3, (Builtin.append_ #[BS, BS] BS #[v, .slice (some ⟨w.heap.size, 0, none⟩) 1 1]).run Try.prog (w.alloc (.cells #[.int .u8 ((s.size : Nat) : Int)] BT)) = .ok v2 w2 ∧ (Builtin.append_ #[BS, 9] BS #[v2, .string s]).run Try.prog w2 = .ok v3 w3 ∧ Bs w3 v3 (l ++ s.size :: sb s) ∧ Q w3 v3) :
    Calls Try.prog 35 #[v, .string s] w fun e w' => ∃ v', e = .returned v' ∧ Bs w' v' (l ++ textB (sb s)) ∧ Q w' v' := by
  obtain ⟨m, hm⟩ : ∃ m, m = min s.size 255 := ⟨_, rfl⟩
  have e : textB (sb s) = m :: (sb s).take m := by
    unfold textB
    rw [sb_length, hm]
    by_cases hs : 255 < s.size
    · rw [if_pos hs, Nat.min_eq_right (by omega)]
    · rw [if_neg hs, Nat.min_eq_left (by omega), List.take_of_length_le (by rw [sb_length]; omega), List.take_of_length_le (by rw [sb_length]; omega)]
  rw [e]
  clear e
  have hz : (s.extract 0 m).size = m := by rw [ByteArray.size_extract]; omega
  obtain ⟨v2, w2, v3, w3, h1, h2, h3, h4⟩ := H (s.extract 0 m) (by omega)
  rw [hz, sb_cut] at h3
  have RES := Lib.hid (And.intro h3 h4)
  have e1 := Lib.hid (show (if (255 : Int) < (s.size : Int) then (255 : Int) else (s.size : Int)) = (m : Int) by split <;> omega)
  have e3 : m ≤ s.size := by omega
  have e4 : IntKind.u8.wrap (m : Int) = (m : Int) := by rw [IntKind.wrap_u8]; omega
  rw [hz] at h1
  clear H h3 h4 hm
  go_enter Try.func35, Try.ntmps35
  go_upto_region 2 with fail
  rw [e1.out, Int.toNat_natCast]
  generalize s.extract 0 m = x at *
  go_wp2_with (at_builtin; first | refine Lib.wpList_append_run _ rfl _ _ _ _ rfl v (.slice (some ⟨w.heap.size, 0, none⟩) 1 1) rfl rfl _ _ h1 ?_ | refine Lib.wpList_append_run _ rfl _ _ _ _ rfl v2 (.string x) rfl rfl _ _ h2 ?_)
  go_ret
  exact ⟨_, rfl, RES.out⟩
/- the mark: a row of a constant -/
abbrev markW (w : World) : World := w.alloc (.cells #[.int .u8 68, .int .u8 87] BT (2, 3))
theorem mark_text (w : World) (s : ByteArray) :
    Calls Try.prog 35 #[.slice (some ⟨w.heap.size, 0, none⟩) 2 2, .string s] (markW w) fun e w' => ∃ v', e = .returned v' ∧ Bs w' v' ([68, 87] ++ textB (sb s)) ∧ (∀ j, own v' j → w.heap.size < j) ∧ Kept (fun _ => False) w w' := by
  have hk : Kept (fun _ => False) w (markW w) := (Kept.refl _ w).alloc _
  have hsz : (markW w).heap.size = w.heap.size + 1 := by simp [markW]
  have hrow : (markW w).heap[w.heap.size]? = some (.cells #[.int .u8 68, .int .u8 87] BT (2, 3)) := heap_alloc_new w _
  have hcell : ∀ j : Nat, ∀ u : Value, ([.int .u8 68, .int .u8 87] : List Value)[j]? = some u → (markW w).cell? ⟨w.heap.size, j, none⟩ = some u := fun j u hu => by
    rw [cell_of_row _ _ j _ _ _ hrow]
    simpa using hu
  refine (btext_from (.slice (some ⟨w.heap.size, 0, none⟩) 2 2) [68, 87] s (markW w) (fun w' v' => (∀ j, own v' j → w.heap.size < j) ∧ Kept (fun _ => False) w w') (fun x hx => ?_)).mono ?_
  · have k1 : Kept (fun _ => False) (markW w) ((markW w).alloc (.cells #[.int .u8 ((x.size : Nat) : Int)] BT)) := (Kept.refl _ _).alloc _
    have hxr : RowAt ((markW w).alloc (.cells #[.int .u8 ((x.size : Nat) : Int)] BT)) (markW w).heap.size BT [.int .u8 ((x.size : Nat) : Int)] := RowAt.new _ BT _
    have hs : Src Try.prog 1 BS (.slice (some ⟨(markW w).heap.size, 0, none⟩) 1 1) 1 [.int .u8 ((x.size : Nat) : Int)] ((markW w).alloc (.cells #[.int .u8 ((x.size : Nat) : Int)] BT)) :=
      Src.ofSlice _ Try.underlying34 _ _ _ _ rfl (fun j u hu => by rw [Addr.add_lit, Nat.zero_add, hxr.cell, hu]) (by intro u hu; simp at hu; subst hu; rfl)
    have hold : (Builtin.firstCells 1 2 (.slice (some ⟨w.heap.size, 0, none⟩) 2 2)).run Try.prog ((markW w).alloc (.cells #[.int .u8 ((x.size : Nat) : Int)] BT)).drew = .ok [Value.int .u8 68, .int .u8 87].toArray ((markW w).alloc (.cells #[.int .u8 ((x.size : Nat) : Int)] BT)).drew :=
      run_firstCells_some _ 1 2 ⟨w.heap.size, 0, none⟩ 2 2 _ rfl (fun j u hu => by
        rw [Addr.add_lit, Nat.zero_add]
        exact (k1.drew.cell (p := ⟨w.heap.size, j, none⟩) (by simp) (fun h => h)).trans (hcell j u hu))
    obtain ⟨v2, w2, q0, q1, q2, q3, q4⟩ := full_more (P := Try.prog) hold rfl (by intro u hu; simp at hu; rcases hu with rfl | rfl <;> rfl) BS BS Try.underlying34 infoB rfl (by omega) hs (by omega) (by omega)
    have q1' : Bs w2 v2 ([68, 87] ++ [x.size]) := q1
    obtain ⟨v3, w3, r0, r1, r2⟩ := more_text q1' x q4 (by simp; omega)
    refine ⟨v2, w2, v3, w3, q0, r0, ?_, fun j hj => ?_, ?_⟩
    · rw [List.append_assoc] at r1
      exact r1
    · rcases r2.2 j hj with h | h
      · have := q3 j h
        simp at this
        omega
      · have := (hk.trans (k1.trans q2)).more
        have h2 := (k1.trans q2).more
        omega
    · exact (hk.trans (k1.trans q2)).then r2.1 (fun j hj ho => by have := q3 j ho; simp at this; omega)
  · rintro e w' ⟨v', he, hb, hg⟩
    exact ⟨v', he, hb, hg⟩
end Go.Proofs.Ythgnklgejlebhaa
