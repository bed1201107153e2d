/-
  Contracts of slices.Grow (from nil) and slices.Concat over two slices of ints (layer 6). No conditions beyond those that each theorem names.
-/
import Derived.Test.YticancimnhnhbaaZoneH
import Derived.LoopN
namespace Go.Proofs.Yticancimnhnhbaa
open Go.ChangeShapes Go.WideShapes Go.ChangeAt Go.RowKit

set_option maxRecDepth 100000 in
theorem grow_any (n : Nat) (w : World) (hn : n ≤ 1000) :
    Calls Try.prog 60 #[.slice none 0 0, .int .i64 n] w fun e w' => ∃ v', e = .returned v' ∧ SRow 3 1 w' v' 0 [] ∧ Kept No w w' ∧ (∀ j, own v' j → w.heap.size ≤ j) ∧ (0 < n → v' ≠ .slice none 0 0) := by
  rcases Nat.eq_zero_or_pos n with h0 | h0
  · subst h0
    go_enter Try.func60, Try.ntmps60
    go_wp2_with fail
    go_ret
    exact ⟨_, rfl, SRow.nil _ _ _, Kept.refl _ _, fun j hj => hj.elim, fun h => absurd h (by omega)⟩
  · obtain ⟨i, hi, hi1, hi2, hi3⟩ : ∃ i, Try.prog.info? 3 = some i ∧ i.zero = some (.int .i64 0) ∧ i.size = 1 ∧ i.bytes = 8 := by
      have := infoI
      cases hq : Try.prog.info? 3 with
      | none => simp [hq] at this
      | some i => exact ⟨i, rfl, by simpa [hq] using this⟩
    have hold : (Builtin.firstCells i.size 0 (.slice none 0 0)).run Try.prog w.drew = .ok ([] : List Value).toArray w.drew := run_firstCells_none w.drew i.size 0 0 0
    have hap := fun ty => Lib.run_append_grow_zeros (P := Try.prog) w 28 3 ty 3 i _ .i64 .i64 Try.underlying28 Try.underlying3 hi hi1 none 0 0 [] hold n h0 (by omega) (by omega) (by omega) (by rw [hi3]; omega)
      (growslice_fits (by omega) (by rw [hi3]; omega))
    have hcap1 := grownCap_ge w (0 + n) 0 3
    have hcap2 := grownCap_le_maxLen w (0 + n) 0 3 (by simp [maxLen]; omega)
    generalize hcap : grownCap w (0 + n) 0 3 = cap at *
    have hz : ∃ zs : List Value, (([] : List Value).toArray ++ Builtin.zeroCells (Value.int .i64 0).cells n ++ Builtin.zeroCells (Value.int .i64 0).cells (cap - (0 + n))) = zs.toArray ∧ zs.length = cap ∧ Ones zs := by
      refine ⟨zrs (.int .i64 0) n ++ zrs (.int .i64 0) (cap - (0 + n)), ?_, ?_, (zrs_ones (by intro u hu; simp [Value.cells] at hu; subst hu; rfl) _).append (zrs_ones (by intro u hu; simp [Value.cells] at hu; subst hu; rfl) _)⟩
      · apply Array.ext'
        simp [zrs]
      · rw [List.length_append, zrs_length, zrs_length]
        simp [Value.cells]
        omega
    obtain ⟨zs, hz1, hz2, hz3⟩ := hz
    rw [hz1] at hap
    have RES : Hid (SRow 3 1 (w.drew.alloc (.cells zs.toArray 3)) (.slice (some ⟨w.heap.size, 0, none⟩) 0 cap) 0 [] ∧ Kept No w (w.drew.alloc (.cells zs.toArray 3)) ∧ (∀ j, own (.slice (some ⟨w.heap.size, 0, none⟩) 0 cap) j → w.heap.size ≤ j) ∧ (0 < n → (Value.slice (some ⟨w.heap.size, 0, none⟩) 0 cap) ≠ .slice none 0 0)) :=
      ⟨⟨.inr ⟨w.heap.size, cap, zs, rfl, RowAt.new w.drew 3 zs, by omega, Nat.zero_le _, hcap2⟩, rfl, fun _ h => by cases h⟩, (Kept.refl _ _).drew.alloc _, fun j hj => Nat.le_of_eq (show j = w.heap.size from hj).symm, fun _ e => by cases e⟩
    have HA : Hid (∀ ty, (Builtin.append_ #[28, 3] ty #[.slice none 0 0, .int .i64 n]).run Try.prog w = .ok (.slice (some ⟨w.heap.size, 0, none⟩) (0 + n) cap) (w.drew.alloc (.cells zs.toArray 3))) := hap
    have hm' : cap ≤ 9223372036854775807 := hcap2
    clear hap hz1 hz3 hold hi hi1 hi2 hi3 hcap hcap2
    have e1 : ¬ (n : Int) < 0 := by omega
    have e2 : (0 : Int) < (n : Int) := by omega
    go_enter Try.func60, Try.ntmps60
    go_wp2_with (at_builtin; refine Lib.wpList_append_run _ rfl _ _ _ _ rfl _ _ rfl rfl _ _ (HA.out _) ?_)
    go_ret
    exact ⟨_, rfl, RES.out.1, RES.out.2.1, RES.out.2.2.1, RES.out.2.2.2 h0⟩

theorem run_len (w : World) (ty : TypeId) (a : Option Addr) (n c : Nat) : (Builtin.len_ #[28] ty #[.slice a n c]).run Try.prog w = .ok (.int .i64 n) w := by
  simp [Builtin.len_, run_underlying Try.underlying28, goInt]

/- append, to nil or to a slice with a block, of a slice of ints -/
theorem iappend {w : World} {v : Value} {n : Nat} {xs ys : List Int} (h : SRow 3 1 w v n (ivs xs)) (s : Sl) (hs : IntsAt w s ys) (hn : n = xs.length) (small : n + ys.length ≤ 1000) (ty : TypeId) :
    ∃ v' w', (Builtin.append_ #[28, 28] ty #[v, s.v]).run Try.prog w = .ok v' w' ∧ SRow 3 1 w' v' (n + ys.length) (ivs (xs ++ ys)) ∧ Kept (own v) w w' ∧ (∀ j, own v' j → own v j ∨ w.heap.size ≤ j) := by
  have hsrc := hs.src (P := Try.prog) Try.underlying28
  rw [hs.len] at hsrc
  by_cases hv : v = .slice none 0 0 ∧ ys.length = 0
  · obtain ⟨rfl, h0⟩ := hv
    have hy : ys = [] := List.eq_nil_of_length_eq_zero h0
    subst hy
    have hn0 : n = 0 := by
      rcases h.is with ⟨_, h1⟩ | ⟨b, cap, rest, e, _⟩
      · exact h1
      · cases e
    subst hn0
    refine ⟨.slice none 0 0, w, ?_, ?_, Kept.refl _ _, fun j hj => hj.elim⟩
    · have hq : ∃ i, Try.prog.info? 3 = some i := by
        have := infoI
        cases hq : Try.prog.info? 3 with
        | none => simp [hq] at this
        | some i => exact ⟨i, rfl⟩
      obtain ⟨i, hi⟩ := hq
      obtain ⟨a, m, c⟩ := s
      have hm : m = 0 := hs.len
      subst hm
      cases a <;> simp [Sl.v, Builtin.append_, run_underlying Try.underlying28, sizeOf, typeInfo, hi, Builtin.lenOf, Builtin.firstCells, loadCells, loadCellsFrom]
    · simpa using h
  · obtain ⟨v', w', h1, h2, h3, h4, _⟩ := h.append (P := Try.prog) 28 ty Try.underlying28 infoI rfl (by omega) hsrc (by
      rcases Nat.eq_zero_or_pos ys.length with h0 | h0
      · exact .inr fun e => hv ⟨e, h0⟩
      · exact .inl h0) (by omega)
    exact ⟨v', w', h1, by rw [ivs_append]; exact h2, h3, h4⟩
end Go.Proofs.Yticancimnhnhbaa
