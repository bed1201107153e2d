/-
  Contracts of package heap (layer 5): Give. No conditions beyond those that each theorem names.
-/
import Derived.Test.YtiloflgpflgjnaaHeapH
namespace Go.Proofs.Ytiloflgpflgjnaa
open Go.ChangeShapes Go.WideShapes Go.ChangeAt Go.RowKit

/- what may be given back -/
def MayGive (f t : Int) (L : List (Int × Int)) (a s : Int) : Prop := a % 4 = 0 ∧ (1 ≤ s ∧ s ≤ 65536) ∧ f ≤ a ∧ a ≤ t - up4 s ∧ ∀ y ∈ L, ¬ (y.1 < a + up4 s ∧ a < y.1 + y.2)

theorem tmod4 (a : Int) : (a.tmod 4 == 0) = decide (a % 4 = 0) := by
  rw [Bool.eq_iff_iff]
  simp only [beq_iff_eq, decide_eq_true_eq]
  rw [← Int.dvd_iff_tmod_eq_zero, ← Int.dvd_iff_emod_eq_zero]

def NoGive (w w' : World) (e : Ending) : Prop := e = .returned (.iface 29 (.int .i64 1)) ∧ Below w.heap.size w w'
set_option maxHeartbeats 1000000 in
theorem give_no (p : Nat) (f t a s : Int) (v : Value) (L : List (Int × Int)) (w : World) (h : HeapAt w p f t v L) (hm : ¬ MayGive f t L a s) :
    Calls Try.prog 10 #[.pointer (some ⟨p, 0, none⟩), .int .i64 a, .int .i64 s] w fun e w' => NoGive w w' e := by
  have HM := Lib.hid hm
  clear hm
  by_cases h1 : a % 4 = 0
  · have E1 : Hid ((a.tmod 4 == 0) = true) := by show _ = _; rw [tmod4]; simpa using h1
    by_cases h2 : 1 ≤ s ∧ s ≤ 65536
    · have E2 : Hid (decide (1 ≤ s ∧ s ≤ 65536) = true) := by show _ = _; simpa using h2
      have HR := Lib.hid (fun w => round_any s w h2.1 h2.2)
      have hup := up4_range s
      have k0 : Below w.heap.size w (w.alloc (.cells #[.int .i64 a, .int .i64 (up4 s)] HT)) := (Below.refl _ _).alloc (Nat.le_refl _) _
      have H1 := Lib.hid (h.below k0)
      have K0 := Lib.hid k0
      have r := h.range
      by_cases h3 : f ≤ a ∧ a ≤ t - up4 s
      · have E3 : Hid (decide (f ≤ a ∧ a ≤ t - up4 s) = true) := by show _ = _; simpa using h3
        have E4 : Hid ((L.any fun x => decide (x.1 < a + up4 s ∧ a < x.1 + x.2)) = true) := by
          show _ = _
          rw [List.any_eq_true]
          apply Classical.byContradiction
          intro hc
          refine HM.out ⟨h1, h2, h3.1, h3.2, fun y hy hq => hc ⟨y, hy, by simpa using hq⟩⟩
        have HH := Lib.hid (fun w' (h' : HeapAt w' p f t v L) => has_any p f t a (up4 s) v L w' h' (by omega) true E3.out)
        have HP := Lib.hid (fun w' (h' : HeapAt w' p f t v L) => part_any p f t a (up4 s) v L w' h' (by omega) (by omega) true E4.out)
        clear h k0 h1 h2 h3 HM hup
        generalize up4 s = z at *
        go_enter Try.func10, Try.ntmps10
        go_wp2_with fail
        refine (al_any a true _ E1.out).mono ?_
        rintro e w' ⟨rfl, rfl⟩
        go_wp2_with fail
        refine (sz_any s true _ E2.out).mono ?_
        rintro e w' ⟨rfl, rfl⟩
        go_wp2_with fail
        refine (HR.out _).mono ?_
        rintro e w' ⟨rfl, rfl⟩
        go_wp2_with fail
        refine (HH.out _ H1.out).mono ?_
        rintro e w2 ⟨rfl, hb⟩
        have H2 := Lib.hid (H1.out.below hb)
        have c0 : w2.cell? ⟨w.heap.size, 0, none⟩ = some (.int .i64 a) := (hb.cell (p := ⟨w.heap.size, 0, none⟩) (by simp)).trans (by simp)
        have c1 : w2.cell? ⟨w.heap.size, 1, none⟩ = some (.int .i64 z) := (hb.cell (p := ⟨w.heap.size, 1, none⟩) (by simp)).trans (by simp)
        have HB := Lib.hid (below_on K0.out hb K0.out.size)
        clear hb
        go_wp2_with fail
        refine (HP.out _ H2.out).mono ?_
        rintro e w3 ⟨rfl, hb⟩
        have HB3 := Lib.hid (below_on HB.out hb HB.out.size)
        clear hb
        go_wp2_with fail
        go_ret
        exact ⟨rfl, HB3.out⟩
      · have E3 : Hid (decide (f ≤ a ∧ a ≤ t - up4 s) = false) := by show _ = _; simpa using h3
        have HH := Lib.hid (fun w' (h' : HeapAt w' p f t v L) => has_any p f t a (up4 s) v L w' h' (by omega) false E3.out)
        clear h k0 h1 h2 h3 HM hup
        generalize up4 s = z at *
        go_enter Try.func10, Try.ntmps10
        go_wp2_with fail
        refine (al_any a true _ E1.out).mono ?_
        rintro e w' ⟨rfl, rfl⟩
        go_wp2_with fail
        refine (sz_any s true _ E2.out).mono ?_
        rintro e w' ⟨rfl, rfl⟩
        go_wp2_with fail
        refine (HR.out _).mono ?_
        rintro e w' ⟨rfl, rfl⟩
        go_wp2_with fail
        refine (HH.out _ H1.out).mono ?_
        rintro e w2 ⟨rfl, hb⟩
        have HB := Lib.hid (below_on K0.out hb K0.out.size)
        clear hb
        go_wp2_with fail
        go_ret
        exact ⟨rfl, HB.out⟩
    · have E2 : Hid (decide (1 ≤ s ∧ s ≤ 65536) = false) := by show _ = _; simpa using h2
      clear h h1 h2 HM
      go_enter Try.func10, Try.ntmps10
      go_wp2_with fail
      refine (al_any a true _ E1.out).mono ?_
      rintro e w' ⟨rfl, rfl⟩
      go_wp2_with fail
      refine (sz_any s false _ E2.out).mono ?_
      rintro e w' ⟨rfl, rfl⟩
      go_wp2_with fail
      go_ret
      exact ⟨rfl, Below.refl _ _⟩
  · have E1 : Hid ((a.tmod 4 == 0) = false) := by show _ = _; rw [tmod4]; simpa using h1
    clear h h1 HM
    go_enter Try.func10, Try.ntmps10
    go_wp2_with fail
    refine (al_any a false _ E1.out).mono ?_
    rintro e w' ⟨rfl, rfl⟩
    go_wp2_with fail
    go_ret
    exact ⟨rfl, Below.refl _ _⟩

def Given (w w' : World) (e : Ending) (p : Nat) (f t : Int) (v : Value) (a n : Int) (L : List (Int × Int)) : Prop := e = .returned .nilIface ∧ Joins w w' p f t v a n L
theorem Joins.after {w w1 w' : World} {p : Nat} {f t a n : Int} {v : Value} {L : List (Int × Int)} (hb : Below w.heap.size w w1) (h : Joins w1 w' p f t v a n L) : Joins w w' p f t v a n L := by
  obtain ⟨A, M, B, lo, hi, h1, h2, h3⟩ := h
  exact ⟨A, M, B, lo, hi, h1, h2, h3.after hb⟩

set_option maxHeartbeats 1000000 in
theorem give_yes (p : Nat) (f t a s : Int) (v : Value) (L : List (Int × Int)) (w : World) (h : HeapAt w p f t v L) (hm : MayGive f t L a s) :
    Calls Try.prog 10 #[.pointer (some ⟨p, 0, none⟩), .int .i64 a, .int .i64 s] w fun e w' => Given w w' e p f t v a (up4 s) L := by
  obtain ⟨h1, h2, h3, h4, h5⟩ := hm
  have E1 : Hid ((a.tmod 4 == 0) = true) := by show _ = _; rw [tmod4]; simpa using h1
  have E2 : Hid (decide (1 ≤ s ∧ s ≤ 65536) = true) := by show _ = _; simpa using h2
  have HR := Lib.hid (fun w => round_any s w h2.1 h2.2)
  have hup := up4_range s
  have k0 : Below w.heap.size w (w.alloc (.cells #[.int .i64 a, .int .i64 (up4 s)] HT)) := (Below.refl _ _).alloc (Nat.le_refl _) _
  have H1 := Lib.hid (h.below k0)
  have K0 := Lib.hid k0
  have r := h.range
  have E3 : Hid (decide (f ≤ a ∧ a ≤ t - up4 s) = true) := by show _ = _; simp; omega
  have E4 : Hid ((L.any fun x => decide (x.1 < a + up4 s ∧ a < x.1 + x.2)) = false) := by
    show _ = _
    rw [List.any_eq_false]
    intro y hy
    have := h5 y hy
    simpa using this
  have HH := Lib.hid (fun w' (h' : HeapAt w' p f t v L) => has_any p f t a (up4 s) v L w' h' (by omega) true E3.out)
  have HP := Lib.hid (fun w' (h' : HeapAt w' p f t v L) => part_any p f t a (up4 s) v L w' h' (by omega) (by omega) false E4.out)
  have HJ := Lib.hid (fun w' (h' : HeapAt w' p f t v L) => join_any p f t a (up4 s) v L w' h' (by omega) (by omega))
  clear h k0 h1 h2 h3 h4 h5 hup
  generalize up4 s = z at *
  go_enter Try.func10, Try.ntmps10
  go_wp2_with fail
  refine (al_any a true _ E1.out).mono ?_
  rintro e w' ⟨rfl, rfl⟩
  go_wp2_with fail
  refine (sz_any s true _ E2.out).mono ?_
  rintro e w' ⟨rfl, rfl⟩
  go_wp2_with fail
  refine (HR.out _).mono ?_
  rintro e w' ⟨rfl, rfl⟩
  go_wp2_with fail
  refine (HH.out _ H1.out).mono ?_
  rintro e w2 ⟨rfl, hb⟩
  have H2 := Lib.hid (H1.out.below hb)
  have c0 : w2.cell? ⟨w.heap.size, 0, none⟩ = some (.int .i64 a) := (hb.cell (p := ⟨w.heap.size, 0, none⟩) (by simp)).trans (by simp)
  have c1 : w2.cell? ⟨w.heap.size, 1, none⟩ = some (.int .i64 z) := (hb.cell (p := ⟨w.heap.size, 1, none⟩) (by simp)).trans (by simp)
  have HB := Lib.hid (below_on K0.out hb K0.out.size)
  have hs2 : w.heap.size < w2.heap.size := by have := hb.size; simp at this; omega
  clear hb
  go_wp2_with fail
  refine (HP.out _ H2.out).mono ?_
  rintro e w3 ⟨rfl, hb⟩
  have H3 := Lib.hid (H2.out.below hb)
  have c03 : w3.cell? ⟨w.heap.size, 0, none⟩ = some (.int .i64 a) := (hb.cell (p := ⟨w.heap.size, 0, none⟩) hs2).trans c0
  have c13 : w3.cell? ⟨w.heap.size, 1, none⟩ = some (.int .i64 z) := (hb.cell (p := ⟨w.heap.size, 1, none⟩) hs2).trans c1
  have HB3 := Lib.hid (below_on HB.out hb HB.out.size)
  clear hb c0 c1 H2 HB
  go_wp2_with fail
  refine (HJ.out _ H3.out).mono ?_
  rintro e w4 ⟨rfl, hj⟩
  have HJ4 := Lib.hid (hj.after HB3.out)
  clear hj
  go_wp2_with fail
  go_ret
  exact ⟨rfl, HJ4.out⟩
end Go.Proofs.Ytiloflgpflgjnaa
