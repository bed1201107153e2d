/-
  Contracts of CanLoad, CanStore, CanRun, isAheadOfCode, Fits, Cell, New (layer 6). No conditions beyond those that each theorem names.
-/
import Derived.Test.YtlnjcaicagcinaaZoneE
import Derived.Test.YtlnjcaicagcinaaBit4
namespace Go.Proofs.Ytlnjcaicagcinaa
open Go.ChangeShapes Go.WideShapes Go.ChangeAt Go.RowKit

/- a zone's cells, laid anew -/
set_option maxRecDepth 100000 in
theorem laid_zone (w : World) (y : ZR) : (Instr.storeAt ZT (.pointer (some ⟨w.heap.size, 0, none⟩)) y.v).run Try.prog (w.alloc (.cells #[.int .i64 0, .int .i64 0, .int .i64 0, .int .i64 0, .slice none 0 0, .slice none 0 0] ZT)) =
    .ok () (w.alloc (.cells #[.int .i64 y.z.b, .int .i64 y.z.d, .int .i64 y.z.r, .int .i64 y.z.e, y.p.v, y.q.v] ZT)) := by
  have h := store_zone (RowAt.new w ZT zeros6) rfl y
  rw [setRow_alloc] at h
  exact h

set_option maxRecDepth 100000 in
theorem canload_any (zp mb : Nat) (lv : Value) (L : List ZR) (n : Nat) (a k : Int) (w : World) (h : ZAt w zp mb lv L n) :
    Calls Try.prog 71 #[.pointer (some ⟨zp, 0, none⟩), .int .i64 a, .int .i64 k] w fun e w' => e = .returned (.bool (canLoad (L.map ZR.z) a k)) ∧ Below w.heap.size w w' := by
  unfold canLoad
  have hlt := h.head.lt
  have HP := Lib.hid (nearest_any zp mb lv L n a w h)
  have HG := Lib.hid h.good
  clear h
  have H1 := Lib.hid (fun w => stack_any a k w)
  generalize within a k 16 272 = b at *
  cases b
  · rw [Bool.false_or]
    go_enter Try.func71, Try.ntmps71
    go_wp2_with fail
    refine HP.out.mono ?_
    rintro e w1 ⟨⟨y, rfl, hN⟩, hb⟩
    obtain ⟨b0, b1, b2, b3, b4⟩ := hN.edges HG.out
    have HS := Lib.hid (laid_zone w1 y)
    have HN := Lib.hid hN
    have HB := Lib.hid (hb.alloc hb.size (.cells #[.int .i64 y.z.b, .int .i64 y.z.d, .int .i64 y.z.r, .int .i64 y.z.e, y.p.v, y.q.v] ZT))
    clear hN hb
    generalize y.v = yv at *
    generalize y.p.v = pv at *
    generalize y.q.v = qv at *
    go_wp2_with (refine wpList_store_run _ rfl _ _ _ rfl _ _ rfl rfl (by exact HS.out) ?_)
    refine (H1.out _).mono ?_
    rintro e w2 ⟨rfl, rfl⟩
    go_wp2_with fail
    refine (within_any a k y.z.b y.z.r _ b0 (by omega)).mono ?_
    rintro e w2 ⟨rfl, rfl⟩
    go_wp2_with fail
    go_ret
    exact ⟨by rw [← near_load HG.out HN.out]; rfl, HB.out⟩
  · rw [Bool.true_or]
    go_enter Try.func71, Try.ntmps71
    go_wp2_with fail
    refine HP.out.mono ?_
    rintro e w1 ⟨⟨y, rfl, hN⟩, hb⟩
    obtain ⟨b0, b1, b2, b3, b4⟩ := hN.edges HG.out
    have HS := Lib.hid (laid_zone w1 y)
    have HN := Lib.hid hN
    have HB := Lib.hid (hb.alloc hb.size (.cells #[.int .i64 y.z.b, .int .i64 y.z.d, .int .i64 y.z.r, .int .i64 y.z.e, y.p.v, y.q.v] ZT))
    clear hN hb
    generalize y.v = yv at *
    generalize y.p.v = pv at *
    generalize y.q.v = qv at *
    go_wp2_with (refine wpList_store_run _ rfl _ _ _ rfl _ _ rfl rfl (by exact HS.out) ?_)
    refine (H1.out _).mono ?_
    rintro e w2 ⟨rfl, rfl⟩
    go_wp2_with fail
    go_ret
    exact ⟨rfl, HB.out⟩
set_option maxRecDepth 100000 in
theorem canstore_any (zp mb : Nat) (lv : Value) (L : List ZR) (n : Nat) (a k : Int) (w : World) (h : ZAt w zp mb lv L n) :
    Calls Try.prog 72 #[.pointer (some ⟨zp, 0, none⟩), .int .i64 a, .int .i64 k] w fun e w' => e = .returned (.bool (canStore (L.map ZR.z) a k)) ∧ Below w.heap.size w w' := by
  unfold canStore
  have hlt := h.head.lt
  have HP := Lib.hid (nearest_any zp mb lv L n a w h)
  have HG := Lib.hid h.good
  clear h
  have H1 := Lib.hid (fun w => stack_any a k w)
  generalize within a k 16 272 = b at *
  cases b
  · rw [Bool.false_or]
    go_enter Try.func72, Try.ntmps72
    go_wp2_with fail
    refine HP.out.mono ?_
    rintro e w1 ⟨⟨y, rfl, hN⟩, hb⟩
    obtain ⟨b0, b1, b2, b3, b4⟩ := hN.edges HG.out
    have HS := Lib.hid (laid_zone w1 y)
    have HN := Lib.hid hN
    have HB := Lib.hid (hb.alloc hb.size (.cells #[.int .i64 y.z.b, .int .i64 y.z.d, .int .i64 y.z.r, .int .i64 y.z.e, y.p.v, y.q.v] ZT))
    clear hN hb
    generalize y.v = yv at *
    generalize y.p.v = pv at *
    generalize y.q.v = qv at *
    go_wp2_with (refine wpList_store_run _ rfl _ _ _ rfl _ _ rfl rfl (by exact HS.out) ?_)
    refine (H1.out _).mono ?_
    rintro e w2 ⟨rfl, rfl⟩
    go_wp2_with fail
    refine (within_any a k y.z.b y.z.d _ b0 (by omega)).mono ?_
    rintro e w2 ⟨rfl, rfl⟩
    go_wp2_with fail
    go_ret
    exact ⟨by rw [← near_store HG.out HN.out]; rfl, HB.out⟩
  · rw [Bool.true_or]
    go_enter Try.func72, Try.ntmps72
    go_wp2_with fail
    refine HP.out.mono ?_
    rintro e w1 ⟨⟨y, rfl, hN⟩, hb⟩
    obtain ⟨b0, b1, b2, b3, b4⟩ := hN.edges HG.out
    have HS := Lib.hid (laid_zone w1 y)
    have HN := Lib.hid hN
    have HB := Lib.hid (hb.alloc hb.size (.cells #[.int .i64 y.z.b, .int .i64 y.z.d, .int .i64 y.z.r, .int .i64 y.z.e, y.p.v, y.q.v] ZT))
    clear hN hb
    generalize y.v = yv at *
    generalize y.p.v = pv at *
    generalize y.q.v = qv at *
    go_wp2_with (refine wpList_store_run _ rfl _ _ _ rfl _ _ rfl rfl (by exact HS.out) ?_)
    refine (H1.out _).mono ?_
    rintro e w2 ⟨rfl, rfl⟩
    go_wp2_with fail
    go_ret
    exact ⟨rfl, HB.out⟩
set_option maxRecDepth 100000 in
theorem canrun_any (zp mb : Nat) (lv : Value) (L : List ZR) (n : Nat) (a : Int) (w : World) (h : ZAt w zp mb lv L n) :
    Calls Try.prog 47 #[.pointer (some ⟨zp, 0, none⟩), .int .i64 a] w fun e w' => e = .returned (.bool (canRun (L.map ZR.z) a)) ∧ Below w.heap.size w w' := by
  unfold canRun
  have hlt := h.head.lt
  have HP := Lib.hid (nearest_any zp mb lv L n a w h)
  have HG := Lib.hid h.good
  clear h
  have H1 := Lib.hid (fun w => ali_any a w)
  generalize aligned a = b at *
  cases b
  · rw [Bool.false_and]
    go_enter Try.func47, Try.ntmps47
    go_wp2_with fail
    refine HP.out.mono ?_
    rintro e w1 ⟨⟨y, rfl, hN⟩, hb⟩
    obtain ⟨b0, b1, b2, b3, b4⟩ := hN.edges HG.out
    have HS := Lib.hid (laid_zone w1 y)
    have HN := Lib.hid hN
    have HB := Lib.hid (hb.alloc hb.size (.cells #[.int .i64 y.z.b, .int .i64 y.z.d, .int .i64 y.z.r, .int .i64 y.z.e, y.p.v, y.q.v] ZT))
    clear hN hb
    generalize y.v = yv at *
    generalize y.p.v = pv at *
    generalize y.q.v = qv at *
    go_wp2_with (refine wpList_store_run _ rfl _ _ _ rfl _ _ rfl rfl (by exact HS.out) ?_)
    refine (H1.out _).mono ?_
    rintro e w2 ⟨rfl, rfl⟩
    go_wp2_with fail
    go_ret
    exact ⟨rfl, HB.out⟩
  · rw [Bool.true_and]
    go_enter Try.func47, Try.ntmps47
    go_wp2_with fail
    refine HP.out.mono ?_
    rintro e w1 ⟨⟨y, rfl, hN⟩, hb⟩
    obtain ⟨b0, b1, b2, b3, b4⟩ := hN.edges HG.out
    have HS := Lib.hid (laid_zone w1 y)
    have HN := Lib.hid hN
    have HB := Lib.hid (hb.alloc hb.size (.cells #[.int .i64 y.z.b, .int .i64 y.z.d, .int .i64 y.z.r, .int .i64 y.z.e, y.p.v, y.q.v] ZT))
    clear hN hb
    generalize y.v = yv at *
    generalize y.p.v = pv at *
    generalize y.q.v = qv at *
    go_wp2_with (refine wpList_store_run _ rfl _ _ _ rfl _ _ rfl rfl (by exact HS.out) ?_)
    refine (H1.out _).mono ?_
    rintro e w2 ⟨rfl, rfl⟩
    go_wp2_with fail
    refine (within_any a 4 y.z.r y.z.e _ (by omega) (by omega)).mono ?_
    rintro e w2 ⟨rfl, rfl⟩
    go_wp2_with fail
    go_ret
    exact ⟨by rw [← near_run HG.out HN.out]; rfl, HB.out⟩
set_option maxRecDepth 100000 in
theorem ahead_any (zp mb : Nat) (lv : Value) (L : List ZR) (n : Nat) (a : Int) (w : World) (h : ZAt w zp mb lv L n) :
    Calls Try.prog 86 #[.pointer (some ⟨zp, 0, none⟩), .int .i64 a] w fun e w' => e = .returned (.bool (ahead (L.map ZR.z) a)) ∧ Below w.heap.size w w' := by
  unfold ahead
  have hlt := h.head.lt
  have HP := Lib.hid (nearest_any zp mb lv L n a w h)
  have HG := Lib.hid h.good
  clear h
  go_enter Try.func86, Try.ntmps86
  go_wp2_with fail
  refine HP.out.mono ?_
  rintro e w1 ⟨⟨y, rfl, hN⟩, hb⟩
  obtain ⟨b0, b1, b2, b3, b4⟩ := hN.edges HG.out
  have HS := Lib.hid (laid_zone w1 y)
  have HN := Lib.hid hN
  have HB := Lib.hid (hb.alloc hb.size (.cells #[.int .i64 y.z.b, .int .i64 y.z.d, .int .i64 y.z.r, .int .i64 y.z.e, y.p.v, y.q.v] ZT))
  clear hN hb
  generalize y.v = yv at *
  generalize y.p.v = pv at *
  generalize y.q.v = qv at *
  go_wp2_with (refine wpList_store_run _ rfl _ _ _ rfl _ _ rfl rfl (by exact HS.out) ?_)
  refine (within_any a 1 y.z.b y.z.r _ (by omega) (by omega)).mono ?_
  rintro e w2 ⟨rfl, rfl⟩
  go_wp2_with fail
  go_ret
  exact ⟨by rw [← near_load HG.out HN.out]; rfl, HB.out⟩

set_option maxRecDepth 100000 in
theorem zfits_any (zp mb : Nat) (lv : Value) (L : List ZR) (n : Nat) (k v : Int) (w : World) (h : ZAt w zp mb lv L n) :
    Calls Try.prog 73 #[.pointer (some ⟨zp, 0, none⟩), .int .i64 k, .int .i64 v] w fun e w' => e = .returned (.bool (fitsZ (L.map ZR.z) k v)) ∧ Below w.heap.size w w' := by
  unfold fitsZ
  have HA := Lib.hid (ahead_any zp mb lv L n v w h)
  have HR := Lib.hid (canrun_any zp mb lv L n v w h)
  clear h
  by_cases k0 : k = 0
  · subst k0
    rw [if_pos rfl]
    go_enter Try.func73, Try.ntmps73
    go_wp2_with fail
    go_ret
    exact ⟨rfl, Below.refl _ _⟩
  · rw [if_neg k0]
    have g0 : (k == 0) = false := by simpa using k0
    by_cases k1 : k = 1
    · subst k1
      rw [if_pos rfl]
      by_cases v0 : v = 0
      · have g2 : (v == 0) = true := by simpa using v0
        rw [show decide (v = 0) = true by simpa using v0, Bool.true_or]
        clear v0 k0
        go_enter Try.func73, Try.ntmps73
        go_wp2_with fail
        go_ret
        exact ⟨rfl, Below.refl _ _⟩
      · have g2 : (v == 0) = false := by simpa using v0
        rw [show decide (v = 0) = false by simpa using v0, Bool.false_or]
        clear v0 k0
        go_enter Try.func73, Try.ntmps73
        go_wp2_with fail
        refine HA.out.mono ?_
        rintro e w1 ⟨rfl, hb⟩
        go_wp2_with fail
        go_ret
        exact ⟨rfl, hb⟩
    · rw [if_neg k1]
      have g1 : (k == 1) = false := by simpa using k1
      by_cases k2 : k = 2
      · subst k2
        rw [if_pos rfl]
        by_cases v0 : v = 0
        · have g2 : (v == 0) = true := by simpa using v0
          rw [show decide (v = 0) = true by simpa using v0, Bool.true_or]
          clear v0 k0 k1
          go_enter Try.func73, Try.ntmps73
          go_wp2_with fail
          go_ret
          exact ⟨rfl, Below.refl _ _⟩
        · have g2 : (v == 0) = false := by simpa using v0
          rw [show decide (v = 0) = false by simpa using v0, Bool.false_or]
          clear v0 k0 k1
          go_enter Try.func73, Try.ntmps73
          go_wp2_with fail
          refine HR.out.mono ?_
          rintro e w1 ⟨rfl, hb⟩
          go_wp2_with fail
          go_ret
          exact ⟨rfl, hb⟩
      · rw [if_neg k2]
        have g2 : (k == 2) = false := by simpa using k2
        go_enter Try.func73, Try.ntmps73
        go_wp2_with fail
        go_ret
        exact ⟨rfl, Below.refl _ _⟩

set_option maxRecDepth 100000 in
theorem zcell_any (zp mb : Nat) (lv : Value) (L : List ZR) (n : Nat) (a : Int) (w : World) (h : ZAt w zp mb lv L n) (ha : (Lit.int .i64 a).wf = true) :
    Calls Try.prog 74 #[.pointer (some ⟨zp, 0, none⟩), .int .i64 a] w fun e w' => e = .returned (.int .i64 (kindOf (L.map ZR.z) (a - a % 4))) ∧ w = w' := by
  have c1 := h.h1
  have hlt := h.head.lt
  have hb := andnot_4 a ha
  have hm := h.cells.look (wf_down4 a ha)
  generalize kindOf (L.map ZR.z) (a - a % 4) = c at *
  clear h
  generalize a - a % 4 = a' at *
  go_enter Try.func74, Try.ntmps74
  go_wp2_with fail
  go_ret
  exact ⟨rfl, rfl⟩

/- New: no zones -/
set_option maxRecDepth 100000 in
theorem znew_any (w : World) : Calls Try.prog 12 #[] w fun e w' => (∃ zp mb, e = .returned (.pointer (some ⟨zp, 0, none⟩)) ∧ ZAt w' zp mb (.slice none 0 0) [] 0 ∧ w.heap.size ≤ zp ∧ w.heap.size ≤ mb) ∧ Below w.heap.size w w' := by
  have hmm := @run_makeMap Try.prog
  go_enter Try.func12, Try.ntmps12
  go_wp2_with fail
  go_ret
  have k1 : Kept (fun _ => False) (w.alloc (.map #[] 0)) ((w.alloc (.map #[] 0)).alloc (.cells #[.slice none 0 0, .map (some w.heap.size)] 76)) := (Kept.refl _ _).alloc _
  refine ⟨⟨w.heap.size + 1, w.heap.size, by simp, ⟨?_, SRow.nil _ _ _, ((MapIs.new w).keep k1 (fun h => h)).ext (fun _ => rfl), Good.nil, by simp, by simp⟩, by omega, by omega⟩, ((Below.refl _ _).alloc (Nat.le_refl _) _).alloc (by simp) _⟩
  have := RowAt.new (w.alloc (.map #[] 0)) 76 [.slice none 0 0, .map (some w.heap.size)]
  simpa using this
end Go.Proofs.Ytlnjcaicagcinaa
