/-
  Contracts of nearest, CanLoad, CanStore, CanRun, isAheadOfCode, Fits, Cell, New (layer 6). No conditions beyond those that each theorem names.
-/
import Derived.Test.YtlnjcaicagcinaaZoneD
import Derived.Test.YtlnjcaicagcinaaStore
namespace Go.Proofs.Ytlnjcaicagcinaa
open Go.ChangeShapes Go.WideShapes Go.ChangeAt Go.RowKit

def zeros6 : List Value := [.int .i64 0, .int .i64 0, .int .i64 0, .int .i64 0, .slice none 0 0, .slice none 0 0]
def ZR0 : ZR := ⟨ZV0, ⟨none, 0, 0⟩, ⟨none, 0, 0⟩⟩

theorem store_zone {w : World} {b : Nat} {t : TypeId} {cs : List Value} (h : RowAt w b t cs) (hl : cs.length = 6) (x : ZR) :
    (Instr.storeAt ZT (.pointer (some ⟨b, 0, none⟩)) (.agg #[.int .i64 x.z.b, .int .i64 x.z.d, .int .i64 x.z.r, .int .i64 x.z.e, x.p.v, x.q.v])).run Try.prog w = .ok () (w.setRow b x.el.cs.toArray) := by
  have := store_el (P := Try.prog) h 0 x.el ZT sizeZ x.v rfl (by omega)
  rw [splice_all _ _ (by rw [hl, x.el.len])] at this
  exact this
theorem cells_zone {w : World} {b : Nat} {t : TypeId} {x : ZR} (h : RowAt w b t x.el.cs) : Six w b 0 x := ⟨h.cell 0, h.cell 1, h.cell 2, h.cell 3, h.cell 4, h.cell 5⟩

theorem near_hit {L : List ZR} {i : Nat} {a : Int} {x : ZR} (g : Good (L.map ZR.z)) (hs : Split (L.map ZR.z) ((L.take i).map ZR.z) ((L.drop i).map ZR.z) a) (hx : L[i]? = some x) (hq : x.z.b = a) : Near (L.map ZR.z) a x.z := by
  obtain ⟨hi, rfl⟩ := List.getElem?_eq_some_iff.1 hx
  rw [List.drop_eq_getElem_cons hi, List.map_cons] at hs
  exact near_at g hs hq
theorem head_of {L : List ZR} {i : Nat} {a : Int} (hB : ∀ x, L[i]? = some x → x.z.b ≠ a) : ∀ y ∈ ((L.drop i).map ZR.z).head?, y.b ≠ a := by
  intro y hy
  rw [List.head?_map, List.head?_drop] at hy
  cases hx : L[i]? with
  | none => simp [hx] at hy
  | some x =>
    simp [hx] at hy
    subst hy
    exact hB x hx
theorem near_zero {L : List ZR} {i : Nat} {a : Int} (g : Good (L.map ZR.z)) (hs : Split (L.map ZR.z) ((L.take i).map ZR.z) ((L.drop i).map ZR.z) a) (hi : i = 0) (hB : ∀ x, L[i]? = some x → x.z.b ≠ a) : Near (L.map ZR.z) a ZR0.z := by
  subst hi
  exact near_none g (by simpa using hs) (head_of (i := 0) hB)
set_option maxRecDepth 100000 in
theorem near_prev {L : List ZR} {i : Nat} {a : Int} {y : ZR} (g : Good (L.map ZR.z)) (hs : Split (L.map ZR.z) ((L.take i).map ZR.z) ((L.drop i).map ZR.z) a) (hi : 0 < i) (hy : L[i - 1]? = some y) (hB : ∀ x, L[i]? = some x → x.z.b ≠ a) : Near (L.map ZR.z) a y.z := by
  have e : (L.take i).map ZR.z = (L.take (i - 1)).map ZR.z ++ [y.z] := by
    have := List.take_add_one (l := L) (i := i - 1)
    rw [hy, show i - 1 + 1 = i by omega] at this
    rw [this]
    simp
  have hh := head_of hB
  rw [e] at hs
  exact near_last g hs hh

set_option maxRecDepth 100000 in
set_option maxHeartbeats 1000000 in
theorem nearest_any (zp mb : Nat) (lv : Value) (L : List ZR) (n : Nat) (a : Int) (w : World) (h : ZAt w zp mb lv L n) :
    Calls Try.prog 63 #[.pointer (some ⟨zp, 0, none⟩), .int .i64 a] w fun e w' => (∃ y : ZR, e = .returned y.v ∧ Near (L.map ZR.z) a y.z) ∧ Below w.heap.size w w' := by
  have k0 : Below w.heap.size w (w.alloc (.cells zeros6.toArray ZT)) := (Below.refl _ _).alloc (Nat.le_refl _) _
  have h1 := h.on k0
  have r0 : RowAt (w.alloc (.cells zeros6.toArray ZT)) w.heap.size ZT zeros6 := RowAt.new w ZT zeros6
  have HP := Lib.hid (zbelow_any zp mb lv L n a _ h1)
  have H1 := Lib.hid h1
  have R0 := Lib.hid r0
  have K0 := Lib.hid k0
  have hG := Lib.hid h.good
  obtain ⟨sa, c, rfl, hc1, hc2⟩ := h.list.shape
  have hN : Hid (∀ W, ZAt W zp mb (.slice sa L.length c) L n → ∀ i x, L[i]? = some x → ∃ b, sa = some ⟨b, 0, none⟩ ∧ Six W b (i * 6) x ∧ b < W.heap.size) := fun W hW i x hx => by
    have hil := (List.getElem?_eq_some_iff.1 hx).1
    obtain ⟨b, cap, hv, hb, hcap1, hcap2, hcs⟩ := hW.list.cell (by omega)
    cases hv
    exact ⟨b, rfl, six_of rfl hcs hx, hb⟩
  have hsm := h.small
  clear h h1 r0 k0
  generalize hn : L.length = N at *
  have HN := Lib.hid hn
  go_enter Try.func63, Try.ntmps63
  go_wp2_with fail
  refine HP.out.mono ?_
  rintro e w1 ⟨⟨i, rfl, hi, q1, q2⟩, hb⟩
  have h2 := H1.out.on hb
  have r1 := R0.out.keep (S := fun _ => False) (.of_below hb) (fun h => h)
  have c0 := h2.h0
  have HE : Hid (∀ x : ZR, ∀ W, W = w1.setRow w.heap.size x.el.cs.toArray → Six W w.heap.size 0 x ∧ Below w.heap.size w W) := fun x W hW => by
    subst hW
    exact ⟨cells_zone (r1.set _), below_setRow (K0.out.trans (hb.mono (by simp))) (Nat.le_refl _) _⟩
  have HST : Hid (∀ x : ZR, (Instr.storeAt ZT (.pointer (some ⟨w.heap.size, 0, none⟩)) (.agg #[.int .i64 x.z.b, .int .i64 x.z.d, .int .i64 x.z.r, .int .i64 x.z.e, x.p.v, x.q.v])).run Try.prog w1 = .ok () (w1.setRow w.heap.size x.el.cs.toArray)) := fun x => store_zone r1 rfl x
  have HS := Lib.hid (split_of (by omega) q1 q2)
  have H2 := Lib.hid h2
  clear q1 q2 h2 r1 hb
  by_cases hlt2 : i < N
  · obtain ⟨x, hx⟩ : ∃ x, L[i]? = some x := ⟨_, List.getElem?_eq_getElem (by omega)⟩
    obtain ⟨b, rfl, ⟨s0, s1, s2, s3, s4, s5⟩, hbl⟩ := hN.out w1 H2.out i x hx
    have HX := Lib.hid hx
    have e1 : (i : Int) < (N : Int) := by omega
    have e2 : (0 : Int) ≤ (i : Int) := by omega
    by_cases hq : x.z.b = a
    · have g1 : (x.z.b == a) = true := by simpa using hq
      have HS1 := Lib.hid (HST.out x)
      have HE1 := Lib.hid (HE.out x _ rfl)
      have HQ := Lib.hid (near_hit hG.out HS.out hx hq)
      clear hx hq
      go_wp2_with (refine wpList_store_run _ rfl _ _ _ rfl _ _ rfl rfl (by exact HS1.out) ?_)
      obtain ⟨⟨t0, t1, t2, t3, t4, t5⟩, hbb⟩ := HE1.out
      refine bodyPost_ret (v := x.v) (by simp [results, Try.results63, go_sem, t0, t1, t2, t3, t4, t5, ZR.v]) rfl ⟨⟨x, rfl, HQ.out⟩, hbb⟩
    · have g1 : (x.z.b == a) = false := by simpa using hq
      have hB : ∀ y, L[i]? = some y → y.z.b ≠ a := fun y hy => by rw [hx] at hy; cases hy; exact hq
      rcases Nat.eq_zero_or_pos i with hi0 | hi0
      · have HQ := Lib.hid (near_zero hG.out HS.out hi0 hB)
        have HS1 : Hid ((Instr.storeAt ZT (.pointer (some ⟨w.heap.size, 0, none⟩)) (.agg #[.int .i64 0, .int .i64 0, .int .i64 0, .int .i64 0, .slice none 0 0, .slice none 0 0])).run Try.prog w1 = .ok () (w1.setRow w.heap.size zeros6.toArray)) := HST.out ZR0
        have HE1 : Hid (Six (w1.setRow w.heap.size zeros6.toArray) w.heap.size 0 ZR0 ∧ Below w.heap.size w (w1.setRow w.heap.size zeros6.toArray)) := HE.out ZR0 _ rfl
        try clear hx hq
        clear hB
        have g2 : ((i : Int) == 0) = true := by simp; omega
        clear hi0
        go_wp2_with (refine wpList_store_run _ rfl _ _ _ rfl _ _ rfl rfl (by exact HS1.out) ?_)
        obtain ⟨⟨t0, t1, t2, t3, t4, t5⟩, hbb⟩ := HE1.out
        refine bodyPost_ret (v := ZR0.v) (by simp [results, Try.results63, go_sem, t0, t1, t2, t3, t4, t5, ZR.v]) rfl ⟨⟨ZR0, rfl, HQ.out⟩, hbb⟩
      · obtain ⟨y, hy⟩ : ∃ y, L[i - 1]? = some y := ⟨_, List.getElem?_eq_getElem (by omega)⟩
        have HQ := Lib.hid (near_prev hG.out HS.out hi0 hy hB)
        obtain ⟨b', hb', ⟨u0, u1, u2, u3, u4, u5⟩, hbl'⟩ := hN.out w1 H2.out (i - 1) y hy
        cases hb'
        have HS1 := Lib.hid (HST.out y)
        have HE1 := Lib.hid (HE.out y _ rfl)
        try clear hx hq
        clear hB hy
        have g2 : ((i : Int) == 0) = false := by simp; omega
        have g3 : IntKind.i64.wrap ((i : Int) - 1) = ((i - 1 : Nat) : Int) := by rw [IntWalk.i64_in _ (by omega)]; omega
        have g7 : (i : Int) - 1 = ((i - 1 : Nat) : Int) := by omega
        have g4 : ((i - 1 : Nat) : Int) < (N : Int) := by omega
        have g5 : (0 : Int) ≤ ((i - 1 : Nat) : Int) := by omega
        have g6 : i - 1 < N := by omega
        obtain ⟨i', hi'⟩ : ∃ i', i' = i - 1 := ⟨_, rfl⟩
        rw [← hi'] at u0 u1 u2 u3 u4 u5 g3 g4 g5 g6 g7
        clear hi'
        go_wp2_with (refine wpList_store_run _ rfl _ _ _ rfl _ _ rfl rfl (by exact HS1.out) ?_)
        obtain ⟨⟨t0, t1, t2, t3, t4, t5⟩, hbb⟩ := HE1.out
        refine bodyPost_ret (v := y.v) (by simp [results, Try.results63, go_sem, t0, t1, t2, t3, t4, t5, ZR.v]) rfl ⟨⟨y, rfl, HQ.out⟩, hbb⟩
  · have e1 : ¬ (i : Int) < (N : Int) := by omega
    have hB : ∀ y, L[i]? = some y → y.z.b ≠ a := fun y hy => by have := (List.getElem?_eq_some_iff.1 hy).1; omega
    rcases Nat.eq_zero_or_pos i with hi0 | hi0
    · have HQ := Lib.hid (near_zero hG.out HS.out hi0 hB)
      have HS1 : Hid ((Instr.storeAt ZT (.pointer (some ⟨w.heap.size, 0, none⟩)) (.agg #[.int .i64 0, .int .i64 0, .int .i64 0, .int .i64 0, .slice none 0 0, .slice none 0 0])).run Try.prog w1 = .ok () (w1.setRow w.heap.size zeros6.toArray)) := HST.out ZR0
      have HE1 : Hid (Six (w1.setRow w.heap.size zeros6.toArray) w.heap.size 0 ZR0 ∧ Below w.heap.size w (w1.setRow w.heap.size zeros6.toArray)) := HE.out ZR0 _ rfl
      try clear hx hq
      clear hB
      have g2 : ((i : Int) == 0) = true := by simp; omega
      clear hi0
      go_wp2_with (refine wpList_store_run _ rfl _ _ _ rfl _ _ rfl rfl (by exact HS1.out) ?_)
      obtain ⟨⟨t0, t1, t2, t3, t4, t5⟩, hbb⟩ := HE1.out
      refine bodyPost_ret (v := ZR0.v) (by simp [results, Try.results63, go_sem, t0, t1, t2, t3, t4, t5, ZR.v]) rfl ⟨⟨ZR0, rfl, HQ.out⟩, hbb⟩
    · obtain ⟨y, hy⟩ : ∃ y, L[i - 1]? = some y := ⟨_, List.getElem?_eq_getElem (by omega)⟩
      have HQ := Lib.hid (near_prev hG.out HS.out hi0 hy hB)
      obtain ⟨b', hb', ⟨u0, u1, u2, u3, u4, u5⟩, hbl'⟩ := hN.out w1 H2.out (i - 1) y hy
      cases hb'
      have HS1 := Lib.hid (HST.out y)
      have HE1 := Lib.hid (HE.out y _ rfl)
      try clear hx hq
      clear hB hy
      have g2 : ((i : Int) == 0) = false := by simp; omega
      have g3 : IntKind.i64.wrap ((i : Int) - 1) = ((i - 1 : Nat) : Int) := by rw [IntWalk.i64_in _ (by omega)]; omega
      have g7 : (i : Int) - 1 = ((i - 1 : Nat) : Int) := by omega
      have g4 : ((i - 1 : Nat) : Int) < (N : Int) := by omega
      have g5 : (0 : Int) ≤ ((i - 1 : Nat) : Int) := by omega
      have g6 : i - 1 < N := by omega
      obtain ⟨i', hi'⟩ : ∃ i', i' = i - 1 := ⟨_, rfl⟩
      rw [← hi'] at u0 u1 u2 u3 u4 u5 g3 g4 g5 g6 g7
      clear hi'
      go_wp2_with (refine wpList_store_run _ rfl _ _ _ rfl _ _ rfl rfl (by exact HS1.out) ?_)
      obtain ⟨⟨t0, t1, t2, t3, t4, t5⟩, hbb⟩ := HE1.out
      refine bodyPost_ret (v := y.v) (by simp [results, Try.results63, go_sem, t0, t1, t2, t3, t4, t5, ZR.v]) rfl ⟨⟨y, rfl, HQ.out⟩, hbb⟩
end Go.Proofs.Ytlnjcaicagcinaa
