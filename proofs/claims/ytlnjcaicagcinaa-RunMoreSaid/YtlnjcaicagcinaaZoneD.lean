/-
  Contracts of slices.BinarySearchFunc over zones; below, nearest (layer 6). No conditions beyond those that each theorem names.
-/
import Derived.Test.YtlnjcaicagcinaaZoneC
namespace Go.Proofs.Ytlnjcaicagcinaa
open Go.ChangeShapes Go.WideShapes Go.ChangeAt Go.RowKit

def Rising (L : List ZR) : Prop := ∀ (k m : Nat) (x y : ZR), L[k]? = some x → L[m]? = some y → k < m → x.z.b < y.z.b
theorem Good.rising {L : List ZR} (g : Good (L.map ZR.z)) : Rising L := by
  intro k m x y hx hy hkm
  obtain ⟨hm, hy⟩ := List.getElem?_eq_some_iff.1 hy
  obtain ⟨hk, hx⟩ := List.getElem?_eq_some_iff.1 hx
  have := List.pairwise_iff_getElem.1 g.rise k m (by simpa using hk) (by simpa using hm) hkm
  simp [hx, hy] at this
  have := (blockZ_iff x.z).1 (g.block x.z (by rw [← hx]; exact List.mem_map.2 ⟨_, List.getElem_mem hk, rfl⟩))
  omega
theorem half (i j : Nat) (h : i + j ≤ 1000000) : IntKind.i64.wrap ((i : Int) + (j : Int)) = ((i + j : Nat) : Int) := by
  rw [IntWalk.i64_in _ (by omega)]
  omega

set_option maxRecDepth 100000 in
set_option maxHeartbeats 1000000 in
theorem search_any (a : Int) (v : Value) (L : List ZR) (w : World) (h : SRow ZT 6 w v L.length (zcs L)) (small : L.length ≤ 100000) (hs : Rising L) :
    Calls Try.prog 41 #[v, .int .i64 a, .func (.func 42) #[] #[]] w fun e w' =>
      (∃ (i : Nat) (f : Bool), e = .returned (.tuple #[.int .i64 i, .bool f]) ∧ i ≤ L.length ∧ (∀ k x, L[k]? = some x → k < i → x.z.b < a) ∧ (∀ k x, L[k]? = some x → i ≤ k → a ≤ x.z.b)) ∧ Below w.heap.size w w' := by
  have eg : ∀ args w, (callFunc 42 args).run Try.prog w = .ok (.enter 42 args) w := fun _ _ => by kernel_rfl
  obtain ⟨sa, c, rfl, hc1, hc2⟩ := h.shape
  have HS := Lib.hid h
  have HP := Lib.hid (fun x w => cmpf_any x a w)
  have HR := Lib.hid hs
  clear h hs
  generalize hn : L.length = n at *
  have HN := Lib.hid hn
  clear hn
  go_enter Try.func41, Try.ntmps41
  go_wp2_with fail
  go_loopw [9, 10] (fun i j wr => ∃ k m : Nat, k ≤ m ∧ m ≤ n ∧ i = .int .i64 k ∧ j = .int .i64 m ∧ Hid (Below w.heap.size w wr) ∧ Hid (∀ p x, L[p]? = some x → p < k → x.z.b < a) ∧ Hid (∀ p x, L[p]? = some x → m ≤ p → a ≤ x.z.b)) (fun i j _ => (intOf j).toNat - (intOf i).toNat)
  case atStart => exact ⟨0, n, Nat.zero_le _, Nat.le_refl _, rfl, rfl, Below.refl _ _, fun p x _ hp => by omega, fun p x hx hp => by have := (List.getElem?_eq_some_iff.1 hx).1; have := HN.out; omega⟩
  case round =>
    obtain ⟨k, m, hk, hm, rfl, rfl, HB, HA, HZ⟩ := hrel
    by_cases hlt : k < m
    · have e1 : (k : Int) < (m : Int) := by omega
      obtain ⟨t, ht⟩ : ∃ t : Nat, t = (k + m) / 2 := ⟨_, rfl⟩
      have e2 : ((k : Int) + (m : Int)) / 2 = (t : Int) := by omega
      have htk : k ≤ t ∧ t < m := by omega
      clear ht
      obtain ⟨b, cap, hv, hb, hcap1, hcap2, hcs⟩ := HS.out.cell (by omega)
      obtain ⟨x, hx⟩ : ∃ x, L[t]? = some x := ⟨_, List.getElem?_eq_getElem (by rw [HN.out]; omega)⟩
      obtain ⟨c0, c1, c2, c3, c4, c5⟩ := (six_of HN.out hcs hx).on HB.out hb
      cases hv
      have HC : Hid (Calls Try.prog 42 #[.agg #[.int .i64 x.z.b, .int .i64 x.z.d, .int .i64 x.z.r, .int .i64 x.z.e, x.p.v, x.q.v], .int .i64 a] wr fun e w' => e = .returned (.int .i64 (cmpI x.z.b a)) ∧ Below w.heap.size w w') :=
        (HP.out x wr).mono fun _ _ ⟨he, hb'⟩ => ⟨he, below_on HB.out hb' HB.out.size⟩
      have HX := Lib.hid hx
      clear hx hcs
      have e3 : (t : Int) < (n : Int) := by omega
      have e4 : (0 : Int) ≤ (t : Int) := by omega
      generalize x.p.v = pv at *
      generalize x.q.v = qv at *
      by_cases hq : x.z.b < a
      · rw [show cmpI x.z.b a = -1 by simp [cmpI, hq]] at HC
        go_wp2_with (go_at_fn 42; refine HC.out.mono ?_; rintro e w' ⟨rfl, hb'⟩)
        go_roundw
        case rel =>
          refine ⟨t + 1, m, by omega, hm, by go_num, rfl, hb', (show Hid _ from fun p y hy hp => ?_), HZ⟩
          rcases Nat.lt_or_ge p t with h1 | h1
          · exact Int.lt_trans (HR.out p t y x hy HX.out h1) hq
          · obtain rfl : p = t := by omega
            have := HX.out
            rw [hy] at this
            cases this
            exact hq
        case measure => simp [intOf]; omega
      · have hge : (cmpI x.z.b a < 0) = False := by
          simp only [cmpI, hq, if_false, eq_iff_iff, iff_false]
          split <;> omega
        generalize cmpI x.z.b a = cc at *
        have hge' : ¬ cc < 0 := fun h => by rw [hge] at h; exact h
        clear hge
        go_wp2_with (go_at_fn 42; refine HC.out.mono ?_; rintro e w' ⟨rfl, hb'⟩)
        go_roundw
        case rel =>
          refine ⟨k, t, by omega, by omega, rfl, rfl, hb', HA, (show Hid _ from fun p y hy hp => ?_)⟩
          rcases Nat.lt_or_ge t p with h1 | h1
          · have := HR.out t p x y HX.out hy h1
            omega
          · obtain rfl : p = t := by omega
            have := HX.out
            rw [hy] at this
            cases this
            omega
        case measure => simp [intOf]; omega
    · obtain rfl : k = m := by omega
      by_cases hkn : k < n
      · have e1 : (k : Int) < (n : Int) := by omega
        have e4 : (0 : Int) ≤ (k : Int) := by omega
        obtain ⟨b, cap, hv, hb, hcap1, hcap2, hcs⟩ := HS.out.cell (by omega)
        obtain ⟨x, hx⟩ : ∃ x, L[k]? = some x := ⟨_, List.getElem?_eq_getElem (by rw [HN.out]; omega)⟩
        obtain ⟨c0, c1, c2, c3, c4, c5⟩ := (six_of HN.out hcs hx).on HB.out hb
        cases hv
        have HC : Hid (Calls Try.prog 42 #[.agg #[.int .i64 x.z.b, .int .i64 x.z.d, .int .i64 x.z.r, .int .i64 x.z.e, x.p.v, x.q.v], .int .i64 a] wr fun e w' => e = .returned (.int .i64 (cmpI x.z.b a)) ∧ Below w.heap.size w w') :=
          (HP.out x wr).mono fun _ _ ⟨he, hb'⟩ => ⟨he, below_on HB.out hb' HB.out.size⟩
        clear hx hcs
        generalize x.p.v = pv at *
        generalize x.q.v = qv at *
        generalize cmpI x.z.b a = cc at *
        go_wp2_with (go_at_fn 42; refine HC.out.mono ?_; rintro e w' ⟨rfl, hb'⟩)
        go_ret2
        exact ⟨⟨k, _, rfl, hm, HA.out, HZ.out⟩, hb'⟩
      · have e1 : ¬ (k : Int) < (n : Int) := by omega
        go_wp2_with fail
        go_ret2
        exact ⟨⟨k, .inl rfl, hm, HA.out, HZ.out⟩, HB.out⟩

/- a slice of ints that was cloned: nil, or in a block of ints of its own -/
def Sealed (w : World) (s : Sl) : Prop := s.n = 0 ∨ ∃ b cs, s.a = some ⟨b, 0, none⟩ ∧ RowAt w b 3 cs
structure Stored (w : World) (x : ZR) : Prop where
  ps : IntsAt w x.p x.z.P
  qs : IntsAt w x.q x.z.Q
  sp : Sealed w x.p
  sq : Sealed w x.q
/- all zones, as the program holds them -/
structure ZAt (w : World) (zp mb : Nat) (lv : Value) (L : List ZR) (n : Nat) : Prop where
  head : RowAt w zp 76 [lv, .map (some mb)]
  list : SRow ZT 6 w lv L.length (zcs L)
  cells : MapIs w mb n (kindOf (L.map ZR.z))
  good : Good (L.map ZR.z)
  read : ∀ x ∈ L, Stored w x
  small : L.length ≤ 100

theorem RowAt.ne_type {w : World} {a b : Nat} {t u : TypeId} {cs ds : List Value} (h : RowAt w a t cs) (g : RowAt w b u ds) (ne : t ≠ u) : a ≠ b := by
  rintro rfl
  unfold RowAt at h g
  rw [h] at g
  simp at g
  exact ne g.2
theorem RowAt.ne_map {w : World} {a mb n : Nat} {t : TypeId} {cs : List Value} {f : Int → Int} (h : RowAt w a t cs) (g : MapIs w mb n f) : a ≠ mb := by
  rintro rfl
  obtain ⟨es, c, hb⟩ := g.obj
  unfold RowAt at h
  rw [h] at hb
  simp at hb
theorem SRow.own_row {t : TypeId} {k : Nat} {w : World} {v : Value} {n : Nat} {cs : List Value} (h : SRow t k w v n cs) (j : Nat) (hj : own v j) : ∃ ds, RowAt w j t ds := by
  rcases h.is with ⟨rfl, _⟩ | ⟨b, cap, rest, rfl, hr, _⟩
  · exact hj.elim
  · simp [own] at hj
    subst hj
    exact ⟨_, hr⟩

theorem Stored.keep {S : Nat → Prop} {w w' : World} {x : ZR} (h : Stored w x) (k : Kept S w w') (hS : ∀ b cs, RowAt w b 3 cs → ¬ S b) : Stored w' x := by
  have key : ∀ (s : Sl) xs, IntsAt w s xs → Sealed w s → IntsAt w' s xs ∧ Sealed w' s := by
    intro s xs hi hs
    rcases hs with h0 | ⟨b, cs, ha, hr⟩
    · exact ⟨⟨hi.len, hi.cap, hi.nil0, .inl h0, hi.fit⟩, .inl h0⟩
    · refine ⟨⟨hi.len, hi.cap, hi.nil0, ?_, hi.fit⟩, .inr ⟨b, cs, ha, hr.keep k (hS b cs hr)⟩⟩
      rcases hi.at_ with h0 | ⟨b', off, e, hl, hc⟩
      · exact .inl h0
      · rw [ha] at e
        cases e
        exact .inr ⟨b, 0, ha, Nat.lt_of_lt_of_le hl k.more, fun j y hy => (k.cell (p := ⟨b, 0 + j, none⟩) hl (hS b cs hr)).trans (hc j y hy)⟩
  exact ⟨(key _ _ h.ps h.sp).1, (key _ _ h.qs h.sq).1, (key _ _ h.ps h.sp).2, (key _ _ h.qs h.sq).2⟩
theorem ZAt.on {w w' : World} {zp mb : Nat} {lv : Value} {L : List ZR} {n : Nat} (h : ZAt w zp mb lv L n) (hb : Below w.heap.size w w') : ZAt w' zp mb lv L n :=
  have k : Kept (fun _ => False) w w' := .of_below hb
  ⟨h.head.keep k (fun h => h), h.list.keep k (fun _ _ h => h), h.cells.keep k (fun h => h), h.good, fun x hx => (h.read x hx).keep k fun _ _ _ h => h, h.small⟩
theorem ZAt.h0 {w : World} {zp mb : Nat} {lv : Value} {L : List ZR} {n : Nat} (h : ZAt w zp mb lv L n) : w.cell? ⟨zp, 0, none⟩ = some lv := by rw [h.head.cell]; rfl
theorem ZAt.h1 {w : World} {zp mb : Nat} {lv : Value} {L : List ZR} {n : Nat} (h : ZAt w zp mb lv L n) : w.cell? ⟨zp, 1, none⟩ = some (.map (some mb)) := by rw [h.head.cell]; rfl

set_option maxRecDepth 100000 in
theorem zbelow_any (zp mb : Nat) (lv : Value) (L : List ZR) (n : Nat) (a : Int) (w : World) (h : ZAt w zp mb lv L n) :
    Calls Try.prog 28 #[.pointer (some ⟨zp, 0, none⟩), .int .i64 a] w fun e w' =>
      (∃ i : Nat, e = .returned (.int .i64 i) ∧ i ≤ L.length ∧ (∀ k x, L[k]? = some x → k < i → x.z.b < a) ∧ (∀ k x, L[k]? = some x → i ≤ k → a ≤ x.z.b)) ∧ Below w.heap.size w w' := by
  have c0 := h.h0
  have hlt := h.head.lt
  have HP := Lib.hid (search_any a lv L w h.list (by have := h.small; omega) h.good.rising)
  obtain ⟨sa, c, rfl, hc1, hc2⟩ := h.list.shape
  clear h
  go_enter Try.func28, Try.ntmps28
  go_wp2_with fail
  refine HP.out.mono ?_
  rintro e w' ⟨⟨i, f, rfl, hr⟩, hb⟩
  have HR := Lib.hid hr
  clear hr
  go_wp2_with fail
  go_ret
  exact ⟨⟨i, rfl, HR.out⟩, hb⟩
theorem split_of {L : List ZR} {i : Nat} {a : Int} (hi : i ≤ L.length) (h1 : ∀ k x, L[k]? = some x → k < i → x.z.b < a) (h2 : ∀ k x, L[k]? = some x → i ≤ k → a ≤ x.z.b) : Split (L.map ZR.z) ((L.take i).map ZR.z) ((L.drop i).map ZR.z) a := by
  refine ⟨by rw [← List.map_append, List.take_append_drop], fun y hy => ?_, fun y hy => ?_⟩
  · obtain ⟨x, hx, rfl⟩ := List.mem_map.1 hy
    obtain ⟨k, hk⟩ := List.getElem?_of_mem hx
    have hkl : k < i := by have := (List.getElem?_eq_some_iff.1 hk).1; rw [List.length_take] at this; omega
    rw [List.getElem?_take_of_lt hkl] at hk
    exact h1 k x hk hkl
  · obtain ⟨x, hx, rfl⟩ := List.mem_map.1 hy
    obtain ⟨k, hk⟩ := List.getElem?_of_mem hx
    rw [List.getElem?_drop] at hk
    exact h2 _ x hk (by omega)
end Go.Proofs.Ytlnjcaicagcinaa
