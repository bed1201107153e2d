/-
  Contracts of slices.IndexFunc, ContainsFunc, BinarySearchFunc over zones, cmp.Compare over ints; below, nearest (layer 6). No conditions beyond those that each theorem names.
-/
import Derived.Test.YtlnjcaicagcinaaZoneB
import Derived.Test.YtlnjcaicagcinaaMapI
import Derived.Shelf.Abstract
import Derived.Deep.RegionHeld3
namespace Go.Proofs.Ytlnjcaicagcinaa
open Go.ChangeShapes Go.WideShapes Go.ChangeAt Go.RowKit

abbrev zcs (L : List ZR) : List Value := ecs (L.map ZR.el)
theorem zcs_at (L : List ZR) (i : Nat) (x : ZR) (h : L[i]? = some x) (j : Nat) (hj : j < 6) : (zcs L)[i * 6 + j]? = x.el.cs[j]? := ecs_at _ i j hj x.el (by simp [h])

/- a zone's six cells, at a place -/
structure Six (w : World) (b o : Nat) (x : ZR) : Prop where
  c0 : w.cell? ⟨b, o, none⟩ = some (.int .i64 x.z.b)
  c1 : w.cell? ⟨b, o + 1, none⟩ = some (.int .i64 x.z.d)
  c2 : w.cell? ⟨b, o + 2, none⟩ = some (.int .i64 x.z.r)
  c3 : w.cell? ⟨b, o + 3, none⟩ = some (.int .i64 x.z.e)
  c4 : w.cell? ⟨b, o + 4, none⟩ = some x.p.v
  c5 : w.cell? ⟨b, o + 5, none⟩ = some x.q.v

theorem six_of {w : World} {b n : Nat} {L : List ZR} (hn : L.length = n) (h : ∀ j, j < n * 6 → w.cell? ⟨b, j, none⟩ = (zcs L)[j]?) {i : Nat} {x : ZR} (hx : L[i]? = some x) : Six w b (i * 6) x := by
  have hi : i < n := by rw [← hn]; exact (List.getElem?_eq_some_iff.1 hx).1
  have key : ∀ j, j < 6 → w.cell? ⟨b, i * 6 + j, none⟩ = x.el.cs[j]? := fun j hj => by rw [h _ (by omega), zcs_at L i x hx j hj]
  exact ⟨key 0 (by omega), key 1 (by omega), key 2 (by omega), key 3 (by omega), key 4 (by omega), key 5 (by omega)⟩
theorem Six.on {w w' : World} {b o : Nat} {x : ZR} (h : Six w b o x) {B : Nat} (hb : Below B w w') (hB : b < B) : Six w' b o x := by
  have key : ∀ j, w'.cell? ⟨b, j, none⟩ = w.cell? ⟨b, j, none⟩ := fun j => hb.cell (p := ⟨b, j, none⟩) hB
  exact ⟨(key _).trans h.c0, (key _).trans h.c1, (key _).trans h.c2, (key _).trans h.c3, (key _).trans h.c4, (key _).trans h.c5⟩

def ZFound (p : ZR → Bool) (L : List ZR) (r : Int) : Prop :=
  (r = -1 ∧ ∀ x ∈ L, p x = false) ∨ ∃ A x B, L = A ++ x :: B ∧ r = (A.length : Nat) ∧ (∀ y ∈ A, p y = false) ∧ p x = true

set_option maxRecDepth 100000 in
set_option maxHeartbeats 1000000 in
theorem zindex_any (u : ZR) (v : Value) (L : List ZR) (w : World) (h : SRow ZT 6 w v L.length (zcs L)) (small : L.length ≤ 100000) :
    Calls Try.prog 37 #[v, .func (.func 24) #[u.v] #[]] w fun e w' => (∃ r, e = .returned (.int .i64 r) ∧ ZFound (fun x => meetsZ u.z x.z) L r) ∧ Below w.heap.size w w' := by
  have eg : ∀ args w, (callFunc 24 args).run Try.prog w = .ok (.enter 24 args) w := fun _ _ => by kernel_rfl
  obtain ⟨a, c, rfl, hc1, hc2⟩ := h.shape
  have HS := Lib.hid h
  have HP := Lib.hid (fun x w => meets_any u x w)
  clear h
  generalize u.v = uv at *
  generalize hn : L.length = n at *
  have HN := Lib.hid hn
  clear hn
  go_enter Try.func37, Try.ntmps37
  go_wp2_with fail
  go_loopw [5, 8] (fun _ i wr => ∃ k : Nat, k ≤ n ∧ i = .int .i64 k ∧ Hid (Below w.heap.size w wr) ∧ Hid (∀ y ∈ L.take k, meetsZ u.z y.z = false)) (fun _ i _ => n - (intOf i).toNat)
  case atStart => exact ⟨0, Nat.zero_le _, rfl, Below.refl _ _, fun y hy => by simp at hy⟩
  case round =>
    obtain ⟨k, hk, rfl, HB, HF⟩ := hrel
    by_cases hlt : k < n
    · obtain ⟨b, cap, hv, hb, hcap1, hcap2, hcs⟩ := HS.out.cell (by omega)
      obtain ⟨x, hx⟩ : ∃ x, L[k]? = some x := ⟨_, List.getElem?_eq_getElem (by rw [HN.out]; exact hlt)⟩
      obtain ⟨c0, c1, c2, c3, c4, c5⟩ := (six_of HN.out hcs hx).on HB.out hb
      cases hv
      have HC : Hid (Calls Try.prog 24 #[uv, .agg #[.int .i64 x.z.b, .int .i64 x.z.d, .int .i64 x.z.r, .int .i64 x.z.e, x.p.v, x.q.v]] wr fun e w' => e = .returned (.bool (meetsZ u.z x.z)) ∧ Below w.heap.size w w') :=
        (HP.out x wr).mono fun _ _ ⟨he, hb'⟩ => ⟨he, below_on HB.out hb' HB.out.size⟩
      have hsplit : L = L.take k ++ x :: L.drop (k + 1) := by
        have hkl : k < L.length := by rw [HN.out]; exact hlt
        have hxe : L[k] = x := (List.getElem?_eq_some_iff.1 hx).2
        rw [← hxe, ← List.drop_eq_getElem_cons hkl, List.take_append_drop]
      have hlen : (L.take k).length = k := by rw [List.length_take, HN.out]; omega
      have HL := Lib.hid hlen
      have HSP := Lib.hid hsplit
      have HX := Lib.hid hx
      clear hsplit hx hlen hcs
      have e3 : (k : Int) < (n : Int) := by omega
      have e4 : (0 : Int) ≤ (k : Int) := by omega
      generalize x.p.v = pv at *
      generalize x.q.v = qv at *
      cases hq : meetsZ u.z x.z with
      | true =>
        rw [hq] at HC
        go_wp2_with (go_at_fn 24; refine HC.out.mono ?_; rintro e w' ⟨rfl, hb'⟩)
        go_ret
        exact ⟨⟨k, rfl, .inr ⟨L.take k, x, L.drop (k + 1), HSP.out, by rw [HL.out], HF.out, hq⟩⟩, hb'⟩
      | false =>
        rw [hq] at HC
        go_wp2_with (go_at_fn 24; refine HC.out.mono ?_; rintro e w' ⟨rfl, hb'⟩)
        go_roundw
        case rel =>
          refine ⟨k + 1, by omega, by go_num, hb', (show Hid _ from fun y hy => ?_)⟩
          rw [List.take_add_one, HX.out] at hy
          rcases List.mem_append.1 hy with hy | hy
          · exact HF.out y hy
          · simp at hy; subst hy; exact hq
        case measure => simp [intOf]; omega
    · obtain rfl : k = n := by omega
      go_wp2_with fail
      go_ret
      exact ⟨⟨-1, rfl, .inl ⟨rfl, by have := HF.out; rw [List.take_of_length_le (by rw [HN.out]; exact Nat.le_refl _)] at this; exact this⟩⟩, HB.out⟩

set_option maxRecDepth 100000 in
theorem zcontains_any (u : ZR) (v : Value) (L : List ZR) (w : World) (h : SRow ZT 6 w v L.length (zcs L)) (small : L.length ≤ 100000) :
    Calls Try.prog 23 #[v, .func (.func 24) #[u.v] #[]] w fun e w' => e = .returned (.bool (L.any fun x => meetsZ u.z x.z)) ∧ Below w.heap.size w w' := by
  have HI := Lib.hid (zindex_any u v L w h small)
  generalize u.v = uv at *
  clear h small
  go_enter Try.func23, Try.ntmps23
  go_wp2_with fail
  refine HI.out.mono ?_
  rintro e w' ⟨⟨r, rfl, hr⟩, hb⟩
  have HR := Lib.hid hr
  clear hr
  go_wp2_with fail
  go_ret
  refine ⟨end_bool ?_, hb⟩
  rcases HR.out with ⟨rfl, h1⟩ | ⟨A, x, B, rfl, rfl, h1, h2⟩
  · symm
    simpa using h1
  · have : (A ++ x :: B).any (fun x => meetsZ u.z x.z) = true := by simp [h2]
    rw [this]
    simp

set_option maxRecDepth 100000 in
theorem nan_any (a : Int) (w : World) : Calls Try.prog 61 #[.int .i64 a] w fun e w' => e = .returned (.bool false) ∧ w = w' := by
  go_enter Try.func61, Try.ntmps61
  go_wp2
  go_ret
  exact ⟨by simp, rfl⟩
/- below, the same, above -/
def cmpI (a b : Int) : Int := if a < b then -1 else if b < a then 1 else 0
set_option maxRecDepth 100000 in
theorem compare_any (a b : Int) (w : World) : Calls Try.prog 43 #[.int .i64 a, .int .i64 b] w fun e w' => e = .returned (.int .i64 (cmpI a b)) ∧ w = w' := by
  have H := Lib.hid nan_any
  unfold cmpI
  by_cases h1 : a < b
  · rw [if_pos h1]
    go_enter Try.func43, Try.ntmps43
    go_wp2_with fail
    refine (H.out _ _).mono ?_
    rintro e w' ⟨rfl, rfl⟩
    go_wp2_with fail
    refine (H.out _ _).mono ?_
    rintro e w' ⟨rfl, rfl⟩
    go_wp2_with fail
    go_ret
    exact ⟨rfl, rfl⟩
  · rw [if_neg h1]
    by_cases h2 : b < a
    · rw [if_pos h2]
      go_enter Try.func43, Try.ntmps43
      go_wp2_with fail
      refine (H.out _ _).mono ?_
      rintro e w' ⟨rfl, rfl⟩
      go_wp2_with fail
      refine (H.out _ _).mono ?_
      rintro e w' ⟨rfl, rfl⟩
      go_wp2_with fail
      go_ret
      exact ⟨rfl, rfl⟩
    · rw [if_neg h2]
      go_enter Try.func43, Try.ntmps43
      go_wp2_with fail
      refine (H.out _ _).mono ?_
      rintro e w' ⟨rfl, rfl⟩
      go_wp2_with fail
      refine (H.out _ _).mono ?_
      rintro e w' ⟨rfl, rfl⟩
      go_wp2_with fail
      go_ret
      exact ⟨rfl, rfl⟩
set_option maxRecDepth 100000 in
theorem cmpf_any (x : ZR) (a : Int) (w : World) : Calls Try.prog 42 #[x.v, .int .i64 a] w fun e w' => e = .returned (.int .i64 (cmpI x.z.b a)) ∧ Below w.heap.size w w' := by
  obtain ⟨⟨b, d, r, e, P, Q⟩, p, q⟩ := x
  show Calls Try.prog 42 #[.agg #[.int .i64 b, .int .i64 d, .int .i64 r, .int .i64 e, p.v, q.v], .int .i64 a] w fun e0 w' => e0 = .returned (.int .i64 (cmpI b a)) ∧ Below w.heap.size w w'
  have H := Lib.hid (fun w => compare_any b a w)
  generalize cmpI b a = c at *
  generalize p.v = pv
  generalize q.v = qv
  go_enter Try.func42, Try.ntmps42
  go_wp2_with fail
  refine (H.out _).mono ?_
  rintro e w' ⟨rfl, rfl⟩
  go_wp2_with fail
  go_ret
  exact ⟨rfl, (Below.refl _ _).alloc (Nat.le_refl _) _⟩
end Go.Proofs.Ytlnjcaicagcinaa
