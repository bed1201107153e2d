/-
  Layer 18's deeds, as they came in; the law's at, has, refs. Conditions: lists of at most 1000.
-/
import Derived.Test.YtiofplejpgahdaaTbH
namespace Go.Proofs.Ytiofplejpgahdaa
open Go.ChangeShapes Go.WideShapes Go.ChangeAt Go.RowKit

abbrev DdT : TypeId := 28
abbrev DdS : TypeId := 22
structure DdX where
  gone : Bool
  name : ByteArray
  iv : Value
  base : Int
  imps : List ByteArray
def ddRow (x : DdX) : List Value := [.bool x.gone, .string x.name, x.iv, .int .i64 x.base]
theorem ddRow_len (x : DdX) : (ddRow x).length = 4 := rfl
theorem info_dd : (Try.prog.info? DdT).map (fun i => (i.zero, i.size, i.bytes)) = some (some (.agg #[.bool false, .string ⟨#[]⟩, .slice none 0 0, .int .i64 0]), 4, 56) := by kernel_rfl
theorem size_dd : (Try.prog.info? DdT).map (·.size) = some 4 := by kernel_rfl
theorem ones_dd {x : DdX} (h : x.iv.oneCell' = true) : Ones (ddRow x) := by
  intro u hu
  simp only [ddRow, List.mem_cons, List.not_mem_nil, or_false] at hu
  rcases hu with rfl | rfl | rfl | rfl
  · rfl
  · rfl
  · exact h
  · rfl
structure DeedsT (w : World) (v : Value) (L : List DdX) : Prop where
  els : ElsAt 4 ddRow w v L
  imps : ∀ x ∈ L, ElsAt 1 sRow w x.iv x.imps
theorem DeedsT.on {w w' : World} {v : Value} {L : List DdX} (h : DeedsT w v L) (hb : Below w.heap.size w w') : DeedsT w' v L := ⟨h.els.on hb, fun x hx => (h.imps x hx).on hb⟩
abbrev dnm (L : List DdX) : List ByteArray := L.map DdX.name
abbrev dim (L : List DdX) : List (List ByteArray) := L.map DdX.imps

set_option maxRecDepth 100000 in
set_option maxHeartbeats 1000000 in
theorem at18_any (v : Value) (L : List DdX) (s : ByteArray) (w : World) (g : ElsAt 4 ddRow w v L) (small : L.length ≤ 1000) :
    Calls Try.prog 7 #[v, .string s] w fun e w' => e = .returned (.int .i64 (posV (dnm L) s)) ∧ w = w' := by
  obtain ⟨a, c, rfl, hc1, hc2, _⟩ := g.shape
  have HG := Lib.hid g
  clear g
  generalize hn : L.length = n at *
  have HN := Lib.hid hn
  clear hn
  go_enter Try.func7, Try.ntmps7
  go_wp2_with fail
  go_loopw [5] (fun i wr => ∃ k : Nat, k ≤ n ∧ i = .int .i64 k ∧ w = wr ∧ Hid (s ∉ (dnm L).take k)) (fun i _ => n - (intOf i).toNat)
  case atStart => exact ⟨0, Nat.zero_le _, rfl, rfl, fun hm => by simp at hm⟩
  case round =>
    obtain ⟨k, hk, rfl, rfl, HF⟩ := hrel
    by_cases hlt : k < n
    · obtain ⟨x, hx⟩ : ∃ x, L[k]? = some x := ⟨_, List.getElem?_eq_getElem (by rw [HN.out]; exact hlt)⟩
      obtain ⟨b, off, cap, hv, hb, hc⟩ := HG.out.cell hx
      have c1 : w.cell? ⟨b, off + (k * 4 + 1), none⟩ = some (.string x.name) := hc 1 (by omega)
      rw [show off + (k * 4 + 1) = off + k * 4 + 1 by omega] at c1
      rw [HN.out] at hv
      cases hv
      have HX : Hid ((dnm L)[k]? = some x.name) := by show (dnm L)[k]? = _; rw [List.getElem?_map, hx]; rfl
      clear hx hc
      have e3 : (k : Int) < (n : Int) := by omega
      have e4 : (0 : Int) ≤ (k : Int) := by omega
      by_cases hq : x.name = s
      · as_aux_lemma =>
        have RES : Hid ((k : Int) = posV (dnm L) s) := (posV_at (by rw [← hq]; exact HX.out) HF.out).symm
        have hb1 : (x.name.toList == s.toList) = true := by rw [hq]; simp
        have hb2 : x.name.toList = s.toList := by rw [hq]
        clear hq HX
        generalize x.name = nm at *
        go_wp2_with fail
        go_ret
        exact ⟨end_int RES.out, rfl⟩
      · as_aux_lemma =>
        have hb1 := str_ne hq
        have hb2 := str_nq hq
        have HF2 := Lib.hid (not_next HF.out HX.out hq)
        clear hq HX HF
        go_wp2_with fail
        go_roundw
        case rel => exact ⟨k + 1, by omega, by go_num, by trivial, HF2⟩
        case measure => simp [intOf]; omega
    · as_aux_lemma =>
      obtain rfl : k = n := by omega
      have RES : Hid ((-1 : Int) = posV (dnm L) s) := (posV_none (not_all HF.out (by rw [List.length_map, HN.out]; exact Nat.le_refl _))).symm
      go_wp2_with fail
      go_ret
      exact ⟨end_int RES.out, rfl⟩
set_option maxRecDepth 100000 in
set_option maxHeartbeats 1000000 in
theorem lhas_any (u : Value) (I : List ByteArray) (s : ByteArray) (w : World) (g : ElsAt 1 sRow w u I) (small : I.length ≤ 1000) :
    Calls Try.prog 16 #[u, .string s] w fun e w' => e = .returned (.bool (decide (0 ≤ posV I s))) ∧ w = w' := by
  obtain ⟨a, c, rfl, hc1, hc2, _⟩ := g.shape
  have HG := Lib.hid g
  clear g
  generalize hn : I.length = n at *
  have HN := Lib.hid hn
  clear hn
  go_enter Try.func16, Try.ntmps16
  go_wp2_with fail
  go_loopw [5] (fun i wr => ∃ k : Nat, k ≤ n ∧ i = .int .i64 k ∧ w = wr ∧ Hid (s ∉ I.take k)) (fun i _ => n - (intOf i).toNat)
  case atStart => exact ⟨0, Nat.zero_le _, rfl, rfl, fun hm => by simp at hm⟩
  case round =>
    obtain ⟨k, hk, rfl, rfl, HF⟩ := hrel
    by_cases hlt : k < n
    · obtain ⟨x, hx⟩ : ∃ x, I[k]? = some x := ⟨_, List.getElem?_eq_getElem (by rw [HN.out]; exact hlt)⟩
      obtain ⟨b, off, cap, hv, hb, c0⟩ := HG.out.cell1 hx (c0 := .string x) rfl
      rw [HN.out] at hv
      cases hv
      have HX := Lib.hid hx
      clear hx
      have e3 : (k : Int) < (n : Int) := by omega
      have e4 : (0 : Int) ≤ (k : Int) := by omega
      by_cases hq : x = s
      · as_aux_lemma =>
        have RES : Hid (true = decide (0 ≤ posV I s)) := (has_yes (by rw [← hq]; exact List.mem_of_getElem? HX.out)).symm
        have hb1 : (x.toList == s.toList) = true := by rw [hq]; simp
        have hb2 : x.toList = s.toList := by rw [hq]
        clear hq HX
        go_wp2_with fail
        go_ret
        exact ⟨end_bool RES.out, rfl⟩
      · as_aux_lemma =>
        have hb1 := str_ne hq
        have hb2 := str_nq hq
        have HF2 := Lib.hid (not_next HF.out HX.out hq)
        clear hq HX HF
        go_wp2_with fail
        go_roundw
        case rel => exact ⟨k + 1, by omega, by go_num, by trivial, HF2⟩
        case measure => simp [intOf]; omega
    · as_aux_lemma =>
      obtain rfl : k = n := by omega
      have RES : Hid (false = decide (0 ≤ posV I s)) := (has_no (not_all HF.out (by rw [HN.out]; exact Nat.le_refl _))).symm
      go_wp2_with fail
      go_ret
      exact ⟨end_bool RES.out, rfl⟩
set_option maxRecDepth 100000 in
set_option maxHeartbeats 1000000 in
theorem lrefs_any (v : Value) (L : List DdX) (s : ByteArray) (w : World) (g : DeedsT w v L) (small : L.length ≤ 1000) (hi : ∀ x ∈ L, x.imps.length ≤ 1000) :
    Calls Try.prog 8 #[v, .string s] w fun e w' => e = .returned (.int .i64 (refsT (dim L) s : Nat)) ∧ w = w' := by
  obtain ⟨a, c, rfl, hc1, hc2, _⟩ := g.els.shape
  have HG := Lib.hid g
  have HI := Lib.hid hi
  clear g hi
  generalize hn : L.length = n at *
  have HN := Lib.hid hn
  clear hn
  go_enter Try.func8, Try.ntmps8
  go_wp2_with fail
  go_loopw [5, 6] (fun r i wr => ∃ k : Nat, k ≤ n ∧ i = .int .i64 k ∧ r = .int .i64 (refsT ((dim L).take k) s : Nat) ∧ w = wr) (fun _ i _ => n - (intOf i).toNat)
  case atStart => exact ⟨0, Nat.zero_le _, rfl, rfl, rfl⟩
  case round =>
    obtain ⟨k, hk, rfl, rfl, rfl⟩ := hrel
    have ib : refsT ((dim L).take k) s ≤ 1000 := Nat.le_trans (refsT_le _ _) (by rw [List.length_take]; omega)
    by_cases hlt : k < n
    · obtain ⟨x, hx⟩ : ∃ x, L[k]? = some x := ⟨_, List.getElem?_eq_getElem (by rw [HN.out]; exact hlt)⟩
      obtain ⟨b, off, cap, hv, hb, hc⟩ := HG.out.els.cell hx
      have c1 : w.cell? ⟨b, off + (k * 4 + 2), none⟩ = some x.iv := hc 2 (by omega)
      rw [show off + (k * 4 + 2) = off + k * 4 + 2 by omega] at c1
      rw [HN.out] at hv
      cases hv
      have hm := List.mem_of_getElem? hx
      have HC := Lib.hid (lhas_any x.iv x.imps s w (HG.out.imps x hm) (HI.out x hm))
      have HX : Hid ((dim L)[k]? = some x.imps) := by show (dim L)[k]? = _; rw [List.getElem?_map, hx]; rfl
      clear hx hc hm
      have e3 : (k : Int) < (n : Int) := by omega
      have e4 : (0 : Int) ≤ (k : Int) := by omega
      by_cases hq : s ∈ x.imps
      · as_aux_lemma =>
        rw [has_yes hq] at HC
        have HQ := Lib.hid (refsT_yes HX.out hq)
        clear hq HX
        generalize refsT ((dim L).take k) s = r at *
        go_wp2_with fail
        refine HC.out.mono ?_
        rintro e w1 ⟨rfl, rfl⟩
        go_wp2_with fail
        go_roundw
        case rel => exact ⟨k + 1, by omega, by go_num, by rw [HQ.out]; go_num, by trivial⟩
        case measure => simp [intOf]; omega
      · as_aux_lemma =>
        rw [has_no hq] at HC
        have HQ := Lib.hid (refsT_no HX.out hq)
        clear hq HX
        generalize refsT ((dim L).take k) s = r at *
        go_wp2_with fail
        refine HC.out.mono ?_
        rintro e w1 ⟨rfl, rfl⟩
        go_wp2_with fail
        go_roundw
        case rel => exact ⟨k + 1, by omega, by go_num, by rw [HQ.out], by trivial⟩
        case measure => simp [intOf]; omega
    · as_aux_lemma =>
      obtain rfl : k = n := by omega
      have RES : Hid (refsT ((dim L).take k) s = refsT (dim L) s) := refsT_all (by rw [List.length_map, HN.out]; exact Nat.le_refl _)
      generalize refsT ((dim L).take k) s = r at *
      go_wp2_with fail
      go_ret
      exact ⟨end_int (by rw [RES.out]), rfl⟩
section
variable {H : Type} {enc : TypeId × Value → H} {w : World} {base : Nat} {sp : Nat → Bool} {held : Bool} {fuel : Nat} {c : Value} {x : DataW H × List MemPlace}
theorem texts_of (h : DataW.trod enc Try.prog w base sp held fuel 26 [c] = some x) : ∃ L : List ByteArray, ElsAt 1 sRow w c L ∧ ∀ y ∈ L, y.size ≤ maxLen := by
  refine els_of (k := 1) sRow _ ⟨#[]⟩ Try.underlying26 (by kernel_rfl) (by decide) (fun n cs z hl hz => ?_) h
  match cs, hl with
  | [c0], _ =>
    obtain ⟨z0, e0, _, w0⟩ := DataW.trod_string Try.underlying9 hz
    simp at e0
    subst e0
    exact ⟨z0, rfl, w0⟩
theorem deeds_cell (h : DataW.trod enc Try.prog w base sp held fuel DdS [c] = some x) : ∃ L : List DdX, ElsAt 4 ddRow w c L ∧ ∀ y ∈ L, ElsAt 1 sRow w y.iv y.imps ∧ I64 y.base := by
  refine els_of (k := 4) ddRow _ ⟨false, ⟨#[]⟩, nilS, 0, []⟩ Try.underlying22 (by kernel_rfl) (by decide) (fun n cs z hl hz => ?_) h
  match cs, hl with
  | [c0, c1, c2, c3], _ =>
    obtain ⟨xs, n', _, _, _, hxl, hf⟩ := DataW.trod_struct Try.underlying28 hz
    match xs, hxl with
    | [y0, y1, y2, y3], _ =>
      have k0 : Try.prog.cellsOf 4 = 1 := by kernel_rfl
      have k2 : Try.prog.cellsOf 26 = 1 := by kernel_rfl
      obtain ⟨z0, e0, _⟩ := DataW.trod_bool Try.underlying4 (hf 0 _ rfl)
      obtain ⟨z1, e1, _, w1⟩ := DataW.trod_string Try.underlying9 (hf 1 _ rfl)
      have h2 := hf 2 _ rfl
      obtain ⟨z3, e3, _, w3⟩ := DataW.trod_int Try.underlying3 (hf 3 _ rfl)
      simp [k0] at e0
      simp [one_str] at e1
      simp [k2] at h2
      simp [one_int] at e3
      obtain ⟨L2, h2, _⟩ := texts_of h2
      subst e0 e1 e3
      exact ⟨⟨z0, z1, c2, z3, L2⟩, rfl, h2, bounds_i64 w3⟩
end
theorem deeds18_in {H : Type} {enc : TypeId × Value → H} {w : World} {base : Nat} {sp : Nat → Bool} {held : Bool} {a : Option Addr} {len cap : Nat} {d : DataW H} {p : List MemPlace}
    (h : DataW.Trod enc Try.prog w base sp held DdS (.slice a len cap) d p) : ∃ L, DeedsT w (.slice a len cap) L ∧ ∀ x ∈ L, I64 x.base := by
  obtain ⟨fuel, h⟩ := h
  obtain ⟨L, h1, h2⟩ := deeds_cell (c := .slice a len cap) h
  exact ⟨L, ⟨h1, fun x hx => (h2 x hx).1⟩, fun x hx => (h2 x hx).2⟩
end Go.Proofs.Ytiofplejpgahdaa
