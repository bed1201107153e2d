/-
  Layer 18's tables in memory; place, has, hasAll, Refs, Names, Room (layer 18). Conditions: at most 16 modules.
-/
import Derived.Test.YtiofplejpgahdaaTbC
import Derived.Test.YtiofplejpgahdaaChkM
import Derived.RegionTactic
import Derived.Deep.RegionHeld3
import Derived.Shelf.Abstract
namespace Go.Proofs.Ytiofplejpgahdaa
open Go.ChangeShapes Go.WideShapes Go.ChangeAt Go.RowKit

/- a table: its head, the row of its modules, and what is theirs -/
structure Tab (B lo : Nat) (w : World) (tb : Nat) (room : Nat) (v : Value) (L : List ModX) : Prop where
  head : RowAt w tb TbT [.int .i64 (room : Nat), v]
  row : SRow MdT 13 w v L.length (rows mrow L)
  mods : ∀ x ∈ L, ModIn lo w x
  fewm : ∀ x ∈ L, ModFew x
  few : L.length ≤ room
  most : room ≤ 16
  low : B ≤ tb
  rlow : ∀ j, own v j → B ≤ j
abbrev namesT (L : List ModX) : List ByteArray := L.map fun x => x.d.name
abbrev impsT (L : List ModX) : List (List ByteArray) := L.map fun x => x.d.imps
theorem Tab.on {B lo : Nat} {w w' : World} {tb room : Nat} {v : Value} {L : List ModX} (h : Tab B lo w tb room v L) (hb : Below w.heap.size w w') : Tab B lo w' tb room v L :=
  ⟨h.head.keep (Kept.of_below (S := fun _ => False) hb) (fun e => e), h.row.keep (Kept.of_below (S := fun _ => False) hb) (fun _ _ e => e), fun x hx => (h.mods x hx).on hb, h.fewm, h.few, h.most, h.low, h.rlow⟩
theorem Tab.c0 {B lo : Nat} {w : World} {tb room : Nat} {v : Value} {L : List ModX} (h : Tab B lo w tb room v L) : w.cell? ⟨tb, 0, none⟩ = some (.int .i64 (room : Nat)) := h.head.cell 0
theorem Tab.c1 {B lo : Nat} {w : World} {tb room : Nat} {v : Value} {L : List ModX} (h : Tab B lo w tb room v L) : w.cell? ⟨tb, 1, none⟩ = some v := h.head.cell 1
theorem Tab.len {B lo : Nat} {w : World} {tb room : Nat} {v : Value} {L : List ModX} (h : Tab B lo w tb room v L) : L.length ≤ 16 := Nat.le_trans h.few h.most
/- an element's cells -/
theorem Tab.cells {B lo : Nat} {w : World} {tb room : Nat} {v : Value} {L : List ModX} (h : Tab B lo w tb room v L) {k : Nat} {x : ModX} (hx : L[k]? = some x) :
    ∃ b cap, v = .slice (some ⟨b, 0, none⟩) L.length cap ∧ b < w.heap.size ∧ ∀ j, j < 13 → w.cell? ⟨b, k * 13 + j, none⟩ = (mrow x)[j]? := by
  obtain ⟨b, off, cap, e, hb, hc⟩ := (h.row.els mrow_len).cell hx
  obtain ⟨b', cap', e', _⟩ := h.row.cell (by have := (List.getElem?_eq_some_iff.1 hx).1; omega)
  rw [e] at e'
  cases e'
  exact ⟨b, cap, e, hb, fun j hj => by have := hc j hj; rw [Nat.zero_add] at this; exact this⟩

theorem RowAt.type_eq {w : World} {b : Nat} {t t' : TypeId} {cs ds : List Value} (h : RowAt w b t cs) (g : RowAt w b t' ds) : t = t' := by
  unfold RowAt at h g
  rw [h] at g
  injection g with g
  injection g with _ g
/- what is done to blocks of other types leaves a table as it is -/
def MyT (t : TypeId) : Prop := t = MdT ∨ t = TbT ∨ t = InT ∨ t = StT ∨ t = XpT ∨ t = CmT
theorem Tab.keep {S : Nat → Prop} {B lo : Nat} {w w' : World} {tb room : Nat} {v : Value} {L : List ModX} (h : Tab B lo w tb room v L) (kp : Kept S w w') (h1 : ¬ S tb) (h2 : ∀ j, own v j → ¬ S j)
    (h3 : ∀ x ∈ L, ∀ (u : Value) (t : TypeId) (k n : Nat) (cs : List Value), SRow t k w u n cs → (∀ j, own u j → lo ≤ j) → (t = InT ∨ t = StT ∨ t = XpT ∨ t = CmT) → ∀ j, own u j → ¬ S j) : Tab B lo w' tb room v L :=
  ⟨h.head.keep kp h1, h.row.keep kp h2, fun x hx => (h.mods x hx).keep kp fun u t k n cs => h3 x hx u t k n cs, h.fewm, h.few, h.most, h.low, h.rlow⟩

/- place's test -/
set_option maxRecDepth 100000 in
theorem test_any (x : ModX) (s : ByteArray) (sb : Nat) (w : World) (hs : w.cell? ⟨sb, 0, none⟩ = some (.string s)) :
    Calls Try.prog 25 #[.agg (mrow x).toArray, .pointer (some ⟨sb, 0, none⟩)] w fun e w' => e = .returned (.bool (decide (x.d.name = s))) ∧ Below w.heap.size w w' := by
  obtain ⟨d, p, q, i, e, c, xs⟩ := x
  show Calls _ _ #[.agg #[.string d.name, .int .u32 (d.key : Nat), .int .i64 d.base, .int .i64 d.size, .int .i64 d.z0, .int .i64 d.z1, .int .i64 d.z2, .int .i64 d.z3, p, q, i, e, c], .pointer (some ⟨sb, 0, none⟩)] w _
  have HB : Hid (Below w.heap.size w (w.alloc (.cells #[.string d.name, .int .u32 (d.key : Nat), .int .i64 d.base, .int .i64 d.size, .int .i64 d.z0, .int .i64 d.z1, .int .i64 d.z2, .int .i64 d.z3, p, q, i, e, c] MdT))) := (Below.refl _ _).alloc (Nat.le_refl _) _
  have hs1 : (w.alloc (.cells #[.string d.name, .int .u32 (d.key : Nat), .int .i64 d.base, .int .i64 d.size, .int .i64 d.z0, .int .i64 d.z1, .int .i64 d.z2, .int .i64 d.z3, p, q, i, e, c] MdT)).cell? ⟨sb, 0, none⟩ = some (.string s) := (HB.out.cell (cell_lt hs)).trans hs
  by_cases hn : d.name = s
  · as_aux_lemma =>
    rw [decide_eq_true hn]
    have hq : (d.name.toList == s.toList) = true := by rw [hn]; simp
    clear hs hn
    generalize d.name = nm at *
    go_enter Try.func25, Try.ntmps25
    go_wp2_with fail
    go_ret
    exact ⟨rfl, HB.out⟩
  · as_aux_lemma =>
    rw [decide_eq_false hn]
    have hq := str_ne hn
    clear hs hn
    generalize d.name = nm at *
    go_enter Try.func25, Try.ntmps25
    go_wp2_with fail
    go_ret
    exact ⟨rfl, HB.out⟩

set_option maxRecDepth 100000 in
set_option maxHeartbeats 1000000 in
theorem mindex_any (s : ByteArray) (sb : Nat) (v : Value) (L : List ModX) (w : World) (h : SRow MdT 13 w v L.length (rows mrow L)) (small : L.length ≤ 16) (hs : w.cell? ⟨sb, 0, none⟩ = some (.string s)) :
    Calls Try.prog 24 #[v, .func (.func 25) #[] #[.pointer (some ⟨sb, 0, none⟩)]] w fun e w' => e = .returned (.int .i64 (posV (namesT L) s)) ∧ Below w.heap.size w w' := by
  have eg : ∀ args w, (callFunc 25 args).run Try.prog w = .ok (.enter 25 args) w := fun _ _ => by kernel_rfl
  obtain ⟨a, c, rfl, hc1, hc2⟩ := h.shape
  have HS := Lib.hid h
  have HP : Hid (∀ x wr, Below w.heap.size w wr → Calls Try.prog 25 #[.agg (mrow x).toArray, .pointer (some ⟨sb, 0, none⟩)] wr fun e w' => e = .returned (.bool (decide (x.d.name = s))) ∧ Below w.heap.size w w') :=
    fun x wr hb => (test_any x s sb wr ((hb.cell (cell_lt hs)).trans hs)).mono fun _ _ ⟨he, hb'⟩ => ⟨he, below_on hb hb' hb.size⟩
  clear h hs
  generalize hn : L.length = n at *
  have HN := Lib.hid hn
  clear hn
  go_enter Try.func24, Try.ntmps24
  go_wp2_with fail
  go_loopw [5, 8] (fun _ i wr => ∃ k : Nat, k ≤ n ∧ i = .int .i64 k ∧ Hid (Below w.heap.size w wr) ∧ Hid (s ∉ (namesT L).take k)) (fun _ i _ => n - (intOf i).toNat)
  case atStart => exact ⟨0, Nat.zero_le _, rfl, Below.refl _ _, fun hm => by simp at hm⟩
  case round =>
    obtain ⟨k, hk, rfl, HB, HF⟩ := hrel
    by_cases hlt : k < n
    · obtain ⟨x, hx⟩ : ∃ x, L[k]? = some x := ⟨_, List.getElem?_eq_getElem (by rw [HN.out]; exact hlt)⟩
      obtain ⟨b, cap, hv, hb, hcap1, hcap2, hcs⟩ := HS.out.cell (by omega)
      have key : ∀ j, j < 13 → wr.cell? ⟨b, k * 13 + j, none⟩ = (mrow x)[j]? := fun j hj => by
        rw [HB.out.cell (p := ⟨b, k * 13 + j, none⟩) hb, hcs _ (by omega), rows_at 13 mrow_len L k x j hx hj]
      have c0 : wr.cell? ⟨b, k * 13, none⟩ = some (.string x.d.name) := key 0 (by omega)
      have c1 : wr.cell? ⟨b, k * 13 + 1, none⟩ = some (.int .u32 (x.d.key : Nat)) := key 1 (by omega)
      have c2 : wr.cell? ⟨b, k * 13 + 2, none⟩ = some (.int .i64 x.d.base) := key 2 (by omega)
      have c3 : wr.cell? ⟨b, k * 13 + 3, none⟩ = some (.int .i64 x.d.size) := key 3 (by omega)
      have c4 : wr.cell? ⟨b, k * 13 + 4, none⟩ = some (.int .i64 x.d.z0) := key 4 (by omega)
      have c5 : wr.cell? ⟨b, k * 13 + 5, none⟩ = some (.int .i64 x.d.z1) := key 5 (by omega)
      have c6 : wr.cell? ⟨b, k * 13 + 6, none⟩ = some (.int .i64 x.d.z2) := key 6 (by omega)
      have c7 : wr.cell? ⟨b, k * 13 + 7, none⟩ = some (.int .i64 x.d.z3) := key 7 (by omega)
      have c8 : wr.cell? ⟨b, k * 13 + 8, none⟩ = some x.p := key 8 (by omega)
      have c9 : wr.cell? ⟨b, k * 13 + 9, none⟩ = some x.q := key 9 (by omega)
      have c10 : wr.cell? ⟨b, k * 13 + 10, none⟩ = some x.i := key 10 (by omega)
      have c11 : wr.cell? ⟨b, k * 13 + 11, none⟩ = some x.e := key 11 (by omega)
      have c12 : wr.cell? ⟨b, k * 13 + 12, none⟩ = some x.c := key 12 (by omega)
      cases hv
      have HC := Lib.hid (HP.out x wr HB.out)
      have hnx : (namesT L)[k]? = some x.d.name := by rw [List.getElem?_map, hx]; rfl
      have HX := Lib.hid hnx
      clear hnx hx hcs key
      have e3 : (k : Int) < (n : Int) := by omega
      have e4 : (0 : Int) ≤ (k : Int) := by omega
      by_cases hq : x.d.name = s
      · as_aux_lemma =>
        rw [decide_eq_true hq] at HC
        have RES : Hid ((k : Int) = posV (namesT L) s) := (posV_at (by rw [← hq]; exact HX.out) HF.out).symm
        clear hq HX
        go_wp2_with (go_at_fn 25; refine HC.out.mono ?_; rintro e w' ⟨rfl, hb'⟩)
        go_ret
        exact ⟨end_int RES.out, hb'⟩
      · as_aux_lemma =>
        rw [decide_eq_false hq] at HC
        have HF2 := Lib.hid (not_next HF.out HX.out hq)
        clear hq HX HF
        go_wp2_with (go_at_fn 25; refine HC.out.mono ?_; rintro e w' ⟨rfl, hb'⟩)
        go_roundw
        case rel => exact ⟨k + 1, by omega, by go_num, hb', HF2⟩
        case measure => simp [intOf]; omega
    · as_aux_lemma =>
      obtain rfl : k = n := by omega
      have RES : Hid ((-1 : Int) = posV (namesT L) s) := (posV_none (not_all HF.out (by rw [List.length_map, HN.out]; exact Nat.le_refl _))).symm
      go_wp2_with fail
      go_ret
      exact ⟨end_int RES.out, HB.out⟩

set_option maxRecDepth 100000 in
theorem place_any {B lo : Nat} {tb room : Nat} {v : Value} {L : List ModX} (s : ByteArray) (w : World) (h : Tab B lo w tb room v L) :
    Calls Try.prog 18 #[.pointer (some ⟨tb, 0, none⟩), .string s] w fun e w' => e = .returned (.int .i64 (posV (namesT L) s)) ∧ Below w.heap.size w w' := by
  have hb : Below w.heap.size w (w.alloc (.cells #[.string s] StT)) := (Below.refl _ _).alloc (Nat.le_refl _) _
  have HI : Hid (Calls Try.prog 24 #[v, .func (.func 25) #[] #[.pointer (some ⟨w.heap.size, 0, none⟩)]] (w.alloc (.cells #[.string s] StT)) fun e w' => e = .returned (.int .i64 (posV (namesT L) s)) ∧ Below w.heap.size w w') :=
    (mindex_any s w.heap.size v L _ (h.on hb).row h.len ((RowAt.new w StT [.string s]).cell 0)).mono fun _ _ ⟨he, hb'⟩ => ⟨he, below_on hb hb' hb.size⟩
  have c1 := (h.on hb).c1
  clear h
  generalize posV (namesT L) s = r at *
  go_enter Try.func18, Try.ntmps18
  go_wp2_with fail
  refine HI.out.mono ?_
  rintro e w1 ⟨rfl, hb1⟩
  go_wp2_with fail
  go_ret
  exact ⟨rfl, hb1⟩
set_option maxRecDepth 100000 in
theorem has18_any {B lo : Nat} {tb room : Nat} {v : Value} {L : List ModX} (s : ByteArray) (w : World) (h : Tab B lo w tb room v L) :
    Calls Try.prog 20 #[.pointer (some ⟨tb, 0, none⟩), .string s] w fun e w' => e = .returned (.bool (decide (0 ≤ posV (namesT L) s))) ∧ Below w.heap.size w w' := by
  have HI := Lib.hid (place_any s w h)
  clear h
  generalize posV (namesT L) s = r at *
  go_enter Try.func20, Try.ntmps20
  go_wp2_with fail
  refine HI.out.mono ?_
  rintro e w1 ⟨rfl, hb1⟩
  go_wp2_with fail
  go_ret
  exact ⟨rfl, hb1⟩
theorem has_is {N : List ByteArray} {s : ByteArray} : decide (0 ≤ posV N s) = true ↔ s ∈ N := by
  rw [decide_eq_true_iff]
  refine ⟨fun h => Classical.byContradiction fun hn => ?_, fun h => ?_⟩
  · rw [posV_none hn] at h
    omega
  · obtain ⟨k, e, _⟩ := posV_some h
    omega
theorem has_yes {N : List ByteArray} {s : ByteArray} (h : s ∈ N) : decide (0 ≤ posV N s) = true := has_is.2 h
theorem has_no {N : List ByteArray} {s : ByteArray} (h : s ∉ N) : decide (0 ≤ posV N s) = false := by
  cases hb : decide (0 ≤ posV N s) with
  | true => exact absurd (has_is.1 hb) h
  | false => rfl
set_option maxRecDepth 100000 in
set_option maxHeartbeats 1000000 in
theorem hasAll_any {B lo : Nat} {tb room : Nat} {v : Value} {L : List ModX} (u : Value) (I : List ByteArray) (r : Bool) (w : World) (h : Tab B lo w tb room v L) (g : ElsAt 1 sRow w u I) (small : I.length ≤ 1000) (hr : r = true ↔ ∀ i ∈ I, i ∈ namesT L) :
    Calls Try.prog 21 #[.pointer (some ⟨tb, 0, none⟩), u] w fun e w' => e = .returned (.bool r) ∧ Below w.heap.size w w' := by
  have HH : Hid (∀ (s : ByteArray) wr, Below w.heap.size w wr → Calls Try.prog 20 #[.pointer (some ⟨tb, 0, none⟩), .string s] wr fun e w' => e = .returned (.bool (decide (0 ≤ posV (namesT L) s))) ∧ Below w.heap.size w w') :=
    fun s wr hb => (has18_any s wr (h.on hb)).mono fun _ _ ⟨he, hb'⟩ => ⟨he, below_on hb hb' hb.size⟩
  obtain ⟨a, c, rfl, hc1, hc2, _⟩ := g.shape
  have HG := Lib.hid g
  have HR := Lib.hid hr
  clear h g hr
  generalize hn : I.length = n at *
  have HN := Lib.hid hn
  clear hn
  go_enter Try.func21, Try.ntmps21
  go_wp2_with fail
  go_loopw [6, 9] (fun _ i wr => ∃ k : Nat, k ≤ n ∧ i = .int .i64 k ∧ Hid (Below w.heap.size w wr) ∧ Hid (∀ i ∈ I.take k, i ∈ namesT L)) (fun _ i _ => n - (intOf i).toNat)
  case atStart => exact ⟨0, Nat.zero_le _, rfl, Below.refl _ _, fun i hi => by simp at hi⟩
  case round =>
    obtain ⟨k, hk, rfl, HB, HF⟩ := hrel
    by_cases hlt : k < n
    · obtain ⟨s, hx⟩ : ∃ s, I[k]? = some s := ⟨_, List.getElem?_eq_getElem (by rw [HN.out]; exact hlt)⟩
      obtain ⟨b, off, cap, hv, hb, c0⟩ := HG.out.cell1 hx (c0 := .string s) rfl
      have d0 : wr.cell? ⟨b, off + k, none⟩ = some (.string s) := (HB.out.cell hb).trans c0
      rw [HN.out] at hv
      cases hv
      have HC := Lib.hid (HH.out s wr HB.out)
      have HX := Lib.hid hx
      clear hx c0
      have e3 : (k : Int) < (n : Int) := by omega
      have e4 : (0 : Int) ≤ (k : Int) := by omega
      by_cases hq : s ∈ namesT L
      · as_aux_lemma =>
        rw [has_yes hq] at HC
        have HF2 : Hid (∀ i ∈ I.take (k + 1), i ∈ namesT L) := fun i hi => by
          rw [List.take_add_one, HX.out] at hi
          rcases List.mem_append.1 hi with h1 | h1
          · exact HF.out i h1
          · simp only [Option.toList_some, List.mem_singleton] at h1
            rw [h1]
            exact hq
        clear hq HX HF
        go_wp2_with fail
        refine HC.out.mono ?_
        rintro e w1 ⟨rfl, hb1⟩
        go_wp2_with fail
        go_roundw
        case rel => exact ⟨k + 1, by omega, by go_num, hb1, HF2⟩
        case measure => simp [intOf]; omega
      · as_aux_lemma =>
        rw [has_no hq] at HC
        obtain rfl : r = false := bool_not HR.out fun h => hq (h s (List.mem_of_getElem? HX.out))
        clear hq HX HF
        go_wp2_with fail
        refine HC.out.mono ?_
        rintro e w1 ⟨rfl, hb1⟩
        go_wp2_with fail
        go_ret
        exact ⟨rfl, hb1⟩
    · as_aux_lemma =>
      obtain rfl : k = n := by omega
      obtain rfl : r = true := HR.out.2 (by have := HF.out; rw [List.take_of_length_le (by rw [HN.out]; exact Nat.le_refl _)] at this; exact this)
      go_wp2_with fail
      go_ret
      exact ⟨rfl, HB.out⟩
end Go.Proofs.Ytiofplejpgahdaa
