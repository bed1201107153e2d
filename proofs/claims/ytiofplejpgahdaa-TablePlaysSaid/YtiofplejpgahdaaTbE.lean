/-
  Index, Contains over texts; Refs, Names, Room, New (layer 18). Conditions: at most 16 modules, lists of at most 1000.
-/
import Derived.Test.YtiofplejpgahdaaTbD
namespace Go.Proofs.Ytiofplejpgahdaa
open Go.ChangeShapes Go.WideShapes Go.ChangeAt Go.RowKit

set_option maxRecDepth 100000 in
set_option maxHeartbeats 1000000 in
theorem tindex_any (u : Value) (I : List ByteArray) (s : ByteArray) (w : World) (g : ElsAt 1 sRow w u I) (small : I.length ≤ 1000) :
    Calls Try.prog 30 #[u, .string s] w fun e w' => e = .returned (.int .i64 (posV I s)) ∧ w = w' := by
  obtain ⟨a, c, rfl, hc1, hc2, _⟩ := g.shape
  have HG := Lib.hid g
  clear g
  generalize hn : I.length = n at *
  have HN := Lib.hid hn
  clear hn
  go_enter Try.func30, Try.ntmps30
  go_wp2_with fail
  go_loopw [5, 8] (fun _ i wr => ∃ k : Nat, k ≤ n ∧ i = .int .i64 k ∧ w = wr ∧ Hid (s ∉ I.take k)) (fun _ i _ => n - (intOf i).toNat)
  case atStart => exact ⟨0, Nat.zero_le _, rfl, rfl, fun hm => by simp at hm⟩
  case round =>
    obtain ⟨k, hk, rfl, rfl, HF⟩ := hrel
    by_cases hlt : k < n
    · obtain ⟨x, hx⟩ : ∃ x, I[k]? = some x := ⟨_, List.getElem?_eq_getElem (by rw [HN.out]; exact hlt)⟩
      obtain ⟨b, off, cap, hv, hb, c0⟩ := HG.out.cell1 hx (c0 := .string x) rfl
      rw [HN.out] at hv
      cases hv
      have HX := Lib.hid hx
      clear hx
      have e3 : (k : Int) < (n : Int) := by omega
      have e4 : (0 : Int) ≤ (k : Int) := by omega
      by_cases hq : x = s
      · as_aux_lemma =>
        subst hq
        have RES : Hid ((k : Int) = posV I x) := (posV_at HX.out HF.out).symm
        have hb1 : (x.toList == x.toList) = true := by simp
        go_wp2_with fail
        go_ret
        exact ⟨end_int RES.out, rfl⟩
      · as_aux_lemma =>
        have hb1 := str_ne (fun e => hq (Eq.symm e))
        have hb2 := str_nq (fun e => hq (Eq.symm e))
        have HF2 := Lib.hid (not_next HF.out HX.out hq)
        clear hq HX HF
        go_wp2_with fail
        go_roundw
        case rel => exact ⟨k + 1, by omega, by go_num, by trivial, HF2⟩
        case measure => simp [intOf]; omega
    · as_aux_lemma =>
      obtain rfl : k = n := by omega
      have RES : Hid ((-1 : Int) = posV I s) := (posV_none (not_all HF.out (by rw [HN.out]; exact Nat.le_refl _))).symm
      go_wp2_with fail
      go_ret
      exact ⟨end_int RES.out, rfl⟩
set_option maxRecDepth 100000 in
theorem tcontains_any (u : Value) (I : List ByteArray) (s : ByteArray) (w : World) (g : ElsAt 1 sRow w u I) (small : I.length ≤ 1000) :
    Calls Try.prog 23 #[u, .string s] w fun e w' => e = .returned (.bool (decide (0 ≤ posV I s))) ∧ w = w' := by
  have HI := Lib.hid (tindex_any u I s w g small)
  clear g
  generalize posV I s = r at *
  go_enter Try.func23, Try.ntmps23
  go_wp2_with fail
  refine HI.out.mono ?_
  rintro e w1 ⟨rfl, rfl⟩
  go_wp2_with fail
  go_ret
  exact ⟨rfl, rfl⟩
/- a module, copied into a new variable -/
theorem box_md (wr : World) (x : ModX) (h1 : Ones (mrow x)) : (Instr.storeAt MdT (.pointer (some ⟨wr.heap.size, 0, none⟩)) (.agg (mrow x).toArray)).run Try.prog (wr.alloc (.cells noRow.toArray MdT)) = .ok () (wr.alloc (.cells (mrow x).toArray MdT)) :=
  box_el wr MdT 13 noRow (mrow x) rfl rfl h1 size_md
set_option maxRecDepth 100000 in
set_option maxHeartbeats 2000000 in
theorem refs_any {B lo : Nat} {tb room : Nat} {v : Value} {L : List ModX} (s : ByteArray) (w : World) (h : Tab B lo w tb room v L) :
    Calls Try.prog 14 #[.pointer (some ⟨tb, 0, none⟩), .string s] w fun e w' => e = .returned (.int .i64 (refsT (impsT L) s : Nat)) ∧ Below w.heap.size w w' := by
  have cv := h.c1
  obtain ⟨a, c, hv, hc1, hc2⟩ := h.row.shape
  subst hv
  have HT := Lib.hid h
  have i16 := h.len
  clear h
  generalize hn : L.length = n at *
  have HN := Lib.hid hn
  clear hn
  go_enter Try.func14, Try.ntmps14
  go_wp2_with fail
  go_loopw [5, 7, 13] (fun r _ i wr => ∃ k : Nat, k ≤ n ∧ i = .int .i64 k ∧ r = .int .i64 (refsT ((impsT L).take k) s : Nat) ∧ Hid (Below w.heap.size w wr)) (fun _ _ i _ => n - (intOf i).toNat)
  case atStart => exact ⟨0, Nat.zero_le _, rfl, rfl, Below.refl _ _⟩
  case round =>
    obtain ⟨k, hk, rfl, rfl, HB⟩ := hrel
    clear cv
    have ib : refsT ((impsT L).take k) s ≤ 16 := Nat.le_trans (refsT_le _ _) (by rw [List.length_take]; omega)
    by_cases hlt : k < n
    · obtain ⟨x, hx⟩ : ∃ x, L[k]? = some x := ⟨_, List.getElem?_eq_getElem (by rw [HN.out]; exact hlt)⟩
      have TK := HT.out.on HB.out
      obtain ⟨b, cap, hv, hb, key⟩ := TK.cells hx
      rw [HN.out] at hv
      cases hv
      have c0 : wr.cell? ⟨b, k * 13, none⟩ = some (.string x.d.name) := key 0 (by omega)
      have c1 : wr.cell? ⟨b, k * 13 + 1, none⟩ = some (.int .u32 (x.d.key : Nat)) := key 1 (by omega)
      have c2 : wr.cell? ⟨b, k * 13 + 2, none⟩ = some (.int .i64 x.d.base) := key 2 (by omega)
      have c3 : wr.cell? ⟨b, k * 13 + 3, none⟩ = some (.int .i64 x.d.size) := key 3 (by omega)
      have c4 : wr.cell? ⟨b, k * 13 + 4, none⟩ = some (.int .i64 x.d.z0) := key 4 (by omega)
      have c5 : wr.cell? ⟨b, k * 13 + 5, none⟩ = some (.int .i64 x.d.z1) := key 5 (by omega)
      have c6 : wr.cell? ⟨b, k * 13 + 6, none⟩ = some (.int .i64 x.d.z2) := key 6 (by omega)
      have c7 : wr.cell? ⟨b, k * 13 + 7, none⟩ = some (.int .i64 x.d.z3) := key 7 (by omega)
      have c8 : wr.cell? ⟨b, k * 13 + 8, none⟩ = some x.p := key 8 (by omega)
      have c9 : wr.cell? ⟨b, k * 13 + 9, none⟩ = some x.q := key 9 (by omega)
      have c10 : wr.cell? ⟨b, k * 13 + 10, none⟩ = some x.i := key 10 (by omega)
      have c11 : wr.cell? ⟨b, k * 13 + 11, none⟩ = some x.e := key 11 (by omega)
      have c12 : wr.cell? ⟨b, k * 13 + 12, none⟩ = some x.c := key 12 (by omega)
      have hxm := List.mem_of_getElem? hx
      have HI := Lib.hid ((TK.mods x hxm).at_.i)
      have HF := Lib.hid (TK.fewm x hxm).i
      have RUN := Lib.hid (box_md wr x (TK.mods x hxm).at_.ones)
      have HR : Hid (RowAt (wr.alloc (.cells (mrow x).toArray MdT)) wr.heap.size MdT (mrow x)) := RowAt.new wr MdT _
      have HB1 : Hid (Below wr.heap.size wr (wr.alloc (.cells (mrow x).toArray MdT))) := (Below.refl _ _).alloc (Nat.le_refl _) _
      have HC := Lib.hid (tcontains_any x.i x.d.imps s (wr.alloc (.cells (mrow x).toArray MdT)) (HI.out.on HB1.out) HF.out)
      have HB2 := Lib.hid (below_on HB.out HB1.out HB.out.size)
      have HX : Hid ((impsT L)[k]? = some x.d.imps) := by show (impsT L)[k]? = _; rw [List.getElem?_map, hx]; rfl
      have e3 : (k : Int) < (n : Int) := by omega
      have e4 : (0 : Int) ≤ (k : Int) := by omega
      clear key hx hxm hb TK HI HF HB HB1
      go_upto_region 5 with (refine wpList_store_run _ rfl _ _ _ rfl _ _ rfl rfl (by exact RUN.out) ?_)
      clear RUN c0 c1 c2 c3 c4 c5 c6 c7 c8 c9 c10 c11 c12
      generalize wr.alloc (.cells (mrow x).toArray MdT) = w1 at *
      generalize wr.heap.size = mb at *
      have c10 : w1.cell? ⟨mb, 10, none⟩ = some x.i := HR.out.cell 10
      by_cases hq : s ∈ x.d.imps
      · as_aux_lemma =>
        rw [has_yes hq] at HC
        have HQ := Lib.hid (refsT_yes HX.out hq)
        clear hq HX HR
        generalize refsT ((impsT L).take k) s = r at *
        go_wp2_with fail
        refine HC.out.mono ?_
        rintro e w1 ⟨rfl, rfl⟩
        go_wp2_with fail
        go_roundw
        case rel => exact ⟨k + 1, by omega, by go_num, by rw [HQ.out]; go_num, HB2⟩
        case measure => simp [intOf]; omega
      · as_aux_lemma =>
        rw [has_no hq] at HC
        have HQ := Lib.hid (refsT_no HX.out hq)
        clear hq HX HR
        generalize refsT ((impsT L).take k) s = r at *
        go_wp2_with fail
        refine HC.out.mono ?_
        rintro e w1 ⟨rfl, rfl⟩
        go_wp2_with fail
        go_roundw
        case rel => exact ⟨k + 1, by omega, by go_num, by rw [HQ.out], HB2⟩
        case measure => simp [intOf]; omega
    · as_aux_lemma =>
      obtain rfl : k = n := by omega
      have RES : Hid (refsT ((impsT L).take k) s = refsT (impsT L) s) := refsT_all (by rw [List.length_map, HN.out]; exact Nat.le_refl _)
      generalize refsT ((impsT L).take k) s = r at *
      go_wp2_with fail
      go_ret
      exact ⟨end_int (by rw [RES.out]), HB.out⟩
theorem make_texts (m : Nat) (hm : m ≤ 1000) (w : World) : (Instr.makeSlice 26 (.int .i64 m) (.int .i64 m)).run Try.prog w = .ok (.slice (some ⟨w.heap.size, 0, none⟩) m m) (w.alloc (.cells (madeCells #[.string ⟨#[]⟩] m) StT)) := by
  obtain ⟨i, hi, hzz⟩ := Option.map_eq_some_iff.1 info_st
  simp only [Prod.mk.injEq] at hzz
  obtain ⟨hz, hs, hb⟩ := hzz
  have h := run_make (P := Try.prog) w 26 StT i _ Try.underlying26 hi hz .i64 .i64 (m : Int) (m : Int) (by omega) (by omega) (by rw [hb]; omega) (by omega)
  simp only [hs, Nat.mul_one, Int.toNat_natCast] at h
  exact h
set_option maxRecDepth 100000 in
set_option maxHeartbeats 2000000 in
theorem names_any {B lo : Nat} {tb room : Nat} {v : Value} {L : List ModX} (w : World) (h : Tab B lo w tb room v L) :
    Calls Try.prog 12 #[.pointer (some ⟨tb, 0, none⟩)] w fun e w' => ∃ nb, e = .returned (.slice (some ⟨nb, 0, none⟩) L.length L.length) ∧ ElsAt 1 sRow w' (.slice (some ⟨nb, 0, none⟩) L.length L.length) (namesT L) ∧ Below w.heap.size w w' := by
  have cv := h.c1
  obtain ⟨a, c, hv, hc1, hc2⟩ := h.row.shape
  subst hv
  have hmk := make_texts L.length (by have := h.len; omega) w
  have i16 := h.len
  have hb1 : Below w.heap.size w (w.alloc (.cells (madeCells #[.string ⟨#[]⟩] L.length) StT)) := (Below.refl _ _).alloc (Nat.le_refl _) _
  have hr1 : RowAt (w.alloc (.cells (madeCells #[.string ⟨#[]⟩] L.length) StT)) w.heap.size StT (madeCells #[.string ⟨#[]⟩] L.length).toList := by
    have := RowAt.new w StT (madeCells #[.string ⟨#[]⟩] L.length).toList
    simpa using this
  have hl1 : (madeCells #[.string ⟨#[]⟩] L.length).toList.length = L.length := by simp [madeCells]
  have dv := (h.on hb1).c1
  have HT := Lib.hid h
  clear h
  generalize hn : L.length = n at *
  have HN := Lib.hid hn
  have HB1 := Lib.hid hb1
  have HR1 := Lib.hid hr1
  have HL1 := Lib.hid hl1
  clear hn hb1 hr1 hl1
  go_enter Try.func12, Try.ntmps12
  go_upto_region 2 with fail
  generalize w.alloc (.cells (madeCells #[.string ⟨#[]⟩] n) StT) = w1 at *
  clear cv hmk
  go_wp2_with fail
  go_loopw [4, 5, 17] (fun _ _ i wr => ∃ (k : Nat) (cs : List Value), k ≤ n ∧ i = .int .i64 k ∧ Hid (Below w.heap.size w wr) ∧ Hid (RowAt wr w.heap.size StT cs) ∧ Hid (cs.length = n) ∧ Hid (∀ (j : Nat) (x : ByteArray), j < k → (namesT L)[j]? = some x → cs[j]? = some (.string x))) (fun _ _ i _ => n - (intOf i).toNat)
  case atStart => exact ⟨0, _, Nat.zero_le _, rfl, HB1, HR1, HL1, fun j x hj => by omega⟩
  case round =>
    obtain ⟨k, cs, hk, rfl, HB, HR, HL, HF⟩ := hrel
    clear dv HB1 HR1 HL1
    by_cases hlt : k < n
    · as_aux_lemma =>
      obtain ⟨x, hx⟩ : ∃ x, L[k]? = some x := ⟨_, List.getElem?_eq_getElem (by rw [HN.out]; exact hlt)⟩
      have TK := HT.out.on HB.out
      obtain ⟨b, cap, hv, hb, key⟩ := TK.cells hx
      rw [HN.out] at hv
      cases hv
      have c0 : wr.cell? ⟨b, k * 13, none⟩ = some (.string x.d.name) := key 0 (by omega)
      have c1 : wr.cell? ⟨b, k * 13 + 1, none⟩ = some (.int .u32 (x.d.key : Nat)) := key 1 (by omega)
      have c2 : wr.cell? ⟨b, k * 13 + 2, none⟩ = some (.int .i64 x.d.base) := key 2 (by omega)
      have c3 : wr.cell? ⟨b, k * 13 + 3, none⟩ = some (.int .i64 x.d.size) := key 3 (by omega)
      have c4 : wr.cell? ⟨b, k * 13 + 4, none⟩ = some (.int .i64 x.d.z0) := key 4 (by omega)
      have c5 : wr.cell? ⟨b, k * 13 + 5, none⟩ = some (.int .i64 x.d.z1) := key 5 (by omega)
      have c6 : wr.cell? ⟨b, k * 13 + 6, none⟩ = some (.int .i64 x.d.z2) := key 6 (by omega)
      have c7 : wr.cell? ⟨b, k * 13 + 7, none⟩ = some (.int .i64 x.d.z3) := key 7 (by omega)
      have c8 : wr.cell? ⟨b, k * 13 + 8, none⟩ = some x.p := key 8 (by omega)
      have c9 : wr.cell? ⟨b, k * 13 + 9, none⟩ = some x.q := key 9 (by omega)
      have c10 : wr.cell? ⟨b, k * 13 + 10, none⟩ = some x.i := key 10 (by omega)
      have c11 : wr.cell? ⟨b, k * 13 + 11, none⟩ = some x.e := key 11 (by omega)
      have c12 : wr.cell? ⟨b, k * 13 + 12, none⟩ = some x.c := key 12 (by omega)
      have hxm := List.mem_of_getElem? hx
      have RUN := Lib.hid (box_md wr x (TK.mods x hxm).at_.ones)
      have HRX : Hid (RowAt (wr.alloc (.cells (mrow x).toArray MdT)) wr.heap.size MdT (mrow x)) := RowAt.new wr MdT _
      have hba : Below wr.heap.size wr (wr.alloc (.cells (mrow x).toArray MdT)) := (Below.refl _ _).alloc (Nat.le_refl _) _
      have HB2 := Lib.hid (below_on HB.out hba HB.out.size)
      have HR2 := Lib.hid (HR.out.keep (Kept.of_below (S := fun _ => False) hba) (fun e => e))
      have HX : Hid ((namesT L)[k]? = some x.d.name) := by show (namesT L)[k]? = _; rw [List.getElem?_map, hx]; rfl
      have e3 : (k : Int) < (n : Int) := by omega
      have e4 : (0 : Int) ≤ (k : Int) := by omega
      clear key hx hxm hb HB TK HR hba
      go_upto_region 5 with (refine wpList_store_run _ rfl _ _ _ rfl _ _ rfl rfl (by exact RUN.out) ?_)
      clear RUN c0 c1 c2 c3 c4 c5 c6 c7 c8 c9 c10 c11 c12
      generalize wr.alloc (.cells (mrow x).toArray MdT) = w1 at *
      generalize wr.heap.size = mb at *
      have c0 : w1.cell? ⟨mb, 0, none⟩ = some (.string x.d.name) := HRX.out.cell 0
      have f0 : w1.frozen? ⟨w.heap.size, k, none⟩ = false := HR2.out.free k
      obtain ⟨u, hu⟩ : ∃ u, cs[k]? = some u := ⟨_, List.getElem?_eq_getElem (by rw [HL.out]; exact hlt)⟩
      have d0 : w1.cell? ⟨w.heap.size, k, none⟩ = some u := (HR2.out.cell k).trans hu
      have kp := kept_set w1 w.heap.size k (.string x.d.name)
      have RB : Hid (Below w.heap.size w (w1.setCell ⟨w.heap.size, k, none⟩ (.string x.d.name))) := kp.below HB2.out HB2.out.size fun j _ e => by rw [e]; exact Nat.le_refl _
      have RR := Lib.hid (HR2.out.setCell k (.string x.d.name))
      have RF : Hid (∀ (j : Nat) (y : ByteArray), j < k + 1 → (namesT L)[j]? = some y → (cs.set k (.string x.d.name))[j]? = some (.string y)) := fun j y hj hy => by
        rw [List.getElem?_set]
        by_cases e : k = j
        · subst e
          rw [if_pos rfl, if_pos (by rw [HL.out]; exact hlt)]
          rw [HX.out] at hy
          cases hy
          rfl
        · rw [if_neg e]
          exact HF.out j y (by omega) hy
      have RL : Hid ((cs.set k (.string x.d.name)).length = n) := by show (cs.set k (.string x.d.name)).length = n; rw [List.length_set]; exact HL.out
      clear hu kp HB2 HR2 HF HL HX HRX
      go_wp2_with fail
      go_roundw
      case rel => exact ⟨k + 1, _, by omega, by go_num, RB, RR, RL, RF⟩
      case measure => simp [intOf]; omega
    · as_aux_lemma =>
      obtain rfl : k = n := by omega
      go_wp2_with fail
      go_ret
      refine ⟨w.heap.size, rfl, ⟨_, k, k, rfl, by rw [List.length_map, HN.out], Nat.le_refl _, Nat.le_trans i16 (by decide), (fun h => by cases h), .inr ⟨w.heap.size, 0, rfl, HR.out.lt, fun i x j hx hj => ?_⟩⟩, HB.out⟩
      obtain rfl : j = 0 := by omega
      have hi := (List.getElem?_eq_some_iff.1 hx).1
      rw [List.length_map, HN.out] at hi
      rw [show 0 + (i * 1 + 0) = i by omega, HR.out.cell]
      exact HF.out i x hi hx
set_option maxRecDepth 100000 in
theorem room_any {B lo : Nat} {tb room : Nat} {v : Value} {L : List ModX} (w : World) (h : Tab B lo w tb room v L) :
    Calls Try.prog 13 #[.pointer (some ⟨tb, 0, none⟩)] w fun e w' => e = .returned (.int .i64 ((room : Int) - (L.length : Int))) ∧ Below w.heap.size w w' := by
  have c0 := h.c0
  have c1 := h.c1
  obtain ⟨a, c, hv, hc1, hc2⟩ := h.row.shape
  subst hv
  have i1 := h.len
  have i2 := h.most
  clear h
  generalize L.length = n at *
  go_enter Try.func13, Try.ntmps13
  go_wp2_with fail
  go_region
  go_wp2_with fail
  go_ret
  exact ⟨by go_num, (Drawn.of_n w 1).below _⟩
set_option maxRecDepth 100000 in
theorem new18_any (B lo : Nat) (most : Int) (room : Nat) (w : World) (hB : B ≤ w.heap.size) (hr : (room : Int) = min (max most 0) 16) :
    Calls Try.prog 6 #[.int .i64 most] w fun e w' => e = .returned (.pointer (some ⟨w.heap.size, 0, none⟩)) ∧ Tab B lo w' w.heap.size room nilS [] ∧ Below w.heap.size w w' := by
  have HT : Hid (∀ z : Int, (room : Int) = z → Tab B lo (w.alloc (.cells #[.int .i64 z, .slice none 0 0] TbT)) w.heap.size room nilS [] ∧ Below w.heap.size w (w.alloc (.cells #[.int .i64 z, .slice none 0 0] TbT))) := fun z hz => by
    subst hz
    exact ⟨⟨RowAt.new w TbT _, SRow.nil _ _ _, (fun x hx => by cases hx), (fun x hx => by cases hx), Nat.zero_le _, by omega, hB, fun j hj => hj.elim⟩, (Below.refl _ _).alloc (Nat.le_refl _) _⟩
  have HR := Lib.hid hr
  clear hr
  go_enter Try.func6, Try.ntmps6
  go_wp2_with fail
  all_goals
    go_ret
    exact ⟨rfl, HT.out _ (by have := HR.out; omega)⟩
end Go.Proofs.Ytiofplejpgahdaa
