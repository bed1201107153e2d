/-
  fewIs and Few of layer 12's statements: where they tell so, an object's parts are few, and its names short. No conditions beyond those that each theorem names. (Written by wip/tools/few-s.py.)
-/
import Derived.Test.YtkkjfbpflfknpaaObjA
import Derived.Test.YtkkjfbpflfknpaaStru
import Derived.Deep.DeepCutAuto
namespace Go.Proofs.Ytkkjfbpflfknpaa
open Go.ChangeShapes Go.WideShapes Go.ChangeAt Go.RowKit

/- few, and short -/
structure Small (o : ObjD) : Prop where
  name : o.name.size ≤ 300
  text : o.text.size ≤ 300
  imps : o.imps.length ≤ 20
  types : o.types.length ≤ 20
  code : o.code.length ≤ 1100
  cmds : o.cmds.length ≤ 20
  exps : o.exps.length ≤ 300
  ptrs : o.ptrs.length ≤ 300
  procs : o.procs.length ≤ 300
  impn : ∀ (i : Nat) (x : ByteArray × Nat), o.imps[i]? = some x → x.1.size ≤ 300
  cmdn : ∀ (i : Nat) (x : ByteArray × Int), o.cmds[i]? = some x → x.1.size ≤ 300
theorem size_ob : (Try.prog.info? OT).map (·.size) = some 15 := by kernel_rfl
/- while fewIs looks: the object in a variable of its own -/
structure Looks (w wr : World) (ob : Nat) (V : ObjV) (o : ObjD) : Prop where
  row : RowAt wr ob OT (ocells V o)
  below : Below w.heap.size w wr
set_option maxRecDepth 100000 in
set_option maxHeartbeats 4000000 in
theorem fewis2_any (V : ObjV) (o : ObjD) (w : World) (h : ObjAt w V o) :
    Calls Try.prog 22 #[.agg (ocells V o).toArray] w fun e w' => (e = .returned (.bool false) ∨ e = .returned (.bool true) ∧ Small o) ∧ Below w.heap.size w w' := by
  have HO := Lib.hid h
  have HL : Hid (Looks w (w.alloc (.cells (ocells V o).toArray OT)) w.heap.size V o) := ⟨RowAt.new w _ _, (Below.refl _ _).alloc (Nat.le_refl _) _⟩
  obtain ⟨n0, hn0⟩ : ∃ n, n = o.name.size := ⟨_, rfl⟩
  have HN0 := Lib.hid hn0
  obtain ⟨n1, hn1⟩ : ∃ n, n = o.text.size := ⟨_, rfl⟩
  have HN1 := Lib.hid hn1
  obtain ⟨a2, q2, hv2, hc2, hm2, _⟩ := h.imps.shape
  obtain ⟨n2, hn2⟩ : ∃ n, n = o.imps.length := ⟨_, rfl⟩
  rw [← hn2] at hv2 hc2
  have HV2 := Lib.hid hv2
  have HN2 := Lib.hid hn2
  obtain ⟨a3, q3, hv3, hc3, hm3, _⟩ := h.types.shape
  obtain ⟨n3, hn3⟩ : ∃ n, n = o.types.length := ⟨_, rfl⟩
  rw [← hn3] at hv3 hc3
  have HV3 := Lib.hid hv3
  have HN3 := Lib.hid hn3
  obtain ⟨a4, q4, hv4, hc4, hm4, _⟩ := h.code.shape
  obtain ⟨n4, hn4⟩ : ∃ n, n = o.code.length := ⟨_, rfl⟩
  rw [← hn4] at hv4 hc4
  have HV4 := Lib.hid hv4
  have HN4 := Lib.hid hn4
  obtain ⟨a5, q5, hv5, hc5, hm5, _⟩ := h.cmds.shape
  obtain ⟨n5, hn5⟩ : ∃ n, n = o.cmds.length := ⟨_, rfl⟩
  rw [← hn5] at hv5 hc5
  have HV5 := Lib.hid hv5
  have HN5 := Lib.hid hn5
  obtain ⟨a6, q6, hv6, hc6, hm6, _⟩ := h.exps.shape
  obtain ⟨n6, hn6⟩ : ∃ n, n = o.exps.length := ⟨_, rfl⟩
  rw [← hn6] at hv6 hc6
  have HV6 := Lib.hid hv6
  have HN6 := Lib.hid hn6
  obtain ⟨a7, q7, hv7, hc7, hm7, _⟩ := h.ptrs.shape
  obtain ⟨n7, hn7⟩ : ∃ n, n = o.ptrs.length := ⟨_, rfl⟩
  rw [← hn7] at hv7 hc7
  have HV7 := Lib.hid hv7
  have HN7 := Lib.hid hn7
  obtain ⟨a8, q8, hv8, hc8, hm8, _⟩ := h.procs.shape
  obtain ⟨n8, hn8⟩ : ∃ n, n = o.procs.length := ⟨_, rfl⟩
  rw [← hn8] at hv8 hc8
  have HV8 := Lib.hid hv8
  have HN8 := Lib.hid hn8
  have z2 : n2 ≤ 9223372036854775807 := Nat.le_trans hc2 hm2
  have z5 : n5 ≤ 9223372036854775807 := Nat.le_trans hc5 hm5
  have HZ2 := Lib.hid z2
  have HZ5 := Lib.hid z5
  clear h z2 z5 hn0 hn1 hv2 hc2 hm2 hn2 hv3 hc3 hm3 hn3 hv4 hc4 hm4 hn4 hv5 hc5 hm5 hn5 hv6 hc6 hm6 hn6 hv7 hc7 hm7 hn7 hv8 hc8 hm8 hn8
  go_enter Try.func22, Try.ntmps22
  go_upto_region 1 with fail
  generalize w.alloc (.cells (ocells V o).toArray OT) = w0 at *
  obtain ⟨ob, hob⟩ : ∃ ob, ob = w.heap.size := ⟨_, rfl⟩
  have HL0 : Hid (Looks w w0 ob V o) := by rw [hob]; exact HL.out
  rw [← hob]
  clear HL hob
  go_wp2_with fail
  go_loopw [3] (fun i wr => ∃ m : Nat, m ≤ n2 ∧ i = .int .i64 (m : Nat) ∧ Looks w wr ob V o ∧ ∀ j, j < m → ∀ x, o.imps[j]? = some x → x.1.size ≤ 300) (fun i _ => n2 - (intOf i).toNat)
  case atStart => exact ⟨0, Nat.zero_le _, rfl, HL0.out, fun j hj => by omega⟩
  case round =>
    clear HL0
    obtain ⟨m, hm, rfl, hL, hS⟩ := hrel
    have HL := Lib.hid hL
    have HS2 := Lib.hid hS
    clear hS
    have ca : wr.cell? ⟨ob, 2, none⟩ = some (.slice a2 n2 q2) := (hL.row.cell 2).trans (congrArg some HV2.out)
    clear hL
    by_cases hlt : m < n2
    · as_aux_lemma =>
        obtain ⟨x, hx⟩ : ∃ x, o.imps[m]? = some x := ⟨_, List.getElem?_eq_getElem (by have := HN2.out; omega)⟩
        obtain ⟨x1, x2⟩ := x
        have HX := Lib.hid hx
        obtain ⟨b, off, cap, e0, hb, p0, _⟩ := HO.out.imps.cell2 hx rfl
        rw [← HN2.out] at e0
        have e2 := HV2.out.symm.trans e0
        cases e2
        have u0 := (HL.out.below.cell (p := ⟨b, off + m * 2, none⟩) hb).trans p0
        have i1 : (m : Int) < (n2 : Int) := by omega
        have i2 : (0 : Int) ≤ (m : Int) := by omega
        have i4 : IntKind.i64.wrap ((m : Int) + 1) = (m : Int) + 1 := IntWalk.i64_in _ (by have := HZ2.out; omega)
        obtain ⟨z, hz⟩ : ∃ z, z = x1.size := ⟨_, rfl⟩
        have HLT : Hid (m < n2) := hlt
        clear e0 hb p0 hx hm hlt
        by_cases hs : 300 < x1.size
        · have i3 : (300 : Int) < ((x1.size : Nat) : Int) := by omega
          have RES := Lib.hid HL.out.below
          clear hs hz
          go_wp2_with fail
          go_ret
          exact ⟨.inl rfl, RES.out⟩
        · have i3 : ¬ (300 : Int) < ((x1.size : Nat) : Int) := by omega
          have HSN : Hid (∀ j, j < m + 1 → ∀ x, o.imps[j]? = some x → x.1.size ≤ 300) := fun j hj x hx2 => by
            rcases Nat.lt_or_ge j m with h | h
            · exact HS2.out j h x hx2
            · obtain rfl : j = m := by omega
              have e := HX.out.symm.trans hx2
              cases e
              exact Nat.le_of_not_lt hs
          clear hs hz
          go_wp2_with fail
          go_roundw
          case rel => exact ⟨m + 1, HLT.out, by go_num, HL.out, HSN.out⟩
          case measure => have := HLT.out; simp [intOf]; omega
    · have i1 : ¬ (m : Int) < (n2 : Int) := by omega
      have HM2 : Hid (n2 ≤ m) := by show n2 ≤ m; omega
      clear hlt hm
      have HLB := HL
      clear HL
      go_wp2_with fail
      clear ca i1
      go_loopw [4] (fun i wr => ∃ m : Nat, m ≤ n5 ∧ i = .int .i64 (m : Nat) ∧ Looks w wr ob V o ∧ ∀ j, j < m → ∀ x, o.cmds[j]? = some x → x.1.size ≤ 300) (fun i _ => n5 - (intOf i).toNat)
      case atStart => exact ⟨0, Nat.zero_le _, rfl, HLB.out, fun j hj => by omega⟩
      case round =>
        clear HLB
        obtain ⟨m, hm, rfl, hL, hS⟩ := hrel
        have HL := Lib.hid hL
        have HS5 := Lib.hid hS
        clear hS
        have ca : wr.cell? ⟨ob, 7, none⟩ = some (.slice a5 n5 q5) := (hL.row.cell 7).trans (congrArg some HV5.out)
        clear hL
        by_cases hlt : m < n5
        · as_aux_lemma =>
            obtain ⟨x, hx⟩ : ∃ x, o.cmds[m]? = some x := ⟨_, List.getElem?_eq_getElem (by have := HN5.out; omega)⟩
            obtain ⟨x1, x2⟩ := x
            have HX := Lib.hid hx
            obtain ⟨b, off, cap, e0, hb, p0, _⟩ := HO.out.cmds.cell2 hx rfl
            rw [← HN5.out] at e0
            have e2 := HV5.out.symm.trans e0
            cases e2
            have u0 := (HL.out.below.cell (p := ⟨b, off + m * 2, none⟩) hb).trans p0
            have i1 : (m : Int) < (n5 : Int) := by omega
            have i2 : (0 : Int) ≤ (m : Int) := by omega
            have i4 : IntKind.i64.wrap ((m : Int) + 1) = (m : Int) + 1 := IntWalk.i64_in _ (by have := HZ5.out; omega)
            obtain ⟨z, hz⟩ : ∃ z, z = x1.size := ⟨_, rfl⟩
            have HLT : Hid (m < n5) := hlt
            clear e0 hb p0 hx hm hlt
            by_cases hs : 300 < x1.size
            · have i3 : (300 : Int) < ((x1.size : Nat) : Int) := by omega
              have RES := Lib.hid HL.out.below
              clear hs hz
              go_wp2_with fail
              go_ret
              exact ⟨.inl rfl, RES.out⟩
            · have i3 : ¬ (300 : Int) < ((x1.size : Nat) : Int) := by omega
              have HSN : Hid (∀ j, j < m + 1 → ∀ x, o.cmds[j]? = some x → x.1.size ≤ 300) := fun j hj x hx2 => by
                rcases Nat.lt_or_ge j m with h | h
                · exact HS5.out j h x hx2
                · obtain rfl : j = m := by omega
                  have e := HX.out.symm.trans hx2
                  cases e
                  exact Nat.le_of_not_lt hs
              clear hs hz
              go_wp2_with fail
              go_roundw
              case rel => exact ⟨m + 1, HLT.out, by go_num, HL.out, HSN.out⟩
              case measure => have := HLT.out; simp [intOf]; omega
        · have i1 : ¬ (m : Int) < (n5 : Int) := by omega
          have HM5 : Hid (n5 ≤ m) := by show n5 ≤ m; omega
          clear hlt hm ca
          have c0 : wr.cell? ⟨ob, 0, none⟩ = some (.string o.name) := HL.out.row.cell 0
          have c5 : wr.cell? ⟨ob, 5, none⟩ = some (.string o.text) := HL.out.row.cell 5
          have c2 : wr.cell? ⟨ob, 2, none⟩ = some (.slice a2 n2 q2) := (HL.out.row.cell 2).trans (congrArg some HV2.out)
          have c3 : wr.cell? ⟨ob, 3, none⟩ = some (.slice a3 n3 q3) := (HL.out.row.cell 3).trans (congrArg some HV3.out)
          have c6 : wr.cell? ⟨ob, 6, none⟩ = some (.slice a4 n4 q4) := (HL.out.row.cell 6).trans (congrArg some HV4.out)
          have c7 : wr.cell? ⟨ob, 7, none⟩ = some (.slice a5 n5 q5) := (HL.out.row.cell 7).trans (congrArg some HV5.out)
          have c8 : wr.cell? ⟨ob, 8, none⟩ = some (.slice a6 n6 q6) := (HL.out.row.cell 8).trans (congrArg some HV6.out)
          have c9 : wr.cell? ⟨ob, 9, none⟩ = some (.slice a7 n7 q7) := (HL.out.row.cell 9).trans (congrArg some HV7.out)
          have c10 : wr.cell? ⟨ob, 10, none⟩ = some (.slice a8 n8 q8) := (HL.out.row.cell 10).trans (congrArg some HV8.out)
          have RES := Lib.hid HL.out.below
          clear HL
          by_cases k0 : ((o.name.size : Nat) : Int) ≤ 300
          rotate_left
          · as_aux_lemma =>
              have g0 : decide (((o.name.size : Nat) : Int) ≤ 300) = false := by simpa using k0
              have g' : 300 < ((o.name.size : Nat) : Int) := by omega
              go_wp2_with fail
              all_goals (go_ret; exact ⟨.inl rfl, RES.out⟩)
          by_cases k1 : ((o.text.size : Nat) : Int) ≤ 300
          rotate_left
          · as_aux_lemma =>
              have g1 : decide (((o.text.size : Nat) : Int) ≤ 300) = false := by simpa using k1
              have g' : 300 < ((o.text.size : Nat) : Int) := by omega
              go_wp2_with fail
              all_goals (go_ret; exact ⟨.inl rfl, RES.out⟩)
          by_cases k2 : (n2 : Int) ≤ 20
          rotate_left
          · as_aux_lemma =>
              have g2 : decide ((n2 : Int) ≤ 20) = false := by simpa using k2
              have g' : 20 < (n2 : Int) := by omega
              go_wp2_with fail
              all_goals (go_ret; exact ⟨.inl rfl, RES.out⟩)
          by_cases k3 : (n3 : Int) ≤ 20
          rotate_left
          · as_aux_lemma =>
              have g3 : decide ((n3 : Int) ≤ 20) = false := by simpa using k3
              have g' : 20 < (n3 : Int) := by omega
              go_wp2_with fail
              all_goals (go_ret; exact ⟨.inl rfl, RES.out⟩)
          by_cases k4 : (n4 : Int) ≤ 1100
          rotate_left
          · as_aux_lemma =>
              have g4 : decide ((n4 : Int) ≤ 1100) = false := by simpa using k4
              have g' : 1100 < (n4 : Int) := by omega
              go_wp2_with fail
              all_goals (go_ret; exact ⟨.inl rfl, RES.out⟩)
          by_cases k5 : (n5 : Int) ≤ 20
          rotate_left
          · as_aux_lemma =>
              have g5 : decide ((n5 : Int) ≤ 20) = false := by simpa using k5
              have g' : 20 < (n5 : Int) := by omega
              go_wp2_with fail
              all_goals (go_ret; exact ⟨.inl rfl, RES.out⟩)
          by_cases k6 : (n6 : Int) ≤ 300
          rotate_left
          · as_aux_lemma =>
              have g6 : decide ((n6 : Int) ≤ 300) = false := by simpa using k6
              have g' : 300 < (n6 : Int) := by omega
              go_wp2_with fail
              all_goals (go_ret; exact ⟨.inl rfl, RES.out⟩)
          by_cases k7 : (n7 : Int) ≤ 300
          rotate_left
          · as_aux_lemma =>
              have g7 : decide ((n7 : Int) ≤ 300) = false := by simpa using k7
              have g' : 300 < (n7 : Int) := by omega
              go_wp2_with fail
              all_goals (go_ret; exact ⟨.inl rfl, RES.out⟩)
          by_cases k8 : (n8 : Int) ≤ 300
          rotate_left
          · as_aux_lemma =>
              have g8 : decide ((n8 : Int) ≤ 300) = false := by simpa using k8
              have g' : 300 < (n8 : Int) := by omega
              go_wp2_with fail
              all_goals (go_ret; exact ⟨.inl rfl, RES.out⟩)
          have FB : Hid (Small o) := ⟨by have := HN0.out; omega, by have := HN1.out; omega, by have := HN2.out; omega, by have := HN3.out; omega, by have := HN4.out; omega, by have := HN5.out; omega, by have := HN6.out; omega, by have := HN7.out; omega, by have := HN8.out; omega, fun i x hx => HS2.out i (by have := (List.getElem?_eq_some_iff.1 hx).1; have := HN2.out; have := HM2.out; omega) x hx, fun i x hx => HS5.out i (by have := (List.getElem?_eq_some_iff.1 hx).1; have := HN5.out; have := HM5.out; omega) x hx⟩
          go_wp2_with fail
          all_goals (go_ret; exact ⟨.inr ⟨rfl, FB.out⟩, RES.out⟩)
set_option maxRecDepth 100000 in
theorem few2_any (V : ObjV) (o : ObjD) (w : World) (h : ObjAt w V o) :
    Calls Try.prog 16 #[.agg (ocells V o).toArray] w fun e w' => ((e = .returned (.int .i64 1) ∧ Small o) ∨ e = .returned (.int .i64 0)) ∧ Below w.heap.size w w' := by
  have HX : Hid (RowAt (w.alloc (.cells (ocells V o).toArray OT)) w.heap.size OT (ocells V o) ∧ Below w.heap.size w (w.alloc (.cells (ocells V o).toArray OT))) := ⟨RowAt.new w _ _, (Below.refl _ _).alloc (Nat.le_refl _) _⟩
  have HC := Lib.hid (fewis2_any V o _ (h.on HX.out.2))
  clear h
  go_enter Try.func16, Try.ntmps16
  go_upto_region 1 with fail
  generalize w.alloc (.cells (ocells V o).toArray OT) = w0 at *
  go_wp2_with (refine wpList_load_row rfl _ _ rfl w.heap.size rfl OT (ocells V o).toArray (0, 0) _ HX.out.1 Try.underlying48 rfl (by rw [size_ob]; rfl) ?_)
  refine HC.out.mono ?_
  rintro e w1 ⟨hb, hk⟩
  have RES := Lib.hid (below_on HX.out.2 hk HX.out.2.size)
  clear hk HX HC
  rcases hb with rfl | ⟨rfl, hb⟩
  · go_wp2_with fail
    go_ret
    exact ⟨.inr rfl, RES.out⟩
  · have HB := Lib.hid hb
    clear hb
    go_wp2_with fail
    go_ret
    exact ⟨.inl ⟨rfl, HB.out⟩, RES.out⟩
end Go.Proofs.Ytkkjfbpflfknpaa
