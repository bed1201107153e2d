/-
  The program's areNames, namesMay (layer 14, rule 1). No conditions.
-/
import Derived.Test.YtekcebmojjkoeaaCkC
import Derived.Test.YtekcebmojjkoeaaNameA
import Derived.Test.YtekcebmojjkoeaaGrow
import Derived.Deep.DeepCutAuto
namespace Go.Proofs.Ytekcebmojjkoeaa
open Go.ChangeShapes Go.WideShapes Go.ChangeAt Go.RowKit

abbrev StT : TypeId := 9
abbrev SlT : TypeId := 80
abbrev ImT : TypeId := 47
def sRow (s : ByteArray) : List Value := [.string s]
theorem sRow_len (s : ByteArray) : (sRow s).length = 1 := rfl
theorem sRow_one (s : ByteArray) : Ones (sRow s) := by intro u hu; simp only [sRow, List.mem_singleton] at hu; subst hu; rfl
theorem info_st : (Try.prog.info? StT).map (fun i => (i.zero, i.size, i.bytes)) = some (some (.string ⟨#[]⟩), 1, 16) := by kernel_rfl
theorem size_im : (Try.prog.info? ImT).map (·.size) = some 2 := by kernel_rfl
theorem ones_imp (x : ByteArray × Nat) : Ones (impRow x) := by intro u hu; simp only [impRow, List.mem_cons, List.not_mem_nil, or_false] at hu; rcases hu with rfl | rfl <;> rfl
theorem str_ne {s t : ByteArray} (h : s ≠ t) : (s.toList == t.toList) = false := by
  rw [ByteArray.toList_eq, ByteArray.toList_eq, beq_eq_false_iff_ne]
  exact fun e => h (WideShapes.bytes_inj e)
theorem str_nq {s t : ByteArray} (h : s ≠ t) : ¬ s.toList = t.toList := by
  rw [ByteArray.toList_eq, ByteArray.toList_eq]
  exact fun e => h (WideShapes.bytes_inj e)

set_option maxRecDepth 100000 in
set_option maxHeartbeats 1000000 in
theorem areNames_any (v : Value) (L : List ByteArray) (r : Bool) (w : World) (h : ElsAt 1 sRow w v L) (hr : r = true ↔ NmsP L) :
    Calls Try.prog 37 #[v] w fun e w' => e = .returned (.bool r) ∧ w = w' := by
  have HO := Lib.hid h
  have HR := Lib.hid hr
  obtain ⟨a, cap, hv, hc, hm, _⟩ := h.shape
  obtain ⟨n, hn⟩ : ∃ n, n = L.length := ⟨_, rfl⟩
  rw [← hn] at hv hc
  have HN := Lib.hid hn
  have hsn : n ≤ 9223372036854775807 := Nat.le_trans hc hm
  have HCAP : Hid (n ≤ cap) := hc
  subst hv
  clear h hr hn hc hm
  go_enter Try.func37, Try.ntmps37
  go_wp2_with fail
  go_loopw [9] (fun i wr => w = wr ∧ ∃ m : Nat, m ≤ n ∧ i = .int .i64 (m : Nat) ∧ ∀ (j : Nat) (x : ByteArray), j < m → L[j]? = some x → NmAt L j x) (fun i _ => n - (intOf i).toNat)
  case atStart => exact ⟨rfl, 0, Nat.zero_le _, rfl, fun j x hj => by omega⟩
  case round =>
    obtain ⟨rfl, m, hm, rfl, hall⟩ := hrel
    have HALL := Lib.hid hall
    clear hall
    by_cases hlt : m < n
    · obtain ⟨x, hx⟩ : ∃ x, L[m]? = some x := ⟨_, List.getElem?_eq_getElem (by have := HN.out; omega)⟩
      have HX := Lib.hid hx
      obtain ⟨b, off, cap', e0, hb, u0⟩ := HO.out.cell1 hx rfl
      have ea : a = some ⟨b, off, none⟩ := by cases e0; rfl
      subst ea
      have i1 : (m : Int) < (n : Int) := by omega
      have i2 : (0 : Int) ≤ (m : Int) := by omega
      have i3 : (m : Int) ≤ (cap : Int) := by have := HCAP.out; omega
      have HLT : Hid (m < n) := hlt
      clear e0 hx hb hm hlt
      by_cases hnm : NameP x
      rotate_left
      · as_aux_lemma =>
        have HC := Lib.hid (fun w => nm_no x w hnm)
        have HRF : Hid (r = false) := bool_not HR.out fun g => hnm (g m _ HX.out).1
        clear hnm
        go_wp2_with fail
        refine (HC.out _).mono ?_
        rintro e w' ⟨rfl, rfl⟩
        go_wp2_with fail
        go_ret
        exact ⟨end_bool HRF.out.symm, rfl⟩
      have HC := Lib.hid (fun w => nm_yes x w hnm)
      have HNP := Lib.hid hnm
      clear hnm
      go_wp2_with fail
      refine (HC.out _).mono ?_
      rintro e w' ⟨rfl, rfl⟩
      clear HC
      go_wp2_with fail
      clear u0
      go_loopw [21] (fun i wr => w = wr ∧ ∃ k : Nat, k ≤ m ∧ i = .int .i64 (k : Nat) ∧ ∀ (j : Nat) (y : ByteArray), j < k → L[j]? = some y → y ≠ x) (fun i _ => m - (intOf i).toNat)
      case atStart => exact ⟨rfl, 0, Nat.zero_le _, rfl, fun j x hj => by omega⟩
      case round =>
        obtain ⟨rfl, k, hk, rfl, hall⟩ := hrel
        have HAK := Lib.hid hall
        clear hall
        by_cases hlt : k < m
        · obtain ⟨y, hy⟩ : ∃ y, L[k]? = some y := ⟨_, List.getElem?_eq_getElem (by have := HN.out; have := HLT.out; omega)⟩
          have HY := Lib.hid hy
          obtain ⟨b', off', cap2, e0, hb, u0⟩ := HO.out.cell1 hy rfl
          obtain ⟨rfl, rfl⟩ : b' = b ∧ off' = off := by cases e0; exact ⟨rfl, rfl⟩
          have j1 : (k : Int) < (m : Int) := by omega
          have j2 : (0 : Int) ≤ (k : Int) := by omega
          have HKT : Hid (k < m) := hlt
          clear e0 hy hb hk hlt
          by_cases hxy : y = x
          · as_aux_lemma =>
            have HRF : Hid (r = false) := bool_not HR.out fun g => (g m x HX.out).2 k y HKT.out HY.out hxy
            have t1 : (y.toList == x.toList) = true := by rw [hxy]; simp
            clear hxy
            go_wp2_with fail
            go_ret
            exact ⟨end_bool HRF.out.symm, rfl⟩
          · as_aux_lemma =>
            have t1 := str_ne hxy
            have t2 := str_nq hxy
            have HOK := Lib.hid (all_next (Q := fun _ y => y ≠ x) HAK.out HY.out hxy)
            clear hxy
            go_wp2_with fail
            go_roundw
            case rel => exact ⟨by trivial, k + 1, HKT.out, by go_num, HOK.out⟩
            case measure => have := HKT.out; simp [intOf]; omega
        · have j1 : ¬ (k : Int) < (m : Int) := by omega
          have HK : Hid (k = m) := by show k = m; omega
          have HOK := Lib.hid (all_next (Q := NmAt L) HALL.out HX.out ⟨HNP.out, fun j y hj hy => HAK.out j y (by have := HK.out; omega) hy⟩)
          clear hk hlt
          go_wp2_with fail
          go_roundw
          case rel => exact ⟨by trivial, m + 1, HLT.out, by go_num, HOK.out⟩
          case measure => have := HLT.out; simp [intOf]; omega
    · have i1 : ¬ (m : Int) < (n : Int) := by omega
      have HRT : Hid (r = true) := HR.out.2 (all_done (Q := NmAt L) HALL.out (by have := HN.out; omega))
      clear hm hlt
      go_wp2_with fail
      go_ret
      exact ⟨end_bool HRT.out.symm, rfl⟩

/- rows of different types are different blocks -/
theorem SRow.notIn {t T : TypeId} {k ob : Nat} {w : World} {v : Value} {n : Nat} {cs ds : List Value} (h : SRow t k w v n cs) (ho : RowAt w ob T ds) (ht : t ≠ T) : ¬ own v ob := by
  rcases h.is with ⟨rfl, h0⟩ | ⟨b, cap, rest, rfl, hr, _⟩
  · exact fun hj => hj.elim
  · intro hj
    have e1 : ob = b := hj
    subst e1
    have := hr.symm.trans ho
    simp at this
    exact ht this.2
/- while names are laid side by side: the object, the names so far -/
structure Nam (w wr : World) (ob : Nat) (V : ObjV) (o : ObjD) (v : Value) (L : List ByteArray) : Prop where
  look : Looks w wr ob V o
  row : SRow StT 1 wr v L.length (rows sRow L)
  fresh : ∀ j, own v j → w.heap.size ≤ j
theorem Nam.on {w wr w' : World} {ob : Nat} {V : ObjV} {o : ObjD} {v : Value} {L : List ByteArray} (h : Nam w wr ob V o v L) (hb : Below wr.heap.size wr w') : Nam w w' ob V o v L :=
  ⟨h.look.on3 hb, h.row.keep (Kept.of_below (S := fun _ => False) hb) (fun _ _ e => e), h.fresh⟩
theorem Nam.one {w wr : World} {ob : Nat} {V : ObjV} {o : ObjD} (h : Looks w wr ob V o) (s : ByteArray) : Nam w (wr.alloc (.cells #[.string s] StT)) ob V o (.slice (some ⟨wr.heap.size, 0, none⟩) 1 1) [s] := by
  refine ⟨h.on3 ((Below.refl _ _).alloc (Nat.le_refl _) _), ⟨.inr ⟨wr.heap.size, 1, [], rfl, RowAt.new wr StT [.string s], rfl, Nat.le_refl _, by decide⟩, rfl, sRow_one s⟩, fun j hj => ?_⟩
  have e : j = wr.heap.size := hj
  subst e
  exact h.below.size
theorem Nam.none {w wr : World} {ob : Nat} {V : ObjV} {o : ObjD} (h : Looks w wr ob V o) : Nam w wr ob V o (.slice none 0 0) [] := ⟨h, SRow.nil _ _ _, fun _ hj => hj.elim⟩
theorem Nam.more {w wr w' : World} {ob : Nat} {V : ObjV} {o : ObjD} {v v' : Value} {L : List ByteArray} {s : ByteArray} (h : Nam w wr ob V o v L) (h1 : SRow StT 1 w' v' (L ++ [s]).length (rows sRow (L ++ [s]))) (g : Grew wr w' v v') : Nam w w' ob V o v' (L ++ [s]) := by
  refine ⟨⟨h.look.row.keep g.1 (h.row.notIn h.look.row (by decide)), g.1.below h.look.below h.look.below.size fun j _ hj => h.fresh j hj⟩, h1, fun j hj => ?_⟩
  rcases g.2 j hj with e | e
  · exact h.fresh j e
  · exact Nat.le_trans h.look.below.size e
theorem take_next {α : Type} {L : List α} {m : Nat} {x : α} (h : L[m]? = some x) : L.take m ++ [x] = L.take (m + 1) := by
  rw [List.take_add_one, h]
  rfl
set_option maxRecDepth 100000 in
set_option maxHeartbeats 2000000 in
theorem namesMay_any (V : ObjV) (o : ObjD) (r : Bool) (w : World) (h : ObjAt w V o) (hr : r = true ↔ NamesQ o) :
    Calls Try.prog 25 #[.agg (ocells V o).toArray] w fun e w' => e = .returned (.bool r) ∧ Below w.heap.size w w' := by
  have HL' := Lib.hid (looks_new w V o)
  have HO := Lib.hid h
  have HR := Lib.hid hr
  obtain ⟨a2, q2, hv2, _⟩ := h.imps.shape
  obtain ⟨n2, hn2⟩ : ∃ n, n = o.imps.length := ⟨_, rfl⟩
  rw [← hn2] at hv2
  have HV2 := Lib.hid hv2
  have HN2 := Lib.hid hn2
  obtain ⟨a7, q7, hv7, _⟩ := h.cmds.shape
  obtain ⟨n7, hn7⟩ : ∃ n, n = o.cmds.length := ⟨_, rfl⟩
  rw [← hn7] at hv7
  have HV7 := Lib.hid hv7
  have HN7 := Lib.hid hn7
  clear h hr hv2 hn2 hv7 hn7
  go_enter Try.func25, Try.ntmps25
  go_upto_region 1 with fail
  generalize w.alloc (.cells (ocells V o).toArray OT) = w0 at *
  obtain ⟨ob, hob⟩ : ∃ ob, ob = w.heap.size := ⟨_, rfl⟩
  have HL : Hid (Looks w w0 ob V o) := by rw [hob]; exact HL'.out
  rw [← hob]
  clear HL' hob
  have c2 : w0.cell? ⟨ob, 2, none⟩ = some (.slice a2 n2 q2) := (HL.out.row.cell 2).trans (congrArg some HV2.out)
  have c7 : w0.cell? ⟨ob, 7, none⟩ = some (.slice a7 n7 q7) := (HL.out.row.cell 7).trans (congrArg some HV7.out)
  by_cases h2 : 8 < (n2 : Int)
  · as_aux_lemma =>
    have HRF : Hid (r = false) := bool_not HR.out fun g => by have := g.1.1; have := HN2.out; omega
    go_wp2_with fail
    go_ret
    exact ⟨end_bool HRF.out.symm, HL.out.below⟩
  by_cases h7 : 8 < (n7 : Int)
  · as_aux_lemma =>
    have HRF : Hid (r = false) := bool_not HR.out fun g => by have := g.1.2; have := HN7.out; omega
    have h7' : decide (8 < (n7 : Int)) = true := by simpa using h7
    go_wp2_with fail
    go_ret
    exact ⟨end_bool HRF.out.symm, HL.out.below⟩
  have s2 : n2 ≤ 8 := by omega
  have s7 : n7 ≤ 8 := by omega
  have h7' : decide (8 < (n7 : Int)) = false := by simpa using h7
  have c0 : w0.cell? ⟨ob, 0, none⟩ = some (.string o.name) := HL.out.row.cell 0
  have HM0 := Lib.hid (Nam.one HL.out o.name)
  have c2' := (HM0.out.look.row.cell 2).trans (congrArg some HV2.out)
  obtain ⟨r1, hr1⟩ := some_bool (NmsP (o.name :: o.imps.map (·.1)))
  obtain ⟨r2, hr2⟩ := some_bool (NmsP (o.cmds.map (·.1)))
  have H1 := Lib.hid hr1
  have H2 := Lib.hid hr2
  have HS : Hid (o.imps.length ≤ 8 ∧ o.cmds.length ≤ 8) := by have := HN2.out; have := HN7.out; show _ ∧ _; omega
  clear hr1 hr2
  go_upto_region 4 with fail
  generalize w0.alloc (.cells #[.string o.name] StT) = w1 at *
  generalize w0.heap.size = nb at *
  clear c0 c2 c7 h2 h7 h7' HL
  go_wp2_with fail
  clear c2'
  go_loopw [3, 25] (fun v i wr => ∃ m : Nat, m ≤ n2 ∧ i = .int .i64 (m : Nat) ∧ Nam w wr ob V o v (o.name :: (o.imps.map (·.1)).take m)) (fun _ i _ => n2 - (intOf i).toNat)
  case atStart => exact ⟨0, Nat.zero_le _, rfl, HM0.out⟩
  case round =>
    clear HM0
    obtain ⟨m, hm, rfl, hM⟩ := hrel
    have HM := Lib.hid hM
    clear hM
    by_cases hlt : m < n2
    · obtain ⟨x, hx⟩ : ∃ x, o.imps[m]? = some x := ⟨_, List.getElem?_eq_getElem (by have := HN2.out; omega)⟩
      obtain ⟨x1, x2⟩ := x
      have HTK : Hid ((o.imps.map (·.1)).take m ++ [x1] = (o.imps.map (·.1)).take (m + 1)) := take_next (by simp [hx])
      obtain ⟨b, off, cap, e0, hb, p0, p1⟩ := HO.out.imps.cell2 hx rfl
      rw [← HN2.out] at e0
      have ea : a2 = some ⟨b, off, none⟩ := by have e2 := HV2.out.symm.trans e0; cases e2; rfl
      rw [ea]
      have v0 := (HM.out.look.below.cell (p := ⟨b, off + m * 2, none⟩) hb).trans p0
      have v1 := (HM.out.look.below.cell (p := ⟨b, off + m * 2 + 1, none⟩) hb).trans p1
      have i1 : (m : Int) < (n2 : Int) := by omega
      have i2 : (0 : Int) ≤ (m : Int) := by omega
      have HLT : Hid (m < n2) := hlt
      have RUN := Lib.hid (box_el wr ImT 2 [.string ⟨#[]⟩, .int .u32 0] [.string x1, .int .u32 (x2 : Nat)] rfl rfl (ones_imp (x1, x2)) size_im)
      have HM1 : Hid (Nam w (wr.alloc (.cells #[.string x1, .int .u32 (x2 : Nat)] ImT)) ob V o u3 (o.name :: (o.imps.map (·.1)).take m)) := HM.out.on ((Below.refl _ _).alloc (Nat.le_refl _) _)
      have HR1 : Hid (RowAt (wr.alloc (.cells #[.string x1, .int .u32 (x2 : Nat)] ImT)) wr.heap.size ImT [.string x1, .int .u32 (x2 : Nat)]) := RowAt.new wr ImT _
      clear e0 ea hb p0 p1 hx hm hlt HM
      go_upto_region 7 with (refine wpList_store_run _ rfl _ _ _ rfl _ _ rfl rfl (by exact RUN.out) ?_)
      generalize wr.alloc (.cells #[.string x1, .int .u32 (x2 : Nat)] ImT) = w2 at *
      generalize wr.heap.size = tb at *
      clear v0 v1 RUN
      have d0 : w2.cell? ⟨tb, 0, none⟩ = some (.string x1) := HR1.out.cell 0
      obtain ⟨v4, w4, hr4, hs4, hg4⟩ := more_el (T := SlT) Try.underlying80 info_st rfl (by decide) sRow_len sRow_one HM1.out.row x1 (by simp; omega)
      have HM4 : Hid (Nam w w4 ob V o v4 (o.name :: (o.imps.map (·.1)).take (m + 1))) := by rw [← HTK.out]; exact HM1.out.more hs4 hg4
      clear hs4 hg4 HR1 HM1 HTK
      go_wp2_with (at_builtin; refine Lib.wpList_append_run _ rfl _ _ _ _ rfl _ _ rfl rfl _ _ hr4 ?_)
      go_roundw
      case rel => exact ⟨m + 1, HLT.out, by go_num, HM4.out⟩
      case measure => have := HLT.out; simp [intOf]; omega
    · have i1 : ¬ (m : Int) < (n2 : Int) := by omega
      have HMA : Hid (Nam w wr ob V o u3 (o.name :: o.imps.map (·.1))) := by
        have := HM.out
        rw [List.take_of_length_le (by have := HN2.out; simp; omega)] at this
        exact this
      have HE1 := Lib.hid (HMA.out.row.els sRow_len)
      have HLA : Hid (Looks wr wr ob V o) := ⟨HMA.out.look.row, Below.refl _ _⟩
      have c7 : wr.cell? ⟨ob, 7, none⟩ = some (.slice a7 n7 q7) := (HMA.out.look.row.cell 7).trans (congrArg some HV7.out)
      have HOA := Lib.hid (HO.out.on HMA.out.look.below)
      have HBA := Lib.hid HMA.out.look.below
      clear HM hm hlt HMA
      go_wp2_with fail
      clear c7 i1
      generalize wr = wA at *
      go_loopw [6, 38] (fun v i wr => ∃ m : Nat, m ≤ n7 ∧ i = .int .i64 (m : Nat) ∧ Nam wA wr ob V o v ((o.cmds.map (·.1)).take m)) (fun _ i _ => n7 - (intOf i).toNat)
      case atStart => exact ⟨0, Nat.zero_le _, rfl, Nam.none HLA.out⟩
      case round =>
        clear HLA
        obtain ⟨m, hm, rfl, hM⟩ := hrel
        have HM := Lib.hid hM
        clear hM
        by_cases hlt : m < n7
        · obtain ⟨x, hx⟩ : ∃ x, o.cmds[m]? = some x := ⟨_, List.getElem?_eq_getElem (by have := HN7.out; omega)⟩
          obtain ⟨x1, x2⟩ := x
          have HTK : Hid ((o.cmds.map (·.1)).take m ++ [x1] = (o.cmds.map (·.1)).take (m + 1)) := take_next (by simp [hx])
          obtain ⟨b, off, cap, e0, hb, p0, p1⟩ := HOA.out.cmds.cell2 hx rfl
          rw [← HN7.out] at e0
          have ea : a7 = some ⟨b, off, none⟩ := by have e2 := HV7.out.symm.trans e0; cases e2; rfl
          rw [ea]
          have v0 := (HM.out.look.below.cell (p := ⟨b, off + m * 2, none⟩) hb).trans p0
          have v1 := (HM.out.look.below.cell (p := ⟨b, off + m * 2 + 1, none⟩) hb).trans p1
          have i1 : (m : Int) < (n7 : Int) := by omega
          have i2 : (0 : Int) ≤ (m : Int) := by omega
          have HLT : Hid (m < n7) := hlt
          have RUN := Lib.hid (box_el wr CmT 2 [.string ⟨#[]⟩, .int .i64 0] [.string x1, .int .i64 x2] rfl rfl (ones_cmd (x1, x2)) size_cm)
          have HM1 : Hid (Nam wA (wr.alloc (.cells #[.string x1, .int .i64 x2] CmT)) ob V o u6 ((o.cmds.map (·.1)).take m)) := HM.out.on ((Below.refl _ _).alloc (Nat.le_refl _) _)
          have HR1 : Hid (RowAt (wr.alloc (.cells #[.string x1, .int .i64 x2] CmT)) wr.heap.size CmT [.string x1, .int .i64 x2]) := RowAt.new wr CmT _
          clear e0 ea hb p0 p1 hx hm hlt HM
          go_upto_region 13 with (refine wpList_store_run _ rfl _ _ _ rfl _ _ rfl rfl (by exact RUN.out) ?_)
          generalize wr.alloc (.cells #[.string x1, .int .i64 x2] CmT) = w2 at *
          generalize wr.heap.size = tb at *
          clear v0 v1 RUN
          have d0 : w2.cell? ⟨tb, 0, none⟩ = some (.string x1) := HR1.out.cell 0
          obtain ⟨v4, w4, hr4, hs4, hg4⟩ := more_el (T := SlT) Try.underlying80 info_st rfl (by decide) sRow_len sRow_one HM1.out.row x1 (by simp; omega)
          have HM4 : Hid (Nam wA w4 ob V o v4 ((o.cmds.map (·.1)).take (m + 1))) := by rw [← HTK.out]; exact HM1.out.more hs4 hg4
          clear hs4 hg4 HR1 HM1 HTK
          go_wp2_with (at_builtin; refine Lib.wpList_append_run _ rfl _ _ _ _ rfl _ _ rfl rfl _ _ hr4 ?_)
          go_roundw
          case rel => exact ⟨m + 1, HLT.out, by go_num, HM4.out⟩
          case measure => have := HLT.out; simp [intOf]; omega
        · have i1 : ¬ (m : Int) < (n7 : Int) := by omega
          have HMB : Hid (Nam wA wr ob V o u6 (o.cmds.map (·.1))) := by
            have := HM.out
            rw [List.take_of_length_le (by have := HN7.out; simp; omega)] at this
            exact this
          have HE2 := Lib.hid (HMB.out.row.els sRow_len)
          have HE1' := Lib.hid (HE1.out.on HMB.out.look.below)
          have RES := Lib.hid (below_on HBA.out HMB.out.look.below HBA.out.size)
          clear HM hm hlt HMB HE1 HOA HBA
          go_wp2_with fail
          refine (areNames_any _ _ r1 _ HE1'.out H1.out).mono ?_
          rintro e w' ⟨rfl, rfl⟩
          cases r1 with
          | false =>
            as_aux_lemma =>
            have HRF : Hid (r = false) := bool_not HR.out fun g => by have := H1.out.2 g.2.1; cases this
            go_wp2_with fail
            go_ret
            exact ⟨end_bool HRF.out.symm, RES.out⟩
          | true =>
            as_aux_lemma =>
            have G1 := Lib.hid (H1.out.1 rfl)
            clear H1
            go_wp2_with fail
            refine (areNames_any _ _ r2 _ HE2.out H2.out).mono ?_
            rintro e w' ⟨rfl, rfl⟩
            have HRR : Hid (r = r2) := by
              show r = r2
              cases r2 with
              | true => exact HR.out.2 ⟨HS.out, G1.out, H2.out.1 rfl⟩
              | false => exact bool_not HR.out fun g => by have := H2.out.2 g.2.2; cases this
            go_wp2_with fail
            go_ret
            exact ⟨end_bool HRR.out.symm, RES.out⟩
end Go.Proofs.Ytekcebmojjkoeaa
