/-
  The walk of CheckNames (layer 14): true at any object, any text, any key. No conditions.
-/
import Derived.Test.YtekcebmojjkoeaaCkU
import Derived.Test.YtekcebmojjkoeaaNameR
namespace Go.Proofs.Ytekcebmojjkoeaa
open Go.ChangeShapes Go.WideShapes Go.ChangeAt Go.RowKit

/- an object with another name, another key -/
def named (o : ObjD) (s : ByteArray) (k : Nat) : ObjD := { o with name := s, key := k }
def NoneIs (o : ObjD) (s : ByteArray) : Prop := ∀ (i : Nat) (x : ByteArray × Nat), o.imps[i]? = some x → x.1 ≠ s
theorem parts_named {o : ObjD} (h : PartsQ o) (s : ByteArray) (k : Nat) : PartsQ (named o s k) ↔ NameP s ∧ NoneIs o s := by
  have hi := ((nms_imps o).1 h.1.2.1).2
  constructor
  · intro g
    have g3 := (nms_imps (named o s k)).1 g.1.2.1
    exact ⟨g3.1, fun i x hx => (g3.2 i x hx).2.1⟩
  · rintro ⟨hs, hn⟩
    exact ⟨⟨h.1.1, (nms_imps (named o s k)).2 ⟨hs, fun i x hx => ⟨(hi i x hx).1, hn i x hx, (hi i x hx).2.2⟩⟩, h.1.2.2⟩, h.2⟩
theorem scan_named (o : ObjD) (s : ByteArray) (k a : Nat) : ∀ (l : List RefD) (P : List Int), scan (named o s k) a l P = scan o a l P
  | [], P => by rw [scan, scan]
  | r :: l, P => by
    by_cases h1 : r.at_ ∈ P
    · rw [scan_met h1, scan_met h1]
    · by_cases h2 : RefOk o a r
      · rw [scan_on h1 h2, scan_on h1 (show RefOk (named o s k) a r from h2), scan_named o s k a l]
      · rw [scan_bad h2, scan_bad (show ¬ RefOk (named o s k) a r from h2)]
theorem refsG_named (o : ObjD) (s : ByteArray) (k : Nat) : ∀ (ks : List Nat) (acc : List (List RefD)) (P : List Int), refsG (named o s k) ks acc P = refsG o ks acc P
  | [], acc, P => by rw [refsG, refsG]
  | a :: ks, acc, P => by
    cases hw : walkV o.code (fixO o a) (opK a) with
    | none => rw [refsG_none hw, refsG_none (show walkV (named o s k).code (fixO (named o s k) a) (opK a) = none from hw)]
    | some l =>
      rw [refsG_some hw, refsG_some (show walkV (named o s k).code (fixO (named o s k) a) (opK a) = some l from hw), scan_named]
      congr 1
      funext P'
      exact refsG_named o s k ks _ _
theorem refsV_parts {o : ObjD} (h : (refsV o).isSome = true) : PartsQ o := by
  apply Classical.byContradiction
  intro g
  rw [refsV_no g] at h
  cases h
theorem named_yes {o : ObjD} (h : (refsV o).isSome = true) {s : ByteArray} (k : Nat) (hs : NameP s) (hn : NoneIs o s) : (refsV (named o s k)).isSome = true := by
  have hp := refsV_parts h
  rw [refsV_go hp] at h
  rw [refsV_go ((parts_named hp s k).2 ⟨hs, hn⟩), refsG_named]
  exact h
theorem named_no {o : ObjD} (h : (refsV o).isSome = true) {s : ByteArray} (k : Nat) (hn : ¬ (NameP s ∧ NoneIs o s)) : (refsV (named o s k)).isSome = false := by
  rw [refsV_no fun g => hn ((parts_named (refsV_parts h) s k).1 g)]
  rfl
/- a command behind the code's end; no code -/
def goS : ByteArray := ⟨#[71, 111]⟩
def withCmd (o : ObjD) : ObjD := { o with cmds := [(goS, (o.code.length : Nat))] }
def noCode (o : ObjD) : ObjD := { o with code := [] }
theorem withCmd_no (o : ObjD) : (refsV (withCmd o)).isSome = false := by
  rw [refsV_no]
  · rfl
  · intro g
    have h1 := g.2.2.2.1 0 (goS, ((o.code.length : Nat) : Int)) rfl
    have h2 : ((o.code.length : Nat) : Int) < ((o.code.length : Nat) : Int) := h1.2
    omega
theorem noCode_no (o : ObjD) : (refsV (noCode o)).isSome = false := by
  rw [refsV_no]
  · rfl
  · intro g
    have h1 : 1 ≤ (0 : Nat) := g.2.1.2.2.1
    omega
/- while the law goes on: the object; a copy of it -/
structure Nm (w wr : World) (ob xb : Nat) (V : ObjV) (o : ObjD) (xs : List Value) : Prop where
  look : Looks w wr ob V o
  row : RowAt wr xb OT xs
  far : w.heap.size ≤ xb ∧ ob ≠ xb
theorem Nm.on {w wr w' : World} {ob xb : Nat} {V : ObjV} {o : ObjD} {xs : List Value} (h : Nm w wr ob xb V o xs) (hb : Below wr.heap.size wr w') : Nm w w' ob xb V o xs :=
  ⟨h.look.on3 hb, h.row.keep (Kept.of_below (S := fun _ => False) hb) (fun e => e), h.far⟩
theorem Nm.set {w wr : World} {ob xb : Nat} {V : ObjV} {o : ObjD} {xs : List Value} (h : Nm w wr ob xb V o xs) (i : Nat) (u : Value) : Nm w (wr.setCell ⟨xb, i, none⟩ u) ob xb V o (xs.set i u) :=
  ⟨⟨h.look.row.keep (kept_set wr xb i u) h.far.2, (kept_set wr xb i u).below h.look.below h.look.below.size fun j _ e => by have := h.far.1; omega⟩, h.row.setCell i u, h.far⟩
theorem Nm.start {w wr : World} {ob : Nat} {V : ObjV} {o : ObjD} (h : Looks w wr ob V o) : Nm w (wr.alloc (.cells (ocells V o).toArray OT)) ob wr.heap.size V o (ocells V o) :=
  ⟨h.on3 ((Below.refl _ _).alloc (Nat.le_refl _) _), RowAt.new wr OT _, h.below.size, by have := h.row.lt; omega⟩
theorem named_at {w : World} {V : ObjV} {o : ObjD} (h : ObjAt w V o) {s : ByteArray} {k : Nat} (hs : s.size ≤ maxLen) (hk : k < 4294967296) : ObjAt w V (named o s k) :=
  ⟨h.imps, h.types, h.code, h.cmds, h.exps, h.ptrs, h.procs, ⟨hs, hk, h.fit.imps, h.fit.types, h.fit.data, h.fit.text, h.fit.code, h.fit.cmds, h.fit.exps, h.fit.ptrs, h.fit.procs, h.fit.f0, h.fit.f1, h.fit.f2, h.fit.body⟩⟩
theorem noCode_at {w : World} {V : ObjV} {o : ObjD} (h : ObjAt w V o) : ObjAt w { V with c := .slice none 0 0 } (noCode o) :=
  ⟨h.imps, h.types, els_none _ _ _, h.cmds, h.exps, h.ptrs, h.procs, ⟨h.fit.name, h.fit.key, h.fit.imps, h.fit.types, h.fit.data, h.fit.text, (fun x hx => by cases hx), h.fit.cmds, h.fit.exps, h.fit.ptrs, h.fit.procs, h.fit.f0, h.fit.f1, h.fit.f2, h.fit.body⟩⟩
theorem cmd_one (wr : World) (s : ByteArray) (n : Int) : ElsAt 2 cmdRow (wr.alloc (.cells #[.string s, .int .i64 n] CmT)) (.slice (some ⟨wr.heap.size, 0, none⟩) 1 1) [(s, n)] := by
  have hr : RowAt (wr.alloc (.cells #[.string s, .int .i64 n] CmT)) wr.heap.size CmT [.string s, .int .i64 n] := RowAt.new wr CmT _
  have hs : SRow CmT 2 (wr.alloc (.cells #[.string s, .int .i64 n] CmT)) (.slice (some ⟨wr.heap.size, 0, none⟩) 1 1) [(s, n)].length (rows cmdRow [(s, n)]) :=
    ⟨.inr ⟨_, 1, [], rfl, hr, rfl, Nat.le_refl _, by simp [maxLen]⟩, rfl, ones_cmd (s, n)⟩
  exact hs.els fun _ => rfl
theorem withCmd_at {w : World} {V : ObjV} {o : ObjD} {v : Value} (h : ObjAt w V o) (hv : ElsAt 2 cmdRow w v [(goS, ((o.code.length : Nat) : Int))]) : ObjAt w { V with m := v } (withCmd o) := by
  obtain ⟨_, _, _, h1, h2, _⟩ := h.code.shape
  have hl : o.code.length ≤ maxLen := Nat.le_trans h1 h2
  refine ⟨h.imps, h.types, h.code, hv, h.exps, h.ptrs, h.procs, ⟨h.fit.name, h.fit.key, h.fit.imps, h.fit.types, h.fit.data, h.fit.text, h.fit.code, (fun x hx => ?_), h.fit.exps, h.fit.ptrs, h.fit.procs, h.fit.f0, h.fit.f1, h.fit.f2, h.fit.body⟩⟩
  have e : x = (goS, ((o.code.length : Nat) : Int)) := List.mem_singleton.1 hx
  subst e
  refine ⟨(show goS.size ≤ maxLen by decide), ?_, ?_⟩
  · show -9223372036854775808 ≤ ((o.code.length : Nat) : Int)
    omega
  · show ((o.code.length : Nat) : Int) ≤ 9223372036854775807
    have : maxLen ≤ 9223372036854775807 := by decide
    omega

theorem below_copy (wr : World) (xs : List Value) (t : TypeId) (i : Nat) (u : Value) : Below wr.heap.size wr ((wr.alloc (.cells xs.toArray t)).setCell ⟨wr.heap.size, i, none⟩ u) :=
  (kept_set _ _ i u).below ((Below.refl _ _).alloc (Nat.le_refl _) _) (by simp) fun k _ e => by omega
set_option maxRecDepth 100000 in
set_option maxHeartbeats 8000000 in
theorem checkNames_walk (V : ObjV) (o : ObjD) (s : ByteArray) (k : Nat) (w : World) (h : ObjAt w V o) (hsz : s.size ≤ maxLen) (hk : k < 4294967296) :
    Calls Try.prog 4 #[.agg (ocells V o).toArray, .string s, .int .u32 (k : Nat)] w fun e w' => e = .returned (.bool true) ∧ Below w.heap.size w w' := by
  have HL' := Lib.hid (looks_new w V o)
  have HO := Lib.hid h
  have HSZ := Lib.hid hsz
  have HKY := Lib.hid hk
  have hs62 : s.size ≤ 9223372036854775807 := hsz
  obtain ⟨a2, q2, hv2, hc2, hm2, _⟩ := h.imps.shape
  obtain ⟨n2, hn2⟩ : ∃ n, n = o.imps.length := ⟨_, rfl⟩
  rw [← hn2] at hv2 hc2
  have HV2 := Lib.hid hv2
  have HN2 := Lib.hid hn2
  have s2 : n2 ≤ 9223372036854775807 := Nat.le_trans hc2 hm2
  obtain ⟨a6, q6, hv6, _⟩ := h.code.shape
  obtain ⟨n6, hn6⟩ : ∃ n, n = o.code.length := ⟨_, rfl⟩
  rw [← hn6] at hv6
  have HV6 := Lib.hid hv6
  have HN6 := Lib.hid hn6
  clear h hsz hk hv2 hc2 hm2 hn2 hv6 hn6
  go_enter Try.func4, Try.ntmps4
  go_upto_region 1 with fail
  generalize w.alloc (.cells (ocells V o).toArray OT) = w0 at *
  obtain ⟨ob, hob⟩ : ∃ ob, ob = w.heap.size := ⟨_, rfl⟩
  have HL : Hid (Looks w w0 ob V o) := by rw [hob]; exact HL'.out
  rw [← hob]
  clear HL' hob
  go_wp2_with fail
  refine (up14 w0).mono ?_
  rintro e w1 ⟨rfl, hb1⟩
  have HL1 := Lib.hid (HL.out.on3 hb1)
  clear hb1 HL
  go_wp2_with (refine load_row_on rfl _ _ rfl ob rfl OT (ocells V o).toArray (0, 0) _ HL1.out.row Try.underlying31 rfl (by rw [size_ob]; rfl) ?_)
  refine (few2_any V o _ (HO.out.on HL1.out.below)).mono ?_
  rintro e w2 ⟨hfew, hb2⟩
  have HL2 := Lib.hid (HL1.out.on3 hb2)
  clear hb2 HL1
  rcases hfew with ⟨rfl, _⟩ | rfl
  rotate_left
  · as_aux_lemma =>
    go_wp2_with fail
    go_ret
    exact ⟨rfl, HL2.out.below⟩
  by_cases h300 : 300 < ((s.size : Nat) : Int)
  · as_aux_lemma =>
    have h300' : decide (300 < ((s.size : Nat) : Int)) = true := by simpa using h300
    go_wp2_with fail
    go_ret
    exact ⟨rfl, HL2.out.below⟩
  have h300' : decide (300 < ((s.size : Nat) : Int)) = false := by simpa using h300
  have HS3 : Hid (s.size ≤ 1000) := by show s.size ≤ 1000; omega
  obtain ⟨rv, hrv⟩ : ∃ rv, rv = (refsV o).isSome := ⟨_, rfl⟩
  have HRV := Lib.hid hrv
  have HVO : Hid (∀ w' : World, ObjAt w' V o → Calls Try.prog 9 #[.agg (ocells V o).toArray] w' fun e w'' => e = .returned (.bool rv) ∧ Below w'.heap.size w' w'') := fun w' ho => by rw [hrv]; exact valid_any V o w' ho
  clear hrv
  go_wp2_with (refine load_row_on rfl _ _ rfl ob rfl OT (ocells V o).toArray (0, 0) _ HL2.out.row Try.underlying31 rfl (by rw [size_ob]; rfl) ?_)
  refine (HVO.out _ (HO.out.on HL2.out.below)).mono ?_
  rintro e w3 ⟨rfl, hb3⟩
  have HL3 := Lib.hid (HL2.out.on3 hb3)
  clear hb3 HL2 HVO h300 h300'
  cases rv with
  | false =>
    as_aux_lemma =>
    go_wp2_with fail
    go_ret
    exact ⟨rfl, HL3.out.below⟩
  | true =>
  have HVAL : Hid ((refsV o).isSome = true) := HRV.out.symm
  clear HRV
  have RUNX := Lib.hid (box_obj w3 w3.heap.size rfl V o (ones_obj14 V o _ (HO.out.on HL3.out.below)))
  have HX0 := Lib.hid (Nm.start HL3.out)
  go_upto_region 7 with (first
    | (refine wpList_store_run _ rfl _ _ _ rfl _ _ rfl rfl (by exact RUNX.out) ?_)
    | (refine load_row_on rfl _ _ rfl ob rfl OT (ocells V o).toArray (0, 0) _ HL3.out.row Try.underlying31 rfl (by rw [size_ob]; rfl) ?_))
  clear RUNX HL3
  generalize w3.alloc (.cells (ocells V o).toArray OT) = w4 at *
  generalize w3.heap.size = xb at *
  have c0 : w4.cell? ⟨xb, 0, none⟩ = some (.string o.name) := HX0.out.row.cell 0
  have f0 : w4.frozen? ⟨xb, 0, none⟩ = false := HX0.out.row.free 0
  have HX1 := Lib.hid (HX0.out.set 0 (.string s))
  clear HX0
  go_upto_region 8 with fail
  clear c0 f0
  generalize w4.setCell ⟨xb, 0, none⟩ (.string s) = w4b at *
  have c1 : w4b.cell? ⟨xb, 1, none⟩ = some (.int .u32 (o.key : Nat)) := HX1.out.row.cell 1
  have f1 : w4b.frozen? ⟨xb, 1, none⟩ = false := HX1.out.row.free 1
  have HX2 : Hid (Nm w (w4b.setCell ⟨xb, 1, none⟩ (.int .u32 (k : Nat))) ob xb V o (ocells V (named o s k))) := HX1.out.set 1 (.int .u32 (k : Nat))
  clear HX1
  go_upto_region 9 with fail
  clear c1 f1
  generalize w4b.setCell ⟨xb, 1, none⟩ (.int .u32 (k : Nat)) = w5 at *
  have c2 : w5.cell? ⟨ob, 2, none⟩ = some (.slice a2 n2 q2) := (HX2.out.look.row.cell 2).trans (congrArg some HV2.out)
  go_wp2_with fail
  go_loopw [9, 10] (fun b i wr => w5 = wr ∧ ∃ (mt : Bool) (m : Nat), m ≤ n2 ∧ b = .bool mt ∧ i = .int .i64 (m : Nat) ∧ (mt = true ↔ ∃ (j : Nat) (x : ByteArray × Nat), j < m ∧ o.imps[j]? = some x ∧ x.1 = s)) (fun _ i _ => n2 - (intOf i).toNat)
  case atStart => exact ⟨rfl, false, 0, Nat.zero_le _, rfl, rfl, ⟨(fun e => by cases e), (fun ⟨j, _, hj, _⟩ => by omega)⟩⟩
  case round =>
    obtain ⟨rfl, mt, m, hm, rfl, rfl, hmt⟩ := hrel
    have HMT := Lib.hid hmt
    clear hmt
    by_cases hlt : m < n2
    · obtain ⟨x, hx⟩ : ∃ x, o.imps[m]? = some x := ⟨_, List.getElem?_eq_getElem (by have := HN2.out; omega)⟩
      have HX := Lib.hid hx
      obtain ⟨x1, x2⟩ := x
      obtain ⟨b, off, cap, e0, hb, p0, _⟩ := HO.out.imps.cell2 hx rfl
      rw [← HN2.out] at e0
      have ea : a2 = some ⟨b, off, none⟩ := by have e2 := HV2.out.symm.trans e0; cases e2; rfl
      rw [ea] at c2
      have u0 := (HX2.out.look.below.cell (p := ⟨b, off + m * 2, none⟩) hb).trans p0
      have i1 : (m : Int) < (n2 : Int) := by omega
      have i2 : (0 : Int) ≤ (m : Int) := by omega
      have HLT : Hid (m < n2) := hlt
      clear e0 ea hb p0 hx hm hlt
      cases mt with
      | true =>
        as_aux_lemma =>
        have HMN : Hid (true = true ↔ ∃ (j : Nat) (x : ByteArray × Nat), j < m + 1 ∧ o.imps[j]? = some x ∧ x.1 = s) := ⟨fun _ => by obtain ⟨j, y, hj, h1, h2⟩ := HMT.out.1 rfl; exact ⟨j, y, by omega, h1, h2⟩, fun _ => rfl⟩
        go_wp2_with fail
        go_roundw
        case rel => exact ⟨by trivial, true, m + 1, HLT.out, rfl, by go_num, by simpa using HMN.out⟩
        case measure => have := HLT.out; simp [intOf]; omega
      | false =>
        have HMF : Hid (∀ (j : Nat) (y : ByteArray × Nat), j < m → o.imps[j]? = some y → y.1 ≠ s) := fun j y hj h1 h2 => by have := HMT.out.2 ⟨j, y, hj, h1, h2⟩; cases this
        clear HMT
        by_cases hxs : x1 = s
        · as_aux_lemma =>
          have HMN : Hid (true = true ↔ ∃ (j : Nat) (x : ByteArray × Nat), j < m + 1 ∧ o.imps[j]? = some x ∧ x.1 = s) := ⟨fun _ => ⟨m, _, by omega, HX.out, hxs⟩, fun _ => rfl⟩
          have t1 : (x1.toList == s.toList) = true := by rw [hxs]; simp
          clear hxs
          go_wp2_with fail
          go_roundw
          case rel => exact ⟨by trivial, true, m + 1, HLT.out, rfl, by go_num, by simpa using HMN.out⟩
          case measure => have := HLT.out; simp [intOf]; omega
        · as_aux_lemma =>
          have HMN : Hid (false = true ↔ ∃ (j : Nat) (x : ByteArray × Nat), j < m + 1 ∧ o.imps[j]? = some x ∧ x.1 = s) := ⟨(fun e => by cases e), fun ⟨j, y, hj, h1, h2⟩ => by
            have := all_next (Q := fun _ (y : ByteArray × Nat) => y.1 ≠ s) HMF.out HX.out hxs j y hj h1
            exact absurd h2 this⟩
          have t1 := str_ne hxs
          have t2 := str_nq hxs
          clear hxs
          go_wp2_with fail
          go_roundw
          case rel => exact ⟨by trivial, false, m + 1, HLT.out, rfl, by go_num, HMN.out⟩
          case measure => have := HLT.out; simp [intOf]; omega
    · have i1 : ¬ (m : Int) < (n2 : Int) := by omega
      have HNI : Hid (NoneIs o s ↔ mt = false) := by
        have hmn : m = o.imps.length := by have := HN2.out; omega
        constructor
        · intro g
          cases mt with
          | false => rfl
          | true =>
            obtain ⟨j, y, _, h1, h2⟩ := HMT.out.1 rfl
            exact absurd h2 (g j y h1)
        · intro e j y h1 h2
          have := HMT.out.2 ⟨j, y, by have := (List.getElem?_eq_some_iff.1 h1).1; omega, h1, h2⟩
          rw [e] at this
          cases this
      have HNX5 := HX2
      clear hm hlt HMT HX2
      by_cases hnm : NameP s
      · have HNM : Hid (∀ w : World, Calls Try.prog 13 #[.string s] w fun e w' => e = .returned (.bool true) ∧ w = w') := fun w => by
          have := refName_any s w HS3.out
          simpa [hnm] using this
        cases mt with
        | true =>
          as_aux_lemma =>
          have HVX : Hid (∀ w' : World, ObjAt w' V (named o s k) → Calls Try.prog 9 #[.agg (ocells V (named o s k)).toArray] w' fun e w'' => e = .returned (.bool false) ∧ Below w'.heap.size w' w'') := fun w' ho => valid_no V _ w' ho (named_no HVAL.out k fun g => by have := HNI.out.1 g.2; cases this)
          clear hnm HNI HVAL HS3
          go_wp2_with fail
          refine (HNM.out _).mono ?_
          rintro e w' ⟨rfl, rfl⟩
          clear HNM
          go_wp2_with (refine load_row_on rfl _ _ rfl xb rfl OT (ocells V (named o s k)).toArray (0, 0) _ HNX5.out.row Try.underlying31 rfl (by rw [size_ob]; rfl) ?_)
          refine (HVX.out _ (named_at (HO.out.on HNX5.out.look.below) HSZ.out HKY.out)).mono ?_
          rintro e w6 ⟨rfl, hb6⟩
          have HNX := Lib.hid (HNX5.out.on hb6)
          clear hb6 HNX5 HVX
          have HL6 := Lib.hid HNX.out.look
          clear HNX
          generalize ocells V (named o s k) = xcs at *
          have RUNY := Lib.hid (box_obj w6 w6.heap.size rfl V o (ones_obj14 V o _ (HO.out.on HL6.out.below)))
          have HY0 := Lib.hid (Nm.start HL6.out)
          go_upto_region 18 with (first
            | (refine wpList_store_run _ rfl _ _ _ rfl _ _ rfl rfl (by exact RUNY.out) ?_)
            | (refine load_row_on rfl _ _ rfl ob rfl OT (ocells V o).toArray (0, 0) _ HL6.out.row Try.underlying31 rfl (by rw [size_ob]; rfl) ?_))
          clear RUNY HL6
          generalize w6.alloc (.cells (ocells V o).toArray OT) = w7 at *
          generalize w6.heap.size = yb at *
          have c6 : w7.cell? ⟨ob, 6, none⟩ = some (.slice a6 n6 q6) := (HY0.out.look.row.cell 6).trans (congrArg some HV6.out)
          have hbc : Below w7.heap.size w7 (w7.alloc (.cells #[.string ⟨#[71, 111]⟩, .int .i64 (n6 : Nat)] CmT)) := (Below.refl _ _).alloc (Nat.le_refl _) _
          have HY1 := Lib.hid (HY0.out.on hbc)
          have c7 : (w7.alloc (.cells #[.string ⟨#[71, 111]⟩, .int .i64 (n6 : Nat)] CmT)).cell? ⟨yb, 7, none⟩ = some V.m := HY1.out.row.cell 7
          have f7 : (w7.alloc (.cells #[.string ⟨#[71, 111]⟩, .int .i64 (n6 : Nat)] CmT)).frozen? ⟨yb, 7, none⟩ = false := HY1.out.row.free 7
          have HY2 : Hid (Nm w ((w7.alloc (.cells #[.string ⟨#[71, 111]⟩, .int .i64 (n6 : Nat)] CmT)).setCell ⟨yb, 7, none⟩ (.slice (some ⟨w7.heap.size, 0, none⟩) 1 1)) ob yb V o (ocells { V with m := .slice (some ⟨w7.heap.size, 0, none⟩) 1 1 } (withCmd o))) := HY1.out.set 7 (.slice (some ⟨w7.heap.size, 0, none⟩) 1 1)
          have hne : w7.heap.size ≠ yb := fun e => by have := HY0.out.row.lt; omega
          have HYC : Hid (ElsAt 2 cmdRow ((w7.alloc (.cells #[.string ⟨#[71, 111]⟩, .int .i64 (n6 : Nat)] CmT)).setCell ⟨yb, 7, none⟩ (.slice (some ⟨w7.heap.size, 0, none⟩) 1 1)) (.slice (some ⟨w7.heap.size, 0, none⟩) 1 1) [(goS, ((o.code.length : Nat) : Int))]) := by
            rw [← HN6.out]
            have hr : RowAt (w7.alloc (.cells #[.string ⟨#[71, 111]⟩, .int .i64 (n6 : Nat)] CmT)) w7.heap.size CmT [.string ⟨#[71, 111]⟩, .int .i64 (n6 : Nat)] := RowAt.new w7 CmT _
            have hs : SRow CmT 2 ((w7.alloc (.cells #[.string ⟨#[71, 111]⟩, .int .i64 (n6 : Nat)] CmT)).setCell ⟨yb, 7, none⟩ (.slice (some ⟨w7.heap.size, 0, none⟩) 1 1)) (.slice (some ⟨w7.heap.size, 0, none⟩) 1 1) [(goS, ((n6 : Nat) : Int))].length (rows cmdRow [(goS, ((n6 : Nat) : Int))]) :=
              ⟨.inr ⟨_, 1, [], rfl, hr.keep (kept_set _ yb 7 _) hne, rfl, Nat.le_refl _, by simp [maxLen]⟩, rfl, ones_cmd (goS, ((n6 : Nat) : Int))⟩
            exact hs.els fun _ => rfl
          clear hbc hne HY0 HY1
          go_upto_region 19 with fail
          clear c6 c7 f7
          generalize (w7.alloc (.cells #[.string ⟨#[71, 111]⟩, .int .i64 (n6 : Nat)] CmT)).setCell ⟨yb, 7, none⟩ (.slice (some ⟨w7.heap.size, 0, none⟩) 1 1) = w8 at *
          have HYA := Lib.hid (withCmd_at (HO.out.on HY2.out.look.below) HYC.out)
          obtain ⟨VY, hVY⟩ : ∃ VY : ObjV, VY = { V with m := .slice (some ⟨w7.heap.size, 0, none⟩) 1 1 } := ⟨_, rfl⟩
          rw [← hVY] at HY2 HYA
          clear HYC hVY
          have RUNZ := Lib.hid (box_obj w8 w8.heap.size rfl V o (ones_obj14 V o _ (HO.out.on HY2.out.look.below)))
          have HZ0 := Lib.hid (Nm.start HY2.out.look)
          have hbz := below_copy w8 (ocells V o) OT 6 (.slice none 0 0)
          have HY3 := Lib.hid (HY2.out.on hbz)
          have HYA3 := Lib.hid (HYA.out.on hbz)
          go_upto_region 20 with (first
            | (refine wpList_store_run _ rfl _ _ _ rfl _ _ rfl rfl (by exact RUNZ.out) ?_)
            | (refine load_row_on rfl _ _ rfl ob rfl OT (ocells V o).toArray (0, 0) _ HY2.out.look.row Try.underlying31 rfl (by rw [size_ob]; rfl) ?_))
          clear RUNZ HY2 HYA hbz
          generalize w8.alloc (.cells (ocells V o).toArray OT) = w9 at *
          generalize w8.heap.size = zb at *
          have c6 : w9.cell? ⟨zb, 6, none⟩ = some V.c := HZ0.out.row.cell 6
          have f6 : w9.frozen? ⟨zb, 6, none⟩ = false := HZ0.out.row.free 6
          have HZ1 : Hid (Nm w (w9.setCell ⟨zb, 6, none⟩ (.slice none 0 0)) ob zb V o (ocells { V with c := .slice none 0 0 } (noCode o))) := HZ0.out.set 6 (.slice none 0 0)
          clear HZ0
          go_upto_region 21 with fail
          clear c6 f6
          generalize w9.setCell ⟨zb, 6, none⟩ (.slice none 0 0) = w10 at *
          have HZA := Lib.hid (noCode_at (HO.out.on HZ1.out.look.below))
          obtain ⟨VZ, hVZ⟩ : ∃ VZ : ObjV, VZ = { V with c := .slice none 0 0 } := ⟨_, rfl⟩
          rw [← hVZ] at HZ1 HZA
          clear hVZ
          go_wp2_with (refine load_row_on rfl _ _ rfl yb rfl OT (ocells VY (withCmd o)).toArray (0, 0) _ HY3.out.row Try.underlying31 rfl (by rw [size_ob]; rfl) ?_)
          refine (valid_no VY (withCmd o) _ HYA3.out (withCmd_no o)).mono ?_
          rintro e w11 ⟨rfl, hb11⟩
          have HZ2 := Lib.hid (HZ1.out.on hb11)
          have HZA2 := Lib.hid (HZA.out.on hb11)
          clear hb11 HZ1 HZA HY3 HYA3
          go_wp2_with (refine load_row_on rfl _ _ rfl zb rfl OT (ocells VZ (noCode o)).toArray (0, 0) _ HZ2.out.row Try.underlying31 rfl (by rw [size_ob]; rfl) ?_)
          refine (valid_no VZ (noCode o) _ HZA2.out (noCode_no o)).mono ?_
          rintro e w12 ⟨rfl, hb12⟩
          have RES := Lib.hid (HZ2.out.on hb12).look.below
          clear hb12 HZ2 HZA2
          go_wp2_with fail
          go_ret
          exact ⟨rfl, RES.out⟩
        | false =>
          as_aux_lemma =>
          have HVX : Hid (∀ w' : World, ObjAt w' V (named o s k) → Calls Try.prog 9 #[.agg (ocells V (named o s k)).toArray] w' fun e w'' => e = .returned (.bool true) ∧ Below w'.heap.size w' w'') := fun w' ho => valid_yes V _ w' ho (named_yes HVAL.out k hnm (HNI.out.2 rfl))
          clear hnm HNI HVAL HS3
          go_wp2_with fail
          refine (HNM.out _).mono ?_
          rintro e w' ⟨rfl, rfl⟩
          clear HNM
          go_wp2_with (refine load_row_on rfl _ _ rfl xb rfl OT (ocells V (named o s k)).toArray (0, 0) _ HNX5.out.row Try.underlying31 rfl (by rw [size_ob]; rfl) ?_)
          refine (HVX.out _ (named_at (HO.out.on HNX5.out.look.below) HSZ.out HKY.out)).mono ?_
          rintro e w6 ⟨rfl, hb6⟩
          have HNX := Lib.hid (HNX5.out.on hb6)
          clear hb6 HNX5 HVX
          have HL6 := Lib.hid HNX.out.look
          clear HNX
          generalize ocells V (named o s k) = xcs at *
          have RUNY := Lib.hid (box_obj w6 w6.heap.size rfl V o (ones_obj14 V o _ (HO.out.on HL6.out.below)))
          have HY0 := Lib.hid (Nm.start HL6.out)
          go_upto_region 18 with (first
            | (refine wpList_store_run _ rfl _ _ _ rfl _ _ rfl rfl (by exact RUNY.out) ?_)
            | (refine load_row_on rfl _ _ rfl ob rfl OT (ocells V o).toArray (0, 0) _ HL6.out.row Try.underlying31 rfl (by rw [size_ob]; rfl) ?_))
          clear RUNY HL6
          generalize w6.alloc (.cells (ocells V o).toArray OT) = w7 at *
          generalize w6.heap.size = yb at *
          have c6 : w7.cell? ⟨ob, 6, none⟩ = some (.slice a6 n6 q6) := (HY0.out.look.row.cell 6).trans (congrArg some HV6.out)
          have hbc : Below w7.heap.size w7 (w7.alloc (.cells #[.string ⟨#[71, 111]⟩, .int .i64 (n6 : Nat)] CmT)) := (Below.refl _ _).alloc (Nat.le_refl _) _
          have HY1 := Lib.hid (HY0.out.on hbc)
          have c7 : (w7.alloc (.cells #[.string ⟨#[71, 111]⟩, .int .i64 (n6 : Nat)] CmT)).cell? ⟨yb, 7, none⟩ = some V.m := HY1.out.row.cell 7
          have f7 : (w7.alloc (.cells #[.string ⟨#[71, 111]⟩, .int .i64 (n6 : Nat)] CmT)).frozen? ⟨yb, 7, none⟩ = false := HY1.out.row.free 7
          have HY2 : Hid (Nm w ((w7.alloc (.cells #[.string ⟨#[71, 111]⟩, .int .i64 (n6 : Nat)] CmT)).setCell ⟨yb, 7, none⟩ (.slice (some ⟨w7.heap.size, 0, none⟩) 1 1)) ob yb V o (ocells { V with m := .slice (some ⟨w7.heap.size, 0, none⟩) 1 1 } (withCmd o))) := HY1.out.set 7 (.slice (some ⟨w7.heap.size, 0, none⟩) 1 1)
          have hne : w7.heap.size ≠ yb := fun e => by have := HY0.out.row.lt; omega
          have HYC : Hid (ElsAt 2 cmdRow ((w7.alloc (.cells #[.string ⟨#[71, 111]⟩, .int .i64 (n6 : Nat)] CmT)).setCell ⟨yb, 7, none⟩ (.slice (some ⟨w7.heap.size, 0, none⟩) 1 1)) (.slice (some ⟨w7.heap.size, 0, none⟩) 1 1) [(goS, ((o.code.length : Nat) : Int))]) := by
            rw [← HN6.out]
            have hr : RowAt (w7.alloc (.cells #[.string ⟨#[71, 111]⟩, .int .i64 (n6 : Nat)] CmT)) w7.heap.size CmT [.string ⟨#[71, 111]⟩, .int .i64 (n6 : Nat)] := RowAt.new w7 CmT _
            have hs : SRow CmT 2 ((w7.alloc (.cells #[.string ⟨#[71, 111]⟩, .int .i64 (n6 : Nat)] CmT)).setCell ⟨yb, 7, none⟩ (.slice (some ⟨w7.heap.size, 0, none⟩) 1 1)) (.slice (some ⟨w7.heap.size, 0, none⟩) 1 1) [(goS, ((n6 : Nat) : Int))].length (rows cmdRow [(goS, ((n6 : Nat) : Int))]) :=
              ⟨.inr ⟨_, 1, [], rfl, hr.keep (kept_set _ yb 7 _) hne, rfl, Nat.le_refl _, by simp [maxLen]⟩, rfl, ones_cmd (goS, ((n6 : Nat) : Int))⟩
            exact hs.els fun _ => rfl
          clear hbc hne HY0 HY1
          go_upto_region 19 with fail
          clear c6 c7 f7
          generalize (w7.alloc (.cells #[.string ⟨#[71, 111]⟩, .int .i64 (n6 : Nat)] CmT)).setCell ⟨yb, 7, none⟩ (.slice (some ⟨w7.heap.size, 0, none⟩) 1 1) = w8 at *
          have HYA := Lib.hid (withCmd_at (HO.out.on HY2.out.look.below) HYC.out)
          obtain ⟨VY, hVY⟩ : ∃ VY : ObjV, VY = { V with m := .slice (some ⟨w7.heap.size, 0, none⟩) 1 1 } := ⟨_, rfl⟩
          rw [← hVY] at HY2 HYA
          clear HYC hVY
          have RUNZ := Lib.hid (box_obj w8 w8.heap.size rfl V o (ones_obj14 V o _ (HO.out.on HY2.out.look.below)))
          have HZ0 := Lib.hid (Nm.start HY2.out.look)
          have hbz := below_copy w8 (ocells V o) OT 6 (.slice none 0 0)
          have HY3 := Lib.hid (HY2.out.on hbz)
          have HYA3 := Lib.hid (HYA.out.on hbz)
          go_upto_region 20 with (first
            | (refine wpList_store_run _ rfl _ _ _ rfl _ _ rfl rfl (by exact RUNZ.out) ?_)
            | (refine load_row_on rfl _ _ rfl ob rfl OT (ocells V o).toArray (0, 0) _ HY2.out.look.row Try.underlying31 rfl (by rw [size_ob]; rfl) ?_))
          clear RUNZ HY2 HYA hbz
          generalize w8.alloc (.cells (ocells V o).toArray OT) = w9 at *
          generalize w8.heap.size = zb at *
          have c6 : w9.cell? ⟨zb, 6, none⟩ = some V.c := HZ0.out.row.cell 6
          have f6 : w9.frozen? ⟨zb, 6, none⟩ = false := HZ0.out.row.free 6
          have HZ1 : Hid (Nm w (w9.setCell ⟨zb, 6, none⟩ (.slice none 0 0)) ob zb V o (ocells { V with c := .slice none 0 0 } (noCode o))) := HZ0.out.set 6 (.slice none 0 0)
          clear HZ0
          go_upto_region 21 with fail
          clear c6 f6
          generalize w9.setCell ⟨zb, 6, none⟩ (.slice none 0 0) = w10 at *
          have HZA := Lib.hid (noCode_at (HO.out.on HZ1.out.look.below))
          obtain ⟨VZ, hVZ⟩ : ∃ VZ : ObjV, VZ = { V with c := .slice none 0 0 } := ⟨_, rfl⟩
          rw [← hVZ] at HZ1 HZA
          clear hVZ
          go_wp2_with (refine load_row_on rfl _ _ rfl yb rfl OT (ocells VY (withCmd o)).toArray (0, 0) _ HY3.out.row Try.underlying31 rfl (by rw [size_ob]; rfl) ?_)
          refine (valid_no VY (withCmd o) _ HYA3.out (withCmd_no o)).mono ?_
          rintro e w11 ⟨rfl, hb11⟩
          have HZ2 := Lib.hid (HZ1.out.on hb11)
          have HZA2 := Lib.hid (HZA.out.on hb11)
          clear hb11 HZ1 HZA HY3 HYA3
          go_wp2_with (refine load_row_on rfl _ _ rfl zb rfl OT (ocells VZ (noCode o)).toArray (0, 0) _ HZ2.out.row Try.underlying31 rfl (by rw [size_ob]; rfl) ?_)
          refine (valid_no VZ (noCode o) _ HZA2.out (noCode_no o)).mono ?_
          rintro e w12 ⟨rfl, hb12⟩
          have RES := Lib.hid (HZ2.out.on hb12).look.below
          clear hb12 HZ2 HZA2
          go_wp2_with fail
          go_ret
          exact ⟨rfl, RES.out⟩
      · as_aux_lemma =>
        have HNM : Hid (∀ w : World, Calls Try.prog 13 #[.string s] w fun e w' => e = .returned (.bool false) ∧ w = w') := fun w => by
          have := refName_any s w HS3.out
          simpa [hnm] using this
        have HVX : Hid (∀ w' : World, ObjAt w' V (named o s k) → Calls Try.prog 9 #[.agg (ocells V (named o s k)).toArray] w' fun e w'' => e = .returned (.bool false) ∧ Below w'.heap.size w' w'') := fun w' ho => valid_no V _ w' ho (named_no HVAL.out k fun g => hnm g.1)
        clear hnm HNI HVAL HS3
        go_wp2_with fail
        refine (HNM.out _).mono ?_
        rintro e w' ⟨rfl, rfl⟩
        clear HNM
        go_wp2_with (refine load_row_on rfl _ _ rfl xb rfl OT (ocells V (named o s k)).toArray (0, 0) _ HNX5.out.row Try.underlying31 rfl (by rw [size_ob]; rfl) ?_)
        refine (HVX.out _ (named_at (HO.out.on HNX5.out.look.below) HSZ.out HKY.out)).mono ?_
        rintro e w6 ⟨rfl, hb6⟩
        have HNX := Lib.hid (HNX5.out.on hb6)
        clear hb6 HNX5 HVX
        have HL6 := Lib.hid HNX.out.look
        clear HNX
        generalize ocells V (named o s k) = xcs at *
        have RUNY := Lib.hid (box_obj w6 w6.heap.size rfl V o (ones_obj14 V o _ (HO.out.on HL6.out.below)))
        have HY0 := Lib.hid (Nm.start HL6.out)
        go_upto_region 18 with (first
          | (refine wpList_store_run _ rfl _ _ _ rfl _ _ rfl rfl (by exact RUNY.out) ?_)
          | (refine load_row_on rfl _ _ rfl ob rfl OT (ocells V o).toArray (0, 0) _ HL6.out.row Try.underlying31 rfl (by rw [size_ob]; rfl) ?_))
        clear RUNY HL6
        generalize w6.alloc (.cells (ocells V o).toArray OT) = w7 at *
        generalize w6.heap.size = yb at *
        have c6 : w7.cell? ⟨ob, 6, none⟩ = some (.slice a6 n6 q6) := (HY0.out.look.row.cell 6).trans (congrArg some HV6.out)
        have hbc : Below w7.heap.size w7 (w7.alloc (.cells #[.string ⟨#[71, 111]⟩, .int .i64 (n6 : Nat)] CmT)) := (Below.refl _ _).alloc (Nat.le_refl _) _
        have HY1 := Lib.hid (HY0.out.on hbc)
        have c7 : (w7.alloc (.cells #[.string ⟨#[71, 111]⟩, .int .i64 (n6 : Nat)] CmT)).cell? ⟨yb, 7, none⟩ = some V.m := HY1.out.row.cell 7
        have f7 : (w7.alloc (.cells #[.string ⟨#[71, 111]⟩, .int .i64 (n6 : Nat)] CmT)).frozen? ⟨yb, 7, none⟩ = false := HY1.out.row.free 7
        have HY2 : Hid (Nm w ((w7.alloc (.cells #[.string ⟨#[71, 111]⟩, .int .i64 (n6 : Nat)] CmT)).setCell ⟨yb, 7, none⟩ (.slice (some ⟨w7.heap.size, 0, none⟩) 1 1)) ob yb V o (ocells { V with m := .slice (some ⟨w7.heap.size, 0, none⟩) 1 1 } (withCmd o))) := HY1.out.set 7 (.slice (some ⟨w7.heap.size, 0, none⟩) 1 1)
        have hne : w7.heap.size ≠ yb := fun e => by have := HY0.out.row.lt; omega
        have HYC : Hid (ElsAt 2 cmdRow ((w7.alloc (.cells #[.string ⟨#[71, 111]⟩, .int .i64 (n6 : Nat)] CmT)).setCell ⟨yb, 7, none⟩ (.slice (some ⟨w7.heap.size, 0, none⟩) 1 1)) (.slice (some ⟨w7.heap.size, 0, none⟩) 1 1) [(goS, ((o.code.length : Nat) : Int))]) := by
          rw [← HN6.out]
          have hr : RowAt (w7.alloc (.cells #[.string ⟨#[71, 111]⟩, .int .i64 (n6 : Nat)] CmT)) w7.heap.size CmT [.string ⟨#[71, 111]⟩, .int .i64 (n6 : Nat)] := RowAt.new w7 CmT _
          have hs : SRow CmT 2 ((w7.alloc (.cells #[.string ⟨#[71, 111]⟩, .int .i64 (n6 : Nat)] CmT)).setCell ⟨yb, 7, none⟩ (.slice (some ⟨w7.heap.size, 0, none⟩) 1 1)) (.slice (some ⟨w7.heap.size, 0, none⟩) 1 1) [(goS, ((n6 : Nat) : Int))].length (rows cmdRow [(goS, ((n6 : Nat) : Int))]) :=
            ⟨.inr ⟨_, 1, [], rfl, hr.keep (kept_set _ yb 7 _) hne, rfl, Nat.le_refl _, by simp [maxLen]⟩, rfl, ones_cmd (goS, ((n6 : Nat) : Int))⟩
          exact hs.els fun _ => rfl
        clear hbc hne HY0 HY1
        go_upto_region 19 with fail
        clear c6 c7 f7
        generalize (w7.alloc (.cells #[.string ⟨#[71, 111]⟩, .int .i64 (n6 : Nat)] CmT)).setCell ⟨yb, 7, none⟩ (.slice (some ⟨w7.heap.size, 0, none⟩) 1 1) = w8 at *
        have HYA := Lib.hid (withCmd_at (HO.out.on HY2.out.look.below) HYC.out)
        obtain ⟨VY, hVY⟩ : ∃ VY : ObjV, VY = { V with m := .slice (some ⟨w7.heap.size, 0, none⟩) 1 1 } := ⟨_, rfl⟩
        rw [← hVY] at HY2 HYA
        clear HYC hVY
        have RUNZ := Lib.hid (box_obj w8 w8.heap.size rfl V o (ones_obj14 V o _ (HO.out.on HY2.out.look.below)))
        have HZ0 := Lib.hid (Nm.start HY2.out.look)
        have hbz := below_copy w8 (ocells V o) OT 6 (.slice none 0 0)
        have HY3 := Lib.hid (HY2.out.on hbz)
        have HYA3 := Lib.hid (HYA.out.on hbz)
        go_upto_region 20 with (first
          | (refine wpList_store_run _ rfl _ _ _ rfl _ _ rfl rfl (by exact RUNZ.out) ?_)
          | (refine load_row_on rfl _ _ rfl ob rfl OT (ocells V o).toArray (0, 0) _ HY2.out.look.row Try.underlying31 rfl (by rw [size_ob]; rfl) ?_))
        clear RUNZ HY2 HYA hbz
        generalize w8.alloc (.cells (ocells V o).toArray OT) = w9 at *
        generalize w8.heap.size = zb at *
        have c6 : w9.cell? ⟨zb, 6, none⟩ = some V.c := HZ0.out.row.cell 6
        have f6 : w9.frozen? ⟨zb, 6, none⟩ = false := HZ0.out.row.free 6
        have HZ1 : Hid (Nm w (w9.setCell ⟨zb, 6, none⟩ (.slice none 0 0)) ob zb V o (ocells { V with c := .slice none 0 0 } (noCode o))) := HZ0.out.set 6 (.slice none 0 0)
        clear HZ0
        go_upto_region 21 with fail
        clear c6 f6
        generalize w9.setCell ⟨zb, 6, none⟩ (.slice none 0 0) = w10 at *
        have HZA := Lib.hid (noCode_at (HO.out.on HZ1.out.look.below))
        obtain ⟨VZ, hVZ⟩ : ∃ VZ : ObjV, VZ = { V with c := .slice none 0 0 } := ⟨_, rfl⟩
        rw [← hVZ] at HZ1 HZA
        clear hVZ
        go_wp2_with (refine load_row_on rfl _ _ rfl yb rfl OT (ocells VY (withCmd o)).toArray (0, 0) _ HY3.out.row Try.underlying31 rfl (by rw [size_ob]; rfl) ?_)
        refine (valid_no VY (withCmd o) _ HYA3.out (withCmd_no o)).mono ?_
        rintro e w11 ⟨rfl, hb11⟩
        have HZ2 := Lib.hid (HZ1.out.on hb11)
        have HZA2 := Lib.hid (HZA.out.on hb11)
        clear hb11 HZ1 HZA HY3 HYA3
        go_wp2_with (refine load_row_on rfl _ _ rfl zb rfl OT (ocells VZ (noCode o)).toArray (0, 0) _ HZ2.out.row Try.underlying31 rfl (by rw [size_ob]; rfl) ?_)
        refine (valid_no VZ (noCode o) _ HZA2.out (noCode_no o)).mono ?_
        rintro e w12 ⟨rfl, hb12⟩
        have RES := Lib.hid (HZ2.out.on hb12).look.below
        clear hb12 HZ2 HZA2
        go_wp2_with fail
        go_ret
        exact ⟨rfl, RES.out⟩
theorem checkNames_all (V : ObjV) (o : ObjD) (s : ByteArray) (k : Int) (w : World) (h : ObjAt w V o) (hsz : s.size ≤ maxLen) (hk : (Lit.int .u32 k).wf = true) :
    Calls Try.prog 4 #[.agg (ocells V o).toArray, .string s, .int .u32 k] w fun e w' => e = .returned (.bool true) ∧ Below w.heap.size w w' := by
  obtain ⟨n, rfl, hn⟩ := u32_nat hk
  exact checkNames_walk V o s n w h hsz hn
end Go.Proofs.Ytekcebmojjkoeaa
