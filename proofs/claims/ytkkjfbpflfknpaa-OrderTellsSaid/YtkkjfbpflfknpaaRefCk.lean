/-
  The document's Refs (layer 14). Conditions: the object's names have at most 300 signs (Small). (Written by wip/tools/ref-ck.py.)
-/
import Derived.Test.YtkkjfbpflfknpaaRefPt
import Derived.Test.YtkkjfbpflfknpaaRefFt
import Derived.Test.YtkkjfbpflfknpaaChkR
import Derived.Test.YtkkjfbpflfknpaaChR
import Derived.Test.YtkkjfbpflfknpaaEl
namespace Go.Proofs.Ytkkjfbpflfknpaa
open Go.ChangeShapes Go.WideShapes Go.ChangeAt Go.RowKit

abbrev LT : TypeId := 65
theorem size_rt : (Try.prog.info? RT).map (·.size) = some 3 := by kernel_rfl
theorem box_ref (wr : World) (r : RefD) :
    (Instr.storeAt RT (.pointer (some ⟨wr.heap.size, 0, none⟩)) (.agg #[.int .i64 r.at_, .int .i64 (r.mod : Nat), .int .i64 (r.ent : Nat)])).run Try.prog (wr.alloc (.cells #[.int .i64 0, .int .i64 0, .int .i64 0] RT)) = .ok () (wr.alloc (.cells #[.int .i64 r.at_, .int .i64 (r.mod : Nat), .int .i64 (r.ent : Nat)] RT)) := by
  obtain ⟨r1, _, _⟩ := told_row (RowAt.new wr RT [.int .i64 0, .int .i64 0, .int .i64 0]) (xs := refRow r) (k := 3) rfl rfl (refRow_one r) size_rt
  rw [setRow_alloc] at r1
  exact r1
def boolsN (n : Nat) : Obj := .cells (metN n (fun _ => false)).toArray 4
theorem make_boolsN (n : Nat) (hn : n ≤ 100000) (w : World) : (Instr.makeSlice 83 (.int .i64 n) (.int .i64 n)).run Try.prog w = .ok (.slice (some ⟨w.heap.size, 0, none⟩) n n) (w.alloc (boolsN n)) := by
  have h := run_make_row' (P := Try.prog) 83 4 (.bool false) 1 Try.underlying83 info_bool rfl .i64 .i64 n (by omega) (by omega) w
  have e : madeCells #[Value.bool false] n = (metN n (fun _ => false)).toArray := by
    apply Array.ext
    · simp [size_madeCells, metN]
    · intro i h1 h2
      simp [madeCells, metN, Nat.mod_one]
  rw [e] at h
  exact h
/- slices as elements of a row -/
def slRow (s : Sl) : List Value := [s.v]
theorem slRow_len (s : Sl) : (slRow s).length = 1 := rfl
theorem slRow_one (s : Sl) : Ones (slRow s) := by
  intro u hu
  simp only [slRow, List.mem_singleton] at hu
  subst hu
  rfl
theorem info_rs : (Try.prog.info? RS).map (fun i => (i.zero, i.size, i.bytes)) = some (some (.slice none 0 0), 1, 24) := by kernel_rfl
/- rows of different types are different blocks -/
theorem SRow.apart {t T : TypeId} {k j : Nat} {w : World} {v u : Value} {n m : Nat} {cs ds : List Value} (h : SRow t k w v n cs) (g : SRow T j w u m ds) (ht : t ≠ T) : ∀ i, own v i → ¬ own u i := by
  rcases h.is with ⟨rfl, _⟩ | ⟨b, cap, rest, rfl, hr, _⟩
  · exact fun i hi => hi.elim
  · rcases g.is with ⟨rfl, _⟩ | ⟨b', cap', rest', rfl, hr', _⟩
    · exact fun i _ hi => hi.elim
    · intro i hi hi'
      have e1 : i = b := hi
      have e2 : i = b' := hi'
      subst e1 e2
      have := hr.symm.trans hr'
      simp at this
      exact ht this.2
theorem SRow.nor {t T : TypeId} {k ob : Nat} {w : World} {v : Value} {n : Nat} {cs ds : List Value} (h : SRow t k w v n cs) (ho : RowAt w ob T ds) (ht : t ≠ T) : ∀ j, own v j → ¬ j = ob := by
  rcases h.is with ⟨rfl, h0⟩ | ⟨b, cap, rest, rfl, hr, _⟩
  · exact fun j hj => hj.elim
  · intro j hj e
    have e1 : j = b := hj
    subst e1 e
    have := hr.symm.trans ho
    simp at this
    exact ht this.2
theorem RowAt.ne {w : World} {a b : Nat} {t T : TypeId} {cs ds : List Value} (h : RowAt w a t cs) (g : RowAt w b T ds) (ht : t ≠ T) : a ≠ b := by
  intro e
  subst e
  have := h.symm.trans g
  simp at this
  exact ht this.2
/- the chains told so far, each in a row of its own -/
structure Outs (w wr : World) (v : Value) (vs : List Sl) (Ls : List (List RefD)) : Prop where
  row : SRow RS 1 wr v vs.length (rows slRow vs)
  len : vs.length = Ls.length
  els : ∀ (j : Nat) (x : Sl) (l : List RefD), vs[j]? = some x → Ls[j]? = some l → SRow RT 3 wr x.v l.length (rows refRow l)
  fresh : ∀ j, own v j → w.heap.size ≤ j
theorem Outs.start (w wr : World) : Outs w wr (.slice none 0 0) [] [] := ⟨SRow.nil _ _ _, rfl, fun j x l h => by simp at h, fun j h => h.elim⟩
theorem Outs.keep {S : Nat → Prop} {w wr w' : World} {v : Value} {vs : List Sl} {Ls : List (List RefD)} (h : Outs w wr v vs Ls) (k : Kept S wr w') (h1 : ∀ j, own v j → ¬ S j) (h2 : ∀ (t : Value) (n : Nat) (cs : List Value), SRow RT 3 wr t n cs → ∀ j, own t j → ¬ S j) : Outs w w' v vs Ls :=
  ⟨h.row.keep k h1, h.len, fun j x l hx hl => (h.els j x l hx hl).keep k (h2 _ _ _ (h.els j x l hx hl)), h.fresh⟩
theorem Outs.on {w wr w' : World} {v : Value} {vs : List Sl} {Ls : List (List RefD)} (h : Outs w wr v vs Ls) (hb : Below wr.heap.size wr w') : Outs w w' v vs Ls :=
  h.keep (Kept.of_below (S := fun _ => False) hb) (fun _ _ e => e) (fun _ _ _ _ _ _ e => e)
/- while Refs goes on: the object, the three ops, what was met -/
structure Ck (w wr : World) (ob pb mb : Nat) (V : ObjV) (o : ObjD) (P : List Int) (f : Nat → Bool) : Prop where
  look : Looks w wr ob V o
  ops : RowAt wr pb 3 [.int .i64 20, .int .i64 1, .int .i64 1]
  row : RowAt wr mb 4 (metN o.code.length f)
  met : MetP P f
  far : w.heap.size ≤ mb ∧ w.heap.size ≤ pb ∧ ob ≠ mb ∧ pb ≠ mb
theorem Ck.on {w wr w' : World} {ob pb mb : Nat} {V : ObjV} {o : ObjD} {P : List Int} {f : Nat → Bool} (h : Ck w wr ob pb mb V o P f) (hb : Below wr.heap.size wr w') : Ck w w' ob pb mb V o P f :=
  have k := Kept.of_below (S := fun _ => False) hb
  ⟨h.look.on hb, h.ops.keep k (fun e => e), h.row.keep k (fun e => e), h.met, h.far⟩
theorem Ck.set {w wr : World} {ob pb mb : Nat} {V : ObjV} {o : ObjD} {P : List Int} {f : Nat → Bool} (h : Ck w wr ob pb mb V o P f) {k : Nat} (hk : k < o.code.length) : Ck w (wr.setCell ⟨mb, k, none⟩ (.bool true)) ob pb mb V o ((k : Int) :: P) (fun j => if j = k then true else f j) := by
  refine ⟨⟨h.look.row.keep (kept_set wr mb k _) h.far.2.2.1, (kept_set wr mb k _).below h.look.below h.look.below.size fun _ _ e => by have := h.far.1; omega⟩, h.ops.keep (kept_set wr mb k _) h.far.2.2.2, ?_, h.met.next k, h.far⟩
  rw [← metN_set f hk]
  exact h.row.setCell k _
theorem Ck.grew {w wr w' : World} {ob pb mb : Nat} {V : ObjV} {o : ObjD} {P : List Int} {f : Nat → Bool} {v v' : Value} {vs : List Sl} {Ls : List (List RefD)} (h : Ck w wr ob pb mb V o P f) (ho : Outs w wr v vs Ls) (g : Grew wr w' v v') : Ck w w' ob pb mb V o P f :=
  ⟨⟨h.look.row.keep g.1 (fun e => ho.row.nor h.look.row (by decide) _ e rfl), g.1.below h.look.below h.look.below.size fun j _ hj => ho.fresh j hj⟩, h.ops.keep g.1 (fun e => ho.row.nor h.ops (by decide) _ e rfl), h.row.keep g.1 (fun e => ho.row.nor h.row (by decide) _ e rfl), h.met, h.far⟩
theorem Outs.set {w wr : World} {v : Value} {vs : List Sl} {Ls : List (List RefD)} (h : Outs w wr v vs Ls) {mb : Nat} {ds : List Value} (hm : RowAt wr mb 4 ds) (i : Nat) (u : Value) : Outs w (wr.setCell ⟨mb, i, none⟩ u) v vs Ls :=
  h.keep (kept_set wr mb i u) (fun j hj => h.row.nor hm (by decide) j hj) (fun _ _ _ g j hj => g.nor hm (by decide) j hj)
/- one chain more -/
theorem Outs.more {w wr w' : World} {v v' : Value} {vs : List Sl} {Ls : List (List RefD)} (h : Outs w wr v vs Ls) {x : Sl} {l : List RefD} (hx : SRow RT 3 wr x.v l.length (rows refRow l))
    (h1 : SRow RS 1 w' v' (vs ++ [x]).length (rows slRow (vs ++ [x]))) (g : Grew wr w' v v') (hw : w.heap.size ≤ wr.heap.size) : Outs w w' v' (vs ++ [x]) (Ls ++ [l]) := by
  refine ⟨h1, by rw [List.length_append, List.length_append, h.len]; rfl, fun j y m hy hm => ?_, fun j hj => ?_⟩
  · rcases Nat.lt_or_ge j vs.length with h2 | h2
    · rw [List.getElem?_append_left h2] at hy
      rw [List.getElem?_append_left (by rw [← h.len]; exact h2)] at hm
      exact (h.els j y m hy hm).keep g.1 (fun i hi => (h.els j y m hy hm).apart h.row (by decide) i hi)
    · rw [List.getElem?_append_right h2] at hy
      rw [List.getElem?_append_right (by rw [← h.len]; exact h2)] at hm
      rw [h.len] at hy
      have hj : j - Ls.length = 0 := by have := (List.getElem?_eq_some_iff.1 hy).1; simp at this; omega
      rw [hj] at hy hm
      simp at hy hm
      subst hy hm
      exact hx.keep g.1 (fun i hi => hx.apart h.row (by decide) i hi)
  · rcases g.2 j hj with e | e
    · exact h.fresh j e
    · exact Nat.le_trans hw e
def RefsTold (w : World) (ans : Option (List (List RefD))) (e : Ending) (w' : World) : Prop :=
  match ans with
  | some Ls => ∃ v vs, e = .returned (.tuple #[v, .bool true]) ∧ Outs w w' v vs Ls ∧ Below w.heap.size w w'
  | none => e = .returned (.tuple #[.slice none 0 0, .bool false]) ∧ Below w.heap.size w w'
theorem RefsTold.yes {w w' : World} {ans : Option (List (List RefD))} {Ls : List (List RefD)} {v : Value} {vs : List Sl} (h : Outs w w' v vs Ls) (hb : Below w.heap.size w w') (ha : ans = some Ls) : RefsTold w ans (.returned (.tuple #[v, .bool true])) w' := by
  subst ha
  exact ⟨v, vs, rfl, h, hb⟩
theorem RefsTold.no {w w' : World} {ans : Option (List (List RefD))} (hb : Below w.heap.size w w') (ha : ans = none) : RefsTold w ans (.returned (.tuple #[.slice none 0 0, .bool false])) w' := by
  subst ha
  exact ⟨rfl, hb⟩
theorem fix_at (V : ObjV) (o : ObjD) : ∀ a : Nat, a < 3 → (ocells V o)[11 + a]? = some (.int .i64 (fixO o a))
  | 0, _ => rfl
  | 1, _ => rfl
  | 2, _ => rfl
  | a + 3, h => by omega
theorem op_at : ∀ a : Nat, a < 3 → ([.int .i64 20, .int .i64 1, .int .i64 1] : List Value)[a]? = some (.int .i64 (opK a))
  | 0, _ => rfl
  | 1, _ => rfl
  | 2, _ => rfl
  | a + 3, h => by omega
theorem drop3 : ∀ a : Nat, a < 3 → [0, 1, 2].drop a = a :: [0, 1, 2].drop (a + 1)
  | 0, _ => rfl
  | 1, _ => rfl
  | 2, _ => rfl
  | a + 3, h => by omega

set_option maxRecDepth 100000 in
set_option maxHeartbeats 16000000 in
theorem rrefs_any (V : ObjV) (o : ObjD) (w : World) (h : ObjAt w V o) (hs : Small o) :
    Calls Try.prog 19 #[.agg (ocells V o).toArray] w fun e w' => RefsTold w (refsV o) e w' := by
  obtain ⟨ra, hra⟩ : ∃ ra : Bool, ra = true ↔ NamesP o := by
    by_cases h : NamesP o
    · exact ⟨true, fun _ => h, fun _ => rfl⟩
    · exact ⟨false, (fun e => by cases e), fun e => absurd e h⟩
  obtain ⟨rb, hrb⟩ : ∃ rb : Bool, rb = true ↔ PartsP o := by
    by_cases h : PartsP o
    · exact ⟨true, fun _ => h, fun _ => rfl⟩
    · exact ⟨false, (fun e => by cases e), fun e => absurd e h⟩
  have HRA := Lib.hid hra
  have HRB := Lib.hid hrb
  have HO := Lib.hid h
  have HS := Lib.hid hs
  have HL' : Hid (Looks w (w.alloc (.cells (ocells V o).toArray OT)) w.heap.size V o) := ⟨RowAt.new w _ _, (Below.refl _ _).alloc (Nat.le_refl _) _⟩
  obtain ⟨ans, hans⟩ : ∃ ans, ans = refsV o := ⟨_, rfl⟩
  have HANS := Lib.hid hans
  rw [← hans]
  obtain ⟨a2, q2, hv2, hc2, hm2, _⟩ := h.imps.shape
  obtain ⟨n2, hn2⟩ : ∃ n, n = o.imps.length := ⟨_, rfl⟩
  rw [← hn2] at hv2 hc2
  have HV2 := Lib.hid hv2
  have HN2 := Lib.hid hn2
  obtain ⟨a6, q6, hv6, hc6, hm6, _⟩ := h.code.shape
  obtain ⟨n6, hn6⟩ : ∃ n, n = o.code.length := ⟨_, rfl⟩
  rw [← hn6] at hv6 hc6
  have HV6 := Lib.hid hv6
  have HN6 := Lib.hid hn6
  obtain ⟨a8, q8, hv8, hc8, hm8, _⟩ := h.exps.shape
  obtain ⟨n8, hn8⟩ : ∃ n, n = o.exps.length := ⟨_, rfl⟩
  rw [← hn8] at hv8 hc8
  have HV8 := Lib.hid hv8
  have HN8 := Lib.hid hn8
  clear h hs hra hrb hans hv2 hc2 hm2 hn2 hv6 hc6 hm6 hn6 hv8 hc8 hm8 hn8
  go_enter Try.func19, Try.ntmps19
  go_upto_region 1 with fail
  generalize w.alloc (.cells (ocells V o).toArray OT) = w0 at *
  obtain ⟨ob, hob⟩ : ∃ ob, ob = w.heap.size := ⟨_, rfl⟩
  have HL : Hid (Looks w w0 ob V o) := by rw [hob]; exact HL'.out
  rw [← hob]
  clear HL' hob
  go_wp2_with (refine wpList_load_row rfl _ _ rfl ob rfl OT (ocells V o).toArray (0, 0) _ HL.out.row Try.underlying48 rfl (by rw [size_ob]; rfl) ?_)
  refine (rnames_any V o ra _ (HO.out.on HL.out.below) HS.out HRA.out).mono ?_
  rintro e w1 ⟨rfl, hb1⟩
  have HL1 := Lib.hid (HL.out.on hb1)
  clear hb1 HL
  go_wp2_with (refine wpList_load_row rfl _ _ rfl ob rfl OT (ocells V o).toArray (0, 0) _ HL1.out.row Try.underlying48 rfl (by rw [size_ob]; rfl) ?_)
  refine (rparts_any V o rb _ (HO.out.on HL1.out.below) HRB.out).mono ?_
  rintro e w2 ⟨rfl, hb2⟩
  have HL2 := Lib.hid (HL1.out.on hb2)
  clear hb2 HL1
  cases ra with
  | false =>
    as_aux_lemma =>
    have RES : Hid (ans = none) := HANS.out.trans (by unfold refsV; rw [if_neg (fun g => by have := HRA.out.2 g.1; cases this)])
    go_wp2_with fail
    go_ret2
    exact RefsTold.no HL2.out.below RES.out
  | true =>
  cases rb with
  | false =>
    as_aux_lemma =>
    have RES : Hid (ans = none) := HANS.out.trans (by unfold refsV; rw [if_neg (fun g => by have := HRB.out.2 g.2; cases this)])
    go_wp2_with fail
    go_ret2
    exact RefsTold.no HL2.out.below RES.out
  | true =>
  have HNP : Hid (NamesP o) := HRA.out.1 rfl
  have HPP : Hid (PartsP o) := HRB.out.1 rfl
  have HG : Hid (refsG o [0, 1, 2] [] [] = ans) := by
    show _ = ans
    rw [HANS.out]
    unfold refsV
    rw [if_pos ⟨HNP.out, HPP.out⟩]
  have s6 : n6 ≤ 256 := by have := HPP.out.code; have := HN6.out; omega
  have hmk := make_boolsN n6 (by omega)
  have c6 : (w2.alloc (.cells #[.int .i64 20, .int .i64 1, .int .i64 1] 3)).cell? ⟨ob, 6, none⟩ = some (.slice a6 n6 q6) := ((HL2.out.on ((Below.refl _ _).alloc (Nat.le_refl _) _)).row.cell 6).trans (congrArg some HV6.out)
  have HC : Hid (Ck w ((w2.alloc (.cells #[.int .i64 20, .int .i64 1, .int .i64 1] 3)).alloc (boolsN n6)) ob w2.heap.size (w2.heap.size + 1) V o [] (fun _ => false)) := by
    have k1 : Below w2.heap.size w2 (w2.alloc (.cells #[.int .i64 20, .int .i64 1, .int .i64 1] 3)) := (Below.refl _ _).alloc (Nat.le_refl _) _
    have k2 : Kept (fun _ => False) (w2.alloc (.cells #[.int .i64 20, .int .i64 1, .int .i64 1] 3)) ((w2.alloc (.cells #[.int .i64 20, .int .i64 1, .int .i64 1] 3)).alloc (boolsN n6)) := (Kept.refl _ _).alloc _
    have hlt := HL2.out.row.lt
    refine ⟨(HL2.out.on k1).on k2.none, (RowAt.new w2 3 [.int .i64 20, .int .i64 1, .int .i64 1]).keep k2 (fun e => e), ?_, MetP.start, ⟨Nat.le_trans HL2.out.below.size (Nat.le_succ _), HL2.out.below.size, by omega, by omega⟩⟩
    rw [← HN6.out]
    have := RowAt.new (w2.alloc (.cells #[.int .i64 20, .int .i64 1, .int .i64 1] 3)) 4 (metN n6 (fun _ => false))
    rw [show (w2.alloc (.cells #[.int .i64 20, .int .i64 1, .int .i64 1] 3)).heap.size = w2.heap.size + 1 by simp] at this
    exact this
  clear HRA HRB HANS
  go_upto_region 7 with fail
  clear hmk c6
  generalize (w2.alloc (.cells #[.int .i64 20, .int .i64 1, .int .i64 1] 3)).alloc (boolsN n6) = w3 at *
  generalize w2.heap.size + 1 = mb at *
  generalize w2.heap.size = pb at *
  have HOU : Hid (Outs w w3 (.slice none 0 0) [] []) := Outs.start w w3
  clear HL2
  go_wp2_with fail
  go_loopw [8, 9] (fun v i wr => ∃ (a : Nat) (vs : List Sl) (Ls : List (List RefD)) (P : List Int) (f : Nat → Bool), a ≤ 3 ∧ i = .int .i64 (a : Nat) ∧ Ck w wr ob pb mb V o P f ∧ Outs w wr v vs Ls ∧ vs.length = a ∧ refsG o ([0, 1, 2].drop a) Ls P = ans) (fun _ i _ => 3 - (intOf i).toNat)
  case atStart => exact ⟨0, [], [], [], _, by decide, rfl, HC.out, HOU.out, rfl, HG.out⟩
  case round =>
    clear HC HOU HG
    obtain ⟨a, vs, Ls, P, f, ha, rfl, hC, hO, hLV, hG⟩ := hrel
    have HC := Lib.hid hC
    have HOU := Lib.hid hO
    have HLV : Hid (vs.length ≤ 3) := by show vs.length ≤ 3; omega
    have HLA : Hid (vs.length = a) := hLV
    clear hC hO hLV
    by_cases hlt : a < 3
    · have HA : Hid (a < 3) := hlt
      have i1 : (a : Int) < 3 := by omega
      have i2 : (0 : Int) ≤ (a : Int) := by omega
      rw [drop3 a hlt] at hG
      have HFX := Lib.hid (fix_at V o a hlt)
      have HOX := Lib.hid (op_at a hlt)
      have HWO : Hid (WordsAt w (.slice a6 n6 q6) o.code) := ⟨by rw [← HV6.out]; exact HO.out.code, HO.out.fit.code⟩
      have HWF : Hid ((Lit.int .i64 (fixO o a)).wf = true) := WalkArith.wf_i64 (by unfold fixO; split; exact HO.out.fit.f0; split; exact HO.out.fit.f1; exact HO.out.fit.f2)
      cases hwk : walkV o.code (fixO o a) (opK a) with
      | none =>
        as_aux_lemma =>
        have RES : Hid (ans = none) := hG.symm.trans (refsG_none hwk)
        have HW : Hid (∀ w' : World, Below w.heap.size w w' → Calls Try.prog 28 #[.slice a6 n6 q6, .int .i64 (fixO o a), .int .i64 (opK a)] w' fun e w'' => e = .returned (.tuple #[.slice none 0 0, .bool false]) ∧ Below w'.heap.size w' w'') := fun w' hb => by
          have := rwalk_any a6 n6 q6 o.code (fixO o a) (opK a) w' (HWO.out.on hb) (by omega) HWF.out
          rw [hwk] at this
          exact this
        clear hG hwk hlt ha HWO HWF
        generalize fixO o a = hd at *
        generalize opK a = op at *
        go_wp2_with fail
        refine wp_region_held_drew (S := fun w' => Ck w w' ob pb mb V o P f ∧ Outs w w' u8 vs Ls) (by kernel_rfl) ?_ (fun hHeld => ?_)
        · exact ⟨HC.out.on ((Drawn.of_n wr 1).below _), HOU.out.on ((Drawn.of_n wr 1).below _)⟩
        refine wpAnyH_take (i := 0) (v := ?_) rfl (by kernel_rfl) (by kernel_rfl) (by kernel_rfl) (fun _ _ _ h => h) (Or.inl ⟨by rfl, ?_⟩) (by assumption) ?_
        rotate_left
        · intro w hSw
          (try dsimp only at hSw)
          go_simp
          (try with_reducible rfl)
        try simp only [Act.put, List.getElem_toArray, List.getElem_cons_zero, List.setIfInBounds_toArray, List.set_cons_zero, List.set_cons_succ]
        refine wpAnyH_take (i := 1) (v := ?_) rfl (by kernel_rfl) (by kernel_rfl) (by kernel_rfl) (fun _ _ _ h => h) (Or.inl ⟨by rfl, ?_⟩) (by assumption) ?_
        rotate_left
        · intro w hSw
          have c6 := (hSw.1.look.row.cell 6).trans (congrArg some HV6.out)
          (try dsimp only at hSw)
          go_simp
          (try with_reducible rfl)
        try simp only [Act.put, List.getElem_toArray, List.getElem_cons_zero, List.getElem_cons_succ, List.setIfInBounds_toArray, List.set_cons_zero, List.set_cons_succ]
        refine wpAnyH_take (i := 2) (v := ?_) rfl (by kernel_rfl) (by kernel_rfl) (by kernel_rfl) (fun _ _ _ h => h) (Or.inl ⟨by rfl, ?_⟩) (by assumption) ?_
        rotate_left
        · intro w hSw
          (try dsimp only at hSw)
          go_simp
          (try with_reducible rfl)
        try simp only [Act.put, List.getElem_toArray, List.getElem_cons_zero, List.getElem_cons_succ, List.setIfInBounds_toArray, List.set_cons_zero, List.set_cons_succ]
        refine wpAnyH_take (i := 3) (v := ?_) rfl (by kernel_rfl) (by kernel_rfl) (by kernel_rfl) (fun _ _ _ h => h) (Or.inl ⟨by rfl, ?_⟩) (by assumption) ?_
        rotate_left
        · intro w hSw
          (try dsimp only at hSw)
          go_simp
          (try with_reducible rfl)
        try simp only [Act.put, List.getElem_toArray, List.getElem_cons_zero, List.getElem_cons_succ, List.setIfInBounds_toArray, List.set_cons_zero, List.set_cons_succ]
        refine wpAnyH_take (i := 4) (v := ?_) rfl (by kernel_rfl) (by kernel_rfl) (by kernel_rfl) (fun _ _ _ h => h) (Or.inl ⟨by rfl, ?_⟩) (by assumption) ?_
        rotate_left
        · intro w hSw
          (try dsimp only at hSw)
          go_simp
          (try with_reducible rfl)
        try simp only [Act.put, List.getElem_toArray, List.getElem_cons_zero, List.getElem_cons_succ, List.setIfInBounds_toArray, List.set_cons_zero, List.set_cons_succ]
        refine wpAnyH_take (i := 5) (v := ?_) rfl (by kernel_rfl) (by kernel_rfl) (by kernel_rfl) (fun _ _ _ h => h) (Or.inl ⟨by rfl, ?_⟩) (by assumption) ?_
        rotate_left
        · intro w hSw
          have cf := (hSw.1.look.row.cell (11 + a)).trans HFX.out
          (try dsimp only at hSw)
          go_simp
          (try with_reducible rfl)
        try simp only [Act.put, List.getElem_toArray, List.getElem_cons_zero, List.getElem_cons_succ, List.setIfInBounds_toArray, List.set_cons_zero, List.set_cons_succ]
        refine wpAnyH_take (i := 6) (v := ?_) rfl (by kernel_rfl) (by kernel_rfl) (by kernel_rfl) (fun _ _ _ h => h) (Or.inl ⟨by rfl, ?_⟩) (by assumption) ?_
        rotate_left
        · intro w hSw
          (try dsimp only at hSw)
          go_simp
          (try with_reducible rfl)
        try simp only [Act.put, List.getElem_toArray, List.getElem_cons_zero, List.getElem_cons_succ, List.setIfInBounds_toArray, List.set_cons_zero, List.set_cons_succ]
        refine wpAnyH_take (i := 7) (v := ?_) rfl (by kernel_rfl) (by kernel_rfl) (by kernel_rfl) (fun _ _ _ h => h) (Or.inl ⟨by rfl, ?_⟩) (by assumption) ?_
        rotate_left
        · intro w hSw
          (try dsimp only at hSw)
          go_simp
          (try with_reducible rfl)
        try simp only [Act.put, List.getElem_toArray, List.getElem_cons_zero, List.getElem_cons_succ, List.setIfInBounds_toArray, List.set_cons_zero, List.set_cons_succ]
        refine wpAnyH_take (i := 8) (v := ?_) rfl (by kernel_rfl) (by kernel_rfl) (by kernel_rfl) (fun _ _ _ h => h) (Or.inl ⟨by rfl, ?_⟩) (by assumption) ?_
        rotate_left
        · intro w hSw
          (try dsimp only at hSw)
          go_simp
          (try with_reducible rfl)
        try simp only [Act.put, List.getElem_toArray, List.getElem_cons_zero, List.getElem_cons_succ, List.setIfInBounds_toArray, List.set_cons_zero, List.set_cons_succ]
        refine wpAnyH_take (i := 9) (v := ?_) rfl (by kernel_rfl) (by kernel_rfl) (by kernel_rfl) (fun _ _ _ h => h) (Or.inl ⟨by rfl, ?_⟩) (by assumption) ?_
        rotate_left
        · intro w hSw
          have co := (hSw.1.ops.cell a).trans HOX.out
          (try dsimp only at hSw)
          go_simp
          (try with_reducible rfl)
        try simp only [Act.put, List.getElem_toArray, List.getElem_cons_zero, List.getElem_cons_succ, List.setIfInBounds_toArray, List.set_cons_zero, List.set_cons_succ]
        refine wpAnyH_ready (rs := [10]) (by kernel_rfl) (by simp) ?_
        refine AllReadyH.cons rfl (fun K hK => ?_) AllReadyH.nil
        go_simp
        refine (HW.out _ hHeld.1.look.below).mono ?_
        rintro e we ⟨rfl, hbe⟩
        first | show K _ _ | go_wp2_with fail
        refine hK.out _ _ ?_ (fun hHeld1 => ?_)
        · exact ⟨hHeld.1.on hbe, hHeld.2.on hbe⟩
        clear hK K
        try simp only [Act.put, List.getElem_toArray, List.getElem_cons_zero, List.getElem_cons_succ, List.setIfInBounds_toArray, List.set_cons_zero, List.set_cons_succ]
        refine wpAnyH_take (i := 11) (v := ?_) rfl (by kernel_rfl) (by kernel_rfl) (by kernel_rfl) (fun _ _ _ h => h) (Or.inl ⟨by rfl, ?_⟩) (by assumption) ?_
        rotate_left
        · intro w hSw
          (try dsimp only at hSw)
          go_simp
          (try with_reducible rfl)
        try simp only [Act.put, List.getElem_toArray, List.getElem_cons_zero, List.getElem_cons_succ, List.setIfInBounds_toArray, List.set_cons_zero, List.set_cons_succ]
        refine wpAnyH_take (i := 12) (v := ?_) rfl (by kernel_rfl) (by kernel_rfl) (by kernel_rfl) (fun _ _ _ h => h) (Or.inl ⟨by rfl, ?_⟩) (by assumption) ?_
        rotate_left
        · intro w hSw
          (try dsimp only at hSw)
          go_simp
          (try with_reducible rfl)
        try simp only [Act.put, List.getElem_toArray, List.getElem_cons_zero, List.getElem_cons_succ, List.setIfInBounds_toArray, List.set_cons_zero, List.set_cons_succ]
        refine wpAnyH_take (i := 13) (v := ?_) rfl (by kernel_rfl) (by kernel_rfl) (by kernel_rfl) (fun _ _ _ h => h) (Or.inl ⟨by rfl, ?_⟩) (by assumption) ?_
        rotate_left
        · intro w hSw
          (try dsimp only at hSw)
          go_simp
          (try with_reducible rfl)
        try simp only [Act.put, List.getElem_toArray, List.getElem_cons_zero, List.getElem_cons_succ, List.setIfInBounds_toArray, List.set_cons_zero, List.set_cons_succ]
        refine wpAnyH_take (i := 14) (v := ?_) rfl (by kernel_rfl) (by kernel_rfl) (by kernel_rfl) (fun _ _ _ h => h) (Or.inl ⟨by rfl, ?_⟩) (by assumption) ?_
        rotate_left
        · intro w hSw
          (try dsimp only at hSw)
          go_simp
          (try with_reducible rfl)
        try simp only [Act.put, List.getElem_toArray, List.getElem_cons_zero, List.getElem_cons_succ, List.setIfInBounds_toArray, List.set_cons_zero, List.set_cons_succ]
        refine wpAnyH_take (i := 15) (v := ?_) rfl (by kernel_rfl) (by kernel_rfl) (by kernel_rfl) (fun _ _ _ h => h) (Or.inl ⟨by rfl, ?_⟩) (by assumption) ?_
        rotate_left
        · intro w hSw
          (try dsimp only at hSw)
          go_simp
          (try with_reducible rfl)
        try simp only [Act.put, List.getElem_toArray, List.getElem_cons_zero, List.getElem_cons_succ, List.setIfInBounds_toArray, List.set_cons_zero, List.set_cons_succ]
        refine wpAnyH_done (by kernel_rfl) ?_ _
        have RB := Lib.hid hHeld1.1.look.below
        clear hHeld hHeld1 HC HOU
        go_wp2_with fail
        go_ret2
        exact RefsTold.no RB.out RES.out
      | some l =>
        have HG1 : Hid ((scan o a l P).bind (fun P' => refsG o ([0, 1, 2].drop (a + 1)) (Ls ++ [l]) P') = ans) := (refsG_some hwk).symm.trans hG
        have HIN := Lib.hid (walkV_in hwk)
        have HW : Hid (∀ w' : World, Below w.heap.size w w' → Calls Try.prog 28 #[.slice a6 n6 q6, .int .i64 (fixO o a), .int .i64 (opK a)] w' fun e w'' => ∃ v, e = .returned (.tuple #[v, .bool true]) ∧ WalkWay RT w' w'' v l) := fun w' hb => by
          have := rwalk_any a6 n6 q6 o.code (fixO o a) (opK a) w' (HWO.out.on hb) (by omega) HWF.out
          rw [hwk] at this
          exact this
        have hll : l.length ≤ 256 := by have := walkV_len hwk; have := HPP.out.code; omega
        clear hG hwk hlt ha HWO HWF
        generalize fixO o a = hd at *
        generalize opK a = op at *
        go_wp2_with fail
        refine wp_region_held_drew (S := fun w' => Ck w w' ob pb mb V o P f ∧ Outs w w' u8 vs Ls) (by kernel_rfl) ?_ (fun hHeld => ?_)
        · exact ⟨HC.out.on ((Drawn.of_n wr 1).below _), HOU.out.on ((Drawn.of_n wr 1).below _)⟩
        refine wpAnyH_take (i := 0) (v := ?_) rfl (by kernel_rfl) (by kernel_rfl) (by kernel_rfl) (fun _ _ _ h => h) (Or.inl ⟨by rfl, ?_⟩) (by assumption) ?_
        rotate_left
        · intro w hSw
          (try dsimp only at hSw)
          go_simp
          (try with_reducible rfl)
        try simp only [Act.put, List.getElem_toArray, List.getElem_cons_zero, List.setIfInBounds_toArray, List.set_cons_zero, List.set_cons_succ]
        refine wpAnyH_take (i := 1) (v := ?_) rfl (by kernel_rfl) (by kernel_rfl) (by kernel_rfl) (fun _ _ _ h => h) (Or.inl ⟨by rfl, ?_⟩) (by assumption) ?_
        rotate_left
        · intro w hSw
          have c6 := (hSw.1.look.row.cell 6).trans (congrArg some HV6.out)
          (try dsimp only at hSw)
          go_simp
          (try with_reducible rfl)
        try simp only [Act.put, List.getElem_toArray, List.getElem_cons_zero, List.getElem_cons_succ, List.setIfInBounds_toArray, List.set_cons_zero, List.set_cons_succ]
        refine wpAnyH_take (i := 2) (v := ?_) rfl (by kernel_rfl) (by kernel_rfl) (by kernel_rfl) (fun _ _ _ h => h) (Or.inl ⟨by rfl, ?_⟩) (by assumption) ?_
        rotate_left
        · intro w hSw
          (try dsimp only at hSw)
          go_simp
          (try with_reducible rfl)
        try simp only [Act.put, List.getElem_toArray, List.getElem_cons_zero, List.getElem_cons_succ, List.setIfInBounds_toArray, List.set_cons_zero, List.set_cons_succ]
        refine wpAnyH_take (i := 3) (v := ?_) rfl (by kernel_rfl) (by kernel_rfl) (by kernel_rfl) (fun _ _ _ h => h) (Or.inl ⟨by rfl, ?_⟩) (by assumption) ?_
        rotate_left
        · intro w hSw
          (try dsimp only at hSw)
          go_simp
          (try with_reducible rfl)
        try simp only [Act.put, List.getElem_toArray, List.getElem_cons_zero, List.getElem_cons_succ, List.setIfInBounds_toArray, List.set_cons_zero, List.set_cons_succ]
        refine wpAnyH_take (i := 4) (v := ?_) rfl (by kernel_rfl) (by kernel_rfl) (by kernel_rfl) (fun _ _ _ h => h) (Or.inl ⟨by rfl, ?_⟩) (by assumption) ?_
        rotate_left
        · intro w hSw
          (try dsimp only at hSw)
          go_simp
          (try with_reducible rfl)
        try simp only [Act.put, List.getElem_toArray, List.getElem_cons_zero, List.getElem_cons_succ, List.setIfInBounds_toArray, List.set_cons_zero, List.set_cons_succ]
        refine wpAnyH_take (i := 5) (v := ?_) rfl (by kernel_rfl) (by kernel_rfl) (by kernel_rfl) (fun _ _ _ h => h) (Or.inl ⟨by rfl, ?_⟩) (by assumption) ?_
        rotate_left
        · intro w hSw
          have cf := (hSw.1.look.row.cell (11 + a)).trans HFX.out
          (try dsimp only at hSw)
          go_simp
          (try with_reducible rfl)
        try simp only [Act.put, List.getElem_toArray, List.getElem_cons_zero, List.getElem_cons_succ, List.setIfInBounds_toArray, List.set_cons_zero, List.set_cons_succ]
        refine wpAnyH_take (i := 6) (v := ?_) rfl (by kernel_rfl) (by kernel_rfl) (by kernel_rfl) (fun _ _ _ h => h) (Or.inl ⟨by rfl, ?_⟩) (by assumption) ?_
        rotate_left
        · intro w hSw
          (try dsimp only at hSw)
          go_simp
          (try with_reducible rfl)
        try simp only [Act.put, List.getElem_toArray, List.getElem_cons_zero, List.getElem_cons_succ, List.setIfInBounds_toArray, List.set_cons_zero, List.set_cons_succ]
        refine wpAnyH_take (i := 7) (v := ?_) rfl (by kernel_rfl) (by kernel_rfl) (by kernel_rfl) (fun _ _ _ h => h) (Or.inl ⟨by rfl, ?_⟩) (by assumption) ?_
        rotate_left
        · intro w hSw
          (try dsimp only at hSw)
          go_simp
          (try with_reducible rfl)
        try simp only [Act.put, List.getElem_toArray, List.getElem_cons_zero, List.getElem_cons_succ, List.setIfInBounds_toArray, List.set_cons_zero, List.set_cons_succ]
        refine wpAnyH_take (i := 8) (v := ?_) rfl (by kernel_rfl) (by kernel_rfl) (by kernel_rfl) (fun _ _ _ h => h) (Or.inl ⟨by rfl, ?_⟩) (by assumption) ?_
        rotate_left
        · intro w hSw
          (try dsimp only at hSw)
          go_simp
          (try with_reducible rfl)
        try simp only [Act.put, List.getElem_toArray, List.getElem_cons_zero, List.getElem_cons_succ, List.setIfInBounds_toArray, List.set_cons_zero, List.set_cons_succ]
        refine wpAnyH_take (i := 9) (v := ?_) rfl (by kernel_rfl) (by kernel_rfl) (by kernel_rfl) (fun _ _ _ h => h) (Or.inl ⟨by rfl, ?_⟩) (by assumption) ?_
        rotate_left
        · intro w hSw
          have co := (hSw.1.ops.cell a).trans HOX.out
          (try dsimp only at hSw)
          go_simp
          (try with_reducible rfl)
        try simp only [Act.put, List.getElem_toArray, List.getElem_cons_zero, List.getElem_cons_succ, List.setIfInBounds_toArray, List.set_cons_zero, List.set_cons_succ]
        refine wpAnyH_ready (rs := [10]) (by kernel_rfl) (by simp) ?_
        refine AllReadyH.cons rfl (fun K hK => ?_) AllReadyH.nil
        go_simp
        refine (HW.out _ hHeld.1.look.below).mono ?_
        rintro e we ⟨v1, rfl, hw1⟩
        first | show K _ _ | go_wp2_with fail
        refine hK.out _ _ ?_ (fun hHeld1 => ?_)
        · exact ⟨hHeld.1.on hw1.2.2, hHeld.2.on hw1.2.2⟩
        clear hK K
        try simp only [Act.put, List.getElem_toArray, List.getElem_cons_zero, List.getElem_cons_succ, List.setIfInBounds_toArray, List.set_cons_zero, List.set_cons_succ]
        refine wpAnyH_take (i := 11) (v := ?_) rfl (by kernel_rfl) (by kernel_rfl) (by kernel_rfl) (fun _ _ _ h => h) (Or.inl ⟨by rfl, ?_⟩) (by assumption) ?_
        rotate_left
        · intro w hSw
          (try dsimp only at hSw)
          go_simp
          (try with_reducible rfl)
        try simp only [Act.put, List.getElem_toArray, List.getElem_cons_zero, List.getElem_cons_succ, List.setIfInBounds_toArray, List.set_cons_zero, List.set_cons_succ]
        refine wpAnyH_take (i := 12) (v := ?_) rfl (by kernel_rfl) (by kernel_rfl) (by kernel_rfl) (fun _ _ _ h => h) (Or.inl ⟨by rfl, ?_⟩) (by assumption) ?_
        rotate_left
        · intro w hSw
          (try dsimp only at hSw)
          go_simp
          (try with_reducible rfl)
        try simp only [Act.put, List.getElem_toArray, List.getElem_cons_zero, List.getElem_cons_succ, List.setIfInBounds_toArray, List.set_cons_zero, List.set_cons_succ]
        refine wpAnyH_take (i := 13) (v := ?_) rfl (by kernel_rfl) (by kernel_rfl) (by kernel_rfl) (fun _ _ _ h => h) (Or.inl ⟨by rfl, ?_⟩) (by assumption) ?_
        rotate_left
        · intro w hSw
          (try dsimp only at hSw)
          go_simp
          (try with_reducible rfl)
        try simp only [Act.put, List.getElem_toArray, List.getElem_cons_zero, List.getElem_cons_succ, List.setIfInBounds_toArray, List.set_cons_zero, List.set_cons_succ]
        refine wpAnyH_take (i := 14) (v := ?_) rfl (by kernel_rfl) (by kernel_rfl) (by kernel_rfl) (fun _ _ _ h => h) (Or.inl ⟨by rfl, ?_⟩) (by assumption) ?_
        rotate_left
        · intro w hSw
          (try dsimp only at hSw)
          go_simp
          (try with_reducible rfl)
        try simp only [Act.put, List.getElem_toArray, List.getElem_cons_zero, List.getElem_cons_succ, List.setIfInBounds_toArray, List.set_cons_zero, List.set_cons_succ]
        refine wpAnyH_take (i := 15) (v := ?_) rfl (by kernel_rfl) (by kernel_rfl) (by kernel_rfl) (fun _ _ _ h => h) (Or.inl ⟨by rfl, ?_⟩) (by assumption) ?_
        rotate_left
        · intro w hSw
          (try dsimp only at hSw)
          go_simp
          (try with_reducible rfl)
        try simp only [Act.put, List.getElem_toArray, List.getElem_cons_zero, List.getElem_cons_succ, List.setIfInBounds_toArray, List.set_cons_zero, List.set_cons_succ]
        refine wpAnyH_done (by kernel_rfl) ?_ _
        obtain ⟨a1, c1, rfl, _⟩ := hw1.1.shape
        obtain ⟨nl, hnl⟩ : ∃ nl, nl = l.length := ⟨_, rfl⟩
        have HNL := Lib.hid hnl
        have HROW : Hid (SRow RT 3 we (.slice a1 nl c1) l.length (rows refRow l)) := by rw [hnl]; exact hw1.1
        have HC1 := Lib.hid hHeld1.1
        have HO1 := Lib.hid hHeld1.2
        rw [← hnl] at hll ⊢
        clear hw1 hHeld hHeld1 HC HOU HW hnl
        go_wp2_with fail
        go_loopw [12] (fun i wr => ∃ (j : Nat) (P2 : List Int) (f2 : Nat → Bool), j ≤ nl ∧ i = .int .i64 (j : Nat) ∧ Ck w wr ob pb mb V o P2 f2 ∧ Outs w wr u8 vs Ls ∧ SRow RT 3 wr (.slice a1 nl c1) l.length (rows refRow l) ∧ (scan o a (l.drop j) P2).bind (fun P' => refsG o ([0, 1, 2].drop (a + 1)) (Ls ++ [l]) P') = ans) (fun i _ => nl - (intOf i).toNat)
        case atStart => exact ⟨0, _, _, Nat.zero_le _, rfl, HC1.out, HO1.out, HROW.out, HG1.out⟩
        case round =>
          clear HC1 HO1 HROW HG1
          obtain ⟨j, P2, f2, hj, rfl, hC, hO, hR, hG⟩ := hrel
          have HC := Lib.hid hC
          have HOU := Lib.hid hO
          have HROW := Lib.hid hR
          have HG := Lib.hid hG
          clear hC hO hR hG
          by_cases hlt : j < nl
          · obtain ⟨x, hx⟩ : ∃ x, l[j]? = some x := ⟨_, List.getElem?_eq_getElem (by have := HNL.out; omega)⟩
            have HD' : l.drop j = x :: l.drop (j + 1) := by
              have hl := (List.getElem?_eq_some_iff.1 hx).1
              have := List.drop_eq_getElem_cons hl
              rw [(List.getElem?_eq_some_iff.1 hx).2] at this
              exact this
            have hin := HIN.out x (List.mem_of_getElem? hx)
            obtain ⟨xa, y, z⟩ := x
            obtain ⟨p, rfl⟩ := Int.eq_ofNat_of_zero_le (show 0 ≤ xa from hin.1.1)
            have HD := Lib.hid HD'
            have hpn : p < n6 := by have h1 : ((p : Nat) : Int) < (o.code.length : Int) := hin.1.2; have := HN6.out; omega
            have hy16 : y < 16 := hin.2.1
            have hz64 : z < 64 := hin.2.2
            obtain ⟨b, off, cap, e0, hb, p0, p1, p2⟩ := (HROW.out.els refRow_len).cell3 hx (c0 := .int .i64 (p : Nat)) (c1 := .int .i64 (y : Nat)) (c2 := .int .i64 (z : Nat)) rfl
            have ea : a1 = some ⟨b, off, none⟩ := by cases e0; rfl
            rw [ea]
            have RUN := Lib.hid (box_ref wr ⟨(p : Nat), y, z⟩)
            have hbel : Below wr.heap.size wr (wr.alloc (.cells #[.int .i64 (p : Nat), .int .i64 (y : Nat), .int .i64 (z : Nat)] RT)) := (Below.refl _ _).alloc (Nat.le_refl _) _
            have HC4 := Lib.hid (HC.out.on hbel)
            have HO4 := Lib.hid (HOU.out.on hbel)
            have HR4 : Hid (SRow RT 3 (wr.alloc (.cells #[.int .i64 (p : Nat), .int .i64 (y : Nat), .int .i64 (z : Nat)] RT)) (.slice a1 nl c1) l.length (rows refRow l)) := HROW.out.keep (Kept.of_below (S := fun _ => False) hbel) (fun _ _ e => e)
            have HT4 : Hid (RowAt (wr.alloc (.cells #[.int .i64 (p : Nat), .int .i64 (y : Nat), .int .i64 (z : Nat)] RT)) wr.heap.size RT (refRow ⟨(p : Nat), y, z⟩)) := RowAt.new wr RT (refRow ⟨(p : Nat), y, z⟩)
            have i3 : (j : Int) < (nl : Int) := by omega
            have i4 : (0 : Int) ≤ (j : Int) := by omega
            have i5 : (p : Int) < (n6 : Int) := by omega
            have i6 : (0 : Int) ≤ (p : Int) := by omega
            have HJ : Hid (j < nl) := hlt
            have HPN : Hid (p < n6) := hpn
            rw [ea] at HR4
            clear e0 ea hx hin hlt hj hbel HC HOU HROW hb HD' hpn
            go_upto_region 18 with (refine wpList_store_run _ rfl _ _ _ rfl _ _ rfl rfl (by exact RUN.out) ?_)
            generalize wr.alloc (.cells #[.int .i64 (p : Nat), .int .i64 (y : Nat), .int .i64 (z : Nat)] RT) = w4 at *
            generalize wr.heap.size = tb at *
            clear p0 p1 p2 RUN
            have hk : p < o.code.length := by have := HN6.out; have := HPN.out; omega
            have d0 : w4.cell? ⟨tb, 0, none⟩ = some (.int .i64 (p : Nat)) := HT4.out.cell 0
            have cm : w4.cell? ⟨mb, p, none⟩ = some (.bool (f2 p)) := (HC4.out.row.cell p).trans (metN_at f2 hk)
            have HTM : Hid (tb ≠ mb) := HT4.out.ne HC4.out.row (by decide)
            by_cases hf : f2 p = true
            · as_aux_lemma =>
              rw [hf] at cm
              have RES : Hid (ans = none) := HG.out.symm.trans (by rw [HD.out, scan_met (show ((p : Nat) : Int) ∈ P2 from (HC4.out.met p).1 hf)]; rfl)
              have RB := Lib.hid HC4.out.look.below
              go_wp2_with fail
              go_ret2
              exact RefsTold.no RB.out RES.out
            have hf2 : f2 p = false := by simpa using hf
            rw [hf2] at cm
            have fm : w4.frozen? ⟨mb, p, none⟩ = false := HC4.out.row.free p
            have HF : Hid (((p : Nat) : Int) ∉ P2) := fun g => hf ((HC4.out.met p).2 g)
            have HC5 := Lib.hid (HC4.out.set hk)
            have HO5 := Lib.hid (HO4.out.set HC4.out.row p (.bool true))
            have HR5 := Lib.hid (HR4.out.keep (kept_set w4 mb p (.bool true)) (fun i hi => HR4.out.nor HC4.out.row (by decide) i hi))
            have HT5 := Lib.hid (HT4.out.keep (kept_set w4 mb p (.bool true)) HTM.out)
            clear hf hf2 hk HT4 HR4 HO4 HC4 HTM
            go_upto_region 21 with fail
            generalize w4.setCell ⟨mb, p, none⟩ (.bool true) = w5 at *
            clear d0 cm fm
            have d1 : w5.cell? ⟨tb, 1, none⟩ = some (.int .i64 (y : Nat)) := HT5.out.cell 1
            have d2 : w5.cell? ⟨tb, 2, none⟩ = some (.int .i64 (z : Nat)) := HT5.out.cell 2
            have c2 : w5.cell? ⟨ob, 2, none⟩ = some (.slice a2 n2 q2) := (HC5.out.look.row.cell 2).trans (congrArg some HV2.out)
            have c5 : w5.cell? ⟨ob, 5, none⟩ = some (.string o.text) := HC5.out.look.row.cell 5
            have c8 : w5.cell? ⟨ob, 8, none⟩ = some (.slice a8 n8 q8) := (HC5.out.look.row.cell 8).trans (congrArg some HV8.out)
            clear HT5
            by_cases hy : y = 15
            · have t1 : (((y : Nat) : Int) == 15) = true := by simp; omega
              by_cases ha1 : a = 1
              · have t2 : (((a : Nat) : Int) == 1) = true := by simp; omega
                have t3 : (((a : Nat) : Int) != 1) = false := by simp [ha1]
                by_cases hz : ((o.text.size : Nat) : Int) < (z : Int)
                · as_aux_lemma =>
                  have RES : Hid (ans = none) := HG.out.symm.trans (by rw [HD.out, scan_bad (fun g => by unfold RefOk at g; dsimp only at g; rcases g with ⟨g1, g2, g3⟩ | ⟨g1, g2, g3⟩ <;> omega)]; rfl)
                  have RB := Lib.hid HC5.out.look.below
                  go_wp2_with fail
                  go_ret2
                  exact RefsTold.no RB.out RES.out
                · as_aux_lemma =>
                  have HGN : Hid ((scan o a (l.drop (j + 1)) (((p : Nat) : Int) :: P2)).bind (fun P' => refsG o ([0, 1, 2].drop (a + 1)) (Ls ++ [l]) P') = ans) := by
                    show _ = ans
                    have := HG.out
                    rw [HD.out, scan_on (show ((p : Nat) : Int) ∉ P2 from HF.out) (show RefOk o a ⟨((p : Nat) : Int), y, z⟩ from (by unfold RefOk; dsimp only; exact .inl ⟨hy, ha1, by omega⟩))] at this
                    exact this
                  go_wp2_with fail
                  go_roundw
                  case rel => exact ⟨j + 1, _, _, HJ.out, by go_num, HC5.out, HO5.out, HR5.out, HGN.out⟩
                  case measure => have := HJ.out; simp [intOf]; omega
              · have t2 : (((a : Nat) : Int) == 1) = false := by simp; omega
                have t3 : (((a : Nat) : Int) != 1) = true := by simp; omega
                as_aux_lemma =>
                have RES : Hid (ans = none) := HG.out.symm.trans (by rw [HD.out, scan_bad (fun g => by unfold RefOk at g; dsimp only at g; rcases g with ⟨g1, g2, g3⟩ | ⟨g1, g2, g3⟩ <;> omega)]; rfl)
                have RB := Lib.hid HC5.out.look.below
                go_wp2_with fail
                go_ret2
                exact RefsTold.no RB.out RES.out
            · have t1 : (((y : Nat) : Int) == 15) = false := by simp; omega
              by_cases hy2 : (n2 : Int) < (y : Int)
              · as_aux_lemma =>
                have RES : Hid (ans = none) := HG.out.symm.trans (by rw [HD.out, scan_bad (fun g => by unfold RefOk at g; dsimp only at g; have := HN2.out; rcases g with ⟨g1, g2, g3⟩ | ⟨g1, g2, g3⟩ <;> omega)]; rfl)
                have RB := Lib.hid HC5.out.look.below
                go_wp2_with fail
                go_ret2
                exact RefsTold.no RB.out RES.out
              · by_cases hy0 : y = 0
                · have t3 : (((y : Nat) : Int) == 0) = true := by simp; omega
                  by_cases hz : (n8 : Int) ≤ (z : Int)
                  · as_aux_lemma =>
                    have RES : Hid (ans = none) := HG.out.symm.trans (by rw [HD.out, scan_bad (fun g => by unfold RefOk at g; dsimp only at g; rcases g with ⟨g1, g2, g3⟩ | ⟨g1, g2, g3⟩; omega; obtain ⟨x, hx, _⟩ := g3 hy0; have := (List.getElem?_eq_some_iff.1 hx).1; have := HN8.out; omega)]; rfl)
                    have RB := Lib.hid HC5.out.look.below
                    have t5 : decide ((n8 : Int) ≤ (z : Int)) = true := by simpa using hz
                    go_wp2_with fail
                    go_ret2
                    exact RefsTold.no RB.out RES.out
                  · obtain ⟨x8, hx8⟩ : ∃ x, o.exps[z]? = some x := ⟨_, List.getElem?_eq_getElem (by have := HN8.out; omega)⟩
                    have HX8 := Lib.hid hx8
                    obtain ⟨k1, k2⟩ := x8
                    obtain ⟨b8, off8, cap8, e8, hb8, g0, _⟩ := HO.out.exps.cell2 hx8 rfl
                    rw [← HN8.out] at e8
                    have ea8 : a8 = some ⟨b8, off8, none⟩ := by have e2 := HV8.out.symm.trans e8; cases e2; rfl
                    rw [ea8] at c8
                    have u0 := (HC5.out.look.below.cell (p := ⟨b8, off8 + z * 2, none⟩) hb8).trans g0
                    obtain ⟨rF, hrF⟩ : ∃ rF : Bool, rF = true ↔ FitsP a k1 := by
                      by_cases h : FitsP a k1
                      · exact ⟨true, fun _ => h, fun _ => rfl⟩
                      · exact ⟨false, (fun e => by cases e), fun e => absurd e h⟩
                    have HRF := Lib.hid hrF
                    have HFT := Lib.hid (fun w => rfits_any a k1 w rF hrF)
                    have i7 : (z : Int) < (n8 : Int) := by omega
                    have i8 : (0 : Int) ≤ (z : Int) := by omega
                    have HYZ : Hid (y = 0) := hy0
                    have HYI : Hid (y ≠ 15) := hy
                    have t4 : ¬ (n8 : Int) ≤ (z : Int) := hz
                    have t5 : decide ((n8 : Int) ≤ (z : Int)) = false := by simpa using hz
                    clear e8 ea8 hb8 g0 hrF hx8 hy0 hy hz
                    go_wp2_with fail
                    refine (HFT.out _).mono ?_
                    rintro e w' ⟨rfl, rfl⟩
                    cases rF with
                    | false =>
                      as_aux_lemma =>
                      have RES : Hid (ans = none) := HG.out.symm.trans (by rw [HD.out, scan_bad (fun g => by unfold RefOk at g; dsimp only at g; rcases g with ⟨g1, g2, g3⟩ | ⟨g1, g2, g3⟩; exact HYI.out g1; obtain ⟨x, hx, hft⟩ := g3 HYZ.out; have e := HX8.out.symm.trans hx; cases e; have := HRF.out.2 hft; cases this)]; rfl)
                      have RB := Lib.hid HC5.out.look.below
                      go_wp2_with fail
                      go_ret2
                      exact RefsTold.no RB.out RES.out
                    | true =>
                      as_aux_lemma =>
                      have HGN : Hid ((scan o a (l.drop (j + 1)) (((p : Nat) : Int) :: P2)).bind (fun P' => refsG o ([0, 1, 2].drop (a + 1)) (Ls ++ [l]) P') = ans) := by
                        show _ = ans
                        have := HG.out
                        rw [HD.out, scan_on (show ((p : Nat) : Int) ∉ P2 from HF.out) (show RefOk o a ⟨((p : Nat) : Int), y, z⟩ from (by unfold RefOk; dsimp only; exact .inr ⟨HYI.out, by have := HN2.out; omega, fun _ => ⟨_, HX8.out, HRF.out.1 rfl⟩⟩))] at this
                        exact this
                      go_wp2_with fail
                      go_roundw
                      case rel => exact ⟨j + 1, _, _, HJ.out, by go_num, HC5.out, HO5.out, HR5.out, HGN.out⟩
                      case measure => have := HJ.out; simp [intOf]; omega
                · have t3 : (((y : Nat) : Int) == 0) = false := by simp; omega
                  as_aux_lemma =>
                  have HGN : Hid ((scan o a (l.drop (j + 1)) (((p : Nat) : Int) :: P2)).bind (fun P' => refsG o ([0, 1, 2].drop (a + 1)) (Ls ++ [l]) P') = ans) := by
                    show _ = ans
                    have := HG.out
                    rw [HD.out, scan_on (show ((p : Nat) : Int) ∉ P2 from HF.out) (show RefOk o a ⟨((p : Nat) : Int), y, z⟩ from (by unfold RefOk; dsimp only; exact .inr ⟨hy, by have := HN2.out; omega, fun e => absurd e hy0⟩))] at this
                    exact this
                  go_wp2_with fail
                  go_roundw
                  case rel => exact ⟨j + 1, _, _, HJ.out, by go_num, HC5.out, HO5.out, HR5.out, HGN.out⟩
                  case measure => have := HJ.out; simp [intOf]; omega
          · obtain rfl : j = nl := by omega
            have HX := HG.out
            rw [List.drop_of_length_le (by have := HNL.out; omega)] at HX
            have HGN : Hid (refsG o ([0, 1, 2].drop (a + 1)) (Ls ++ [l]) P2 = ans) := HX
            have i3 : ¬ (j : Int) < (j : Int) := by omega
            have HRW : Hid (SRow RT 3 wr (Sl.v ⟨a1, j, c1⟩) l.length (rows refRow l)) := HROW.out
            have hvl : vs.length ≤ 900000 := by have := HLV.out; omega
            obtain ⟨v6, w6, hr6, hs6, hg6⟩ := more_el (T := LT) Try.underlying65 info_rs rfl (by decide) slRow_len slRow_one HOU.out.row (⟨a1, j, c1⟩ : Sl) hvl
            have HC7 := Lib.hid (HC.out.grew HOU.out hg6)
            have HO7 := Lib.hid (HOU.out.more HRW.out hs6 hg6 HC.out.look.below.size)
            clear HX HG HROW HRW hs6 hg6 hvl hlt hj
            go_wp2_with (at_builtin; refine Lib.wpList_append_run _ rfl _ _ _ _ rfl _ _ rfl rfl _ _ hr6 ?_)
            go_roundw
            case rel => exact ⟨a + 1, _, _, _, _, by have := HA.out; omega, by go_num, HC7.out, HO7.out, by rw [List.length_append, HLA.out]; rfl, HGN.out⟩
            case measure => have := HA.out; simp [intOf]; omega
    · obtain rfl : a = 3 := by omega
      have RES : Hid (ans = some Ls) := by
        show ans = some Ls
        rw [← hG]
        rfl
      have i1 : ¬ ((3 : Nat) : Int) < 3 := by omega
      clear hG hlt ha
      go_wp2_with fail
      go_ret2
      exact RefsTold.yes HOU.out HC.out.look.below RES.out
end Go.Proofs.Ytkkjfbpflfknpaa
