/-
  The program's Refs, Valid (layer 14). No conditions.
-/
import Derived.Test.YtekcebmojjkoeaaCkT
namespace Go.Proofs.Ytekcebmojjkoeaa
open Go.ChangeShapes Go.WideShapes Go.ChangeAt Go.RowKit

abbrev A3T : TypeId := 35
def nil3 : List Value := [.slice none 0 0, .slice none 0 0, .slice none 0 0]
theorem nil3_one : Ones nil3 := by intro u hu; simp only [nil3, List.mem_cons, List.not_mem_nil, or_false] at hu; rcases hu with rfl | rfl | rfl <;> rfl
theorem size_a3 : (Try.prog.info? A3T).map (·.size) = some 3 := by kernel_rfl
theorem info_boolC : (Try.prog.info? 4).map (fun i => (i.zero, i.size, i.bytes)) = some (some (.bool false), 1, 1) := by kernel_rfl
theorem make_boolsC (n : Nat) (hn : n ≤ 100000) (w : World) : (Instr.makeSlice 55 (.int .i64 n) (.int .i64 n)).run Try.prog w = .ok (.slice (some ⟨w.heap.size, 0, none⟩) n n) (w.alloc (.cells (metN n (fun _ => false)).toArray 4)) := by
  have h := run_make_row' (P := Try.prog) 55 4 (.bool false) 1 Try.underlying55 info_boolC rfl .i64 .i64 n (by omega) (by omega) w
  have e : madeCells #[Value.bool false] n = (metN n (fun _ => false)).toArray := by
    apply Array.ext
    · simp [size_madeCells, metN]
    · intro i h1 h2
      simp [madeCells, metN, Nat.mod_one]
  rw [e] at h
  exact h
theorem fix_index (o : ObjD) : ∀ a : Nat, a < 3 → ∀ w : World, (Instr.index 29 (.agg #[.int .i64 o.f0, .int .i64 o.f1, .int .i64 o.f2]) (.int .i64 (a : Nat))).run Try.prog w = .ok (.int .i64 (fixO o a)) w
  | 0, _ => fun _ => by kernel_rfl
  | 1, _ => fun _ => by kernel_rfl
  | 2, _ => fun _ => by kernel_rfl
  | a + 3, h => by omega
theorem drop3C : ∀ a : Nat, a < 3 → [0, 1, 2].drop a = a :: [0, 1, 2].drop (a + 1)
  | 0, _ => rfl
  | 1, _ => rfl
  | 2, _ => rfl
  | a + 3, h => by omega
theorem RowAt.neC {w : World} {a b : Nat} {t T : TypeId} {cs ds : List Value} (h : RowAt w a t cs) (g : RowAt w b T ds) (ht : t ≠ T) : a ≠ b := by
  intro e
  subst e
  have := h.symm.trans g
  simp at this
  exact ht this.2
/- the answer's variable is told -/
theorem tell3 {w wr : World} {ob gb : Nat} {V : ObjV} {o : ObjD} {ds : List Value} (h : Looks w wr ob V o) (hg : RowAt wr gb A3T ds) (hd : ds.length = 3) (hw : w.heap.size ≤ gb) (xs : List Value) (hx : xs.length = 3) (h1 : Ones xs) :
    (Instr.storeAt A3T (.pointer (some ⟨gb, 0, none⟩)) (.agg xs.toArray)).run Try.prog wr = .ok () (wr.setRow gb xs.toArray) ∧ RowAt (wr.setRow gb xs.toArray) gb A3T xs ∧ Kept (· = gb) wr (wr.setRow gb xs.toArray) ∧ Below w.heap.size w (wr.setRow gb xs.toArray) := by
  obtain ⟨r1, r2, r3⟩ := told_row hg hd hx h1 size_a3
  exact ⟨r1, r2, r3, r3.below h.below h.below.size fun k _ e => by omega⟩
/- while Refs goes on -/
structure Pk (w wr : World) (ob gb rb mb : Nat) (V : ObjV) (o : ObjD) (P : List Int) (f : Nat → Bool) (cs : List Value) (Ls : List (List RefD)) : Prop where
  look : Looks w wr ob V o
  gon : RowAt wr gb A3T nil3
  row : RowAt wr mb 4 (metN o.code.length f)
  met : MetP P f
  res : RowAt wr rb A3T cs
  len : cs.length = 3
  one : Ones cs
  els : ∀ (j : Nat) (l : List RefD), Ls[j]? = some l → ∃ v, cs[j]? = some v ∧ SRow CT 3 wr v l.length (rows refRow l)
  far : w.heap.size ≤ gb ∧ w.heap.size ≤ rb ∧ w.heap.size ≤ mb ∧ gb ≠ rb
theorem Pk.on {w wr w' : World} {ob gb rb mb : Nat} {V : ObjV} {o : ObjD} {P : List Int} {f : Nat → Bool} {cs : List Value} {Ls : List (List RefD)} (h : Pk w wr ob gb rb mb V o P f cs Ls) (hb : Below wr.heap.size wr w') : Pk w w' ob gb rb mb V o P f cs Ls := by
  have k := Kept.of_below (S := fun _ => False) hb
  refine ⟨h.look.on3 hb, h.gon.keep k (fun e => e), h.row.keep k (fun e => e), h.met, h.res.keep k (fun e => e), h.len, h.one, fun j l hl => ?_, h.far⟩
  obtain ⟨v, hv, hr⟩ := h.els j l hl
  exact ⟨v, hv, hr.keep k (fun _ _ e => e)⟩
theorem Pk.taken {w wr w' : World} {ob gb rb mb : Nat} {V : ObjV} {o : ObjD} {P P' : List Int} {f f' : Nat → Bool} {cs : List Value} {Ls : List (List RefD)} (h : Pk w wr ob gb rb mb V o P f cs Ls) (t : Tak wr w' mb o.code.length P' f') : Pk w w' ob gb rb mb V o P' f' cs Ls := by
  refine ⟨⟨h.look.row.keep t.kept (h.look.row.neC h.row (by decide)), t.kept.below h.look.below h.look.below.size fun j _ e => by have := h.far.2.2.1; omega⟩, h.gon.keep t.kept (h.gon.neC h.row (by decide)), t.row, t.met, h.res.keep t.kept (h.res.neC h.row (by decide)), h.len, h.one, fun j l hl => ?_, h.far⟩
  obtain ⟨v, hv, hr⟩ := h.els j l hl
  exact ⟨v, hv, hr.keep t.kept (fun i hi e => by subst e; exact hr.notIn h.row (by decide) hi)⟩
theorem Pk.keptT {w wr w' : World} {ob gb rb mb : Nat} {V : ObjV} {o : ObjD} {P : List Int} {f : Nat → Bool} {cs : List Value} {Ls : List (List RefD)} (h : Pk w wr ob gb rb mb V o P f cs Ls) (k : Kept (· = mb) wr w') : Looks w w' ob V o ∧ RowAt w' gb A3T nil3 :=
  ⟨⟨h.look.row.keep k (h.look.row.neC h.row (by decide)), k.below h.look.below h.look.below.size fun j _ e => by have := h.far.2.2.1; omega⟩, h.gon.keep k (h.gon.neC h.row (by decide))⟩
theorem Pk.put {w wr : World} {ob gb rb mb : Nat} {V : ObjV} {o : ObjD} {P : List Int} {f : Nat → Bool} {cs : List Value} {Ls : List (List RefD)} (h : Pk w wr ob gb rb mb V o P f cs Ls) {a : Nat} {v : Value} {l : List RefD} (ha : Ls.length = a) (h3 : a < 3) (hv : SRow CT 3 wr v l.length (rows refRow l)) : Pk w (wr.setCell ⟨rb, a, none⟩ v) ob gb rb mb V o P f (cs.set a v) (Ls ++ [l]) := by
  have k := kept_set wr rb a v
  refine ⟨⟨h.look.row.keep k (h.look.row.neC h.res (by decide)), k.below h.look.below h.look.below.size fun j _ e => by have := h.far.2.1; omega⟩, h.gon.keep k h.far.2.2.2, h.row.keep k (h.row.neC h.res (by decide)), h.met, h.res.setCell a v, by rw [List.length_set]; exact h.len, fun u hu => ?_, fun j m hm => ?_, h.far⟩
  · rcases List.mem_or_eq_of_mem_set hu with e | e
    · exact h.one u e
    · subst e
      obtain ⟨_, _, rfl, _⟩ := hv.shape
      rfl
  · by_cases hj : j = a
    · subst hj
      rw [List.getElem?_append_right (by omega), ha, Nat.sub_self] at hm
      simp at hm
      subst hm
      exact ⟨v, by rw [List.getElem?_set_self (by have := h.len; omega)], hv.keep k (fun i hi e => by subst e; exact hv.notIn h.res (by decide) hi)⟩
    · have hl := (List.getElem?_eq_some_iff.1 hm).1
      simp at hl
      rw [List.getElem?_append_left (by omega)] at hm
      obtain ⟨u, hu, hr⟩ := h.els j m hm
      exact ⟨u, by rw [List.getElem?_set_ne (by omega)]; exact hu, hr.keep k (fun i hi e => by subst e; exact hr.notIn h.res (by decide) hi)⟩
/- what Refs answers -/
def PRefsTold (w : World) (ans : Option (List (List RefD))) (e : Ending) (w' : World) : Prop :=
  match ans with
  | some Ls => ∃ cs : List Value, e = .returned (.tuple #[.agg cs.toArray, .bool true]) ∧ cs.length = 3 ∧ Ones cs ∧ (∀ (j : Nat) (l : List RefD), Ls[j]? = some l → ∃ v, cs[j]? = some v ∧ ElsAt 3 refRow w' v l) ∧ Below w.heap.size w w'
  | none => e = .returned (.tuple #[.agg nil3.toArray, .bool false]) ∧ Below w.heap.size w w'
theorem PRefsTold.yes {w w' : World} {ans : Option (List (List RefD))} {Ls : List (List RefD)} {cs : List Value} (ha : ans = some Ls) (hl : cs.length = 3) (h1 : Ones cs) (he : ∀ (j : Nat) (l : List RefD), Ls[j]? = some l → ∃ v, cs[j]? = some v ∧ ElsAt 3 refRow w' v l) (hb : Below w.heap.size w w') : PRefsTold w ans (.returned (.tuple #[.agg cs.toArray, .bool true])) w' := by
  subst ha
  exact ⟨cs, rfl, hl, h1, he, hb⟩
theorem PRefsTold.no {w w' : World} {ans : Option (List (List RefD))} (hb : Below w.heap.size w w') (ha : ans = none) : PRefsTold w ans (.returned (.tuple #[.agg nil3.toArray, .bool false])) w' := by
  subst ha
  exact ⟨rfl, hb⟩
theorem refsV_no {o : ObjD} (h : ¬ PartsQ o) : refsV o = none := by
  unfold refsV
  rw [if_neg (fun g => h ((parts_iff o).2 g))]
theorem refsV_go {o : ObjD} (h : PartsQ o) : refsV o = refsG o [0, 1, 2] [] [] := by
  unfold refsV
  rw [if_pos ((parts_iff o).1 h)]

set_option maxRecDepth 100000 in
set_option maxHeartbeats 4000000 in
theorem prefs_any (V : ObjV) (o : ObjD) (w : World) (h : ObjAt w V o) :
    Calls Try.prog 7 #[.agg (ocells V o).toArray] w fun e w' => PRefsTold w (refsV o) e w' := by
  have HL' := Lib.hid (looks_new w V o)
  have HO := Lib.hid h
  obtain ⟨ans, hans⟩ : ∃ ans, ans = refsV o := ⟨_, rfl⟩
  have HANS := Lib.hid hans
  rw [← hans]
  obtain ⟨r1, hr1⟩ := some_bool (PartsQ o)
  have H1 := Lib.hid hr1
  obtain ⟨a6, q6, hv6, _⟩ := h.code.shape
  obtain ⟨n6, hn6⟩ : ∃ n, n = o.code.length := ⟨_, rfl⟩
  rw [← hn6] at hv6
  have HV6 := Lib.hid hv6
  have HN6 := Lib.hid hn6
  clear h hans hr1 hv6 hn6
  go_enter Try.func7, Try.ntmps7
  go_upto_region 1 with fail
  have HL2 : Hid (Looks w ((w.alloc (.cells (ocells V o).toArray OT)).alloc (.cells #[.slice none 0 0, .slice none 0 0, .slice none 0 0] A3T)) w.heap.size V o) := HL'.out.on3 ((Below.refl _ _).alloc (Nat.le_refl _) _)
  have HG2 : Hid (RowAt ((w.alloc (.cells (ocells V o).toArray OT)).alloc (.cells #[.slice none 0 0, .slice none 0 0, .slice none 0 0] A3T)) (w.heap.size + 1) A3T nil3) := by
    have := RowAt.new (w.alloc (.cells (ocells V o).toArray OT)) A3T nil3
    rw [show (w.alloc (.cells (ocells V o).toArray OT)).heap.size = w.heap.size + 1 by simp] at this
    exact this
  have HGW : Hid (w.heap.size ≤ w.heap.size + 1) := Nat.le_succ _
  clear HL'
  generalize (w.alloc (.cells (ocells V o).toArray OT)).alloc (.cells #[.slice none 0 0, .slice none 0 0, .slice none 0 0] A3T) = w0 at *
  generalize w.heap.size + 1 = gb at *
  obtain ⟨ob, hob⟩ : ∃ ob, ob = w.heap.size := ⟨_, rfl⟩
  have HL : Hid (Looks w w0 ob V o) := by rw [hob]; exact HL2.out
  rw [← hob]
  clear HL2 hob
  go_wp2_with (refine load_row_on rfl _ _ rfl ob rfl OT (ocells V o).toArray (0, 0) _ HL.out.row Try.underlying31 rfl (by rw [size_ob]; rfl) ?_)
  refine (parts_any V o r1 _ (HO.out.on HL.out.below) H1.out).mono ?_
  rintro e w1 ⟨rfl, hb1⟩
  have HL1 := Lib.hid (HL.out.on3 hb1)
  have HG1 := Lib.hid (HG2.out.keep (Kept.of_below (S := fun _ => False) hb1) (fun e => e))
  clear hb1 HL HG2
  cases r1 with
  | false =>
    as_aux_lemma =>
    have RES : Hid (ans = none) := HANS.out.trans (refsV_no fun g => by have := H1.out.2 g; cases this)
    have TELL := Lib.hid (tell3 HL1.out HG1.out rfl HGW.out nil3 rfl nil3_one)
    go_wp2_with (refine wpList_store_run _ rfl _ _ _ rfl _ _ rfl rfl (by exact TELL.out.1) ?_)
    refine bodyPost_ret (v := .tuple #[.agg nil3.toArray, .bool false]) ?_ rfl (PRefsTold.no TELL.out.2.2.2 RES.out)
    exact results_two Try.results7 _ _ gb A3T _ _ _ _ rfl rfl TELL.out.2.1 Try.underlying35 rfl (by rw [size_a3]; rfl)
  | true =>
  have HPQ : Hid (PartsQ o) := H1.out.1 rfl
  have HREF : Hid (refsG o [0, 1, 2] [] [] = ans) := (HANS.out.trans (refsV_go HPQ.out)).symm
  have s6 : n6 ≤ 256 := by have := HPQ.out.2.1.2.2.2; have := HN6.out; omega
  have hmk := make_boolsC n6 (by omega)
  have c6 : (w1.alloc (.cells #[.slice none 0 0, .slice none 0 0, .slice none 0 0] A3T)).cell? ⟨ob, 6, none⟩ = some (.slice a6 n6 q6) := ((HL1.out.on3 ((Below.refl _ _).alloc (Nat.le_refl _) _)).row.cell 6).trans (congrArg some HV6.out)
  have HC : Hid (Pk w ((w1.alloc (.cells #[.slice none 0 0, .slice none 0 0, .slice none 0 0] A3T)).alloc (.cells (metN n6 (fun _ => false)).toArray 4)) ob gb w1.heap.size (w1.heap.size + 1) V o [] (fun _ => false) nil3 []) := by
    have k1 : Below w1.heap.size w1 (w1.alloc (.cells #[.slice none 0 0, .slice none 0 0, .slice none 0 0] A3T)) := (Below.refl _ _).alloc (Nat.le_refl _) _
    have k2 : Kept (fun _ => False) (w1.alloc (.cells #[.slice none 0 0, .slice none 0 0, .slice none 0 0] A3T)) ((w1.alloc (.cells #[.slice none 0 0, .slice none 0 0, .slice none 0 0] A3T)).alloc (.cells (metN n6 (fun _ => false)).toArray 4)) := (Kept.refl _ _).alloc _
    have hlt := HG1.out.lt
    refine ⟨(HL1.out.on3 k1).on3 k2.none, (HG1.out.keep (Kept.of_below (S := fun _ => False) k1) (fun e => e)).keep k2 (fun e => e), ?_, MetP.start, (RowAt.new w1 A3T nil3).keep k2 (fun e => e), rfl, nil3_one, (fun j l h => by simp at h), ⟨HGW.out, HL1.out.below.size, Nat.le_trans HL1.out.below.size (Nat.le_succ _), by omega⟩⟩
    rw [← HN6.out]
    have := RowAt.new (w1.alloc (.cells #[.slice none 0 0, .slice none 0 0, .slice none 0 0] A3T)) 4 (metN n6 (fun _ => false))
    rw [show (w1.alloc (.cells #[.slice none 0 0, .slice none 0 0, .slice none 0 0] A3T)).heap.size = w1.heap.size + 1 by simp] at this
    exact this
  clear H1 HANS HL1 HG1 HGW
  go_upto_region 5 with fail
  clear hmk c6
  generalize (w1.alloc (.cells #[.slice none 0 0, .slice none 0 0, .slice none 0 0] A3T)).alloc (.cells (metN n6 (fun _ => false)).toArray 4) = w2 at *
  generalize w1.heap.size + 1 = mb at *
  generalize w1.heap.size = rb at *
  have c11 : w2.cell? ⟨ob, 11, none⟩ = some (.int .i64 o.f0) := HC.out.look.row.cell 11
  have c12 : w2.cell? ⟨ob, 12, none⟩ = some (.int .i64 o.f1) := HC.out.look.row.cell 12
  have c13 : w2.cell? ⟨ob, 13, none⟩ = some (.int .i64 o.f2) := HC.out.look.row.cell 13
  go_wp2_with fail
  clear c11 c12 c13
  go_loopw [20] (fun i wr => ∃ (a : Nat) (cs : List Value) (Ls : List (List RefD)) (P : List Int) (f : Nat → Bool), a ≤ 3 ∧ i = .int .i64 (a : Nat) ∧ Pk w wr ob gb rb mb V o P f cs Ls ∧ Ls.length = a ∧ refsG o ([0, 1, 2].drop a) Ls P = ans) (fun i _ => 3 - (intOf i).toNat)
  case atStart => exact ⟨0, nil3, [], [], _, by decide, rfl, HC.out, rfl, HREF.out⟩
  case round =>
    clear HC HREF
    obtain ⟨a, cs, Ls, P, f, ha, rfl, hC, hLL, hG⟩ := hrel
    have HC := Lib.hid hC
    have HLA : Hid (Ls.length = a) := hLL
    clear hC hLL
    by_cases hlt : a < 3
    · have HA : Hid (a < 3) := hlt
      have i1 : (a : Int) < 3 := by omega
      have i2 : (0 : Int) ≤ (a : Int) := by omega
      rw [drop3C a hlt] at hG
      have hix := fix_index o a hlt
      have HOP := Lib.hid (fun w => opOf_any a w)
      have HWO : Hid (WordsAt w (.slice a6 n6 q6) o.code) := ⟨by rw [← HV6.out]; exact HO.out.code, HO.out.fit.code⟩
      have HWF : Hid ((Lit.int .i64 (fixO o a)).wf = true) := WalkArith.wf_i64 (by unfold fixO; split; exact HO.out.fit.f0; split; exact HO.out.fit.f1; exact HO.out.fit.f2)
      cases hwk : walkV o.code (fixO o a) (opK a) with
      | none =>
        as_aux_lemma =>
        have RES : Hid (ans = none) := hG.symm.trans (refsG_none hwk)
        have HW : Hid (∀ w' : World, Below w.heap.size w w' → Calls Try.prog 17 #[.slice a6 n6 q6, .int .i64 (fixO o a), .int .i64 (opK a)] w' fun e w'' => e = .returned (.tuple #[.slice none 0 0, formV]) ∧ Below w'.heap.size w' w'') := fun w' hb => by
          have := walk_any a6 n6 q6 o.code (fixO o a) (opK a) w' (HWO.out.on hb) (by omega) HWF.out
          rw [hwk] at this
          exact this
        clear hG hwk hlt ha HWO HWF
        generalize fixO o a = hd at *
        generalize opK a = op at *
        go_wp2_with fail
        clear hix
        refine wp_region_held_drew (S := fun w' => Pk w w' ob gb rb mb V o P f cs Ls) (by kernel_rfl) ?_ (fun hHeld => ?_)
        · exact HC.out.on ((Drawn.of_n wr 1).below _)
        refine wpAnyH_take (i := 0) (v := ?_) rfl (by kernel_rfl) (by kernel_rfl) (by kernel_rfl) (fun _ _ _ h => h) (Or.inl ⟨by rfl, ?_⟩) (by assumption) ?_
        rotate_left
        · intro w hSw
          (try dsimp only at hSw)
          go_simp
          (try with_reducible rfl)
        try simp only [Act.put, List.getElem_toArray, List.getElem_cons_zero, List.setIfInBounds_toArray, List.set_cons_zero, List.set_cons_succ]
        refine wpAnyH_take (i := 1) (v := ?_) rfl (by kernel_rfl) (by kernel_rfl) (by kernel_rfl) (fun _ _ _ h => h) (Or.inl ⟨by rfl, ?_⟩) (by assumption) ?_
        rotate_left
        · intro w hSw
          have c6 := (hSw.look.row.cell 6).trans (congrArg some HV6.out)
          (try dsimp only at hSw)
          go_simp
          (try with_reducible rfl)
        try simp only [Act.put, List.getElem_toArray, List.getElem_cons_zero, List.getElem_cons_succ, List.setIfInBounds_toArray, List.set_cons_zero, List.set_cons_succ]
        refine wpAnyH_take (i := 2) (v := ?_) rfl (by kernel_rfl) (by kernel_rfl) (by kernel_rfl) (fun _ _ _ h => h) (Or.inl ⟨by rfl, ?_⟩) (by assumption) ?_
        rotate_left
        · intro w hSw
          (try dsimp only at hSw)
          go_simp
          (try with_reducible rfl)
        try simp only [Act.put, List.getElem_toArray, List.getElem_cons_zero, List.getElem_cons_succ, List.setIfInBounds_toArray, List.set_cons_zero, List.set_cons_succ]
        refine wpAnyH_take (i := 3) (v := ?_) rfl (by kernel_rfl) (by kernel_rfl) (by kernel_rfl) (fun _ _ _ h => h) (Or.inl ⟨by rfl, ?_⟩) (by assumption) ?_
        rotate_left
        · intro w hSw
          (try dsimp only at hSw)
          go_simp
          (try with_reducible rfl)
        try simp only [Act.put, List.getElem_toArray, List.getElem_cons_zero, List.getElem_cons_succ, List.setIfInBounds_toArray, List.set_cons_zero, List.set_cons_succ]
        refine wpAnyH_ready (rs := [4]) (by kernel_rfl) (by simp) ?_
        refine AllReadyH.cons rfl (fun K hK => ?_) AllReadyH.nil
        go_simp
        refine (HOP.out _).mono ?_
        rintro e we ⟨rfl, rfl⟩
        first | show K _ _ | go_wp2_with fail
        refine hK.out _ _ ?_ (fun hHeld1 => ?_)
        · exact hHeld
        clear hK K
        try simp only [Act.put, List.getElem_toArray, List.getElem_cons_zero, List.getElem_cons_succ, List.setIfInBounds_toArray, List.set_cons_zero, List.set_cons_succ]
        refine wpAnyH_ready (rs := [5]) (by kernel_rfl) (by simp) ?_
        refine AllReadyH.cons rfl (fun K hK => ?_) AllReadyH.nil
        go_simp
        refine (HW.out _ hHeld1.look.below).mono ?_
        rintro e we ⟨rfl, hbe⟩
        first | show K _ _ | go_wp2_with fail
        refine hK.out _ _ ?_ (fun hHeld2 => ?_)
        · exact hHeld1.on hbe
        clear hK K
        try simp only [Act.put, List.getElem_toArray, List.getElem_cons_zero, List.getElem_cons_succ, List.setIfInBounds_toArray, List.set_cons_zero, List.set_cons_succ]
        refine wpAnyH_take (i := 6) (v := ?_) rfl (by kernel_rfl) (by kernel_rfl) (by kernel_rfl) (fun _ _ _ h => h) (Or.inl ⟨by rfl, ?_⟩) (by assumption) ?_
        rotate_left
        · intro w hSw
          (try dsimp only at hSw)
          go_simp
          (try with_reducible rfl)
        try simp only [Act.put, List.getElem_toArray, List.getElem_cons_zero, List.getElem_cons_succ, List.setIfInBounds_toArray, List.set_cons_zero, List.set_cons_succ]
        refine wpAnyH_take (i := 7) (v := ?_) rfl (by kernel_rfl) (by kernel_rfl) (by kernel_rfl) (fun _ _ _ h => h) (Or.inl ⟨by rfl, ?_⟩) (by assumption) ?_
        rotate_left
        · intro w hSw
          (try dsimp only at hSw)
          go_simp
          (try with_reducible rfl)
        try simp only [Act.put, List.getElem_toArray, List.getElem_cons_zero, List.getElem_cons_succ, List.setIfInBounds_toArray, List.set_cons_zero, List.set_cons_succ]
        refine wpAnyH_take (i := 8) (v := ?_) rfl (by kernel_rfl) (by kernel_rfl) (by kernel_rfl) (fun _ _ _ h => h) (Or.inl ⟨by rfl, ?_⟩) (by assumption) ?_
        rotate_left
        · intro w hSw
          (try dsimp only at hSw)
          go_simp
          (try with_reducible rfl)
        try simp only [Act.put, List.getElem_toArray, List.getElem_cons_zero, List.getElem_cons_succ, List.setIfInBounds_toArray, List.set_cons_zero, List.set_cons_succ]
        refine wpAnyH_take (i := 9) (v := ?_) rfl (by kernel_rfl) (by kernel_rfl) (by kernel_rfl) (fun _ _ _ h => h) (Or.inl ⟨by rfl, ?_⟩) (by assumption) ?_
        rotate_left
        · intro w hSw
          (try dsimp only at hSw)
          go_simp
          (try with_reducible rfl)
        try simp only [Act.put, List.getElem_toArray, List.getElem_cons_zero, List.getElem_cons_succ, List.setIfInBounds_toArray, List.set_cons_zero, List.set_cons_succ]
        refine wpAnyH_take (i := 10) (v := ?_) rfl (by kernel_rfl) (by kernel_rfl) (by kernel_rfl) (fun _ _ _ h => h) (Or.inl ⟨by rfl, ?_⟩) (by assumption) ?_
        rotate_left
        · intro w hSw
          (try dsimp only at hSw)
          go_simp
          (try with_reducible rfl)
        try simp only [Act.put, List.getElem_toArray, List.getElem_cons_zero, List.getElem_cons_succ, List.setIfInBounds_toArray, List.set_cons_zero, List.set_cons_succ]
        refine wpAnyH_done (by kernel_rfl) ?_ _
        have TELL := Lib.hid (tell3 hHeld2.look hHeld2.gon rfl hHeld2.far.1 nil3 rfl nil3_one)
        clear hHeld hHeld1 hHeld2 HC hbe HW HOP
        go_wp2_with (refine wpList_store_run _ rfl _ _ _ rfl _ _ rfl rfl (by exact TELL.out.1) ?_)
        refine bodyPost_ret (v := .tuple #[.agg nil3.toArray, .bool false]) ?_ rfl (PRefsTold.no TELL.out.2.2.2 RES.out)
        exact results_two Try.results7 _ _ gb A3T _ _ _ _ rfl rfl TELL.out.2.1 Try.underlying35 rfl (by rw [size_a3]; rfl)
      | some l =>
        have HG1 : Hid ((scan o a l P).bind (fun P' => refsG o ([0, 1, 2].drop (a + 1)) (Ls ++ [l]) P') = ans) := (refsG_some hwk).symm.trans hG
        have HIN := Lib.hid (walkV_in hwk)
        have HW : Hid (∀ w' : World, Below w.heap.size w w' → Calls Try.prog 17 #[.slice a6 n6 q6, .int .i64 (fixO o a), .int .i64 (opK a)] w' fun e w'' => ∃ v, e = .returned (.tuple #[v, .nilIface]) ∧ WalkWay CT w' w'' v l) := fun w' hb => by
          have := walk_any a6 n6 q6 o.code (fixO o a) (opK a) w' (HWO.out.on hb) (by omega) HWF.out
          rw [hwk] at this
          exact this
        clear hG hwk hlt ha HWO HWF
        generalize fixO o a = hd at *
        generalize opK a = op at *
        go_wp2_with fail
        clear hix
        refine wp_region_held_drew (S := fun w' => Pk w w' ob gb rb mb V o P f cs Ls) (by kernel_rfl) ?_ (fun hHeld => ?_)
        · exact HC.out.on ((Drawn.of_n wr 1).below _)
        refine wpAnyH_take (i := 0) (v := ?_) rfl (by kernel_rfl) (by kernel_rfl) (by kernel_rfl) (fun _ _ _ h => h) (Or.inl ⟨by rfl, ?_⟩) (by assumption) ?_
        rotate_left
        · intro w hSw
          (try dsimp only at hSw)
          go_simp
          (try with_reducible rfl)
        try simp only [Act.put, List.getElem_toArray, List.getElem_cons_zero, List.setIfInBounds_toArray, List.set_cons_zero, List.set_cons_succ]
        refine wpAnyH_take (i := 1) (v := ?_) rfl (by kernel_rfl) (by kernel_rfl) (by kernel_rfl) (fun _ _ _ h => h) (Or.inl ⟨by rfl, ?_⟩) (by assumption) ?_
        rotate_left
        · intro w hSw
          have c6 := (hSw.look.row.cell 6).trans (congrArg some HV6.out)
          (try dsimp only at hSw)
          go_simp
          (try with_reducible rfl)
        try simp only [Act.put, List.getElem_toArray, List.getElem_cons_zero, List.getElem_cons_succ, List.setIfInBounds_toArray, List.set_cons_zero, List.set_cons_succ]
        refine wpAnyH_take (i := 2) (v := ?_) rfl (by kernel_rfl) (by kernel_rfl) (by kernel_rfl) (fun _ _ _ h => h) (Or.inl ⟨by rfl, ?_⟩) (by assumption) ?_
        rotate_left
        · intro w hSw
          (try dsimp only at hSw)
          go_simp
          (try with_reducible rfl)
        try simp only [Act.put, List.getElem_toArray, List.getElem_cons_zero, List.getElem_cons_succ, List.setIfInBounds_toArray, List.set_cons_zero, List.set_cons_succ]
        refine wpAnyH_take (i := 3) (v := ?_) rfl (by kernel_rfl) (by kernel_rfl) (by kernel_rfl) (fun _ _ _ h => h) (Or.inl ⟨by rfl, ?_⟩) (by assumption) ?_
        rotate_left
        · intro w hSw
          (try dsimp only at hSw)
          go_simp
          (try with_reducible rfl)
        try simp only [Act.put, List.getElem_toArray, List.getElem_cons_zero, List.getElem_cons_succ, List.setIfInBounds_toArray, List.set_cons_zero, List.set_cons_succ]
        refine wpAnyH_ready (rs := [4]) (by kernel_rfl) (by simp) ?_
        refine AllReadyH.cons rfl (fun K hK => ?_) AllReadyH.nil
        go_simp
        refine (HOP.out _).mono ?_
        rintro e we ⟨rfl, rfl⟩
        first | show K _ _ | go_wp2_with fail
        refine hK.out _ _ ?_ (fun hHeld1 => ?_)
        · exact hHeld
        clear hK K
        try simp only [Act.put, List.getElem_toArray, List.getElem_cons_zero, List.getElem_cons_succ, List.setIfInBounds_toArray, List.set_cons_zero, List.set_cons_succ]
        refine wpAnyH_ready (rs := [5]) (by kernel_rfl) (by simp) ?_
        refine AllReadyH.cons rfl (fun K hK => ?_) AllReadyH.nil
        go_simp
        refine (HW.out _ hHeld1.look.below).mono ?_
        rintro e we ⟨v1, rfl, hw1⟩
        first | show K _ _ | go_wp2_with fail
        refine hK.out _ _ ?_ (fun hHeld2 => ?_)
        · exact hHeld1.on hw1.2.2
        clear hK K
        try simp only [Act.put, List.getElem_toArray, List.getElem_cons_zero, List.getElem_cons_succ, List.setIfInBounds_toArray, List.set_cons_zero, List.set_cons_succ]
        refine wpAnyH_take (i := 6) (v := ?_) rfl (by kernel_rfl) (by kernel_rfl) (by kernel_rfl) (fun _ _ _ h => h) (Or.inl ⟨by rfl, ?_⟩) (by assumption) ?_
        rotate_left
        · intro w hSw
          (try dsimp only at hSw)
          go_simp
          (try with_reducible rfl)
        try simp only [Act.put, List.getElem_toArray, List.getElem_cons_zero, List.getElem_cons_succ, List.setIfInBounds_toArray, List.set_cons_zero, List.set_cons_succ]
        refine wpAnyH_take (i := 7) (v := ?_) rfl (by kernel_rfl) (by kernel_rfl) (by kernel_rfl) (fun _ _ _ h => h) (Or.inl ⟨by rfl, ?_⟩) (by assumption) ?_
        rotate_left
        · intro w hSw
          (try dsimp only at hSw)
          go_simp
          (try with_reducible rfl)
        try simp only [Act.put, List.getElem_toArray, List.getElem_cons_zero, List.getElem_cons_succ, List.setIfInBounds_toArray, List.set_cons_zero, List.set_cons_succ]
        refine wpAnyH_take (i := 8) (v := ?_) rfl (by kernel_rfl) (by kernel_rfl) (by kernel_rfl) (fun _ _ _ h => h) (Or.inl ⟨by rfl, ?_⟩) (by assumption) ?_
        rotate_left
        · intro w hSw
          (try dsimp only at hSw)
          go_simp
          (try with_reducible rfl)
        try simp only [Act.put, List.getElem_toArray, List.getElem_cons_zero, List.getElem_cons_succ, List.setIfInBounds_toArray, List.set_cons_zero, List.set_cons_succ]
        refine wpAnyH_take (i := 9) (v := ?_) rfl (by kernel_rfl) (by kernel_rfl) (by kernel_rfl) (fun _ _ _ h => h) (Or.inl ⟨by rfl, ?_⟩) (by assumption) ?_
        rotate_left
        · intro w hSw
          (try dsimp only at hSw)
          go_simp
          (try with_reducible rfl)
        try simp only [Act.put, List.getElem_toArray, List.getElem_cons_zero, List.getElem_cons_succ, List.setIfInBounds_toArray, List.set_cons_zero, List.set_cons_succ]
        refine wpAnyH_take (i := 10) (v := ?_) rfl (by kernel_rfl) (by kernel_rfl) (by kernel_rfl) (fun _ _ _ h => h) (Or.inl ⟨by rfl, ?_⟩) (by assumption) ?_
        rotate_left
        · intro w hSw
          (try dsimp only at hSw)
          go_simp
          (try with_reducible rfl)
        try simp only [Act.put, List.getElem_toArray, List.getElem_cons_zero, List.getElem_cons_succ, List.setIfInBounds_toArray, List.set_cons_zero, List.set_cons_succ]
        refine wpAnyH_done (by kernel_rfl) ?_ _
        have HC1 := Lib.hid hHeld2
        have HROW := Lib.hid hw1.1
        have HTK : Hid (Calls Try.prog 19 #[.slice (some ⟨mb, 0, none⟩) n6 n6, v1] we fun e w' => TakeTold we w' mb n6 l P e) := take_any mb n6 v1 l P f o.code we HN6.out ⟨by rw [HN6.out]; exact hHeld2.row, hHeld2.met, Kept.refl _ _⟩ hw1.1 HIN.out
        clear hHeld hHeld1 hHeld2 hw1 HC HW HOP
        go_wp2_with fail
        refine HTK.out.mono ?_
        rintro e w4 (⟨rfl, htp, f4, ht4⟩ | ⟨rfl, htp, hk4⟩)
        rotate_left
        · as_aux_lemma =>
          have RES : Hid (ans = none) := HG1.out.symm.trans (by rw [scan_none l P (fun g => htp g.1)]; rfl)
          have TELL := Lib.hid (tell3 (HC1.out.keptT hk4).1 (HC1.out.keptT hk4).2 rfl HC1.out.far.1 nil3 rfl nil3_one)
          clear HC1 HROW HTK hk4 htp
          go_wp2_with (refine wpList_store_run _ rfl _ _ _ rfl _ _ rfl rfl (by exact TELL.out.1) ?_)
          refine bodyPost_ret (v := .tuple #[.agg nil3.toArray, .bool false]) ?_ rfl (PRefsTold.no TELL.out.2.2.2 RES.out)
          exact results_two Try.results7 _ _ gb A3T _ _ _ _ rfl rfl TELL.out.2.1 Try.underlying35 rfl (by rw [size_a3]; rfl)
        have HTP := Lib.hid htp
        have HC4 : Hid (Pk w w4 ob gb rb mb V o (placesT l P) f4 cs Ls) := HC1.out.taken (by rw [← HN6.out]; exact ht4)
        have HR4 : Hid (SRow CT 3 w4 v1 l.length (rows refRow l)) := HROW.out.keep ht4.kept (fun i hi e => by subst e; exact HROW.out.notIn HC1.out.row (by decide) hi)
        clear htp ht4 HC1 HROW HTK
        obtain ⟨rm, hrm⟩ := some_bool (AllOk o a l)
        have HRM := Lib.hid hrm
        clear hrm
        go_wp2_with (refine load_row_on rfl _ _ rfl ob rfl OT (ocells V o).toArray (0, 0) _ HC4.out.look.row Try.underlying31 rfl (by rw [size_ob]; rfl) ?_)
        refine (meanAll_any V o a v1 l rm _ (HO.out.on HC4.out.look.below) (HR4.out.els refRow_len) HIN.out HRM.out).mono ?_
        rintro e w5 ⟨rfl, hb5⟩
        have HC5 := Lib.hid (HC4.out.on hb5)
        have HR5 := Lib.hid (HR4.out.keep (Kept.of_below (S := fun _ => False) hb5) (fun _ _ e => e))
        clear hb5 HC4 HR4
        cases rm with
        | false =>
          as_aux_lemma =>
          have RES : Hid (ans = none) := HG1.out.symm.trans (by rw [scan_none l P (fun g => by have := HRM.out.2 g.2; cases this)]; rfl)
          have TELL := Lib.hid (tell3 HC5.out.look HC5.out.gon rfl HC5.out.far.1 nil3 rfl nil3_one)
          clear HC5 HR5
          go_wp2_with (refine wpList_store_run _ rfl _ _ _ rfl _ _ rfl rfl (by exact TELL.out.1) ?_)
          refine bodyPost_ret (v := .tuple #[.agg nil3.toArray, .bool false]) ?_ rfl (PRefsTold.no TELL.out.2.2.2 RES.out)
          exact results_two Try.results7 _ _ gb A3T _ _ _ _ rfl rfl TELL.out.2.1 Try.underlying35 rfl (by rw [size_a3]; rfl)
        | true =>
          as_aux_lemma =>
          have HGN : Hid (refsG o ([0, 1, 2].drop (a + 1)) (Ls ++ [l]) (placesT l P) = ans) := by
            have := HG1.out
            rw [scan_some l P HTP.out (HRM.out.1 rfl)] at this
            exact this
          obtain ⟨x, hx⟩ : ∃ x, cs[a]? = some x := ⟨_, List.getElem?_eq_getElem (by have := HC5.out.len; have := HA.out; omega)⟩
          have cr : w5.cell? ⟨rb, a, none⟩ = some x := (HC5.out.res.cell a).trans hx
          have fr : w5.frozen? ⟨rb, a, none⟩ = false := HC5.out.res.free a
          have HC6 := Lib.hid (HC5.out.put HLA.out HA.out HR5.out)
          have HLN : Hid ((Ls ++ [l]).length = a + 1) := by show (Ls ++ [l]).length = a + 1; rw [List.length_append, HLA.out]; rfl
          clear hx HC5 HG1 HRM HTP
          obtain ⟨x1, x2, rfl, _⟩ := HR5.out.shape
          clear HR5
          go_wp2_with fail
          go_roundw
          case rel => exact ⟨a + 1, _, _, _, _, by have := HA.out; omega, by go_num, HC6.out, HLN.out, HGN.out⟩
          case measure => have := HA.out; simp [intOf]; omega
    · obtain rfl : a = 3 := by omega
      have RES : Hid (ans = some Ls) := by
        show ans = some Ls
        rw [← hG]
        rfl
      have i1 : ¬ ((3 : Nat) : Int) < 3 := by omega
      have TELL := Lib.hid (tell3 HC.out.look HC.out.gon rfl HC.out.far.1 cs HC.out.len HC.out.one)
      clear hG hlt ha
      go_wp2_with (first
        | (refine load_row_on rfl _ _ rfl rb rfl A3T cs.toArray (0, 0) _ HC.out.res Try.underlying35 rfl (by rw [size_a3]; simp [HC.out.len]) ?_)
        | (refine wpList_store_run _ rfl _ _ _ rfl _ _ rfl rfl (by exact TELL.out.1) ?_))
      refine bodyPost_ret (v := .tuple #[.agg cs.toArray, .bool true]) ?_ rfl (PRefsTold.yes RES.out HC.out.len HC.out.one (fun j l hl => ?_) TELL.out.2.2.2)
      · exact results_two Try.results7 _ _ gb A3T _ _ _ _ rfl rfl TELL.out.2.1 Try.underlying35 rfl (by rw [size_a3]; simp [HC.out.len])
      · obtain ⟨v, hv, hr⟩ := HC.out.els j l hl
        exact ⟨v, hv, (hr.keep TELL.out.2.2.1 (fun i hi e => by subst e; exact hr.notIn HC.out.gon (by decide) hi)).els refRow_len⟩
theorem box_a3 (wr : World) (xs : List Value) (hx : xs.length = 3) (h1 : Ones xs) :
    (Instr.storeAt A3T (.pointer (some ⟨wr.heap.size, 0, none⟩)) (.agg xs.toArray)).run Try.prog (wr.alloc (.cells #[.slice none 0 0, .slice none 0 0, .slice none 0 0] A3T)) = .ok () (wr.alloc (.cells xs.toArray A3T)) :=
  box_el wr A3T 3 nil3 xs rfl hx h1 size_a3
set_option maxRecDepth 100000 in
set_option maxHeartbeats 2000000 in
theorem valid_any (V : ObjV) (o : ObjD) (w : World) (h : ObjAt w V o) :
    Calls Try.prog 9 #[.agg (ocells V o).toArray] w fun e w' => e = .returned (.bool (refsV o).isSome) ∧ Below w.heap.size w w' := by
  have HL' := Lib.hid (looks_new w V o)
  have HO := Lib.hid h
  clear h
  go_enter Try.func9, Try.ntmps9
  go_upto_region 1 with fail
  generalize w.alloc (.cells (ocells V o).toArray OT) = w0 at *
  obtain ⟨ob, hob⟩ : ∃ ob, ob = w.heap.size := ⟨_, rfl⟩
  have HL : Hid (Looks w w0 ob V o) := by rw [hob]; exact HL'.out
  rw [← hob]
  clear HL' hob
  have HRF := Lib.hid (prefs_any V o w0 (HO.out.on HL.out.below))
  go_wp2_with (refine load_row_on rfl _ _ rfl ob rfl OT (ocells V o).toArray (0, 0) _ HL.out.row Try.underlying31 rfl (by rw [size_ob]; rfl) ?_)
  refine HRF.out.mono ?_
  rintro e w1 ht
  clear HRF
  cases hv : refsV o with
  | none =>
    as_aux_lemma =>
    have HV : Hid ((refsV o).isSome = false) := by show _ = _; rw [hv]; rfl
    rw [hv] at ht
    obtain ⟨rfl, hb⟩ := ht
    have RUN := Lib.hid (box_a3 w1 nil3 rfl nil3_one)
    have RES : Hid (Below w.heap.size w (w1.alloc (.cells nil3.toArray A3T))) := below_on (below_on HL.out.below hb HL.out.below.size) ((Below.refl _ _).alloc (Nat.le_refl _) _) (Nat.le_trans HL.out.below.size hb.size)
    clear hb hv HL
    go_wp2_with (refine wpList_store_run _ rfl _ _ _ rfl _ _ rfl rfl (by exact RUN.out) ?_)
    go_ret
    exact ⟨end_bool HV.out.symm, RES.out⟩
  | some Ls =>
    as_aux_lemma =>
    have HV : Hid ((refsV o).isSome = true) := by show _ = _; rw [hv]; rfl
    rw [hv] at ht
    obtain ⟨cs, rfl, hl, h1, _, hb⟩ := ht
    have RUN := Lib.hid (box_a3 w1 cs hl h1)
    have RES : Hid (Below w.heap.size w (w1.alloc (.cells cs.toArray A3T))) := below_on (below_on HL.out.below hb HL.out.below.size) ((Below.refl _ _).alloc (Nat.le_refl _) _) (Nat.le_trans HL.out.below.size hb.size)
    clear hb hv HL hl h1
    go_wp2_with (refine wpList_store_run _ rfl _ _ _ rfl _ _ rfl rfl (by exact RUN.out) ?_)
    go_ret
    exact ⟨end_bool HV.out.symm, RES.out⟩
end Go.Proofs.Ytekcebmojjkoeaa
