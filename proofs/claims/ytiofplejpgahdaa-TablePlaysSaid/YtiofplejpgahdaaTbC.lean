/-
  The program's clone of a module (layer 18). Conditions: lists of at most 1000.
-/
import Derived.Test.YtiofplejpgahdaaTbA
namespace Go.Proofs.Ytiofplejpgahdaa
open Go.ChangeShapes Go.WideShapes Go.ChangeAt Go.RowKit

theorem In.lower {α : Type} {lo lo' : Nat} {t : TypeId} {k : Nat} {row : α → List Value} {w : World} {v : Value} {L : List α} (h : In lo t k row w v L) (hl : lo' ≤ lo) : In lo' t k row w v L := ⟨h.row, fun j hj => Nat.le_trans hl (h.low j hj)⟩
/- the copy, on its way -/
structure Cl (w wx : World) (d : ModD) (p q i e c : Value) : Prop where
  row : RowAt wx w.heap.size MdT (mcells d p q i e c)
  res : RowAt wx (w.heap.size + 1) MdT noRow
  below : Below w.heap.size w wx
theorem Cl.on {w wx wy : World} {d : ModD} {p q i e c : Value} (h : Cl w wx d p q i e c) (hb : Below wx.heap.size wx wy) : Cl w wy d p q i e c :=
  ⟨h.row.keep (Kept.of_below (S := fun _ => False) hb) (fun e => e), h.res.keep (Kept.of_below (S := fun _ => False) hb) (fun e => e), below_on h.below hb h.below.size⟩
theorem Cl.put {w wx : World} {d : ModD} {p q i e c : Value} (h : Cl w wx d p q i e c) (j : Nat) (u : Value) {p' q' i' e' c' : Value} (hs : (mcells d p q i e c).set j u = mcells d p' q' i' e' c') : Cl w (wx.setCell ⟨w.heap.size, j, none⟩ u) d p' q' i' e' c' :=
  ⟨by rw [← hs]; exact h.row.setCell j u, h.res.keep (kept_set wx w.heap.size j u) (by omega), (kept_set wx w.heap.size j u).below h.below h.below.size fun k _ e => by omega⟩
theorem In.put {α : Type} {lo : Nat} {t : TypeId} {k : Nat} {row : α → List Value} {w wx : World} {v : Value} {L : List α} {d : ModD} {p q i e c : Value} (g : In lo t k row wx v L) (h : Cl w wx d p q i e c) (hne : t ≠ MdT) (j : Nat) (u : Value) : In lo t k row (wx.setCell ⟨w.heap.size, j, none⟩ u) v L :=
  g.keep (kept_set wx w.heap.size j u) fun b hb e => by
    subst e
    exact g.row.off h.row hne hb
/- one cell of a row of exports, set -/
theorem rows_put : ∀ (ys : List ExX) (k : Nat) (y : ExX) (v : Value), ys[k]? = some y → (rows exRow ys).set (k * 3 + 2) v = rows exRow (ys.set k ⟨y.k, y.a, v, y.l⟩)
  | [], k, y, v, h => by simp at h
  | z :: L, 0, y, v, h => by
    obtain rfl : z = y := by simpa using h
    rfl
  | z :: L, k + 1, y, v, h => by
    rw [rows_cons, List.set_append_right _ _ (by rw [exRow_len]; omega), exRow_len, show (k + 1) * 3 + 2 - 3 = k * 3 + 2 by omega, rows_put L k y v (by simpa using h)]
    rfl
/- the copy, its exports' lines copied up to k -/
structure Lp (w wr : World) (d : ModD) (p q i e c : Value) (xs : List ExX) (k : Nat) (ys : List ExX) : Prop where
  cl : Cl w wr d p q i e c
  p : In w.heap.size InT 1 intRow wr p d.ptrs
  q : In w.heap.size InT 1 intRow wr q d.procs
  i : In w.heap.size StT 1 sRow wr i d.imps
  c : In w.heap.size CmT 2 cmdRow wr c d.cmds
  e : In w.heap.size XpT 3 exRow wr e ys
  same : ys.map ExX.d = xs.map ExX.d
  done : ∀ (j : Nat) (y : ExX), j < k → ys[j]? = some y → In w.heap.size InT 1 intRow wr y.v y.l
  rest : ∀ (j : Nat) (y : ExX), k ≤ j → ys[j]? = some y → y ∈ xs
theorem Lp.on {w wr wy : World} {d : ModD} {p q i e c : Value} {xs ys : List ExX} {k : Nat} (h : Lp w wr d p q i e c xs k ys) (hb : Below wr.heap.size wr wy) : Lp w wy d p q i e c xs k ys :=
  ⟨h.cl.on hb, h.p.on hb, h.q.on hb, h.i.on hb, h.c.on hb, h.e.on hb, h.same, fun j y hj hy => (h.done j y hj hy).on hb, h.rest⟩
theorem Lp.len {w wr : World} {d : ModD} {p q i e c : Value} {xs ys : List ExX} {k : Nat} (h : Lp w wr d p q i e c xs k ys) : ys.length = xs.length := by
  have := congrArg List.length h.same
  simpa using this
theorem Lp.next {w wr : World} {d : ModD} {p q i c : Value} {eb n cap : Nat} {xs ys : List ExX} {k : Nat} (h : Lp w wr d p q i (.slice (some ⟨eb, 0, none⟩) n cap) c xs k ys) {y : ExX} (hy : ys[k]? = some y) {v : Value} (hv : In w.heap.size InT 1 intRow wr v y.l) :
    Lp w (wr.setCell ⟨eb, k * 3 + 2, none⟩ v) d p q i (.slice (some ⟨eb, 0, none⟩) n cap) c xs (k + 1) (ys.set k ⟨y.k, y.a, v, y.l⟩) := by
  have hk := (List.getElem?_eq_some_iff.1 hy).1
  obtain ⟨rest, hr, h1, h2, h3⟩ : ∃ rest, RowAt wr eb XpT (rows exRow ys ++ rest) ∧ n * 3 + rest.length = cap * 3 ∧ n ≤ cap ∧ cap ≤ maxLen ∧ n = ys.length := by
    rcases h.e.row.is with ⟨e0, _⟩ | ⟨b, cap', rest, e0, hr, h1, h2, h3⟩
    · cases e0
    · cases e0
      exact ⟨rest, hr, h1, h2, h3, rfl⟩
  have kp := kept_set wr eb (k * 3 + 2) v
  have hne : ∀ {t : TypeId} {k' n' : Nat} {v' : Value} {cs : List Value}, SRow t k' wr v' n' cs → t ≠ XpT → ∀ j, own v' j → ¬ j = eb := fun g ht j hj e => by
    subst e
    exact g.off hr ht hj
  have hlow : w.heap.size ≤ eb := h.e.low eb rfl
  have hm1 : w.heap.size ≠ eb := fun e => by
    have h1 := h.cl.row
    rw [e] at h1
    unfold RowAt at h1 hr
    rw [hr] at h1
    injection h1 with h1
    injection h1 with _ h2
    exact absurd h2 (by decide)
  have hm2 : w.heap.size + 1 ≠ eb := fun e => by
    have h1 := h.cl.res
    rw [e] at h1
    unfold RowAt at h1 hr
    rw [hr] at h1
    injection h1 with h1
    injection h1 with _ h2
    exact absurd h2 (by decide)
  have hw := h.cl.below.size
  have hr2 := hr.setCell (k * 3 + 2) v
  rw [List.set_append_left _ _ (by rw [rows_length 3 exRow_len]; omega), rows_put ys k y v hy] at hr2
  refine ⟨⟨h.cl.row.keep kp hm1, h.cl.res.keep kp hm2, kp.below h.cl.below hw fun b _ e => by rw [e]; exact hlow⟩, h.p.keep kp (hne h.p.row (by decide)), h.q.keep kp (hne h.q.row (by decide)), h.i.keep kp (hne h.i.row (by decide)), h.c.keep kp (hne h.c.row (by decide)), ⟨⟨.inr ⟨eb, cap, rest, by simp [h3.2], hr2, ?_, ?_, h3.1⟩, ?_, ?_⟩, fun j hj => h.e.low j hj⟩, ?_, fun j z hj hz => ?_, fun j z hj hz => ?_⟩
  · rw [List.length_set, ← h3.2]; exact h1
  · rw [List.length_set, ← h3.2]; exact h2
  · exact rows_length 3 exRow_len _
  · rw [← rows_put ys k y v hy]
    intro u hu
    rcases List.mem_or_eq_of_mem_set hu with h4 | h4
    · exact h.e.row.one u h4
    · rw [h4]
      exact hv.one
  · rw [← h.same]
    apply List.ext_getElem?
    intro j
    rw [List.getElem?_map, List.getElem?_map, List.getElem?_set]
    by_cases e : k = j
    · subst e
      rw [if_pos rfl, if_pos hk, hy]
      rfl
    · rw [if_neg e]
  · rw [List.getElem?_set] at hz
    by_cases e : k = j
    · rw [if_pos e, if_pos hk] at hz
      cases hz
      exact hv.keep kp (hne hv.row (by decide))
    · rw [if_neg e] at hz
      have g := h.done j z (by omega) hz
      exact g.keep kp (hne g.row (by decide))
  · rw [List.getElem?_set, if_neg (by omega)] at hz
    exact h.rest j z (by omega) hz
theorem Lp.spot {w wr : World} {d : ModD} {p q i c : Value} {eb n cap : Nat} {xs ys : List ExX} {k : Nat} (h : Lp w wr d p q i (.slice (some ⟨eb, 0, none⟩) n cap) c xs k ys) {y : ExX} (hy : ys[k]? = some y) :
    wr.cell? ⟨eb, k * 3 + 2, none⟩ = some y.v ∧ wr.frozen? ⟨eb, k * 3 + 2, none⟩ = false := by
  rcases h.e.row.is with ⟨e0, _⟩ | ⟨b, cap', rest, e0, hr, _⟩
  · cases e0
  · cases e0
    refine ⟨?_, hr.free _⟩
    obtain ⟨b, off, cap, e, hb, hc⟩ := (h.e.row.els exRow_len).cell hy
    cases e
    have := hc 2 (by decide)
    rw [Nat.zero_add] at this
    exact this
theorem Lp.all {w wr : World} {d : ModD} {p q i e c : Value} {xs ys : List ExX} (h : Lp w wr d p q i e c xs xs.length ys) (hs : xs.map ExX.d = d.exps) : ModIn w.heap.size wr ⟨d, p, q, i, e, c, ys⟩ :=
  ⟨h.p, h.q, h.i, h.e, fun y hy => by
    obtain ⟨j, hj, e⟩ := List.mem_iff_getElem.1 hy
    exact h.done j y (by have h1 := h.len; have h2 : j < ys.length := hj; omega) (by rw [← e]; exact List.getElem?_eq_getElem hj), h.c, h.same.trans hs⟩
theorem results_one {P : Program} {fn : Func} {p : Tmp} {ty : TypeId} (h : fn.results = #[.cell p ty]) (tmps : Array Value) (w : World) (g : Nat) (t : TypeId) (cs : Array Value) (fr : Nat × Nat) (d : TypeDesc)
    (hp : tmps.getD p undef = .pointer (some ⟨g, 0, none⟩)) (hg : w.heap[g]? = some (.cells cs t fr))
    (hu : P.underlying ty = some d) (hd : (match d with | .struct _ | .array _ _ => true | _ => false) = true) (hi : (P.info? ty).map (·.size) = some cs.size) :
    (results fn tmps).run P w = .ok (.agg cs) w := by
  have hp' : tmps[p]?.getD undef = .pointer (some ⟨g, 0, none⟩) := by simpa using hp
  simp [results, h, hp', asAddr, run_loadVar_row w g t ty cs fr d hg hu hd hi]
/- a slice that is told, in three parts -/
def Sli (e : Ending) (P : Value → Prop) : Prop := ∃ a n c, e = .returned (.slice a n c) ∧ P (.slice a n c)
theorem In.sli {α : Type} {lo lo' : Nat} {t : TypeId} {k : Nat} {row : α → List Value} {w : World} {v : Value} {L : List α} {e : Ending} {P : Prop} (he : e = .returned v) (h : In lo t k row w v L) (hl : lo' ≤ lo) (hp : P) : Sli e fun v => In lo' t k row w v L ∧ P := by
  obtain ⟨a, c, rfl, _⟩ := h.row.shape
  exact ⟨a, _, c, he, h.lower hl, hp⟩
theorem start_cl (w : World) (d : ModD) (p q i e c : Value) : Cl w ((w.alloc (.cells (mcells d p q i e c).toArray MdT)).alloc (.cells noRow.toArray MdT)) d p q i e c := by
  refine ⟨(RowAt.new w MdT _).keep (S := fun _ => False) ((Kept.refl _ _).alloc _) (fun h => h), ?_, ((Kept.refl (fun _ => False) w).alloc _ |>.alloc _).none⟩
  have h := RowAt.new (w.alloc (.cells (mcells d p q i e c).toArray MdT)) MdT noRow
  rw [show (w.alloc (.cells (mcells d p q i e c).toArray MdT)).heap.size = w.heap.size + 1 by simp] at h
  exact h
set_option maxRecDepth 100000 in
set_option maxHeartbeats 4000000 in
theorem mclone_any (x : ModX) (w : World) (h : ModAt w x) (f : ModFew x) :
    Calls Try.prog 22 #[.agg (mrow x).toArray] w fun e w' => ∃ y : ModX, e = .returned (.agg (mrow y).toArray) ∧ y.d = x.d ∧ ModIn w.heap.size w' y ∧ Below w.heap.size w w' := by
  have HP : Hid (∀ W, Below w.heap.size w W → Calls Try.prog 26 #[x.p] W fun e w' => Sli e fun v => In w.heap.size InT 1 intRow w' v x.d.ptrs ∧ Below W.heap.size W w') :=
    fun W hb => (clone_ints x.p x.d.ptrs W (h.p.on hb) (fun y _ => intRow_one y) (by have := f.p; omega)).mono fun _ _ ⟨_, h1, h2, h3⟩ => h2.sli h1 hb.size h3
  have HQ : Hid (∀ W, Below w.heap.size w W → Calls Try.prog 26 #[x.q] W fun e w' => Sli e fun v => In w.heap.size InT 1 intRow w' v x.d.procs ∧ Below W.heap.size W w') :=
    fun W hb => (clone_ints x.q x.d.procs W (h.q.on hb) (fun y _ => intRow_one y) (by have := f.q; omega)).mono fun _ _ ⟨_, h1, h2, h3⟩ => h2.sli h1 hb.size h3
  have HI : Hid (∀ W, Below w.heap.size w W → Calls Try.prog 27 #[x.i] W fun e w' => Sli e fun v => In w.heap.size StT 1 sRow w' v x.d.imps ∧ Below W.heap.size W w') :=
    fun W hb => (clone_texts x.i x.d.imps W (h.i.on hb) (fun y _ => sRow_one y) (by have := f.i; omega)).mono fun _ _ ⟨_, h1, h2, h3⟩ => h2.sli h1 hb.size h3
  have HC : Hid (∀ W, Below w.heap.size w W → Calls Try.prog 28 #[x.c] W fun e w' => Sli e fun v => In w.heap.size CmT 2 cmdRow w' v x.d.cmds ∧ Below W.heap.size W w') :=
    fun W hb => (clone_cmds x.c x.d.cmds W (h.c.on hb) (fun y _ => ones_cmd y) (by have := f.c; omega)).mono fun _ _ ⟨_, h1, h2, h3⟩ => h2.sli h1 hb.size h3
  have HE : Hid (∀ W, Below w.heap.size w W → Calls Try.prog 29 #[x.e] W fun e w' => Sli e fun v => In w.heap.size XpT 3 exRow w' v x.xs ∧ Below W.heap.size W w') :=
    fun W hb => (clone_exps x.e x.xs W (h.e.on hb) (fun y hy => ones_ex (h.l y hy).one) (by have := f.e; omega)).mono fun _ _ ⟨_, h1, h2, h3⟩ => h2.sli h1 hb.size h3
  have HL : Hid (∀ y ∈ x.xs, ∀ W, Below w.heap.size w W → Calls Try.prog 26 #[y.v] W fun e w' => Sli e fun v => In w.heap.size InT 1 intRow w' v y.l ∧ Below W.heap.size W w') :=
    fun y hy W hb => (clone_ints y.v y.l W ((h.l y hy).on hb) (fun y _ => intRow_one y) (by have := f.l y hy; omega)).mono fun _ _ ⟨_, h1, h2, h3⟩ => h2.sli h1 hb.size h3
  have HSM := Lib.hid h.same
  have HFE := Lib.hid f.e
  have CL0 := Lib.hid (start_cl w x.d x.p x.q x.i x.e x.c)
  clear h f
  obtain ⟨d, p, q, i, e, c, xs⟩ := x
  show Calls Try.prog 22 #[.agg #[.string d.name, .int .u32 (d.key : Nat), .int .i64 d.base, .int .i64 d.size, .int .i64 d.z0, .int .i64 d.z1, .int .i64 d.z2, .int .i64 d.z3, p, q, i, e, c]] w _
  simp only at HP HQ HI HC HE HL CL0 HSM HFE ⊢
  have CL0 : Hid (Cl w ((w.alloc (.cells #[.string d.name, .int .u32 (d.key : Nat), .int .i64 d.base, .int .i64 d.size, .int .i64 d.z0, .int .i64 d.z1, .int .i64 d.z2, .int .i64 d.z3, p, q, i, e, c] MdT)).alloc (.cells #[.string ⟨#[]⟩, .int .u32 0, .int .i64 0, .int .i64 0, .int .i64 0, .int .i64 0, .int .i64 0, .int .i64 0, .slice none 0 0, .slice none 0 0, .slice none 0 0, .slice none 0 0, .slice none 0 0] MdT)) d p q i e c) := CL0
  go_enter Try.func22, Try.ntmps22
  go_upto_region 1 with fail
  generalize (w.alloc (.cells #[.string d.name, .int .u32 (d.key : Nat), .int .i64 d.base, .int .i64 d.size, .int .i64 d.z0, .int .i64 d.z1, .int .i64 d.z2, .int .i64 d.z3, p, q, i, e, c] MdT)).alloc (.cells #[.string ⟨#[]⟩, .int .u32 0, .int .i64 0, .int .i64 0, .int .i64 0, .int .i64 0, .int .i64 0, .int .i64 0, .slice none 0 0, .slice none 0 0, .slice none 0 0, .slice none 0 0, .slice none 0 0] MdT) = W0 at *
  go_cut [8] (fun s8 wx => ∃ a1 n1 k1 a2 n2 k2, s8 = .slice a1 n1 k1 ∧ Hid (Cl w wx d (.slice a1 n1 k1) (.slice a2 n2 k2) i e c) ∧ Hid (In w.heap.size InT 1 intRow wx (.slice a1 n1 k1) d.ptrs) ∧ Hid (In w.heap.size InT 1 intRow wx (.slice a2 n2 k2) d.procs))
  case first =>
    have c8 : W0.cell? ⟨w.heap.size, 8, none⟩ = some p := CL0.out.row.cell 8
    have c9 : W0.cell? ⟨w.heap.size, 9, none⟩ = some q := CL0.out.row.cell 9
    have D0 : Hid (Cl w W0.drew d p q i e c) := CL0.out.on ((Drawn.of_n W0 1).below _)
    go_region_with (first
      | (go_at_call 26; refine (HP.out _ (by first | exact CL0.out.below | exact D0.out.below)).mono ?_; rintro e1 w1 ⟨a1, n1, k1, rfl, hp1, hb1⟩;
         have j1 : Cl w w1 d p q i e c := (by first | exact CL0.out.on hb1 | exact D0.out.on hb1);
         have d9 : w1.cell? ⟨w.heap.size, 9, none⟩ = some q := j1.row.cell 9;
         have J1 := Lib.hid j1; have P1 := Lib.hid hp1; clear hb1 hp1 j1)
      | (go_at_call 26; refine (HQ.out _ (by first | exact J1.out.below | exact (J1.out.on ((Drawn.of_n w1 1).below _)).below)).mono ?_; rintro e2 w2 ⟨a2, n2, k2, rfl, hq1, hb2⟩;
         have hb3 : Below w1.heap.size w1 w2 := (by first | exact hb2 | exact ((Drawn.of_n w1 1).below _).trans hb2);
         have P2 := Lib.hid (P1.out.on hb3); have J2 := Lib.hid (J1.out.on hb3); have Q2 := Lib.hid hq1;
         have f8 : w2.cell? ⟨w.heap.size, 8, none⟩ = some p := J2.out.row.cell 8;
         have f9 : w2.cell? ⟨w.heap.size, 9, none⟩ = some q := J2.out.row.cell 9;
         have f2 := J2.out.row.free;
         clear hb2 hb3 hq1))
    all_goals
      have RES := Lib.hid (J2.out.put 8 (.slice a1 n1 k1) rfl)
      have RP := Lib.hid (P2.out.put J2.out (by decide) 8 (.slice a1 n1 k1))
      have RQ := Lib.hid (Q2.out.put J2.out (by decide) 8 (.slice a1 n1 k1))
      have RES2 := Lib.hid (RES.out.put 9 (.slice a2 n2 k2) rfl)
      have RP2 := Lib.hid (RP.out.put RES.out (by decide) 9 (.slice a2 n2 k2))
      have RQ2 := Lib.hid (RQ.out.put RES.out (by decide) 9 (.slice a2 n2 k2))
      clear RES RP RQ c8 c9 d9 f8 f9 f2
      go_wp2_with fail
      go_meet
      exact ⟨a1, n1, k1, a2, n2, k2, rfl, RES2, RP2, RQ2⟩
  case rest =>
  obtain ⟨a1, n1, k1, a2, n2, k2, rfl, CL1, P1, Q1⟩ := hcut
  clear CL0 HP HQ
  generalize wc = W1 at *
  go_upto_region 2 with fail
  go_cut [19] (fun s19 wx => ∃ a3 n3 k3 a4 n4 k4, s19 = .slice a3 n3 k3 ∧ Hid (Cl w wx d (.slice a1 n1 k1) (.slice a2 n2 k2) (.slice a3 n3 k3) e (.slice a4 n4 k4)) ∧ Hid (In w.heap.size InT 1 intRow wx (.slice a1 n1 k1) d.ptrs) ∧ Hid (In w.heap.size InT 1 intRow wx (.slice a2 n2 k2) d.procs) ∧ Hid (In w.heap.size StT 1 sRow wx (.slice a3 n3 k3) d.imps) ∧ Hid (In w.heap.size CmT 2 cmdRow wx (.slice a4 n4 k4) d.cmds))
  case first =>
    have c10 : W1.cell? ⟨w.heap.size, 10, none⟩ = some i := CL1.out.row.cell 10
    have c12 : W1.cell? ⟨w.heap.size, 12, none⟩ = some c := CL1.out.row.cell 12
    have D0 : Hid (Cl w W1.drew d (.slice a1 n1 k1) (.slice a2 n2 k2) i e c) := CL1.out.on ((Drawn.of_n W1 1).below _)
    go_region_with (first
      | (go_at_call 27; refine (HI.out _ (by first | exact CL1.out.below | exact D0.out.below)).mono ?_; rintro e1 w1 ⟨a3, n3, k3, rfl, hi1, hb1⟩;
         have hb3 : Below W1.heap.size W1 w1 := (by first | exact hb1 | exact ((Drawn.of_n W1 1).below _).trans hb1);
         have d12 : w1.cell? ⟨w.heap.size, 12, none⟩ = some c := (CL1.out.on hb3).row.cell 12;
         have J1 := Lib.hid (CL1.out.on hb3); have P2 := Lib.hid (P1.out.on hb3); have Q2 := Lib.hid (Q1.out.on hb3); have I2 := Lib.hid hi1; clear hb1 hb3 hi1)
      | (go_at_call 28; refine (HC.out _ (by first | exact J1.out.below | exact (J1.out.on ((Drawn.of_n w1 1).below _)).below)).mono ?_; rintro e2 w2 ⟨a4, n4, k4, rfl, hc2, hb2⟩;
         have hb3 : Below w1.heap.size w1 w2 := (by first | exact hb2 | exact ((Drawn.of_n w1 1).below _).trans hb2);
         have P3 := Lib.hid (P2.out.on hb3); have Q3 := Lib.hid (Q2.out.on hb3); have I3 := Lib.hid (I2.out.on hb3); have J2 := Lib.hid (J1.out.on hb3); have C3 := Lib.hid hc2;
         have f8 : w2.cell? ⟨w.heap.size, 10, none⟩ = some i := J2.out.row.cell 10;
         have f9 : w2.cell? ⟨w.heap.size, 12, none⟩ = some c := J2.out.row.cell 12;
         have f2 := J2.out.row.free;
         clear hb2 hb3 hc2))
    all_goals
      have RES := Lib.hid (J2.out.put 10 (.slice a3 n3 k3) rfl)
      have RES2 := Lib.hid (RES.out.put 12 (.slice a4 n4 k4) rfl)
      have RP := Lib.hid ((P3.out.put J2.out (by decide) 10 (.slice a3 n3 k3)).put RES.out (by decide) 12 (.slice a4 n4 k4))
      have RQ := Lib.hid ((Q3.out.put J2.out (by decide) 10 (.slice a3 n3 k3)).put RES.out (by decide) 12 (.slice a4 n4 k4))
      have RI := Lib.hid ((I3.out.put J2.out (by decide) 10 (.slice a3 n3 k3)).put RES.out (by decide) 12 (.slice a4 n4 k4))
      have RC := Lib.hid ((C3.out.put J2.out (by decide) 10 (.slice a3 n3 k3)).put RES.out (by decide) 12 (.slice a4 n4 k4))
      clear RES c10 c12 d12 f8 f9 f2
      go_wp2_with fail
      go_meet
      exact ⟨a3, n3, k3, a4, n4, k4, rfl, RES2, RP, RQ, RI, RC⟩
  case rest =>
  obtain ⟨a3, n3, k3, a4, n4, k4, rfl, CL2, P2, Q2, I2, C2⟩ := hcut
  clear CL1 P1 Q1 HI HC
  generalize wc = W2 at *
  have c11 : W2.cell? ⟨w.heap.size, 11, none⟩ = some e := CL2.out.row.cell 11
  go_wp2_with fail
  refine (HE.out W2 CL2.out.below).mono ?_
  rintro e3 w3 ⟨a5, n5, k5, rfl, he3, hb3⟩
  have J3 := Lib.hid (CL2.out.on hb3)
  have P3 := Lib.hid (P2.out.on hb3)
  have Q3 := Lib.hid (Q2.out.on hb3)
  have I3 := Lib.hid (I2.out.on hb3)
  have C3 := Lib.hid (C2.out.on hb3)
  have E3 := Lib.hid he3
  have f11 : w3.cell? ⟨w.heap.size, 11, none⟩ = some e := J3.out.row.cell 11
  have g11 : w3.frozen? ⟨w.heap.size, 11, none⟩ = false := J3.out.row.free 11
  clear hb3 he3 c11 CL2 P2 Q2 I2 C2 HE
  go_upto_region 4 with fail
  have LP : Hid (Lp w (w3.setCell ⟨w.heap.size, 11, none⟩ (.slice a5 n5 k5)) d (.slice a1 n1 k1) (.slice a2 n2 k2) (.slice a3 n3 k3) (.slice a5 n5 k5) (.slice a4 n4 k4) xs 0 xs) :=
    ⟨J3.out.put 11 (.slice a5 n5 k5) rfl, P3.out.put J3.out (by decide) 11 _, Q3.out.put J3.out (by decide) 11 _, I3.out.put J3.out (by decide) 11 _, C3.out.put J3.out (by decide) 11 _, E3.out.put J3.out (by decide) 11 _, rfl, fun j y hj => by omega, fun j y _ hy => List.mem_of_getElem? hy⟩
  have HN : Hid (n5 = xs.length) := by
    obtain ⟨a, c, e, _⟩ := E3.out.row.shape
    cases e
    exact rfl
  clear f11 g11 J3 P3 Q3 I3 C3 E3
  generalize w3.setCell ⟨w.heap.size, 11, none⟩ (.slice a5 n5 k5) = w4 at *
  have c11 : w4.cell? ⟨w.heap.size, 11, none⟩ = some (.slice a5 n5 k5) := LP.out.cl.row.cell 11
  go_wp2_with fail
  go_loopw [3, 4, 32] (fun _ _ i wr => ∃ (k : Nat) (ys : List ExX), k ≤ n5 ∧ i = .int .i64 k ∧ Hid (Lp w wr d (.slice a1 n1 k1) (.slice a2 n2 k2) (.slice a3 n3 k3) (.slice a5 n5 k5) (.slice a4 n4 k4) xs k ys)) (fun _ _ i _ => n5 - (intOf i).toNat)
  case atStart => exact ⟨0, xs, Nat.zero_le _, rfl, LP⟩
  case round =>
    obtain ⟨k, ys, hk, rfl, LK⟩ := hrel
    clear LP c11
    by_cases hlt : k < n5
    · as_aux_lemma =>
      obtain ⟨y, hy⟩ : ∃ y, ys[k]? = some y := ⟨_, List.getElem?_eq_getElem (by rw [LK.out.len, ← HN.out]; exact hlt)⟩
      obtain ⟨eb, ha, hcs⟩ : ∃ eb, a5 = some ⟨eb, 0, none⟩ ∧ ∀ j, j < 3 → wr.cell? ⟨eb, k * 3 + j, none⟩ = (exRow y)[j]? := by
        obtain ⟨b, off, cap, e, hb, hc⟩ := (LK.out.e.row.els exRow_len).cell hy
        obtain ⟨b', cap', e', _⟩ := LK.out.e.row.cell (by rw [LK.out.len, ← HN.out]; omega)
        cases e
        cases e'
        exact ⟨b, rfl, fun j hj => by have := hc j hj; rw [Nat.zero_add] at this; exact this⟩
      subst ha
      have d0 : wr.cell? ⟨eb, k * 3, none⟩ = some (.int .i64 y.k) := hcs 0 (by decide)
      have d1 : wr.cell? ⟨eb, k * 3 + 1, none⟩ = some (.int .i64 y.a) := hcs 1 (by decide)
      have d2 : wr.cell? ⟨eb, k * 3 + 2, none⟩ = some y.v := hcs 2 (by decide)
      have h1 : Ones (exRow y) := by
        refine ones_ex (LK.out.e.row.one _ (List.mem_flatMap.2 ⟨y, List.mem_of_getElem? hy, ?_⟩))
        simp [exRow]
      have RUN : Hid ((Instr.storeAt XpT (.pointer (some ⟨wr.heap.size, 0, none⟩)) (.agg #[.int .i64 y.k, .int .i64 y.a, y.v])).run Try.prog (wr.alloc (.cells #[.int .i64 0, .int .i64 0, .slice none 0 0] XpT)) = .ok () (wr.alloc (.cells #[.int .i64 y.k, .int .i64 y.a, y.v] XpT))) :=
        box_el wr XpT 3 [.int .i64 0, .int .i64 0, .slice none 0 0] (exRow y) rfl rfl h1 size_xp
      have HLK := Lib.hid (HL.out y (LK.out.rest k y (Nat.le_refl _) hy))
      have LK1 : Hid (Lp w (wr.alloc (.cells #[.int .i64 y.k, .int .i64 y.a, y.v] XpT)) d (.slice a1 n1 k1) (.slice a2 n2 k2) (.slice a3 n3 k3) (.slice (some ⟨eb, 0, none⟩) n5 k5) (.slice a4 n4 k4) xs k ys) := LK.out.on ((Below.refl _ _).alloc (Nat.le_refl _) _)
      have HRX : Hid (RowAt (wr.alloc (.cells #[.int .i64 y.k, .int .i64 y.a, y.v] XpT)) wr.heap.size XpT [.int .i64 y.k, .int .i64 y.a, y.v]) := RowAt.new wr XpT _
      have HY := Lib.hid hy
      have i3 : n5 ≤ 1000 := by have h1 := HN.out; have h2 := HFE.out; omega
      have i1 : (k : Int) < (n5 : Int) := by omega
      have i2 : (0 : Int) ≤ (k : Int) := by omega
      clear hcs h1 hy LK CL0 HSM
      go_upto_region 7 with (refine wpList_store_run _ rfl _ _ _ rfl _ _ rfl rfl (by exact RUN.out) ?_)
      clear RUN d0 d1 d2
      generalize wr.alloc (.cells #[.int .i64 y.k, .int .i64 y.a, y.v] XpT) = w1 at *
      generalize wr.heap.size = nb at *
      generalize hyv : y.v = yv at *
      have HYV := Lib.hid hyv
      clear hyv
      have c11 : w1.cell? ⟨w.heap.size, 11, none⟩ = some (.slice (some ⟨eb, 0, none⟩) n5 k5) := LK1.out.cl.row.cell 11
      have c2 : w1.cell? ⟨nb, 2, none⟩ = some yv := HRX.out.cell 2
      have LD1 := Lib.hid (LK1.out.on ((Drawn.of_n w1 1).below _))
      go_region_with (first
        | (go_at_call 26; refine (HLK.out _ (by first | exact LK1.out.cl.below | exact LD1.out.cl.below)).mono ?_; rintro e1 w7 ⟨a6, n6, k6, rfl, hv, hb7⟩;
           have l7 : Lp w w7 d (.slice a1 n1 k1) (.slice a2 n2 k2) (.slice a3 n3 k3) (.slice (some ⟨eb, 0, none⟩) n5 k5) (.slice a4 n4 k4) xs k ys := (by first | exact LK1.out.on hb7 | exact LD1.out.on hb7);
           have d11 : w7.cell? ⟨w.heap.size, 11, none⟩ = some (.slice (some ⟨eb, 0, none⟩) n5 k5) := l7.cl.row.cell 11;
           obtain ⟨d2, f2⟩ := l7.spot HY.out;
           have L7 := Lib.hid l7; have V7 := Lib.hid hv; clear hv hb7 l7))
      all_goals
        clear c11 c2 d11 d2 f2
        go_wp2_with fail
        go_roundw
        case rel => exact ⟨k + 1, _, by omega, by go_num, L7.out.next HY.out V7.out⟩
        case measure => simp [intOf]; omega
    · as_aux_lemma =>
      obtain rfl : k = n5 := by omega
      have LA : Hid (ModIn w.heap.size wr ⟨d, .slice a1 n1 k1, .slice a2 n2 k2, .slice a3 n3 k3, .slice a5 k k5, .slice a4 n4 k4, ys⟩) := by
        have h := LK.out
        rw [HN.out] at h ⊢
        exact h.all HSM.out
      have CLK := Lib.hid LK.out.cl
      clear LK CL0
      have hones : Ones (mcells d (.slice a1 n1 k1) (.slice a2 n2 k2) (.slice a3 n3 k3) (.slice a5 k k5) (.slice a4 n4 k4)) := ones_md rfl rfl rfl rfl rfl
      obtain ⟨r1, r2, r3⟩ := told_row CLK.out.res (xs := mcells d (.slice a1 n1 k1) (.slice a2 n2 k2) (.slice a3 n3 k3) (.slice a5 k k5) (.slice a4 n4 k4)) (k := 13) rfl rfl hones size_md
      have RUN := Lib.hid r1
      have RES : Hid (ModIn w.heap.size (wr.setRow (w.heap.size + 1) (mcells d (.slice a1 n1 k1) (.slice a2 n2 k2) (.slice a3 n3 k3) (.slice a5 k k5) (.slice a4 n4 k4)).toArray) ⟨d, .slice a1 n1 k1, .slice a2 n2 k2, .slice a3 n3 k3, .slice a5 k k5, .slice a4 n4 k4, ys⟩ ∧ Below w.heap.size w (wr.setRow (w.heap.size + 1) (mcells d (.slice a1 n1 k1) (.slice a2 n2 k2) (.slice a3 n3 k3) (.slice a5 k k5) (.slice a4 n4 k4)).toArray)) :=
        ⟨LA.out.keep r3 fun v t k n cs hs _ ht j hj e => by
          subst e
          refine hs.off CLK.out.res ?_ hj
          rcases ht with rfl | rfl | rfl | rfl <;> decide, r3.below CLK.out.below CLK.out.below.size fun j _ e => by omega⟩
      have R2 := Lib.hid r2
      clear r1 r2 r3 hones LA
      go_wp2_with (first | (refine load_row_on rfl _ _ rfl w.heap.size rfl MdT #[.string d.name, .int .u32 (d.key : Nat), .int .i64 d.base, .int .i64 d.size, .int .i64 d.z0, .int .i64 d.z1, .int .i64 d.z2, .int .i64 d.z3, .slice a1 n1 k1, .slice a2 n2 k2, .slice a3 n3 k3, .slice a5 k k5, .slice a4 n4 k4] (0, 0) _ CLK.out.row Try.underlying41 rfl (by rw [size_md]; rfl) ?_) | (refine wpList_store_run _ rfl _ _ _ rfl _ _ rfl rfl (by exact RUN.out) ?_))
      exact bodyPost_ret (v := .agg (mcells d (.slice a1 n1 k1) (.slice a2 n2 k2) (.slice a3 n3 k3) (.slice a5 k k5) (.slice a4 n4 k4)).toArray) (results_one Try.results22 _ _ (w.heap.size + 1) MdT _ (0, 0) _ rfl R2.out Try.underlying41 rfl (by rw [size_md]; rfl)) rfl ⟨⟨d, .slice a1 n1 k1, .slice a2 n2 k2, .slice a3 n3 k3, .slice a5 k k5, .slice a4 n4 k4, ys⟩, rfl, rfl, RES.out⟩
end Go.Proofs.Ytiofplejpgahdaa
