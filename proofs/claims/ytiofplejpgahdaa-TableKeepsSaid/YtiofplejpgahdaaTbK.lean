/-
  TableKeeps (layer 18). No conditions.
-/
import Derived.Test.YtiofplejpgahdaaTbU
import Derived.Test.YtiofplejpgahdaaIntsS
namespace Go.Proofs.Ytiofplejpgahdaa
open Go.ChangeShapes Go.WideShapes Go.ChangeAt Go.RowKit

theorem TabD.lo0 {B lo lo' : Nat} {w : World} {tb room : Nat} (h : TabD B lo w tb room []) : TabD B lo' w tb room [] := by
  obtain ⟨v, L, ht, hd⟩ := h
  have e : L = [] := by
    cases L with
    | nil => rfl
    | cons x L => simp at hd
  subst e
  exact ⟨v, [], ⟨ht.head, ht.row, (fun x hx => by cases hx), ht.fewm, ht.few, ht.most, ht.low, ht.rlow⟩, rfl⟩
/- a cell of a row of ints that is not the table's -/
theorem TabD.put {B lo : Nat} {w : World} {tb room ob : Nat} {D : List ModD} (h : TabD B lo w tb room D) {cs : List Value} (hr : RowAt w ob InT cs) (hlo : ob < lo) (i : Nat) (u : Value) : TabD B lo (w.setCell ⟨ob, i, none⟩ u) tb room D := by
  obtain ⟨v, L, ht, hd⟩ := h
  refine ⟨v, L, ht.keep (kept_set w ob i u) (fun e => ?_) (fun j hj e => ?_) (fun x hx u t k n cs hs hl _ j hj e => ?_), hd⟩
  · subst e
    exact absurd (ht.head.type_eq hr) (by decide)
  · subst e
    exact ht.row.off hr (by decide) hj
  · have := hl j hj
    omega
/- what TableKeeps asks of the table's data -/
structure GoodD (l : List Int) (D : List ModD) : Prop where
  closed : ∀ m ∈ D, ∀ i ∈ m.imps, i ∈ nmsD D
  first : ∃ a rest, D = a :: rest ∧ a.name = nA ∧ a.exps = [(2, 0, l)]
theorem GoodD.add {l : List Int} {D : List ModD} (h : GoodD l D) (room : Nat) (x : ModD) : GoodD l (addD room D x) := by
  unfold addD
  split
  · rename_i h0
    obtain ⟨_, _, h1⟩ := addC_zero h0
    obtain ⟨a, rest, e, ha, he⟩ := h.first
    refine ⟨fun m hm i hi => ?_, a, rest ++ [x], by rw [e]; rfl, ha, he⟩
    have : i ∈ nmsD D := by
      rcases List.mem_append.1 hm with h2 | h2
      · exact h.closed m h2 i hi
      · rw [List.mem_singleton.1 h2] at hi
        exact h1 i hi
    show i ∈ (D ++ [x]).map ModD.name
    rw [List.map_append]
    exact List.mem_append_left _ this
  · exact h
theorem GoodD.rem {l : List Int} {D : List ModD} (h : GoodD l D) (s : ByteArray) (hs : s ≠ nA) : GoodD l (remL (nmsD D) (impD D) s D) := by
  cases hb : remB (nmsD D) (impD D) s with
  | false => rw [remL_no hb]; exact h
  | true =>
    have h1 : s ∈ nmsD D := Classical.byContradiction fun hn => by rw [remB_no hn] at hb; cases hb
    have h2 : refsT (impD D) s = 0 := Classical.byContradiction fun hn => by rw [remB_held hn] at hb; cases hb
    obtain ⟨k, hk, hx, hkl⟩ := posV_some h1
    rw [remL_yes hb hk]
    obtain ⟨a, rest, e, ha, he⟩ := h.first
    have hk0 : k ≠ 0 := fun e0 => by
      rw [e0, e] at hx
      have : a.name = s := by simpa using hx
      exact hs (this.symm.trans ha)
    refine ⟨fun m hm i hi => ?_, a, rest.take (k - 1) ++ rest.drop k, ?_, ha, he⟩
    · have hmD : m ∈ D := by
        rcases List.mem_append.1 hm with h3 | h3
        · exact List.mem_of_mem_take h3
        · exact List.mem_of_mem_drop h3
      have hi1 := h.closed m hmD i hi
      have hi2 : i ≠ s := fun e3 => refsT_zero h2 m.imps (List.mem_map.2 ⟨m, hmD, rfl⟩) (e3 ▸ hi)
      rw [(part_at hx).1] at hi1
      show i ∈ (D.take k ++ D.drop (k + 1)).map ModD.name
      rw [List.map_append, List.map_take, List.map_drop]
      rcases List.mem_append.1 hi1 with h3 | h3
      · exact List.mem_append_left _ h3
      · rcases List.mem_cons.1 h3 with h4 | h4
        · exact absurd h4 hi2
        · exact List.mem_append_right _ h4
    · obtain ⟨j, rfl⟩ : ∃ j, k = j + 1 := ⟨k - 1, by omega⟩
      rw [e]
      rfl
theorem GoodD.start (l : List Int) : GoodD l [⟨nA, 0, 0, 0, 0, 0, 0, 0, [], [], [], [(2, 0, l)], []⟩] :=
  ⟨(fun m hm i hi => by rw [List.mem_singleton.1 hm] at hi; cases hi), ⟨_, [], rfl, rfl, rfl⟩⟩
theorem one_exp {xs : List ExX} {l : List Int} (h : xs.map ExX.d = [(2, 0, l)]) : ∃ u : ExX, xs = [u] ∧ u.l = l := by
  match xs, h with
  | [u], h =>
    simp only [List.map_cons, List.map_nil, List.cons.injEq, and_true] at h
    exact ⟨u, rfl, congrArg (fun p => p.2.2) h⟩
  | [], h => simp at h
  | _ :: _ :: _, h => simp at h
/- all that TableKeeps holds, from deed to deed -/
def St18 (lo : Nat) (w wr : World) (tb : Nat) (l : List Int) : Prop := ∃ D, TabD w.heap.size lo wr tb 16 D ∧ GoodD l D ∧ Below w.heap.size w wr ∧ lo ≤ wr.heap.size
theorem St18.on {lo : Nat} {w wr w' : World} {tb : Nat} {l : List Int} (h : St18 lo w wr tb l) (hb : Below wr.heap.size wr w') : St18 lo w w' tb l := by
  obtain ⟨D, h1, h2, h3, h4⟩ := h
  exact ⟨D, h1.on hb, h2, below_on h3 hb h3.size, Nat.le_trans h4 hb.size⟩
theorem SRow.past {B : Nat} {t : TypeId} {k : Nat} {w w' : World} {v : Value} {n : Nat} {cs : List Value} (h : SRow t k w v n cs) (ho : Off B w w') (h1 : t ≠ TbT) (h2 : t ≠ MdT) : SRow t k w' v n cs := by
  refine ⟨?_, h.len, h.one⟩
  rcases h.is with h0 | ⟨b, cap, rest, rfl, hr, h3⟩
  · exact .inl h0
  · exact .inr ⟨b, cap, rest, rfl, ho.rows _ _ _ h1 h2 hr, h3⟩
theorem rows_nums (xs : List Int) : rows intRow xs = xs.map fun x => Value.int .i64 x := by
  induction xs with
  | nil => rfl
  | cons x xs ih => rw [rows_cons, ih]; rfl
/- a cell of a row of ints, set -/
theorem SRow.setInt {w : World} {b m cap : Nat} {xs : List Int} (h : SRow InT 1 w (.slice (some ⟨b, 0, none⟩) m cap) xs.length (rows intRow xs)) (i : Nat) (hi : i < xs.length) (u : Int) :
    SRow InT 1 (w.setCell ⟨b, i, none⟩ (.int .i64 u)) (.slice (some ⟨b, 0, none⟩) m cap) (xs.set i u).length (rows intRow (xs.set i u)) := by
  rcases h.is with ⟨e, _⟩ | ⟨b', cap', rest, e, hr, h1, h2, h3⟩
  · cases e
  · cases e
    have hr2 := hr.setCell i (.int .i64 u)
    rw [List.set_append_left _ _ (by rw [rows_length 1 intRow_len, Nat.mul_one]; exact hi), rows_nums, ← List.map_set, ← rows_nums] at hr2
    exact ⟨.inr ⟨b, cap, rest, by rw [List.length_set], hr2, by rw [List.length_set]; exact h1, by rw [List.length_set]; exact h2, h3⟩, rows_length 1 intRow_len _, fun u hu => by
      obtain ⟨y, _, hy⟩ := List.mem_flatMap.1 hu
      exact intRow_one y u hy⟩
theorem SRow.lie {t : TypeId} {k : Nat} {w : World} {b m cap n : Nat} {cs : List Value} (h : SRow t k w (.slice (some ⟨b, 0, none⟩) m cap) n cs) : ∃ ds, RowAt w b t ds := by
  rcases h.is with ⟨e, _⟩ | ⟨b', cap', rest, e, hr, _⟩
  · cases e
  · cases e
    exact ⟨_, hr⟩
set_option maxRecDepth 100000 in
set_option maxHeartbeats 8000000 in
theorem tableKeeps_any (lv pv : Value) (L : List DdX) (l : List Int) (w : World) (h : DeedsT w lv L) (g : ElsAt 1 intRow w pv l) :
    Calls Try.prog 4 #[lv, pv] w fun e w' => e = .returned (.bool true) ∧ Below w.heap.size w w' := by
  obtain ⟨la, lc, hlv, hl1, hl2, _⟩ := h.els.shape
  obtain ⟨pa, pc, hpv, hp1, hp2, _⟩ := g.shape
  subst hlv hpv
  have HL := Lib.hid h
  have HG := Lib.hid g
  clear h g
  generalize hn : L.length = n at *
  generalize hm : l.length = m at *
  have HN := Lib.hid hn
  have HM := Lib.hid hm
  clear hn hm
  go_enter Try.func4, Try.ntmps4
  go_wp2_with fail
  refine (up18 w).mono ?_
  rintro e w1 ⟨rfl, hb1⟩
  have HB1 := Lib.hid hb1
  clear hb1
  go_wp2_with fail
  refine (new_told w.heap.size 0 16 16 w1 HB1.out.size (by decide)).mono ?_
  rintro e w2 ⟨tb, rfl, ht2, hb2⟩
  have HB2 := Lib.hid (below_on HB1.out hb2 HB1.out.size)
  have HT2 := Lib.hid ht2
  clear ht2 hb2 HB1
  by_cases c1 : 80 < n
  · as_aux_lemma =>
    have d1 : decide ((80 : Int) < (n : Int)) = true := by simp; omega
    go_wp2_with fail
    go_ret
    exact ⟨rfl, HB2.out⟩
  by_cases c2 : 50 < m
  · as_aux_lemma =>
    have d1 : decide ((80 : Int) < (n : Int)) = false := by simp; omega
    have d2 : decide ((50 : Int) < (m : Int)) = true := by simp; omega
    go_wp2_with fail
    go_ret
    exact ⟨rfl, HB2.out⟩
  have d1 : decide ((80 : Int) < (n : Int)) = false := by simp; omega
  have d2 : decide ((50 : Int) < (m : Int)) = false := by simp; omega
  have hb0 : Below w2.heap.size w2 (w2.alloc (.cells #[] InT)) := (Below.refl _ _).alloc (Nat.le_refl _) _
  obtain ⟨v3, w3, q0, q1, q2, q3⟩ := append_els (T := 35) Try.underlying35 info_in rfl (by decide) intRow_len intRow_one (by decide) (SRow.empty InT 1 intRow w2) ((HG.out.on HB2.out).on hb0) (by simp) (by have := HM.out; simp; omega)
  rw [List.nil_append] at q1
  have hb3 : Below w2.heap.size w2 w3 := q2.1.below hb0 hb0.size fun j _ hj => by have e : j = w2.heap.size := hj; omega
  obtain ⟨oa, oc, ho, _⟩ := q1.shape
  rw [HM.out] at ho
  subst ho
  have HB3 := Lib.hid (below_on HB2.out hb3 HB2.out.size)
  have HT3 := Lib.hid (HT2.out.on hb3)
  have HO3 := Lib.hid q1
  have HR := Lib.hid q0
  have hlow : ∀ j, own (.slice oa m oc) j → w.heap.size ≤ j := fun j hj => by
    have h2 := HB2.out.size
    rcases q2.2 j hj with e | e
    · have e : j = w2.heap.size := e
      omega
    · exact Nat.le_trans h2 (Nat.le_trans hb0.size e)
  have HOL := Lib.hid hlow
  clear q0 q1 q2 q3 hb0 hb3 HT2 hlow
  go_upto_region 6 with (at_builtin; refine Lib.wpList_append_run _ rfl _ _ _ _ rfl _ _ rfl rfl _ _ HR.out ?_)
  have hob : ∀ j, own (.slice oa m oc) j → j < w3.heap.size := fun j hj => HO3.out.own_lt j hj
  have HOB := Lib.hid hob
  have hx : ElsAt 3 exRow (w3.alloc (.cells #[.int .i64 2, .int .i64 0, .slice oa m oc] XpT)) (.slice (some ⟨w3.heap.size, 0, none⟩) 1 1) [⟨2, 0, .slice oa m oc, l⟩] :=
    ⟨_, 1, 1, rfl, rfl, Nat.le_refl _, by decide, (fun h => by cases h), .inr ⟨_, 0, rfl, (RowAt.new w3 XpT [.int .i64 2, .int .i64 0, .slice oa m oc]).lt, fun i x j hx hj => by
      have hi := (List.getElem?_eq_some_iff.1 hx).1
      obtain rfl : i = 0 := by simpa using hi
      cases hx
      rw [show 0 + (0 * 3 + j) = j by omega]
      exact (RowAt.new w3 XpT [.int .i64 2, .int .i64 0, .slice oa m oc]).cell j⟩⟩
  have hbel : Below w3.heap.size w3 (w3.alloc (.cells #[.int .i64 2, .int .i64 0, .slice oa m oc] XpT)) := (Below.refl _ _).alloc (Nat.le_refl _) _
  have HA : Hid (Calls Try.prog 10 #[.pointer (some ⟨tb, 0, none⟩), .agg #[.string { data := #[65] }, .int .u32 0, .int .i64 0, .int .i64 0, .int .i64 0, .int .i64 0, .int .i64 0, .int .i64 0, .slice none 0 0, .slice none 0 0, .slice none 0 0, .slice (some ⟨w3.heap.size, 0, none⟩) 1 1, .slice none 0 0]] (w3.alloc (.cells #[.int .i64 2, .int .i64 0, .slice oa m oc] XpT)) fun e w' => e = .returned .nilIface ∧ TabD w.heap.size w3.heap.size w' tb 16 [⟨nA, 0, 0, 0, 0, 0, 0, 0, [], [], [], [(2, 0, l)], []⟩] ∧ Off w.heap.size (w3.alloc (.cells #[.int .i64 2, .int .i64 0, .slice oa m oc] XpT)) w') := by
    have hls := (HO3.out.els intRow_len).on hbel
    have h := add_told (B := w.heap.size) (lo := w3.heap.size) ⟨⟨nA, 0, 0, 0, 0, 0, 0, 0, [], [], [], [(2, 0, l)], []⟩, nilS, nilS, nilS, .slice (some ⟨w3.heap.size, 0, none⟩) 1 1, nilS, [⟨2, 0, .slice oa m oc, l⟩]⟩ _ (HT3.out.lo0.on hbel)
      ⟨els_none _ _ _, els_none _ _ _, els_none _ _ _, hx, (fun y hy => by rw [List.mem_singleton.1 hy]; exact hls), els_none _ _ _, rfl⟩
      ⟨Nat.zero_le _, Nat.zero_le _, Nat.zero_le _, (show 1 ≤ 1000 by omega), (fun y hy => by rw [List.mem_singleton.1 hy]; show l.length ≤ 1000; rw [HM.out]; omega), Nat.zero_le _⟩ (Nat.le_trans HB3.out.size hbel.size) hbel.size
    have h0 : addC 16 (nmsD []) nA [] = 0 := addC_on (by simp) (by simp) (by simp)
    rw [show addD 16 [] _ = [⟨nA, 0, 0, 0, 0, 0, 0, 0, [], [], [], [(2, 0, l)], []⟩] by unfold addD; rw [if_pos h0]; rfl, h0] at h
    exact h
  have HB4 := Lib.hid (below_on HB3.out hbel HB3.out.size)
  have HO4 := Lib.hid (HO3.out.keep (Kept.of_below (S := fun _ => False) hbel) (fun _ _ e => e))
  have HLO : Hid (w3.heap.size ≤ (w3.alloc (.cells #[.int .i64 2, .int .i64 0, .slice oa m oc] XpT)).heap.size) := hbel.size
  clear hob hx hbel HT3 HO3 HR HB3
  go_wp2_with fail
  refine HA.out.mono ?_
  rintro e w5 ⟨rfl, ht5, ho5⟩
  have HT5 := Lib.hid ht5
  have HO5 := Lib.hid (HO4.out.past ho5 (by decide) (by decide))
  have HB5 := Lib.hid (HB4.out.trans ho5.below)
  have HLO5 : Hid (w3.heap.size ≤ w5.heap.size) := Nat.le_trans HLO.out ho5.below.size
  clear ht5 ho5 HO4 HB4 HA HLO
  generalize w3.heap.size = lo at *
  go_wp2_with fail
  go_loopw [9] (fun i wr => ∃ (k : Nat) (xs : List Int), k ≤ m ∧ i = .int .i64 k ∧ Hid (TabD w.heap.size lo wr tb 16 [⟨nA, 0, 0, 0, 0, 0, 0, 0, [], [], [], [(2, 0, l)], []⟩]) ∧ Hid (SRow InT 1 wr (.slice oa m oc) xs.length (rows intRow xs)) ∧ Hid (xs.length = m) ∧ Hid (Below w.heap.size w wr) ∧ Hid (lo ≤ wr.heap.size)) (fun i _ => m - (intOf i).toNat)
  case atStart => exact ⟨0, l, Nat.zero_le _, rfl, HT5, HO5, HM, HB5, HLO5⟩
  case round =>
    obtain ⟨k, xs, hk, rfl, HT, HO, HX, HB, HLW⟩ := hrel
    clear HT5 HO5 HB5 HLO5
    by_cases hlt : k < m
    · as_aux_lemma =>
      obtain ⟨x, hx⟩ : ∃ x, xs[k]? = some x := ⟨_, List.getElem?_eq_getElem (by rw [HX.out]; exact hlt)⟩
      obtain ⟨b, cap, hv, hb, _, _, hcs⟩ := HO.out.cell (by rw [HX.out]; omega)
      rw [HX.out] at hv
      cases hv
      have c0 : wr.cell? ⟨b, k, none⟩ = some (.int .i64 x) := by rw [hcs k (by rw [HX.out]; omega), rows_nums, List.getElem?_map, hx]; rfl
      obtain ⟨ds, hr⟩ := HO.out.lie
      have f0 : wr.frozen? ⟨b, k, none⟩ = false := hr.free k
      have hbl := HOB.out b rfl
      have RT : Hid (∀ u, TabD w.heap.size lo (wr.setCell ⟨b, k, none⟩ u) tb 16 [⟨nA, 0, 0, 0, 0, 0, 0, 0, [], [], [], [(2, 0, l)], []⟩]) := fun u => HT.out.put hr hbl k u
      have RO : Hid (∀ u, SRow InT 1 (wr.setCell ⟨b, k, none⟩ (.int .i64 u)) (.slice (some ⟨b, 0, none⟩) m oc) (xs.set k u).length (rows intRow (xs.set k u))) := fun u => HO.out.setInt k (by rw [HX.out]; exact hlt) u
      have RB : Hid (∀ u, Below w.heap.size w (wr.setCell ⟨b, k, none⟩ u)) := fun u => (kept_set wr b k u).below HB.out HB.out.size fun j _ e => by rw [e]; exact HOL.out b rfl
      have RW : Hid (∀ u, lo ≤ (wr.setCell ⟨b, k, none⟩ u).heap.size) := fun u => Nat.le_trans HLW.out (kept_set wr b k u).more
      have RX : Hid (∀ u, (xs.set k u).length = m) := fun u => by rw [List.length_set]; exact HX.out
      have e3 : (k : Int) < (m : Int) := by omega
      have e4 : (0 : Int) ≤ (k : Int) := by omega
      clear hx hcs hr hb hbl HT HO HX HB
      go_wp2_with fail
      go_roundw
      case rel => exact ⟨k + 1, _, by omega, by go_num, RT.out _, RO.out _, RX.out _, RB.out _, RW.out _⟩
      case measure => simp [intOf]; omega
    · as_aux_lemma =>
      obtain rfl : k = m := by omega
      have HS : Hid (St18 lo w wr tb l) := ⟨_, HT.out, GoodD.start l, HB.out, HLW.out⟩
      clear HT HO HX HB HLW HOB HOL
      go_wp2_with fail
      go_loopw [10, 11, 12, 13, 14, 15] (fun i _ _ _ _ _ wr => ∃ k : Nat, k ≤ n ∧ i = .int .i64 k ∧ Hid (St18 lo w wr tb l)) (fun i _ _ _ _ _ _ => n - (intOf i).toNat)
      case atStart => exact ⟨0, Nat.zero_le _, rfl, HS⟩
      case round =>
        obtain ⟨i, hi, rfl, HS1⟩ := hrel
        clear HS
        by_cases hlt : i < n
        · as_aux_lemma =>
          obtain ⟨x, hx⟩ : ∃ x, L[i]? = some x := ⟨_, List.getElem?_eq_getElem (by rw [HN.out]; exact hlt)⟩
          have HBR : Hid (Below w.heap.size w wr) := by
            obtain ⟨D, _, _, h3, _⟩ := HS1.out
            exact h3
          have HLR := Lib.hid (HL.out.on HBR.out)
          have hiv := HL.out.imps x (List.mem_of_getElem? hx)
          obtain ⟨b, off, cap, hv, hb, hc⟩ := HLR.out.els.cell hx
          rw [HN.out] at hv
          cases hv
          obtain ⟨ia, ic, hiv2, _⟩ := hiv.shape
          obtain ⟨gone, name, iv, base, imps⟩ := x
          have hiv2 : iv = .slice ia imps.length ic := hiv2
          subst hiv2
          have HIV : Hid (ElsAt 1 sRow w (.slice ia imps.length ic) imps) := hiv
          have c0 : wr.cell? ⟨b, off + i * 4, none⟩ = some (.bool gone) := hc 0 (by omega)
          have c1 : wr.cell? ⟨b, off + i * 4 + 1, none⟩ = some (.string name) := hc 1 (by omega)
          have c2 : wr.cell? ⟨b, off + i * 4 + 2, none⟩ = some (.slice ia imps.length ic) := hc 2 (by omega)
          have HBN : Hid (b < w.heap.size) := by
            obtain ⟨b', off', cap', e, h1, _⟩ := HL.out.els.cell hx
            cases e
            exact h1
          generalize hq : imps.length = q at *
          have HQ := Lib.hid hq
          have e3 : (i : Int) < (n : Int) := by omega
          have e4 : (0 : Int) ≤ (i : Int) := by omega
          clear hx hc hb hiv hiv2 hq HLR
          by_cases t1 : 100 < name.size
          · as_aux_lemma =>
            have t2 : decide ((100 : Int) < (name.size : Int)) = true := by simp; omega
            go_wp2_with fail
            go_ret
            exact ⟨rfl, HBR.out⟩
          by_cases t3 : 20 < q
          · as_aux_lemma =>
            have t2 : decide ((100 : Int) < (name.size : Int)) = false := by simp; omega
            have t4 : decide ((20 : Int) < (q : Int)) = true := by simp; omega
            go_wp2_with fail
            go_ret
            exact ⟨rfl, HBR.out⟩
          as_aux_lemma =>
          have t2 : decide ((100 : Int) < (name.size : Int)) = false := by simp; omega
          have t4 : decide ((20 : Int) < (q : Int)) = false := by simp; omega
          go_upto_region 18 with fail
          clear t2 t4
          go_cut [97] (fun s wx => ∃ u : Bool, s = .bool u ∧ Hid (u = true → name ≠ nA) ∧ wr = wx)
          case first =>
            as_aux_lemma =>
            cases gone with
            | false =>
              go_wp2_with fail
              go_meet
              exact ⟨false, rfl, (fun h => by cases h), rfl⟩
            | true =>
              by_cases hq : name = nA
              · as_aux_lemma =>
                have hq4 : name.toList = [65] := by rw [hq]; simp [nA, ByteArray.toList_eq]
                have hq3 : (name.toList == [65]) = true := by rw [hq4]; rfl
                clear hq
                go_wp2_with fail
                go_meet
                exact ⟨false, rfl, (fun h => by cases h), rfl⟩
              · as_aux_lemma =>
                have hq1 : (name.toList == nA.toList) = false := str_ne hq
                have hq2 : ¬ name.toList = nA.toList := str_nq hq
                have hq3 : (name.toList == [65]) = false := by simpa [nA, ByteArray.toList_eq] using hq1
                have hq4 : ¬ name.toList = [65] := by simpa [nA, ByteArray.toList_eq] using hq2
                have HQN : Hid (name ≠ nA) := hq
                clear hq
                go_wp2_with fail
                go_meet
                exact ⟨true, rfl, (fun _ => HQN.out), rfl⟩
          case rest =>
          obtain ⟨u, rfl, HU, rfl⟩ := hcut
          go_upto_if 97 with fail
          go_cut [104] (fun _ wx => Hid (St18 lo w wx tb l))
          case first =>
            as_aux_lemma =>
            obtain ⟨D, hT, hG, hB, hlo⟩ := HS1.out
            cases u with
            | true =>
              have HR := Lib.hid (remove_told name wr hT hB.size)
              have HSR : Hid (∀ w', TabD w.heap.size lo w' tb 16 (remL (nmsD D) (impD D) name D) → Off w.heap.size wr w' → St18 lo w w' tb l) := fun w' h1 h2 => ⟨_, h1, hG.rem name (HU.out rfl), hB.trans h2.below, Nat.le_trans hlo h2.below.size⟩
              clear hT hG hB hlo HU c0 c2
              go_wp2_with fail
              refine HR.out.mono ?_
              rintro e w6 ⟨rfl, ht6, ho6⟩
              have RES := Lib.hid (HSR.out w6 ht6 ho6)
              clear ht6 ho6
              go_wp2_with fail
              go_meet
              exact RES
            | false =>
              clear hT hG hB hlo HU c0
              go_wp2_with fail
              refine wp_region_held_drew (S := fun w' => (w'.cell? ⟨b, off + i * 4 + 1, none⟩ = some (.string name) ∧ w'.cell? ⟨b, off + i * 4 + 2, none⟩ = some (.slice ia q ic)) ∧ Hid (St18 lo w w' tb l)) (by kernel_rfl) ?_ (fun hHeld => ?_)
              · exact ⟨⟨c1, c2⟩, HS1.out.on ((Drawn.of_n wr 1).below _)⟩
              refine wpAnyH_take (i := 0) (v := ?_) rfl (by kernel_rfl) (by kernel_rfl) (by kernel_rfl) (fun _ _ _ h => h) (Or.inl ⟨by rfl, ?_⟩) (by assumption) ?_
              rotate_left
              · intro w hSw
                (try dsimp only at hSw)
                go_simp
                (try with_reducible rfl)
              try simp only [Act.put, List.getElem_toArray, List.getElem_cons_zero, List.setIfInBounds_toArray, List.set_cons_zero, List.set_cons_succ]
              refine wpAnyH_take (i := 1) (v := ?_) rfl (by kernel_rfl) (by kernel_rfl) (by kernel_rfl) (fun _ _ _ h => h) (Or.inl ⟨by rfl, ?_⟩) (by assumption) ?_
              rotate_left
              · intro w hSw
                (try dsimp only at hSw)
                go_simp
                (try with_reducible rfl)
              try simp only [Act.put, List.getElem_toArray, List.getElem_cons_zero, List.getElem_cons_succ, List.setIfInBounds_toArray, List.set_cons_zero, List.set_cons_succ]
              refine wpAnyH_take (i := 2) (v := ?_) rfl (by kernel_rfl) (by kernel_rfl) (by kernel_rfl) (fun _ _ _ h => h) (Or.inl ⟨by rfl, ?_⟩) (by assumption) ?_
              rotate_left
              · intro w hSw
                (try dsimp only at hSw)
                go_simp
                (try with_reducible rfl)
              try simp only [Act.put, List.getElem_toArray, List.getElem_cons_zero, List.getElem_cons_succ, List.setIfInBounds_toArray, List.set_cons_zero, List.set_cons_succ]
              refine wpAnyH_take (i := 3) (v := ?_) rfl (by kernel_rfl) (by kernel_rfl) (by kernel_rfl) (fun _ _ _ h => h) (Or.inl ⟨by rfl, ?_⟩) (by assumption) ?_
              rotate_left
              · intro w hSw
                (try dsimp only at hSw)
                go_simp
                (try with_reducible rfl)
              try simp only [Act.put, List.getElem_toArray, List.getElem_cons_zero, List.getElem_cons_succ, List.setIfInBounds_toArray, List.set_cons_zero, List.set_cons_succ]
              refine wpAnyH_take (i := 4) (v := ?_) rfl (by kernel_rfl) (by kernel_rfl) (by kernel_rfl) (fun _ _ _ h => h) (Or.inl ⟨by rfl, ?_⟩) (by assumption) ?_
              rotate_left
              · intro w hSw
                (try dsimp only at hSw)
                go_simp
                (try with_reducible rfl)
              try simp only [Act.put, List.getElem_toArray, List.getElem_cons_zero, List.getElem_cons_succ, List.setIfInBounds_toArray, List.set_cons_zero, List.set_cons_succ]
              refine wpAnyH_take (i := 5) (v := ?_) rfl (by kernel_rfl) (by kernel_rfl) (by kernel_rfl) (fun _ _ _ h => h) (Or.inl ⟨by rfl, ?_⟩) (by assumption) ?_
              rotate_left
              · intro w hSw
                have e0 := hSw.1.1
                (try dsimp only at hSw)
                go_simp
                (try with_reducible rfl)
              try simp only [Act.put, List.getElem_toArray, List.getElem_cons_zero, List.getElem_cons_succ, List.setIfInBounds_toArray, List.set_cons_zero, List.set_cons_succ]
              refine wpAnyH_take (i := 6) (v := ?_) rfl (by kernel_rfl) (by kernel_rfl) (by kernel_rfl) (fun _ _ _ h => h) (Or.inl ⟨by rfl, ?_⟩) (by assumption) ?_
              rotate_left
              · intro w hSw
                (try dsimp only at hSw)
                go_simp
                (try with_reducible rfl)
              try simp only [Act.put, List.getElem_toArray, List.getElem_cons_zero, List.getElem_cons_succ, List.setIfInBounds_toArray, List.set_cons_zero, List.set_cons_succ]
              refine wpAnyH_take (i := 7) (v := ?_) rfl (by kernel_rfl) (by kernel_rfl) (by kernel_rfl) (fun _ _ _ h => h) (Or.inl ⟨by rfl, ?_⟩) (by assumption) ?_
              rotate_left
              · intro w hSw
                (try dsimp only at hSw)
                go_simp
                (try with_reducible rfl)
              try simp only [Act.put, List.getElem_toArray, List.getElem_cons_zero, List.getElem_cons_succ, List.setIfInBounds_toArray, List.set_cons_zero, List.set_cons_succ]
              refine wpAnyH_take (i := 8) (v := ?_) rfl (by kernel_rfl) (by kernel_rfl) (by kernel_rfl) (fun _ _ _ h => h) (Or.inl ⟨by rfl, ?_⟩) (by assumption) ?_
              rotate_left
              · intro w hSw
                (try dsimp only at hSw)
                go_simp
                (try with_reducible rfl)
              try simp only [Act.put, List.getElem_toArray, List.getElem_cons_zero, List.getElem_cons_succ, List.setIfInBounds_toArray, List.set_cons_zero, List.set_cons_succ]
              refine wpAnyH_take (i := 9) (v := ?_) rfl (by kernel_rfl) (by kernel_rfl) (by kernel_rfl) (fun _ _ _ h => h) (Or.inl ⟨by rfl, ?_⟩) (by assumption) ?_
              rotate_left
              · intro w hSw
                (try dsimp only at hSw)
                go_simp
                (try with_reducible rfl)
              try simp only [Act.put, List.getElem_toArray, List.getElem_cons_zero, List.getElem_cons_succ, List.setIfInBounds_toArray, List.set_cons_zero, List.set_cons_succ]
              refine wpAnyH_take (i := 10) (v := ?_) rfl (by kernel_rfl) (by kernel_rfl) (by kernel_rfl) (fun _ _ _ h => h) (Or.inl ⟨by rfl, ?_⟩) (by assumption) ?_
              rotate_left
              · intro w hSw
                have e1 := hSw.1.2
                (try dsimp only at hSw)
                go_simp
                (try with_reducible rfl)
              try simp only [Act.put, List.getElem_toArray, List.getElem_cons_zero, List.getElem_cons_succ, List.setIfInBounds_toArray, List.set_cons_zero, List.set_cons_succ]
              refine wpAnyH_take (i := 11) (v := ?_) rfl (by kernel_rfl) (by kernel_rfl) (by kernel_rfl) (fun _ _ _ h => h) (Or.inl ⟨by rfl, ?_⟩) (by assumption) ?_
              rotate_left
              · intro w hSw
                (try dsimp only at hSw)
                go_simp
                (try with_reducible rfl)
              try simp only [Act.put, List.getElem_toArray, List.getElem_cons_zero, List.getElem_cons_succ, List.setIfInBounds_toArray, List.set_cons_zero, List.set_cons_succ]
              refine wpAnyH_ready (rs := [12]) (by kernel_rfl) (by simp) ?_
              refine AllReadyH.cons rfl (fun K hK => ?_) AllReadyH.nil
              go_simp
              obtain ⟨D, hT, hG, hB, hlo⟩ := hHeld.2.out
              refine (add_bare name 0 (.slice ia q ic) imps _ hT (HIV.out.on hB) (by have := HQ.out; omega) hB.size hlo).mono ?_
              rintro e w6 ⟨rfl, ht6, ho6⟩
              first | show K _ _ | go_wp2_with fail
              refine hK.out _ _ ?_ (fun hHeld1 => ?_)
              · exact ⟨⟨(ho6.below.cell HBN.out).trans hHeld.1.1, (ho6.below.cell HBN.out).trans hHeld.1.2⟩, ⟨_, ht6, hG.add 16 _, hB.trans ho6.below, Nat.le_trans hlo ho6.below.size⟩⟩
              clear hK K
              try simp only [Act.put, List.getElem_toArray, List.getElem_cons_zero, List.getElem_cons_succ, List.setIfInBounds_toArray, List.set_cons_zero, List.set_cons_succ]
              refine wpAnyH_done (by kernel_rfl) ?_ _
              have RES := hHeld1.2
              clear hHeld hHeld1 hT hG hB hlo ht6 ho6
              go_wp2_with fail
              go_meet
              exact RES
          case rest =>
          generalize wc = W at *
          have HS2 := hcut
          clear hcut HS1 HBR c0 c1 c2 HU HIV HBN
          obtain ⟨D, hT, hG, hB, hlo⟩ := HS2.out
          have HTD := Lib.hid hT
          have HGD := Lib.hid hG
          have HBD := Lib.hid hB
          have HLD := Lib.hid hlo
          have i16 := hT.len.2
          have HNM := Lib.hid (names_told W hT)
          clear hT hG hB hlo HS2
          generalize hz : D.length = z at *
          have HZ := Lib.hid hz
          clear hz
          go_wp2_with fail
          refine HNM.out.mono ?_
          rintro e W1 ⟨nb, rfl, hel, hb1⟩
          have HEL := Lib.hid hel
          have HT1 := Lib.hid (HTD.out.on hb1)
          have HB1 := Lib.hid (below_on HBD.out hb1 HBD.out.size)
          have HL1 : Hid (lo ≤ W1.heap.size) := Nat.le_trans HLD.out hb1.size
          clear hel hb1 HTD HBD HLD HNM
          go_wp2_with fail
          go_loopw [12, 13, 14, 15] (fun k _ _ _ wr => ∃ k' : Nat, k' ≤ z ∧ k = .int .i64 k' ∧ Hid (Below W1.heap.size W1 wr)) (fun k _ _ _ _ => z - (intOf k).toNat)
          case atStart => exact ⟨0, Nat.zero_le _, rfl, Below.refl _ _⟩
          case round =>
            obtain ⟨k, hk, rfl, HBK⟩ := hrel
            by_cases hkl : k < z
            · as_aux_lemma =>
              obtain ⟨s, hs⟩ : ∃ s, (nmsD D)[k]? = some s := ⟨_, List.getElem?_eq_getElem (by rw [List.length_map, HZ.out]; exact hkl)⟩
              have hzn : (nmsD D).length = z := by rw [List.length_map, HZ.out]
              obtain ⟨nb', no, ncap, hnv, hnb, hc⟩ := HEL.out.cell1 hs (c0 := .string s) rfl
              rw [hzn] at hnv
              cases hnv
              rw [Nat.zero_add] at hc
              have d0 : wr.cell? ⟨nb, k, none⟩ = some (.string s) := (HBK.out.cell hnb).trans hc
              obtain ⟨k2, hk2, hx2, hkl2⟩ := posV_some (List.mem_of_getElem? hs)
              obtain ⟨d, hd⟩ : ∃ d, D[k2]? = some d := ⟨_, List.getElem?_eq_getElem (by rw [List.length_map] at hkl2; exact hkl2)⟩
              have HF := Lib.hid (find_told_yes s k2 d wr (HT1.out.on HBK.out) hk2 hd)
              have HCL : Hid (∀ i ∈ d.imps, i ∈ nmsD D) := HGD.out.closed d (List.mem_of_getElem? hd)
              have HZN := Lib.hid hzn
              have f3 : (k : Int) < (z : Int) := by omega
              have f4 : (0 : Int) ≤ (k : Int) := by omega
              clear hs hc hnb hk2 hx2 hkl2 hd hzn
              go_wp2_with fail
              refine HF.out.mono ?_
              rintro e W2 ⟨y, rfl, hyd, hyin, hb2⟩
              obtain ⟨d', p, q2, iv, ev, cv, xs2⟩ := y
              have hyd : d' = d := hyd
              subst hyd
              obtain ⟨ya, yc, hyv, _⟩ := hyin.i.row.shape
              have hyv : iv = .slice ya d'.imps.length yc := hyv
              subst hyv
              have hbx : Below W2.heap.size W2 (W2.alloc (.cells (mrow ⟨d', p, q2, .slice ya d'.imps.length yc, ev, cv, xs2⟩).toArray MdT)) := (Below.refl _ _).alloc (Nat.le_refl _) _
              have RUN := Lib.hid (box_md W2 ⟨d', p, q2, .slice ya d'.imps.length yc, ev, cv, xs2⟩ hyin.at_.ones)
              have HR : Hid (RowAt (W2.alloc (.cells (mrow ⟨d', p, q2, .slice ya d'.imps.length yc, ev, cv, xs2⟩).toArray MdT)) W2.heap.size MdT (mrow ⟨d', p, q2, .slice ya d'.imps.length yc, ev, cv, xs2⟩)) := RowAt.new W2 MdT _
              have HBX := Lib.hid (below_on (below_on HBK.out hb2 HBK.out.size) hbx (Nat.le_trans HBK.out.size hb2.size))
              have HIX : Hid (ElsAt 1 sRow (W2.alloc (.cells (mrow ⟨d', p, q2, .slice ya d'.imps.length yc, ev, cv, xs2⟩).toArray MdT)) (.slice ya d'.imps.length yc) d'.imps) := (hyin.at_.on hbx).i
              have hfi : d'.imps.length ≤ maxLen := by
                obtain ⟨_, _, h1, h2, h3⟩ := hyin.i.row.shape
                exact Nat.le_trans h2 h3
              clear hyin hb2 hbx HF
              generalize hyn : d'.imps.length = yn at *
              have HYN := Lib.hid hyn
              clear hyn
              go_upto_region 26 with (refine wpList_store_run _ rfl _ _ _ rfl _ _ rfl rfl (by exact RUN.out) ?_)
              clear RUN d0
              generalize W2.alloc (.cells (mrow ⟨d', p, q2, .slice ya yn yc, ev, cv, xs2⟩).toArray MdT) = W3 at *
              generalize W2.heap.size = mb at *
              have c10 : W3.cell? ⟨mb, 10, none⟩ = some (.slice ya yn yc) := HR.out.cell 10
              have HEN := Lib.hid (HEL.out.on HBX.out)
              have hfi2 : yn ≤ 9223372036854775807 := hfi
              clear HR hfi
              go_wp2_with fail
              go_loopw [15] (fun j w' => ∃ j' : Nat, j' ≤ yn ∧ j = .int .i64 j' ∧ W3 = w') (fun j _ => yn - (intOf j).toNat)
              case atStart => exact ⟨0, Nat.zero_le _, rfl, rfl⟩
              case round =>
                obtain ⟨j, hj, rfl, rfl⟩ := hrel
                by_cases hjl : j < yn
                · as_aux_lemma =>
                  obtain ⟨s2, hs2⟩ : ∃ s, d'.imps[j]? = some s := ⟨_, List.getElem?_eq_getElem (by rw [HYN.out]; exact hjl)⟩
                  obtain ⟨yb, yo, ycap, hyv, _, hc2⟩ := HIX.out.cell1 hs2 (c0 := .string s2) rfl
                  rw [HYN.out] at hyv
                  cases hyv
                  have HH := Lib.hid (lhas_any (.slice (some ⟨nb, 0, none⟩) z z) (nmsD D) s2 W3 HEN.out (by rw [HZN.out]; omega))
                  rw [has_yes (HCL.out s2 (List.mem_of_getElem? hs2))] at HH
                  have g3 : (j : Int) < (yn : Int) := by omega
                  have g4 : (0 : Int) ≤ (j : Int) := by omega
                  clear hs2
                  go_wp2_with fail
                  refine HH.out.mono ?_
                  rintro e W4 ⟨rfl, rfl⟩
                  go_wp2_with fail
                  go_roundw
                  case rel => exact ⟨j + 1, by omega, by go_num, by trivial⟩
                  case measure => simp [intOf]; omega
                · as_aux_lemma =>
                  obtain rfl : j = yn := by omega
                  go_wp2_with fail
                  go_roundw
                  case rel => exact ⟨k + 1, by omega, by go_num, HBX.out⟩
                  case measure => simp [intOf]; omega
            · as_aux_lemma =>
              obtain rfl : k = z := by omega
              have RES : Hid (St18 lo w wr tb l) := ⟨D, HT1.out.on HBK.out, HGD.out, below_on HB1.out HBK.out HB1.out.size, Nat.le_trans HL1.out HBK.out.size⟩
              go_wp2_with fail
              go_roundw
              case rel => exact ⟨i + 1, by omega, by go_num, RES⟩
              case measure => simp [intOf]; omega
        · as_aux_lemma =>
          obtain rfl : i = n := by omega
          obtain ⟨D, hT, hG, hB, hlo⟩ := HS1.out
          obtain ⟨a, rest, hD, ha, he⟩ := hG.first
          subst hD
          have HF := Lib.hid (find_told_yes nA 0 a wr hT (posV_at (k := 0) (by simp [ha]) (by simp)) rfl)
          have HBR := Lib.hid hB
          have HAE := Lib.hid he
          clear hT hG hB hlo ha he HS1
          go_wp2_with fail
          refine HF.out.mono ?_
          rintro e W2 ⟨y, rfl, hyd, hyin, hb2⟩
          obtain ⟨d, p, q2, iv, ev, cv, xs2⟩ := y
          have hyd : d = a := hyd
          subst hyd
          obtain ⟨u, hu, hul⟩ : ∃ u : ExX, xs2 = [u] ∧ u.l = l := by
            exact one_exp (hyin.same.trans HAE.out)
          subst hu
          obtain ⟨ea, ec, hev, _⟩ := hyin.e.row.shape
          have hev : ev = .slice ea 1 ec := hev
          subst hev
          have hbx : Below W2.heap.size W2 (W2.alloc (.cells (mrow ⟨d, p, q2, iv, .slice ea 1 ec, cv, [u]⟩).toArray MdT)) := (Below.refl _ _).alloc (Nat.le_refl _) _
          have RUN := Lib.hid (box_md W2 ⟨d, p, q2, iv, .slice ea 1 ec, cv, [u]⟩ hyin.at_.ones)
          have HR : Hid (RowAt (W2.alloc (.cells (mrow ⟨d, p, q2, iv, .slice ea 1 ec, cv, [u]⟩).toArray MdT)) W2.heap.size MdT (mrow ⟨d, p, q2, iv, .slice ea 1 ec, cv, [u]⟩)) := RowAt.new W2 MdT _
          have HBX := Lib.hid (below_on (below_on HBR.out hb2 HBR.out.size) hbx (Nat.le_trans HBR.out.size hb2.size))
          have HEX : Hid (ElsAt 3 exRow (W2.alloc (.cells (mrow ⟨d, p, q2, iv, .slice ea 1 ec, cv, [u]⟩).toArray MdT)) (.slice ea 1 ec) [u]) := (hyin.at_.on hbx).e
          have HLX : Hid (ElsAt 1 intRow (W2.alloc (.cells (mrow ⟨d, p, q2, iv, .slice ea 1 ec, cv, [u]⟩).toArray MdT)) u.v l) := by
            have h1 := (hyin.at_.on hbx).l u (List.mem_singleton.2 rfl)
            rw [hul] at h1
            exact h1
          clear hyin hb2 hbx HF HBR HAE hul
          go_upto_region 34 with (refine wpList_store_run _ rfl _ _ _ rfl _ _ rfl rfl (by exact RUN.out) ?_)
          clear RUN
          generalize W2.alloc (.cells (mrow ⟨d, p, q2, iv, .slice ea 1 ec, cv, [u]⟩).toArray MdT) = W3 at *
          generalize W2.heap.size = mb at *
          have c11 : W3.cell? ⟨mb, 11, none⟩ = some (.slice ea 1 ec) := HR.out.cell 11
          obtain ⟨eb, eo, ecap, hea, _, hec⟩ := HEX.out.cell (i := 0) rfl
          cases hea
          have c2 : W3.cell? ⟨eb, eo + 2, none⟩ = some u.v := by
            have := hec 2 (by decide)
            rw [show eo + (0 * 3 + 2) = eo + 2 by omega] at this
            exact this
          have HI := Lib.hid (nums_same u.v (.slice pa k pc) l l true W3 HLX.out (HG.out.on HBX.out) (by simp))
          generalize u.v = uv at *
          clear hec HEX HLX HR
          go_wp2_with fail
          refine HI.out.mono ?_
          rintro e W4 ⟨rfl, hd4⟩
          have RES := Lib.hid (below_on HBX.out (hd4.below _) HBX.out.size)
          clear hd4
          go_wp2_with fail
          go_ret
          exact ⟨rfl, RES.out⟩
end Go.Proofs.Ytiofplejpgahdaa
