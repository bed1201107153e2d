/-
  The walk of HeapBack (layer 5): it returns true and changes nothing that was there. No conditions.
-/
import Derived.Test.YtiloflgpflgjnaaBackA
import Derived.Deep.RegionHeld3
namespace Go.Proofs.Ytiloflgpflgjnaa
open Go.ChangeShapes Go.WideShapes Go.ChangeAt Go.RowKit

theorem errV0 : errV 0 = .nilIface := rfl
theorem errV1 : errV 1 = .iface 29 (.int .i64 1) := rfl
theorem errV9 : errV 9 = .iface 29 (.int .i64 9) := rfl

theorem moved_cell {w1 w2 : World} {p b i : Nat} {v v' x : Value} (hm : Moved w1 w2 p v v') (hn : ¬ foot p v b) (h : w1.cell? ⟨b, i, none⟩ = some x) : w2.cell? ⟨b, i, none⟩ = some x := (hm.1.cell (p := ⟨b, i, none⟩) (cell_lt h) hn).trans h
theorem moved_foot {w1 w2 : World} {p b : Nat} {v v' : Value} (hm : Moved w1 w2 p v v') (hn : ¬ foot p v b) (hb : b < w1.heap.size) : ¬ foot p v' b := fun hf => by
  rcases hf with hf | hf
  · exact hn (.inl hf)
  · rcases hm.2 b hf with h1 | h1
    · exact hn (.inr h1)
    · omega
/- numbers that came in -/
def IntsAt (w : World) (a : Option Addr) (n : Nat) (X : Nat → Int) : Prop := n = 0 ∨ ∃ b off, a = some ⟨b, off, none⟩ ∧ b < w.heap.size ∧ ∀ i, i < n → w.cell? ⟨b, off + i, none⟩ = some (.int .i64 (X i))
theorem ints_in {w : World} {a : Option Addr} {len cap : Nat} {zs : List Int} (h : (a = none ∧ len = 0 ∧ cap = 0 ∧ zs = []) ∨
    ∃ x, a = some x ∧ len ≤ cap ∧ cap ≤ maxLen ∧ zs.length = cap ∧ (∀ i, i < zs.length → w.cell? (x.add i) = some (.int .i64 (zs.getD i 0))) ∧ ∀ n ∈ zs, (Lit.int .i64 n).wf = true) : IntsAt w a len (fun i => zs.getD i 0) := by
  rcases h with ⟨rfl, rfl, rfl, rfl⟩ | ⟨ad, rfl, hl, hm, hz, hc, hw⟩
  · exact .inl rfl
  · rcases Nat.eq_zero_or_pos len with h0 | h0
    · exact .inl h0
    · obtain ⟨b, off, rfl, hcell⟩ := ints_at hc (by omega)
      exact .inr ⟨b, off, rfl, cell_lt (hcell 0 (by omega)), fun i hi => hcell i (by omega)⟩

/- a heap, blocks that were taken, and the holes as they were at first -/
structure Back1 (w w' : World) (p : Nat) (t : Int) (v tk hv : Value) (L D W : List (Int × Int)) : Prop where
  base : Back0 w w' p 0 t v tk L D
  had : SRow HT 2 w' hv W.length (pcs W)
  away : ∀ j, own hv j → ¬ foot p v j ∧ ¬ own tk j
theorem Back1.turn {w w1 w2 : World} {p : Nat} {t : Int} {v v' tk hv : Value} {L L' D W : List (Int × Int)} (h : Back1 w w1 p t v tk hv L D W) (hh : HeapAt w2 p 0 t v' L') (hm : Moved w1 w2 p v v') : Back1 w w2 p t v' tk hv L' D W :=
  ⟨h.base.moved hh hm, h.had.keep hm.1 (fun j hj => (h.away j hj).1), fun j hj => ⟨fun hf => by
    rcases hf with hf | hf
    · exact (h.away j hj).1 (.inl hf)
    · rcases hm.2 j hf with h1 | h1
      · exact (h.away j hj).1 (.inr h1)
      · have := h.had.own_lt j hj; omega, (h.away j hj).2⟩⟩
theorem Back1.still {w w1 w2 : World} {p : Nat} {t : Int} {v tk hv : Value} {L D W : List (Int × Int)} (h : Back1 w w1 p t v tk hv L D W) (hb : Below w1.heap.size w1 w2) : Back1 w w2 p t v tk hv L D W := h.turn (h.base.heap.below hb) (Moved.below hb p v)
theorem Back1.store {w w1 w2 : World} {p : Nat} {t : Int} {v tk tk' hv : Value} {L D D' W : List (Int × Int)} (h : Back1 w w1 p t v tk hv L D W) (hs : SRow DT 4 w2 tk' D'.length (dcs D')) (hst : Stored w1 w2 tk tk') : Back1 w w2 p t v tk' hv L D' W := by
  have fl := h.base.heap.foot_lt
  refine ⟨⟨h.base.heap.keep hst.1 (fun j hj hk => h.base.apart j hk hj), hs, fun j hj hf => ?_, fun j hj => ?_, hst.1.below h.base.below h.base.below.size (fun j _ hj => h.base.mine j (.inr hj))⟩, h.had.keep hst.1 (fun j hj => (h.away j hj).2), fun j hj => ⟨(h.away j hj).1, fun hk => ?_⟩⟩
  · rcases hst.2 j hj with h1 | h1
    · exact h.base.apart j h1 hf
    · have := fl j hf; omega
  · rcases hj with hj | hj
    · exact h.base.mine j (.inl hj)
    · rcases hst.2 j hj with h1 | h1
      · exact h.base.mine j (.inr h1)
      · have := h.base.below.size; omega
  · rcases hst.2 j hk with h1 | h1
    · exact (h.away j hj).2 h1
    · have := h.had.own_lt j hj; omega

set_option maxRecDepth 100000 in
set_option maxHeartbeats 1000000 in
theorem heapBack_bad (t turn : Int) (a : Option Addr) (n cap : Nat) (w : World) (h : ¬ (0 ≤ t ∧ t ≤ 65536 ∧ t % 4 = 0)) :
    Calls Try.prog 4 #[.int .i64 t, .slice a n cap, .int .i64 turn] w fun e w' => e = .returned (.bool true) ∧ Below w.heap.size w w' := by
  have HN := Lib.hid (fun w => heapNew_no 0 t w (by omega))
  clear h
  go_enter Try.func4, Try.ntmps4
  go_wp2_with fail
  refine (up05 _).mono ?_
  rintro e w0 ⟨rfl, b0⟩
  go_wp2_with fail
  refine (HN.out _).mono ?_
  rintro e w1 ⟨rfl, rfl⟩
  go_wp2_with fail
  go_ret
  exact ⟨rfl, b0⟩

set_option maxRecDepth 100000 in
set_option maxHeartbeats 1000000 in
theorem heapBack_big (t turn : Int) (a : Option Addr) (n cap : Nat) (w : World) (h : 0 ≤ t ∧ t ≤ 65536 ∧ t % 4 = 0) (hn : 60 < n) :
    Calls Try.prog 4 #[.int .i64 t, .slice a n cap, .int .i64 turn] w fun e w' => e = .returned (.bool true) ∧ Below w.heap.size w w' := by
  have HN := Lib.hid (fun w => heapNew_yes 0 t w (by omega))
  have e1 : (60 : Int) < (n : Int) := by omega
  clear h
  go_enter Try.func4, Try.ntmps4
  go_wp2_with fail
  refine (up05 _).mono ?_
  rintro e w0 ⟨rfl, b0⟩
  go_wp2_with fail
  refine (HN.out _).mono ?_
  rintro e w1 hF
  obtain ⟨p, v, rfl, hB⟩ := hF.back b0
  have HB := Lib.hid hB.below
  clear hF hB b0
  go_wp2_with fail
  go_ret
  exact ⟨rfl, HB.out⟩

def lenOfV : Value → Nat
  | .slice _ n _ => n
  | _ => 0
def BackRel1 (w wr : World) (p n : Nat) (t : Int) (hv tk i : Value) : Prop := ∃ (k : Nat) (v : Value) (L D : List (Int × Int)), k ≤ n ∧ i = .int .i64 k ∧ Back1 w wr p t v tk hv L D (whole 0 t) ∧ Parted t L D ∧ D.length ≤ k
def BackRel2 (w wr : World) (p : Nat) (t : Int) (hv tk : Value) : Prop := ∃ (v : Value) (L D : List (Int × Int)), Back1 w wr p t v tk hv L D (whole 0 t) ∧ Parted t L D ∧ D.length ≤ 60

set_option maxRecDepth 100000 in
set_option maxHeartbeats 4000000 in
theorem heapBack_small (t turn : Int) (a : Option Addr) (n cap : Nat) (X : Nat → Int) (w : World) (h : 0 ≤ t ∧ t ≤ 65536 ∧ t % 4 = 0) (hn : n ≤ 60) (hX : IntsAt w a n X) (hlo : -9223372036854775808 ≤ turn) (hhi : turn ≤ 9223372036854775807) :
    Calls Try.prog 4 #[.int .i64 t, .slice a n cap, .int .i64 turn] w fun e w' => e = .returned (.bool true) ∧ Below w.heap.size w w' := by
  have HN := Lib.hid (fun w => heapNew_yes 0 t w (by omega))
  have e1 : ¬ (60 : Int) < (n : Int) := by omega
  have e1' : ¬ 60 < n := by omega
  have HX := Lib.hid hX
  have HT4 := Lib.hid h.2.2
  have ht : 0 ≤ t ∧ t ≤ 65536 := by omega
  clear h hX
  go_enter Try.func4, Try.ntmps4
  go_wp2_with fail
  refine (up05 _).mono ?_
  rintro e w0 ⟨rfl, b0⟩
  go_wp2_with fail
  refine (HN.out _).mono ?_
  rintro e w1 hF
  obtain ⟨p, v1, rfl, hB⟩ := hF.back b0
  have B1 := Lib.hid hB
  clear hF hB b0 HN
  go_wp2_with fail
  refine (holes_any p 0 t v1 _ w1 B1.out.heap).mono ?_
  rintro e w2 ⟨hv, rfl, hS, hk, ho⟩
  have B2 : Hid (Back1 w w2 p t v1 (.slice none 0 0) hv (whole 0 t) [] (whole 0 t)) := ⟨B1.out.still hk.none, hS, fun j hj => ⟨fun hf => by have := B1.out.heap.foot_lt j hf; have := ho j hj; omega, fun hf => by simp [own] at hf⟩⟩
  clear hS hk ho B1
  go_wp2_with fail
  go_loopw [11, 12] (fun tk i wr => BackRel1 w wr p n t hv tk i) (fun _ i _ => n - (intOf i).toNat)
  case atStart => exact ⟨0, v1, _, [], Nat.zero_le _, rfl, B2.out, Parted.start, Nat.le_refl _⟩
  case round =>
    clear B2
    obtain ⟨k, v, L, D, hk, rfl, hB, hP, hD⟩ := hrel
    have HB := Lib.hid hB
    have HP := Lib.hid hP
    obtain ⟨tka, tkc, rfl, hc1, hc2⟩ := hB.base.row.shape
    have hc3 : tkc ≤ 9223372036854775807 := hc2
    clear hB hP hc2
    by_cases hlt : k < n
    · rcases HX.out with h0 | ⟨b, off, rfl, hbs, hcs⟩
      · omega
      · have c1 : wr.cell? ⟨b, off + k, none⟩ = some (.int .i64 (X k)) := (HB.out.base.below.cell (p := ⟨b, off + k, none⟩) hbs).trans (hcs k hlt)
        have C := Lib.hid (hcs k hlt)
        clear hcs
        generalize X k = size at *
        have e2 : (0 : Int) ≤ (k : Int) := by omega
        have e3 : (k : Int) < (n : Int) := by omega
        go_wp2_with fail
        refine (heap_take p 0 t size v L wr HB.out.base.heap).mono ?_
        rintro e w3 ⟨c, a, v', L', rfl, hh, hm, hway⟩
        have HB3 := Lib.hid (HB.out.turn hh hm)
        have HWY := Lib.hid hway
        clear hh hm c1
        rcases hway with ⟨rfl, rfl, rfl, _⟩ | ⟨rfl, rfl, rfl, _⟩ | ⟨rfl, hs, A, B, x, rfl, hA, hx, rfl, rfl⟩
        · rw [errV1]
          clear HWY
          go_wp2_with fail
          go_roundw
          case rel => exact ⟨k + 1, v', _, D, by omega, by go_num, HB3.out, HP.out, by omega⟩
          case measure => simp [intOf]; omega
        · rw [errV9]
          clear HWY
          go_wp2_with fail
          go_roundw
          case rel => exact ⟨k + 1, v', _, D, by omega, by go_num, HB3.out, HP.out, by omega⟩
          case measure => simp [intOf]; omega
        · rw [errV0]
          clear HWY
          obtain ⟨q, hq⟩ : ∃ q : Int, q = (size + 3) / 4 := ⟨_, rfl⟩
          have hz : up4 size = q * 4 := by rw [hq]; rfl
          rw [hz] at hx hA HB3
          have ex := HB.out.base.heap.tidy.each x (by simp)
          have hq1 : 0 < q ∧ q ≤ 16385 := by omega
          have s1 : IntKind.i64.wrap (size + 3) = size + 3 := IntWalk.i64_in _ (by omega)
          have s2 : (size + 3).tdiv 4 = q := by rw [Int.tdiv_eq_ediv_of_nonneg (by omega)]; exact hq.symm
          have c3 : w3.cell? ⟨b, off + k, none⟩ = some (.int .i64 size) := (HB3.out.base.below.cell (p := ⟨b, off + k, none⟩) hbs).trans C.out
          have HPF := Lib.hid (HP.out.free (x := x) (a := x.1) (n := q * 4) (by simp) rfl (by omega))
          have HPN := Lib.hid (HP.out.take HB.out.base.heap.tidy (by omega) (by omega) (by omega) hx)
          have t1 : ¬ x.1 < 0 := by omega
          have t2 : (x.1.tmod 4 != 0) = false := by have := tmod4' x.1; simp; omega
          have t2' : (x.1 % 4 != 0) = false := by simp; omega
          have t3 : ¬ t - q * 4 < x.1 := by omega
          have t4 : 0 ≤ x.1 ∧ x.1 ≤ 65536 := by omega
          have HDE := Lib.hid HP.out.each
          clear hq hz hx hA HB HP C ex
          generalize A ++ (rest_ x (q * 4) ++ B) = L' at *
          generalize x.1 = a0 at *
          go_wp2_with fail
          go_loopw [16] (fun j wr => ∃ m : Nat, m ≤ D.length ∧ j = .int .i64 m ∧ Hid (Drawn w3 wr)) (fun j _ => D.length - (intOf j).toNat)
          case atStart => exact ⟨0, Nat.zero_le _, rfl, Drawn.refl _⟩
          case round =>
            obtain ⟨m, hm, rfl, HD3⟩ := hrel
            have hrow := HB3.out.base.row.keep (S := fun _ => False) (Kept.drawn HD3.out) (fun _ _ h => h)
            by_cases hml : m < D.length
            · obtain ⟨bt, capt, hvt, hbt, _, _, hct⟩ := hrow.cell (by omega)
              obtain ⟨d, hd⟩ : ∃ d, D[m]? = some d := ⟨_, List.getElem?_eq_getElem hml⟩
              have d2 : wr.cell? ⟨bt, m * 4 + 2, none⟩ = some (.int .i64 d.1) := by rw [hct _ (by omega), (dcs_at D m).2.2.1, hd]; rfl
              have d3 : wr.cell? ⟨bt, m * 4 + 3, none⟩ = some (.int .i64 d.2) := by rw [hct _ (by omega), (dcs_at D m).2.2.2, hd]; rfl
              have hfr := HPF.out d (List.mem_of_getElem? hd)
              have hde := HDE.out d (List.mem_of_getElem? hd)
              have HVT := Lib.hid hvt
              clear hct hrow hd
              cases hvt
              clear HVT
              generalize d.1 = d1 at *
              generalize d.2 = d4 at *
              generalize hdl : D.length = dl at *
              have HDL := Lib.hid hdl
              clear hdl
              have i1 : (0 : Int) ≤ (m : Int) := by omega
              have i2 : (m : Int) < (dl : Int) := by omega
              have w1 : IntKind.i64.wrap (d1 + d4) = d1 + d4 := IntWalk.i64_in _ (by omega)
              have w2 : IntKind.i64.wrap (a0 + q * 4) = a0 + q * 4 := IntWalk.i64_in _ (by omega)
              by_cases hg : a0 < d1 + d4
              · have g1 : decide (a0 < d1 + d4) = true := by simpa using hg
                have g2 : decide (d1 < a0 + q * 4) = false := by simp; omega
                clear hfr
                go_wp2_with fail
                go_quiet (fail)
                go_wp2
                go_roundw
                case rel => exact ⟨m + 1, by omega, by go_num, HD3.out.more _⟩
                case measure => simp [intOf]; omega
              · have g1 : decide (a0 < d1 + d4) = false := by simpa using hg
                clear hfr
                go_wp2_with fail
                go_quiet (fail)
                go_wp2
                go_roundw
                case rel => exact ⟨m + 1, by omega, by go_num, HD3.out.more _⟩
                case measure => simp [intOf]; omega
            · obtain rfl : m = D.length := by omega
              have HB4 := Lib.hid (HB3.out.still (HD3.out.below _))
              obtain ⟨a2, n2, c2, w5, r0, r1, r2⟩ := deeds_more HB4.out.base.row (a0, q * 4) 22 (by omega)
              have HB5 := Lib.hid (HB4.out.store r1 r2)
              have hl5 : (D ++ [(a0, q * 4)]).length ≤ k + 1 := by simp; omega
              have hmm : ¬ D.length < D.length := by omega
              clear hrow hml r1 r2 HB4 HPF HDE hm
              generalize D.length = dl at *
              go_wp2_with (at_builtin; refine Lib.wpList_append_run _ rfl _ _ _ _ rfl _ _ rfl rfl _ _ r0 ?_)
              go_roundw
              case rel => exact ⟨k + 1, v', L', _, by omega, by go_num, HB5.out, HPN.out, hl5⟩
              case measure => simp [intOf]; omega
    · obtain rfl : k = n := by omega
      have R2 : Hid (BackRel2 w wr p t hv (.slice tka D.length tkc)) := ⟨v, L, D, HB.out, HP.out, by omega⟩
      clear HX hD hlt hk HB HP e1 hc1 hc3
      obtain ⟨tk0, htk⟩ : ∃ tk, tk = Value.slice tka D.length tkc := ⟨_, rfl⟩
      rw [← htk] at R2 ⊢
      clear htk
      go_wp2_with fail
      obtain ⟨wo, hwo⟩ : ∃ wo : World, wo = wr := ⟨_, rfl⟩
      clear hwo
      go_loopw [11] (fun tk wr => BackRel2 w wr p t hv tk) (fun tk _ => lenOfV tk)
      case atStart => exact R2.out
      case round =>
        clear R2
        obtain ⟨v, L, D, hB, hP, hD⟩ := hrel
        have HB := Lib.hid hB
        have HP := Lib.hid hP
        obtain ⟨ta, tc, rfl, hc1, hc2⟩ := hB.base.row.shape
        have hc3 : tc ≤ 9223372036854775807 := hc2
        clear hB hP hc2
        by_cases h0 : 0 < D.length
        · obtain ⟨q, hq, HPK⟩ := pick_nat turn D.length hlo hhi (by omega) (by omega)
          obtain ⟨d, hd⟩ : ∃ d, D[q]? = some d := ⟨_, List.getElem?_eq_getElem (by omega)⟩
          obtain ⟨D1, D2, rfl, hD1⟩ : ∃ D1 D2, D = D1 ++ d :: D2 ∧ D1.length = q := by
            have hql : q < D.length := by omega
            refine ⟨D.take q, D.drop (q + 1), ?_, by rw [List.length_take]; omega⟩
            have hde : D[q] = d := (List.getElem?_eq_some_iff.1 hd).2
            rw [← hde, ← List.drop_eq_getElem_cons hql, List.take_append_drop]
          subst hD1
          obtain ⟨b, cap, hvt, hb, _, _, hct⟩ := HB.out.base.row.cell h0
          have hlen : (D1 ++ d :: D2).length = D1.length + (D2.length + 1) := by simp
          cases hvt
          have d2 : wr.cell? ⟨b, D1.length * 4 + 2, none⟩ = some (.int .i64 d.1) := by rw [hct _ (by omega), (dcs_at _ _).2.2.1, hd]; rfl
          have d3 : wr.cell? ⟨b, D1.length * 4 + 3, none⟩ = some (.int .i64 d.2) := by rw [hct _ (by omega), (dcs_at _ _).2.2.2, hd]; rfl
          have hde := HP.out.each d (by simp)
          have hnb : ¬ foot p v b := HB.out.base.apart b (by simp [own])
          have SA : Hid ((wr.drew.cell? ⟨b, D1.length * 4 + 2, none⟩ = some (.int .i64 d.1) ∧ wr.drew.cell? ⟨b, D1.length * 4 + 3, none⟩ = some (.int .i64 d.2)) ∧ True) := ⟨⟨d2, d3⟩, trivial⟩
          have HG1 := Lib.hid (fun w' h => heap_give p 0 t d.1 d.2 v L w' h)
          have HBD := Lib.hid (HB.out.still (drew_below wr))
          have HZ : Hid (∀ c L', GiveWay 0 t L d.1 d.2 c L' → c = 0) := fun c L' hw => by
            rcases hw with ⟨_, _, h⟩ | ⟨h, _⟩
            · exact absurd (HP.out.may HB.out.base.heap.tidy (by simp) ht.2) h
            · exact h
          have HZ2 : Hid (∀ L' L'' c, GiveWay 0 t L d.1 d.2 0 L' → GiveWay 0 t L' d.1 d.2 c L'' → c = 1 ∧ L'' = L') := fun L' L'' c hw hw2 => by
            rcases hw2 with ⟨h1, h2, _⟩ | ⟨_, h, _⟩
            · exact ⟨h1, h2⟩
            · exact absurd h (again_no hw hde.2.1 hde.2.2.2.2)
          have HG2 := Lib.hid (fun v2 L2 w' h => heap_give p 0 t d.1 d.2 v2 L2 w' h)
          have HPG := Lib.hid (fun L' (hw : GiveWay 0 t L d.1 d.2 0 L') => HP.out.give hw)
          have HD1 := Lib.hid hlen
          rw [hlen] at hq h0 hD hc1 HPK ⊢
          clear hct hd d2 d3 hlen HP hde
          generalize hd1 : d.1 = y1 at *
          generalize hd2 : d.2 = y2 at *
          generalize hk1 : D1.length = k at *
          generalize hk2 : D2.length = m at *
          have HK1 := Lib.hid hk1
          have HK2 := Lib.hid hk2
          clear hd1 hd2 hk1 hk2
          have i1 : (0 : Int) ≤ (k : Int) := by omega
          have i2 : (k : Int) < (k : Int) + ((m : Int) + 1) := by omega
          have i3 : (0 : Int) < (k : Int) + ((m : Int) + 1) := by omega
          go_wp2_with fail
          refine (HPK.out _).mono ?_
          rintro e w' ⟨rfl, rfl⟩
          go_wp2_with fail
          refine wp_region_held_drew (S := fun w' => (w'.cell? ⟨b, k * 4 + 2, none⟩ = some (.int .i64 y1) ∧ w'.cell? ⟨b, k * 4 + 3, none⟩ = some (.int .i64 y2)) ∧ True) (by kernel_rfl) ?_ (fun hHeld => ?_)
          · exact SA.out
          refine wpAnyH_take (i := 0) (v := ?_) rfl (by kernel_rfl) (by kernel_rfl) (by kernel_rfl) (fun _ _ _ h => h) (Or.inl ⟨by rfl, ?_⟩) (by assumption) ?_
          rotate_left
          · intro w hSw
            (try dsimp only at hSw)
            go_simp
            (try with_reducible rfl)
          try simp only [Act.put, List.getElem_toArray, List.getElem_cons_zero, List.setIfInBounds_toArray, List.set_cons_zero, List.set_cons_succ]
          refine wpAnyH_take (i := 1) (v := ?_) rfl (by kernel_rfl) (by kernel_rfl) (by kernel_rfl) (fun _ _ _ h => h) (Or.inl ⟨by rfl, ?_⟩) (by assumption) ?_
          rotate_left
          · intro w hSw
            (try dsimp only at hSw)
            go_simp
            (try with_reducible rfl)
          try simp only [Act.put, List.getElem_toArray, List.getElem_cons_zero, List.getElem_cons_succ, List.setIfInBounds_toArray, List.set_cons_zero, List.set_cons_succ]
          refine wpAnyH_take (i := 2) (v := ?_) rfl (by kernel_rfl) (by kernel_rfl) (by kernel_rfl) (fun _ _ _ h => h) (Or.inl ⟨by rfl, ?_⟩) (by assumption) ?_
          rotate_left
          · intro w hSw
            (try dsimp only at hSw)
            go_simp
            (try with_reducible rfl)
          try simp only [Act.put, List.getElem_toArray, List.getElem_cons_zero, List.getElem_cons_succ, List.setIfInBounds_toArray, List.set_cons_zero, List.set_cons_succ]
          refine wpAnyH_take (i := 3) (v := ?_) rfl (by kernel_rfl) (by kernel_rfl) (by kernel_rfl) (fun _ _ _ h => h) (Or.inl ⟨by rfl, ?_⟩) (by assumption) ?_
          rotate_left
          · intro w hSw
            (try dsimp only at hSw)
            go_simp
            (try with_reducible rfl)
          try simp only [Act.put, List.getElem_toArray, List.getElem_cons_zero, List.getElem_cons_succ, List.setIfInBounds_toArray, List.set_cons_zero, List.set_cons_succ]
          refine wpAnyH_take (i := 4) (v := ?_) rfl (by kernel_rfl) (by kernel_rfl) (by kernel_rfl) (fun _ _ _ h => h) (Or.inl ⟨by rfl, ?_⟩) (by assumption) ?_
          rotate_left
          · intro w hSw
            (try dsimp only at hSw)
            go_simp
            (try with_reducible rfl)
          try simp only [Act.put, List.getElem_toArray, List.getElem_cons_zero, List.getElem_cons_succ, List.setIfInBounds_toArray, List.set_cons_zero, List.set_cons_succ]
          refine wpAnyH_take (i := 5) (v := ?_) rfl (by kernel_rfl) (by kernel_rfl) (by kernel_rfl) (fun _ _ _ h => h) (Or.inl ⟨by rfl, ?_⟩) (by assumption) ?_
          rotate_left
          · intro w hSw
            (try dsimp only at hSw)
            go_simp
            (try with_reducible rfl)
          try simp only [Act.put, List.getElem_toArray, List.getElem_cons_zero, List.getElem_cons_succ, List.setIfInBounds_toArray, List.set_cons_zero, List.set_cons_succ]
          refine wpAnyH_take (i := 6) (v := ?_) rfl (by kernel_rfl) (by kernel_rfl) (by kernel_rfl) (fun _ _ _ h => h) (Or.inl ⟨by rfl, ?_⟩) (by assumption) ?_
          rotate_left
          · intro w hSw
            (try dsimp only at hSw)
            go_simp
            (try with_reducible rfl)
          try simp only [Act.put, List.getElem_toArray, List.getElem_cons_zero, List.getElem_cons_succ, List.setIfInBounds_toArray, List.set_cons_zero, List.set_cons_succ]
          refine wpAnyH_take (i := 7) (v := ?_) rfl (by kernel_rfl) (by kernel_rfl) (by kernel_rfl) (fun _ _ _ h => h) (Or.inl ⟨by rfl, ?_⟩) (by assumption) ?_
          rotate_left
          · intro w hSw
            (try dsimp only at hSw)
            go_simp
            (try with_reducible rfl)
          try simp only [Act.put, List.getElem_toArray, List.getElem_cons_zero, List.getElem_cons_succ, List.setIfInBounds_toArray, List.set_cons_zero, List.set_cons_succ]
          refine wpAnyH_take (i := 8) (v := ?_) rfl (by kernel_rfl) (by kernel_rfl) (by kernel_rfl) (fun _ _ _ h => h) (Or.inl ⟨by rfl, ?_⟩) (by assumption) ?_
          rotate_left
          · intro w hSw
            (try dsimp only at hSw)
            go_simp
            (try with_reducible rfl)
          try simp only [Act.put, List.getElem_toArray, List.getElem_cons_zero, List.getElem_cons_succ, List.setIfInBounds_toArray, List.set_cons_zero, List.set_cons_succ]
          refine wpAnyH_take (i := 9) (v := ?_) rfl (by kernel_rfl) (by kernel_rfl) (by kernel_rfl) (fun _ _ _ h => h) (Or.inl ⟨by rfl, ?_⟩) (by assumption) ?_
          rotate_left
          · intro w hSw
            (try dsimp only at hSw)
            go_simp
            (try with_reducible rfl)
          try simp only [Act.put, List.getElem_toArray, List.getElem_cons_zero, List.getElem_cons_succ, List.setIfInBounds_toArray, List.set_cons_zero, List.set_cons_succ]
          refine wpAnyH_take (i := 10) (v := ?_) rfl (by kernel_rfl) (by kernel_rfl) (by kernel_rfl) (fun _ _ _ h => h) (Or.inl ⟨by rfl, ?_⟩) (by assumption) ?_
          rotate_left
          · intro w hSw
            (try dsimp only at hSw)
            go_simp
            (try with_reducible rfl)
          try simp only [Act.put, List.getElem_toArray, List.getElem_cons_zero, List.getElem_cons_succ, List.setIfInBounds_toArray, List.set_cons_zero, List.set_cons_succ]
          refine wpAnyH_ready (rs := [11]) (by kernel_rfl) (by simp) ?_
          refine AllReadyH.cons rfl (fun K hK => ?_) AllReadyH.nil
          go_simp
          refine (HG1.out _ HBD.out.base.heap).mono ?_
          rintro e we ⟨c, v2, L2, rfl, hh, hm, hw⟩
          obtain rfl := HZ.out _ _ hw
          rw [errV0]
          first | show K _ _ | go_wp2_with fail
          refine hK.out _ _ ?_ (fun hHeld1 => ?_)
          · exact ⟨⟨moved_cell hm hnb hHeld.1.1, moved_cell hm hnb hHeld.1.2⟩, trivial⟩
          clear hK K
          try simp only [Act.put, List.getElem_toArray, List.getElem_cons_zero, List.getElem_cons_succ, List.setIfInBounds_toArray, List.set_cons_zero, List.set_cons_succ]
          refine wpAnyH_take (i := 12) (v := ?_) rfl (by kernel_rfl) (by kernel_rfl) (by kernel_rfl) (fun _ _ _ h => h) (Or.inl ⟨by rfl, ?_⟩) (by assumption) ?_
          rotate_left
          · intro w hSw
            (try dsimp only at hSw)
            go_simp
            (try with_reducible rfl)
          try simp only [Act.put, List.getElem_toArray, List.getElem_cons_zero, List.getElem_cons_succ, List.setIfInBounds_toArray, List.set_cons_zero, List.set_cons_succ]
          refine wpAnyH_take (i := 13) (v := ?_) rfl (by kernel_rfl) (by kernel_rfl) (by kernel_rfl) (fun _ _ _ h => h) (Or.inl ⟨by rfl, ?_⟩) (by assumption) ?_
          rotate_left
          · intro w hSw
            (try dsimp only at hSw)
            go_simp
            (try with_reducible rfl)
          try simp only [Act.put, List.getElem_toArray, List.getElem_cons_zero, List.getElem_cons_succ, List.setIfInBounds_toArray, List.set_cons_zero, List.set_cons_succ]
          refine wpAnyH_take (i := 14) (v := ?_) rfl (by kernel_rfl) (by kernel_rfl) (by kernel_rfl) (fun _ _ _ h => h) (Or.inl ⟨by rfl, ?_⟩) (by assumption) ?_
          rotate_left
          · intro w hSw
            (try dsimp only at hSw)
            go_simp
            (try with_reducible rfl)
          try simp only [Act.put, List.getElem_toArray, List.getElem_cons_zero, List.getElem_cons_succ, List.setIfInBounds_toArray, List.set_cons_zero, List.set_cons_succ]
          refine wpAnyH_take (i := 15) (v := ?_) rfl (by kernel_rfl) (by kernel_rfl) (by kernel_rfl) (fun _ _ _ h => h) (Or.inl ⟨by rfl, ?_⟩) (by assumption) ?_
          rotate_left
          · intro w hSw
            (try dsimp only at hSw)
            go_simp
            (try with_reducible rfl)
          try simp only [Act.put, List.getElem_toArray, List.getElem_cons_zero, List.getElem_cons_succ, List.setIfInBounds_toArray, List.set_cons_zero, List.set_cons_succ]
          refine wpAnyH_take (i := 16) (v := ?_) rfl (by kernel_rfl) (by kernel_rfl) (by kernel_rfl) (fun _ _ _ h => h) (Or.inl ⟨by rfl, ?_⟩) (by assumption) ?_
          rotate_left
          · intro w hSw
            (try dsimp only at hSw)
            go_simp
            (try with_reducible rfl)
          try simp only [Act.put, List.getElem_toArray, List.getElem_cons_zero, List.getElem_cons_succ, List.setIfInBounds_toArray, List.set_cons_zero, List.set_cons_succ]
          refine wpAnyH_take (i := 17) (v := ?_) rfl (by kernel_rfl) (by kernel_rfl) (by kernel_rfl) (fun _ _ _ h => h) (Or.inl ⟨by rfl, ?_⟩) (by assumption) ?_
          rotate_left
          · intro w hSw
            (try dsimp only at hSw)
            go_simp
            (try with_reducible rfl)
          try simp only [Act.put, List.getElem_toArray, List.getElem_cons_zero, List.getElem_cons_succ, List.setIfInBounds_toArray, List.set_cons_zero, List.set_cons_succ]
          refine wpAnyH_take (i := 18) (v := ?_) rfl (by kernel_rfl) (by kernel_rfl) (by kernel_rfl) (fun _ _ _ h => h) (Or.inl ⟨by rfl, ?_⟩) (by assumption) ?_
          rotate_left
          · intro w hSw
            (try dsimp only at hSw)
            go_simp
            (try with_reducible rfl)
          try simp only [Act.put, List.getElem_toArray, List.getElem_cons_zero, List.getElem_cons_succ, List.setIfInBounds_toArray, List.set_cons_zero, List.set_cons_succ]
          refine wpAnyH_take (i := 19) (v := ?_) rfl (by kernel_rfl) (by kernel_rfl) (by kernel_rfl) (fun _ _ _ h => h) (Or.inl ⟨by rfl, ?_⟩) (by assumption) ?_
          rotate_left
          · intro w hSw
            (try dsimp only at hSw)
            go_simp
            (try with_reducible rfl)
          try simp only [Act.put, List.getElem_toArray, List.getElem_cons_zero, List.getElem_cons_succ, List.setIfInBounds_toArray, List.set_cons_zero, List.set_cons_succ]
          refine wpAnyH_take (i := 20) (v := ?_) rfl (by kernel_rfl) (by kernel_rfl) (by kernel_rfl) (fun _ _ _ h => h) (Or.inl ⟨by rfl, ?_⟩) (by assumption) ?_
          rotate_left
          · intro w hSw
            (try dsimp only at hSw)
            go_simp
            (try with_reducible rfl)
          try simp only [Act.put, List.getElem_toArray, List.getElem_cons_zero, List.getElem_cons_succ, List.setIfInBounds_toArray, List.set_cons_zero, List.set_cons_succ]
          refine wpAnyH_take (i := 21) (v := ?_) rfl (by kernel_rfl) (by kernel_rfl) (by kernel_rfl) (fun _ _ _ h => h) (Or.inl ⟨by rfl, ?_⟩) (by assumption) ?_
          rotate_left
          · intro w hSw
            (try dsimp only at hSw)
            go_simp
            (try with_reducible rfl)
          try simp only [Act.put, List.getElem_toArray, List.getElem_cons_zero, List.getElem_cons_succ, List.setIfInBounds_toArray, List.set_cons_zero, List.set_cons_succ]
          refine wpAnyH_take (i := 22) (v := ?_) rfl (by kernel_rfl) (by kernel_rfl) (by kernel_rfl) (fun _ _ _ h => h) (Or.inl ⟨by rfl, ?_⟩) (by assumption) ?_
          rotate_left
          · intro w hSw
            (try dsimp only at hSw)
            go_simp
            (try with_reducible rfl)
          try simp only [Act.put, List.getElem_toArray, List.getElem_cons_zero, List.getElem_cons_succ, List.setIfInBounds_toArray, List.set_cons_zero, List.set_cons_succ]
          refine wpAnyH_take (i := 23) (v := ?_) rfl (by kernel_rfl) (by kernel_rfl) (by kernel_rfl) (fun _ _ _ h => h) (Or.inl ⟨by rfl, ?_⟩) (by assumption) ?_
          rotate_left
          · intro w hSw
            (try dsimp only at hSw)
            go_simp
            (try with_reducible rfl)
          try simp only [Act.put, List.getElem_toArray, List.getElem_cons_zero, List.getElem_cons_succ, List.setIfInBounds_toArray, List.set_cons_zero, List.set_cons_succ]
          refine wpAnyH_take (i := 24) (v := ?_) rfl (by kernel_rfl) (by kernel_rfl) (by kernel_rfl) (fun _ _ _ h => h) (Or.inl ⟨by rfl, ?_⟩) (by assumption) ?_
          rotate_left
          · intro w hSw
            (try dsimp only at hSw)
            go_simp
            (try with_reducible rfl)
          try simp only [Act.put, List.getElem_toArray, List.getElem_cons_zero, List.getElem_cons_succ, List.setIfInBounds_toArray, List.set_cons_zero, List.set_cons_succ]
          refine wpAnyH_ready (rs := [25]) (by kernel_rfl) (by simp) ?_
          refine AllReadyH.cons rfl (fun K hK => ?_) AllReadyH.nil
          go_simp
          refine (HG2.out v2 L2 _ hh).mono ?_
          rintro e we2 ⟨c, v3, L3, rfl, hh2, hm2, hw2⟩
          obtain ⟨rfl, rfl⟩ := HZ2.out _ _ _ hw hw2
          rw [errV1]
          first | show K _ _ | go_wp2_with fail
          refine hK.out _ _ ?_ (fun hHeld2 => ?_)
          · exact ⟨⟨moved_cell hm2 (moved_foot hm hnb (cell_lt hHeld.1.1)) hHeld1.1.1, moved_cell hm2 (moved_foot hm hnb (cell_lt hHeld.1.1)) hHeld1.1.2⟩, trivial⟩
          clear hK K
          try simp only [Act.put, List.getElem_toArray, List.getElem_cons_zero, List.getElem_cons_succ, List.setIfInBounds_toArray, List.set_cons_zero, List.set_cons_succ]
          refine wpAnyH_take (i := 26) (v := ?_) rfl (by kernel_rfl) (by kernel_rfl) (by kernel_rfl) (fun _ _ _ h => h) (Or.inl ⟨by rfl, ?_⟩) (by assumption) ?_
          rotate_left
          · intro w hSw
            (try dsimp only at hSw)
            go_simp
            (try with_reducible rfl)
          try simp only [Act.put, List.getElem_toArray, List.getElem_cons_zero, List.getElem_cons_succ, List.setIfInBounds_toArray, List.set_cons_zero, List.set_cons_succ]
          refine wpAnyH_take (i := 27) (v := ?_) rfl (by kernel_rfl) (by kernel_rfl) (by kernel_rfl) (fun _ _ _ h => h) (Or.inl ⟨by rfl, ?_⟩) (by assumption) ?_
          rotate_left
          · intro w hSw
            (try dsimp only at hSw)
            go_simp
            (try with_reducible rfl)
          try simp only [Act.put, List.getElem_toArray, List.getElem_cons_zero, List.getElem_cons_succ, List.setIfInBounds_toArray, List.set_cons_zero, List.set_cons_succ]
          refine wpAnyH_done (by kernel_rfl) ?_ _
          have HB2 := Lib.hid ((HBD.out.turn hh hm).turn hh2 hm2)
          have HPN := Lib.hid (HPG.out _ hw)
          clear hHeld hHeld1 hHeld2 hh hm hw hh2 hm2 hw2 HBD HB SA HG1 HG2 HZ HZ2 HPG hnb
          obtain ⟨ad, had⟩ : ∃ ad : Addr, (if tc = k + 1 then some (⟨b, 0, none⟩ : Addr) else some ⟨b, (k + 1) * 4, none⟩) = some ad := by
            by_cases hc : tc = k + 1
            · exact ⟨_, by rw [if_pos hc]⟩
            · exact ⟨_, by rw [if_neg hc]⟩
          have HB3 := Lib.hid (HB2.out.still (drew_below we2))
          obtain ⟨a1, c1, w3, a2, m2, c3, w4, r0, r1, r2, r3, r4⟩ := deeds_less HB3.out.base.row 22 (by rw [HK1.out, HK2.out]; omega) ad (by rw [HK1.out]; exact had) (tc - (k + 1))
          have HB4 := Lib.hid (HB3.out.store r2 ⟨Kept.of_below r3, fun j hj => .inr (r4 j hj)⟩)
          have HL4 : Hid (lenOfV (.slice a2 m2 c3) < k + (m + 1) ∧ (D1 ++ D2).length ≤ 60) := by
            obtain ⟨x1, x2, hx, _, _⟩ := r2.shape
            cases hx
            have l1 : (D1 ++ D2).length = k + m := by rw [List.length_append, HK1.out, HK2.out]
            exact ⟨by rw [show lenOfV (Value.slice a2 (D1 ++ D2).length c3) = (D1 ++ D2).length from rfl, l1]; omega, by rw [l1]; omega⟩
          rw [HK1.out] at r0 r1
          rw [HK2.out] at r1
          clear HB2 HB3 r2 r3 r4
          have j1 : IntKind.i64.wrap ((k : Int) + 1) = (k : Int) + 1 := IntWalk.i64_in _ (by omega)
          have j2 : ((k : Int) + 1).toNat = k + 1 := by omega
          have j3 : (0 : Int) ≤ (k : Int) + 1 := by omega
          have j4 : (k : Int) + 1 ≤ ((k + (m + 1) : Nat) : Int) := by omega
          have j5 : k + (m + 1) - (k + 1) = m := by omega
          have j6 : (k : Int) + 1 ≤ (k : Int) + ((m : Int) + 1) := by omega
          have j7 : k ≤ tc := by omega
          have j8 : (k : Int) ≤ (tc : Int) := by omega
          go_wp2_with fail
          refine wp_region_held_drew (S := fun _ => True) (by kernel_rfl) ?_ (fun hHeld => ?_)
          · trivial
          refine wpAnyH_take (i := 1) (v := ?_) rfl (by kernel_rfl) (by kernel_rfl) (by kernel_rfl) (fun _ _ _ h => h) (Or.inl ⟨by rfl, ?_⟩) (by assumption) ?_
          rotate_left
          · intro w hSw
            (try dsimp only at hSw)
            go_simp
            (try with_reducible rfl)
          try simp only [Act.put, List.getElem_toArray, List.getElem_cons_zero, List.getElem_cons_succ, List.setIfInBounds_toArray, List.set_cons_zero, List.set_cons_succ]
          refine wpAnyH_take (i := 2) (v := ?_) rfl (by kernel_rfl) (by kernel_rfl) (by kernel_rfl) (fun _ _ _ h => h) (Or.inl ⟨by rfl, ?_⟩) (by assumption) ?_
          rotate_left
          · intro w hSw
            (try dsimp only at hSw)
            go_simp
            (try with_reducible rfl)
          try simp only [Act.put, List.getElem_toArray, List.getElem_cons_zero, List.getElem_cons_succ, List.setIfInBounds_toArray, List.set_cons_zero, List.set_cons_succ]
          refine wpAnyH_take (i := 3) (v := ?_) rfl (by kernel_rfl) (by kernel_rfl) (by kernel_rfl) (fun _ _ _ h => h) (Or.inl ⟨by rfl, ?_⟩) (by assumption) ?_
          rotate_left
          · intro w hSw
            (try dsimp only at hSw)
            go_simp
            (try with_reducible rfl)
          try simp only [Act.put, List.getElem_toArray, List.getElem_cons_zero, List.getElem_cons_succ, List.setIfInBounds_toArray, List.set_cons_zero, List.set_cons_succ]
          refine wpAnyH_take (i := 5) (v := ?_) rfl (by kernel_rfl) (by kernel_rfl) (by kernel_rfl) (fun _ _ _ h => h) (Or.inl ⟨by rfl, ?_⟩) (by assumption) ?_
          rotate_left
          · intro w hSw
            (try dsimp only at hSw)
            go_simp
            (try with_reducible rfl)
          try simp only [Act.put, List.getElem_toArray, List.getElem_cons_zero, List.getElem_cons_succ, List.setIfInBounds_toArray, List.set_cons_zero, List.set_cons_succ]
          refine wpAnyH_take (i := 6) (v := ?_) rfl (by kernel_rfl) (by kernel_rfl) (by kernel_rfl) (fun _ _ _ h => h) (Or.inl ⟨by rfl, ?_⟩) (by assumption) ?_
          rotate_left
          · intro w hSw
            (try dsimp only at hSw)
            go_simp
            (try with_reducible rfl)
          try simp only [Act.put, List.getElem_toArray, List.getElem_cons_zero, List.getElem_cons_succ, List.setIfInBounds_toArray, List.set_cons_zero, List.set_cons_succ]
          refine wpAnyH_take (i := 7) (v := ?_) rfl (by kernel_rfl) (by kernel_rfl) (by kernel_rfl) (fun _ _ _ h => h) (Or.inl ⟨by rfl, ?_⟩) (by assumption) ?_
          rotate_left
          · intro w hSw
            (try dsimp only at hSw)
            go_simp
            (try with_reducible rfl)
          try simp only [Act.put, List.getElem_toArray, List.getElem_cons_zero, List.getElem_cons_succ, List.setIfInBounds_toArray, List.set_cons_zero, List.set_cons_succ]
          refine wpAnyH_take (i := 8) (v := ?_) rfl (by kernel_rfl) (by kernel_rfl) (by kernel_rfl) (fun _ _ _ h => h) (Or.inl ⟨by rfl, ?_⟩) (by assumption) ?_
          rotate_left
          · intro w hSw
            (try dsimp only at hSw)
            go_simp
            (try with_reducible rfl)
          try simp only [Act.put, List.getElem_toArray, List.getElem_cons_zero, List.getElem_cons_succ, List.setIfInBounds_toArray, List.set_cons_zero, List.set_cons_succ]
          refine wpAnyH_ready (rs := [0]) (by kernel_rfl) (by simp) ?_
          refine AllReadyH.cons rfl (fun K hK => ?_) AllReadyH.nil
          go_simp
          refine hK.out _ _ ?_ (fun hHeld1 => ?_)
          · trivial
          clear hK K
          try simp only [Act.put, List.getElem_toArray, List.getElem_cons_zero, List.setIfInBounds_toArray, List.set_cons_zero, List.set_cons_succ]
          refine wpAnyH_ready (rs := [4]) (by kernel_rfl) (by simp) ?_
          refine AllReadyH.cons rfl (fun K hK => ?_) AllReadyH.nil
          refine step_append rfl (.tmp 154) (.tmp 157) 22 22 rfl _ _ (by simp [Act.eval]) (by simp [Act.eval]) r0 ?_
          refine hK.out _ _ ?_ (fun hHeld2 => ?_)
          · trivial
          clear hK K
          try simp only [Act.put, List.getElem_toArray, List.getElem_cons_zero, List.getElem_cons_succ, List.setIfInBounds_toArray, List.set_cons_zero, List.set_cons_succ]
          refine wpAnyH_ready (rs := [9]) (by kernel_rfl) (by simp) ?_
          refine AllReadyH.cons rfl (fun K hK => ?_) AllReadyH.nil
          refine step_append rfl (.tmp 158) (.tmp 162) 22 22 rfl _ _ (by simp [Act.eval]) (by simp [Act.eval]) r1 ?_
          refine hK.out _ _ ?_ (fun hHeld3 => ?_)
          · trivial
          clear hK K
          try simp only [Act.put, List.getElem_toArray, List.getElem_cons_zero, List.getElem_cons_succ, List.setIfInBounds_toArray, List.set_cons_zero, List.set_cons_succ]
          refine wpAnyH_take (i := 10) (v := ?_) rfl (by kernel_rfl) (by kernel_rfl) (by kernel_rfl) (fun _ _ _ h => h) (Or.inl ⟨by rfl, ?_⟩) (by assumption) ?_
          rotate_left
          · intro w hSw
            (try dsimp only at hSw)
            go_simp
            (try with_reducible rfl)
          try simp only [Act.put, List.getElem_toArray, List.getElem_cons_zero, List.getElem_cons_succ, List.setIfInBounds_toArray, List.set_cons_zero, List.set_cons_succ]
          refine wpAnyH_done (by kernel_rfl) ?_ _
          go_wp2
          go_roundw
          case rel => exact ⟨_, _, _, HB4.out, HPN.out, HL4.out.2⟩
          case measure => exact HL4.out.1
        · have hDn : D = [] := List.eq_nil_of_length_eq_zero (by omega)
          subst hDn
          have hw0 := HP.out.end_ HB.out.base.heap.tidy HT4.out
          subst hw0
          clear HP h0
          have e5 : ¬ (0 : Int) < 0 := by omega
          go_wp2_with fail
          refine (holes_any p 0 t v _ wr HB.out.base.heap).mono ?_
          rintro e w6 ⟨v6, rfl, hS, hk, -⟩
          have HB6 := Lib.hid (HB.out.still hk.none)
          have HS := Lib.hid hS
          clear hS hk HB
          go_wp2_with fail
          refine (as_any v6 _ w6 HS.out (by have := HB6.out.base.heap.few; omega)).mono ?_
          rintro e w7 ⟨v7, rfl, hG⟩
          have HB7 := Lib.hid (HB6.out.still hG.2.2)
          have HG7 := Lib.hid hG
          clear hG HS
          go_wp2_with fail
          refine (as_any hv _ w7 HB7.out.had (by have := HB6.out.base.heap.few; omega)).mono ?_
          rintro e w8 ⟨v8, rfl, hG⟩
          have HB8 := Lib.hid (HB7.out.still hG.2.2)
          have HR := Lib.hid (HG7.out.1.keep (Kept.of_below (S := fun _ => False) hG.2.2) (fun _ _ h => h))
          have HG8 := Lib.hid hG
          clear hG
          go_wp2_with fail
          refine (same_yes v7 v8 _ w8 HR.out HG8.out.1).mono ?_
          rintro e w9 ⟨rfl, hd⟩
          have HE := Lib.hid ((hd.below w.heap.size))
          clear hd
          go_wp2_with fail
          go_ret
          exact ⟨rfl, HB8.out.base.below.trans HE.out⟩

theorem heapBack_walk (t : Int) (a : Option Addr) (n cap : Nat) (zs : List Int) (turn : Int) (w : World) (_w0 : (Lit.int .i64 t).wf = true)
    (hz : (a = none ∧ n = 0 ∧ cap = 0 ∧ zs = []) ∨ ∃ x, a = some x ∧ n ≤ cap ∧ cap ≤ maxLen ∧ zs.length = cap ∧ (∀ i, i < zs.length → w.cell? (x.add i) = some (.int .i64 (zs.getD i 0))) ∧ ∀ n ∈ zs, (Lit.int .i64 n).wf = true) (w2 : (Lit.int .i64 turn).wf = true) :
    Calls Try.prog 4 #[.int .i64 t, .slice a n cap, .int .i64 turn] w fun e w' => e = .returned (.bool true) ∧ Below w.heap.size w w' := by
  have b := bounds_i64 w2
  by_cases h : 0 ≤ t ∧ t ≤ 65536 ∧ t % 4 = 0
  · by_cases hn : n ≤ 60
    · exact heapBack_small t turn a n cap _ w h hn (ints_in hz) b.1 b.2
    · exact heapBack_big t turn a n cap w h (by omega)
  · exact heapBack_bad t turn a n cap w h
end Go.Proofs.Ytiloflgpflgjnaa
