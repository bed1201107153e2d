/-
  The walk of DescTells (layer 16): true at any line, any type. No conditions.
-/
import Derived.Test.YtnnbcbabhcomjaaDeU
import Derived.Test.YtnnbcbabhcomjaaObjS
import Derived.Test.YtnnbcbabhcomjaaStru
import Derived.Lib.AppendZeros
namespace Go.Proofs.Ytnnbcbabhcomjaa
open Go.ChangeShapes Go.WideShapes Go.ChangeAt Go.RowKit

/- append(append([]int{}, base..), at) -/
theorem append_two (wr : World) (v : Value) (base : List Int) (at_ : Int) (h : ElsAt 1 intRow wr v base) (hb : base.length ≤ 50) :
    ∃ a1 c1 w1 v2 w2, (Builtin.append_ #[22, 22] 22 #[.slice (some ⟨wr.heap.size, 0, none⟩) 0 0, v]).run Try.prog (wr.alloc (.cells #[] InT)) = .ok (.slice a1 base.length c1) w1 ∧
      (Builtin.append_ #[22, 22] 22 #[.slice a1 base.length c1, .slice (some ⟨w1.heap.size, 0, none⟩) 1 1]).run Try.prog (w1.alloc (.cells #[.int .i64 at_] InT)) = .ok v2 w2 ∧ ElsAt 1 intRow w2 v2 (base ++ [at_]) ∧ Below wr.heap.size wr w2 := by
  have hb0 : Below wr.heap.size wr (wr.alloc (.cells #[] InT)) := (Below.refl _ _).alloc (Nat.le_refl _) _
  obtain ⟨v1, w1, q0, q1, q2, _⟩ := append_els (T := 22) Try.underlying22 info_in rfl (by decide) intRow_len intRow_one (by decide) (SRow.empty InT 1 intRow wr) (h.on hb0) (by simp) (by simp; omega)
  rw [List.nil_append] at q1
  obtain ⟨a1, c1, rfl, _⟩ := q1.shape
  have hb1 : Below wr.heap.size wr w1 := q2.1.below hb0 hb0.size fun j _ hj => by have e : j = wr.heap.size := hj; omega
  have hf : ∀ j, own (.slice a1 base.length c1) j → wr.heap.size ≤ j := fun j hj => by
    rcases q2.2 j hj with e | e
    · have e : j = wr.heap.size := e
      omega
    · exact Nat.le_trans hb0.size e
  obtain ⟨v2, w2, r0, r1, r2⟩ := more_el (T := 22) Try.underlying22 info_in rfl (by decide) intRow_len intRow_one q1 at_ (by omega)
  exact ⟨a1, c1, w1, v2, w2, q0, r0, r1.els intRow_len, r2.1.below hb1 hb1.size fun j _ hj => hf j hj⟩
set_option maxRecDepth 100000 in
set_option maxHeartbeats 8000000 in
theorem descTells_all (v u : Value) (base line : List Int) (at_ size : Int) (w : World) (h : ElsAt 1 intRow w v base) (g : ElsAt 1 intRow w u line) :
    Calls Try.prog 3 #[v, .int .i64 at_, .int .i64 size, u] w fun e w' => e = .returned (.bool true) ∧ Below w.heap.size w w' := by
  have HA := Lib.hid h
  have HC := Lib.hid g
  obtain ⟨a1, c1, hv1, _⟩ := h.shape
  obtain ⟨n1, hn1⟩ : ∃ n, n = base.length := ⟨_, rfl⟩
  rw [← hn1] at hv1
  have HN1 := Lib.hid hn1
  obtain ⟨a2, c2, hv2, _⟩ := g.shape
  obtain ⟨n2, hn2⟩ : ∃ n, n = line.length := ⟨_, rfl⟩
  rw [← hn2] at hv2
  have HN2 := Lib.hid hn2
  subst hv1 hv2
  clear h g hn1 hn2
  go_enter Try.func3, Try.ntmps3
  go_wp2_with fail
  refine (up16 w).mono ?_
  rintro e w1 ⟨rfl, hb1⟩
  have HB := Lib.hid hb1
  clear hb1
  by_cases h50 : 50 < (n1 : Int)
  · as_aux_lemma =>
    go_wp2_with fail
    go_ret
    exact ⟨rfl, HB.out⟩
  by_cases k50 : 50 < (n2 : Int)
  · as_aux_lemma =>
    have k50' : decide (50 < (n2 : Int)) = true := by simpa using k50
    go_wp2_with fail
    go_ret
    exact ⟨rfl, HB.out⟩
  have k50' : decide (50 < (n2 : Int)) = false := by simpa using k50
  have HWY : Hid (1 ≤ line.length → line.length ≤ 4 → ∀ w' : World, Below w.heap.size w w' → Calls Try.prog 8 #[.int .i64 size, .slice a2 n2 c2] w' fun e w'' => ∃ v', e = .returned (.tuple #[v', .nilIface]) ∧ ElsAt 1 wordRow w'' v' (descW size line) ∧ Below w'.heap.size w' w'') := fun q1 q4 w' hb => words_yes size _ line w' (HC.out.on hb) q1 q4
  have HWN : Hid (line.length < 1 ∨ 4 < line.length → ∀ w' : World, Below w.heap.size w w' → Calls Try.prog 8 #[.int .i64 size, .slice a2 n2 c2] w' fun e w'' => e = .returned (.tuple #[.slice none 0 0, formV]) ∧ Below w'.heap.size w' w'') := fun q w' hb => words_no size _ line w' (HC.out.on hb) q
  have q1 := form_eql
  have q2 := form_neq
  have s1 : n1 ≤ 50 := by omega
  have s2 : n2 ≤ 50 := by omega
  by_cases h3 : 3 < (n1 : Int)
  · have HLN := Lib.hid (line_no _ base at_ w1 (HA.out.on HB.out) (by have := HN1.out; omega))
    go_wp2_with fail
    refine HLN.out.mono ?_
    rintro e w2 ⟨rfl, hb2⟩
    have HB2 := Lib.hid (below_on HB.out hb2 HB.out.size)
    clear hb2 HB HLN h50 k50 k50'
    by_cases hl : line.length < 1 ∨ 4 < line.length
    · as_aux_lemma =>
      have HW := Lib.hid (HWN.out hl w2 HB2.out)
      clear HWY HWN
      rcases hl with hl | hl
      · have g1 : (n2 : Int) < 1 := by have := HN2.out; omega
        go_wp2_with fail
        refine HW.out.mono ?_
        rintro e w3 ⟨rfl, hb3⟩
        have RES := Lib.hid (below_on HB2.out hb3 HB2.out.size)
        clear hb3 HB2 HW hl
        go_wp2_with fail
        go_ret
        exact ⟨rfl, RES.out⟩
      · have g1 : ¬ (n2 : Int) < 1 := by have := HN2.out; omega
        have g2 : decide (4 < (n2 : Int)) = true := by have := HN2.out; simp; omega
        go_wp2_with fail
        refine HW.out.mono ?_
        rintro e w3 ⟨rfl, hb3⟩
        have RES := Lib.hid (below_on HB2.out hb3 HB2.out.size)
        clear hb3 HB2 HW hl
        go_wp2_with fail
        go_ret
        exact ⟨rfl, RES.out⟩
    have hl1 : 1 ≤ line.length := by omega
    have hl4 : line.length ≤ 4 := by omega
    have HW := Lib.hid (HWY.out hl1 hl4 w2 HB2.out)
    have g1 : ¬ (n2 : Int) < 1 := by have := HN2.out; omega
    have g2 : decide (4 < (n2 : Int)) = false := by have := HN2.out; simp; omega
    clear HWY HWN
    go_wp2_with fail
    refine HW.out.mono ?_
    rintro e w3 ⟨v3, rfl, hd3, hb3⟩
    have HB3 := Lib.hid (below_on HB2.out hb3 HB2.out.size)
    obtain ⟨b, off, cap, e1, hlt, d0⟩ := hd3.cell1 (i := 0) (x := lowU size) (c0 := .int .u32 (size % 4294967296)) rfl (by rw [← lowU_int]; rfl)
    rw [descW_len] at e1
    subst e1
    have HD3 := Lib.hid hd3
    have d0' : w3.cell? ⟨b, off, none⟩ = some (.int .u32 (size % 4294967296)) := d0
    clear hb3 hd3 d0 HB2 HW hlt
    go_wp2_with fail
    go_loopw [14] (fun i wr => w3 = wr ∧ ∃ m : Nat, 1 ≤ m ∧ m ≤ 4 ∧ i = .int .i64 (m : Nat)) (fun i _ => 4 - (intOf i).toNat)
    case atStart => exact ⟨rfl, 1, by decide, by decide, rfl⟩
    case round =>
      obtain ⟨rfl, m, hm1, hm4, rfl⟩ := hrel
      by_cases hlt : m < 4
      · obtain ⟨k, hk⟩ : ∃ k, m = k + 1 := ⟨m - 1, by omega⟩
        have i1 : (m : Int) < 4 := by omega
        have i2 : (0 : Int) ≤ (m : Int) := by omega
        have HLT : Hid (1 ≤ m ∧ m < 4) := ⟨hm1, hlt⟩
        obtain ⟨b', off', cap', e1, _, d1⟩ := HD3.out.cell1 (i := m) (x := ancV line k) (c0 := .int .u32 ((ancV line k : Nat) : Int)) (by rw [hk]; exact descW_at size line k (by omega)) rfl
        obtain ⟨rfl, rfl⟩ : b' = b ∧ off' = off := by cases e1; exact ⟨rfl, rfl⟩
        clear e1 d0'
        by_cases hin : (m : Int) < (n2 : Int)
        · as_aux_lemma =>
          obtain ⟨x, hx⟩ : ∃ x, line[k]? = some x := ⟨_, List.getElem?_eq_getElem (by have := HN2.out; omega)⟩
          obtain ⟨b2, off2, cap2, e2, hlt2, u0⟩ := HC.out.cell1 hx rfl
          rw [← HN2.out] at e2
          have ea : a2 = some ⟨b2, off2, none⟩ := by cases e2; rfl
          subst ea
          rw [ancV_some hx (by have := HN2.out; omega), lowU_int] at d1
          have u1 := (HB3.out.cell (p := ⟨b2, off2 + k, none⟩) hlt2).trans u0
          have t2 : (m : Int) - 1 = (k : Int) := by omega
          have t3 : (k : Int) < (n2 : Int) := by omega
          have t4 : (0 : Int) ≤ (k : Int) := by omega
          clear e2 hx u0 hk hm1 hm4 hlt hlt2
          go_wp2_with fail
          go_roundw
          case rel => exact ⟨by trivial, m + 1, by omega, by have := HLT.out; omega, by go_num⟩
          case measure => have := HLT.out; simp [intOf]; omega
        · as_aux_lemma =>
          rw [ancV_none (by have := HN2.out; omega)] at d1
          clear hk hm1 hm4 hlt
          go_wp2_with fail
          go_roundw
          case rel => exact ⟨by trivial, m + 1, by omega, by have := HLT.out; omega, by go_num⟩
          case measure => have := HLT.out; simp [intOf]; omega
      · have i1 : ¬ (m : Int) < 4 := by omega
        clear hlt hm1 hm4 d0'
        go_wp2_with fail
        go_ret
        exact ⟨rfl, HB3.out⟩
  · have HLY := Lib.hid (line_yes _ base at_ w1 (HA.out.on HB.out) (by have := HN1.out; omega))
    go_wp2_with fail
    refine HLY.out.mono ?_
    rintro e w1b ⟨vl, rfl, hel, hbl⟩
    have HB1 := Lib.hid (below_on HB.out hbl HB.out.size)
    obtain ⟨p1, pc, w2a, v3, w2c, hr1, hr2, he3, hb3⟩ := append_two w1b (.slice a1 n1 c1) base at_ (HA.out.on HB1.out) (by have := HN1.out; omega)
    rw [← HN1.out] at hr1 hr2
    have HR1 := Lib.hid hr1
    have HR2 := Lib.hid hr2
    have HB2' := Lib.hid (below_on HB1.out hb3 HB1.out.size)
    have HIN := Lib.hid (rInts_any vl v3 (base ++ [at_]) (base ++ [at_]) true w2c (hel.on hb3) he3 ⟨fun _ => rfl, fun _ => rfl⟩)
    clear hbl hb3 HB hel he3 hr1 hr2 HLY h50 k50 k50'
    go_wp2_with (at_builtin; first
      | (refine append_on rfl _ _ _ _ rfl (.slice (some ⟨w1b.heap.size, 0, none⟩) 0 0) (.slice a1 n1 c1) rfl rfl _ _ HR1.out ?_)
      | (refine append_on rfl _ _ _ _ rfl (.slice p1 n1 pc) (.slice (some ⟨w2a.heap.size, 0, none⟩) 1 1) rfl rfl _ _ HR2.out ?_))
    refine HIN.out.mono ?_
    rintro e w2 ⟨rfl, hdz⟩
    have HB2 := Lib.hid (below_on HB2'.out (hdz.below _) HB2'.out.size)
    clear hdz HIN HB2' HR1 HR2 HB1
    by_cases hl : line.length < 1 ∨ 4 < line.length
    · as_aux_lemma =>
      have HW := Lib.hid (HWN.out hl w2 HB2.out)
      clear HWY HWN
      rcases hl with hl | hl
      · have g1 : (n2 : Int) < 1 := by have := HN2.out; omega
        go_wp2_with fail
        refine HW.out.mono ?_
        rintro e w3 ⟨rfl, hb3⟩
        have RES := Lib.hid (below_on HB2.out hb3 HB2.out.size)
        clear hb3 HB2 HW hl
        go_wp2_with fail
        go_ret
        exact ⟨rfl, RES.out⟩
      · have g1 : ¬ (n2 : Int) < 1 := by have := HN2.out; omega
        have g2 : decide (4 < (n2 : Int)) = true := by have := HN2.out; simp; omega
        go_wp2_with fail
        refine HW.out.mono ?_
        rintro e w3 ⟨rfl, hb3⟩
        have RES := Lib.hid (below_on HB2.out hb3 HB2.out.size)
        clear hb3 HB2 HW hl
        go_wp2_with fail
        go_ret
        exact ⟨rfl, RES.out⟩
    have hl1 : 1 ≤ line.length := by omega
    have hl4 : line.length ≤ 4 := by omega
    have HW := Lib.hid (HWY.out hl1 hl4 w2 HB2.out)
    have g1 : ¬ (n2 : Int) < 1 := by have := HN2.out; omega
    have g2 : decide (4 < (n2 : Int)) = false := by have := HN2.out; simp; omega
    clear HWY HWN
    go_wp2_with fail
    refine HW.out.mono ?_
    rintro e w3 ⟨v3, rfl, hd3, hb3⟩
    have HB3 := Lib.hid (below_on HB2.out hb3 HB2.out.size)
    obtain ⟨b, off, cap, e1, hlt, d0⟩ := hd3.cell1 (i := 0) (x := lowU size) (c0 := .int .u32 (size % 4294967296)) rfl (by rw [← lowU_int]; rfl)
    rw [descW_len] at e1
    subst e1
    have HD3 := Lib.hid hd3
    have d0' : w3.cell? ⟨b, off, none⟩ = some (.int .u32 (size % 4294967296)) := d0
    clear hb3 hd3 d0 HB2 HW hlt
    go_wp2_with fail
    go_loopw [14] (fun i wr => w3 = wr ∧ ∃ m : Nat, 1 ≤ m ∧ m ≤ 4 ∧ i = .int .i64 (m : Nat)) (fun i _ => 4 - (intOf i).toNat)
    case atStart => exact ⟨rfl, 1, by decide, by decide, rfl⟩
    case round =>
      obtain ⟨rfl, m, hm1, hm4, rfl⟩ := hrel
      by_cases hlt : m < 4
      · obtain ⟨k, hk⟩ : ∃ k, m = k + 1 := ⟨m - 1, by omega⟩
        have i1 : (m : Int) < 4 := by omega
        have i2 : (0 : Int) ≤ (m : Int) := by omega
        have HLT : Hid (1 ≤ m ∧ m < 4) := ⟨hm1, hlt⟩
        obtain ⟨b', off', cap', e1, _, d1⟩ := HD3.out.cell1 (i := m) (x := ancV line k) (c0 := .int .u32 ((ancV line k : Nat) : Int)) (by rw [hk]; exact descW_at size line k (by omega)) rfl
        obtain ⟨rfl, rfl⟩ : b' = b ∧ off' = off := by cases e1; exact ⟨rfl, rfl⟩
        clear e1 d0'
        by_cases hin : (m : Int) < (n2 : Int)
        · as_aux_lemma =>
          obtain ⟨x, hx⟩ : ∃ x, line[k]? = some x := ⟨_, List.getElem?_eq_getElem (by have := HN2.out; omega)⟩
          obtain ⟨b2, off2, cap2, e2, hlt2, u0⟩ := HC.out.cell1 hx rfl
          rw [← HN2.out] at e2
          have ea : a2 = some ⟨b2, off2, none⟩ := by cases e2; rfl
          subst ea
          rw [ancV_some hx (by have := HN2.out; omega), lowU_int] at d1
          have u1 := (HB3.out.cell (p := ⟨b2, off2 + k, none⟩) hlt2).trans u0
          have t2 : (m : Int) - 1 = (k : Int) := by omega
          have t3 : (k : Int) < (n2 : Int) := by omega
          have t4 : (0 : Int) ≤ (k : Int) := by omega
          clear e2 hx u0 hk hm1 hm4 hlt hlt2
          go_wp2_with fail
          go_roundw
          case rel => exact ⟨by trivial, m + 1, by omega, by have := HLT.out; omega, by go_num⟩
          case measure => have := HLT.out; simp [intOf]; omega
        · as_aux_lemma =>
          rw [ancV_none (by have := HN2.out; omega)] at d1
          clear hk hm1 hm4 hlt
          go_wp2_with fail
          go_roundw
          case rel => exact ⟨by trivial, m + 1, by omega, by have := HLT.out; omega, by go_num⟩
          case measure => have := HLT.out; simp [intOf]; omega
      · have i1 : ¬ (m : Int) < 4 := by omega
        clear hlt hm1 hm4 d0'
        go_wp2_with fail
        go_ret
        exact ⟨rfl, HB3.out⟩
end Go.Proofs.Ytnnbcbabhcomjaa
