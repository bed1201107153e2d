/-
  The walk of DescExtends (layer 16): true at any words, any line, any places. No conditions.
-/
import Derived.Test.YtnnbcbabhcomjaaDeU
import Derived.Test.YtnnbcbabhcomjaaChkM
namespace Go.Proofs.Ytnnbcbabhcomjaa
open Go.ChangeShapes Go.WideShapes Go.ChangeAt Go.RowKit

/- places that may be told -/
def PlaceP (at_ x : Int) : Prop := 1 ≤ x ∧ x ≤ 1000000 ∧ x ≠ at_
theorem ext_line {base : List Int} {at_ other : Int} (hl : base.length ≤ 3) (hb : ∀ (i : Nat) (x : Int), base[i]? = some x → PlaceP at_ x) (o : Int) : ExtP (descW other (base ++ [at_])) o ↔ 1 ≤ o ∧ ∃ i : Nat, base[i]? = some o := by
  have hanc : ∀ j : Nat, j < base.length → ∃ x, base[j]? = some x ∧ (ancV (base ++ [at_]) j : Int) = x := fun j hj => by
    have hx := List.getElem?_eq_getElem hj
    have g := hb j _ hx
    refine ⟨_, hx, ?_⟩
    rw [ancV_some (x := base[j]) (by rw [List.getElem?_append_left hj]; exact hx) (by simp; omega)]
    exact lowU_same (by have := g.1; omega) (by have := g.2.1; omega)
  constructor
  · rintro ⟨h1, i, x, hi, hx, he⟩
    refine ⟨h1, ?_⟩
    have hl4 : i < 4 := (List.getElem?_eq_some_iff.1 hx).1
    obtain ⟨j, rfl⟩ : ∃ j, i = j + 1 := ⟨i - 1, by omega⟩
    rw [descW_at _ _ j (by omega)] at hx
    cases hx
    by_cases hj : j < base.length
    · obtain ⟨y, hy, hey⟩ := hanc j hj
      exact ⟨j, by rw [hy, ← he, hey]⟩
    · rw [ancV_none (by simp; omega)] at he
      simp at he
      omega
  · rintro ⟨h1, j, hj⟩
    have hjl := (List.getElem?_eq_some_iff.1 hj).1
    obtain ⟨y, hy, hey⟩ := hanc j hjl
    rw [hj] at hy
    cases hy
    exact ⟨h1, j + 1, _, by omega, descW_at _ _ j (by omega), hey⟩
theorem wide_same {x : Nat} {o : Int} (h1 : 1 ≤ o) (h2 : o ≤ 1000000) : ((x : Int) == o % 4294967296) = decide ((x : Int) = o) := by
  have : o % 4294967296 = o := by omega
  rw [this]
  by_cases h : (x : Int) = o <;> simp [h]
set_option maxRecDepth 100000 in
set_option maxHeartbeats 8000000 in
theorem descExtends_all (v u : Value) (words : List Nat) (base : List Int) (at_ other : Int) (w : World) (h : ElsAt 1 wordRow w v words) (hf : ∀ x ∈ words, x < 4294967296) (g : ElsAt 1 intRow w u base) :
    Calls Try.prog 4 #[v, u, .int .i64 at_, .int .i64 other] w fun e w' => e = .returned (.bool true) ∧ Below w.heap.size w w' := by
  have HA := Lib.hid h
  have HC := Lib.hid g
  have HF := Lib.hid hf
  obtain ⟨a1, c1, hv1, _⟩ := h.shape
  obtain ⟨n1, hn1⟩ : ∃ n, n = words.length := ⟨_, rfl⟩
  rw [← hn1] at hv1
  have HN1 := Lib.hid hn1
  obtain ⟨a2, c2, hv2, _⟩ := g.shape
  obtain ⟨n2, hn2⟩ : ∃ n, n = base.length := ⟨_, rfl⟩
  rw [← hn2] at hv2
  have HN2 := Lib.hid hn2
  subst hv1 hv2
  clear h g hf hn1 hn2
  go_enter Try.func4, Try.ntmps4
  go_wp2_with fail
  refine (up16 w).mono ?_
  rintro e w1 ⟨rfl, hb1⟩
  have HB := Lib.hid hb1
  clear hb1
  by_cases k1 : 50 < (n1 : Int)
  · as_aux_lemma =>
    go_wp2_with fail
    go_ret
    exact ⟨rfl, HB.out⟩
  by_cases k2 : 3 < (n2 : Int)
  · as_aux_lemma =>
    have k2' : decide (3 < (n2 : Int)) = true := by simpa using k2
    go_wp2_with fail
    go_ret
    exact ⟨rfl, HB.out⟩
  have k2' : decide (3 < (n2 : Int)) = false := by simpa using k2
  by_cases k3 : at_ < 1
  · as_aux_lemma =>
    have k3' : decide (at_ < 1) = true := by simpa using k3
    go_wp2_with fail
    go_ret
    exact ⟨rfl, HB.out⟩
  have k3' : decide (at_ < 1) = false := by simpa using k3
  by_cases k4 : 1000000 < at_
  · as_aux_lemma =>
    have k4' : decide (1000000 < at_) = true := by simpa using k4
    go_wp2_with fail
    go_ret
    exact ⟨rfl, HB.out⟩
  have k4' : decide (1000000 < at_) = false := by simpa using k4
  by_cases k5 : 1000000 < other
  · as_aux_lemma =>
    have k5' : decide (1000000 < other) = true := by simpa using k5
    go_wp2_with fail
    go_ret
    exact ⟨rfl, HB.out⟩
  have k5' : decide (1000000 < other) = false := by simpa using k5
  have HAT : Hid (1 ≤ at_ ∧ at_ ≤ 1000000) := by show _ ∧ _; omega
  have HOT : Hid (other ≤ 1000000) := by show other ≤ 1000000; omega
  have HL3 : Hid (base.length ≤ 3) := by have := HN2.out; show base.length ≤ 3; omega
  have s1 : n1 ≤ 50 := by omega
  have s2 : n2 ≤ 3 := by omega
  go_wp2_with fail
  clear k1 k2 k2' k3 k3' k4 k4' k5 k5'
  go_loopw [10, 11] (fun b i wr => w1 = wr ∧ ∃ (mt : Bool) (m : Nat), 1 ≤ m ∧ (m ≤ n1 ∨ m = 1) ∧ b = .bool mt ∧ i = .int .i64 (m : Nat) ∧ (mt = true ↔ 1 ≤ other ∧ ∃ (j x : Nat), 1 ≤ j ∧ j < m ∧ words[j]? = some x ∧ (x : Int) = other)) (fun _ i _ => n1 - (intOf i).toNat)
  case atStart => exact ⟨rfl, false, 1, by decide, .inr rfl, rfl, rfl, ⟨(fun e => by cases e), (fun ⟨_, j, _, h1, h2, _⟩ => by omega)⟩⟩
  case round =>
    obtain ⟨rfl, mt, m, hm1, hm, rfl, rfl, hmt⟩ := hrel
    have HMT := Lib.hid hmt
    clear hmt
    by_cases hlt : m < n1
    · obtain ⟨x, hx⟩ : ∃ x, words[m]? = some x := ⟨_, List.getElem?_eq_getElem (by have := HN1.out; omega)⟩
      have HX := Lib.hid hx
      obtain ⟨b, off, cap, e0, hb, u0⟩ := HA.out.cell1 hx rfl
      rw [← HN1.out] at e0
      have ea : a1 = some ⟨b, off, none⟩ := by cases e0; rfl
      subst ea
      have u1 := (HB.out.cell (p := ⟨b, off + m, none⟩) hb).trans u0
      have i1 : (m : Int) < (n1 : Int) := by omega
      have i2 : (0 : Int) ≤ (m : Int) := by omega
      have HLT : Hid (1 ≤ m ∧ m < n1) := ⟨hm1, hlt⟩
      clear e0 hx hb u0 hm hm1 hlt
      cases mt with
      | true =>
        as_aux_lemma =>
        have HMN : Hid (1 ≤ other ∧ ∃ (j x : Nat), 1 ≤ j ∧ j < m + 1 ∧ words[j]? = some x ∧ (x : Int) = other) := by
          obtain ⟨h0, j, y, h1, h2, h3, h4⟩ := HMT.out.1 rfl
          exact ⟨h0, j, y, h1, by omega, h3, h4⟩
        clear HMT
        go_wp2_with fail
        go_roundw
        case rel => exact ⟨by trivial, true, m + 1, by omega, .inl HLT.out.2, rfl, by go_num, by simpa using HMN.out⟩
        case measure => have := HLT.out; simp [intOf]; omega
      | false =>
        have HMF : Hid (∀ (j x : Nat), 1 ≤ other → 1 ≤ j → j < m → words[j]? = some x → (x : Int) ≠ other) := fun j y h0 h1 h2 h3 h4 => by have := HMT.out.2 ⟨h0, j, y, h1, h2, h3, h4⟩; cases this
        clear HMT
        by_cases h1 : 1 ≤ other
        · have t0 := wide_same (x := x) h1 HOT.out
          by_cases hxo : (x : Int) = other
          · as_aux_lemma =>
            have HMN : Hid (1 ≤ other ∧ ∃ (j x : Nat), 1 ≤ j ∧ j < m + 1 ∧ words[j]? = some x ∧ (x : Int) = other) := ⟨h1, m, x, HLT.out.1, by omega, HX.out, hxo⟩
            rw [decide_eq_true hxo] at t0
            clear hxo
            go_wp2_with fail
            go_roundw
            case rel => exact ⟨by trivial, true, m + 1, by omega, .inl HLT.out.2, rfl, by go_num, by simpa using HMN.out⟩
            case measure => have := HLT.out; simp [intOf]; omega
          · as_aux_lemma =>
            have HMN : Hid (¬ (1 ≤ other ∧ ∃ (j x : Nat), 1 ≤ j ∧ j < m + 1 ∧ words[j]? = some x ∧ (x : Int) = other)) := fun ⟨h0, j, y, h1, h2, h3, h4⟩ => by
              by_cases hj : j = m
              · subst hj
                have e := HX.out.symm.trans h3
                cases e
                exact hxo h4
              · exact HMF.out j y h0 h1 (by omega) h3 h4
            rw [decide_eq_false hxo] at t0
            clear hxo HMF
            go_wp2_with fail
            go_roundw
            case rel => exact ⟨by trivial, false, m + 1, by omega, .inl HLT.out.2, rfl, by go_num, by simpa using HMN.out⟩
            case measure => have := HLT.out; simp [intOf]; omega
        · as_aux_lemma =>
          have HMN : Hid (¬ (1 ≤ other ∧ ∃ (j x : Nat), 1 ≤ j ∧ j < m + 1 ∧ words[j]? = some x ∧ (x : Int) = other)) := fun ⟨h0, _⟩ => h1 h0
          have h1' : decide (1 ≤ other) = false := by simpa using h1
          clear HMF
          go_wp2_with fail
          go_roundw
          case rel => exact ⟨by trivial, false, m + 1, by omega, .inl HLT.out.2, rfl, by go_num, by simpa using HMN.out⟩
          case measure => have := HLT.out; simp [intOf]; omega
    · have i1 : ¬ (m : Int) < (n1 : Int) := by omega
      have HEX : Hid (mt = true ↔ ExtP words other) := by
        constructor
        · intro e
          obtain ⟨h0, j, y, h1, _, h3, h4⟩ := HMT.out.1 e
          exact ⟨h0, j, y, h1, h3, h4⟩
        · rintro ⟨h0, j, y, h1, h3, h4⟩
          exact HMT.out.2 ⟨h0, j, y, h1, by have := (List.getElem?_eq_some_iff.1 h3).1; have := HN1.out; omega, h3, h4⟩
      have HEW := Lib.hid (extends_any _ words other mt w1 (HA.out.on HB.out) HF.out HOT.out HEX.out)
      clear hm hm1 hlt HMT HEX
      go_wp2_with fail
      refine HEW.out.mono ?_
      rintro e w2 ⟨rfl, hb2⟩
      have HB2 := Lib.hid (below_on HB.out hb2 HB.out.size)
      clear hb2 HEW HB
      have hne : (mt != mt) = false := by cases mt <;> rfl
      go_wp2_with fail
      clear hne i1
      go_loopw [12, 13] (fun b i wr => w2 = wr ∧ ∃ (it : Bool) (m : Nat), m ≤ n2 ∧ b = .bool it ∧ i = .int .i64 (m : Nat) ∧ (it = true ↔ ∃ j : Nat, j < m ∧ base[j]? = some other) ∧ ∀ (j : Nat) (x : Int), j < m → base[j]? = some x → PlaceP at_ x) (fun _ i _ => n2 - (intOf i).toNat)
      case atStart => exact ⟨rfl, false, 0, Nat.zero_le _, rfl, rfl, ⟨(fun e => by cases e), (fun ⟨j, h1, _⟩ => by omega)⟩, fun j x hj => by omega⟩
      case round =>
        obtain ⟨rfl, it, m, hm, rfl, rfl, hit, hall⟩ := hrel
        have HIT := Lib.hid hit
        have HALL := Lib.hid hall
        clear hit hall
        by_cases hlt : m < n2
        · obtain ⟨x, hx⟩ : ∃ x, base[m]? = some x := ⟨_, List.getElem?_eq_getElem (by have := HN2.out; omega)⟩
          have HX := Lib.hid hx
          obtain ⟨b, off, cap, e0, hb, u0⟩ := HC.out.cell1 hx rfl
          rw [← HN2.out] at e0
          have ea : a2 = some ⟨b, off, none⟩ := by cases e0; rfl
          subst ea
          have u1 := (HB2.out.cell (p := ⟨b, off + m, none⟩) hb).trans u0
          have i1 : (m : Int) < (n2 : Int) := by omega
          have i2 : (0 : Int) ≤ (m : Int) := by omega
          have HLT : Hid (m < n2) := hlt
          clear e0 hx hb u0 hm hlt
          by_cases z1 : x < 1
          · as_aux_lemma =>
            go_wp2_with fail
            go_ret
            exact ⟨rfl, HB2.out⟩
          by_cases z2 : 1000000 < x
          · as_aux_lemma =>
            have z2' : decide (1000000 < x) = true := by simpa using z2
            go_wp2_with fail
            go_ret
            exact ⟨rfl, HB2.out⟩
          have z2' : decide (1000000 < x) = false := by simpa using z2
          by_cases z3 : x = at_
          · as_aux_lemma =>
            have z3' : (x == at_) = true := by simpa using z3
            clear z3
            go_wp2_with fail
            go_ret
            exact ⟨rfl, HB2.out⟩
          have z3' : (x == at_) = false := by simpa using z3
          have HOK := Lib.hid (all_next (Q := fun _ x => PlaceP at_ x) HALL.out HX.out ⟨by omega, by omega, z3⟩)
          clear z3
          cases it with
          | true =>
            as_aux_lemma =>
            have HMN : Hid (∃ j : Nat, j < m + 1 ∧ base[j]? = some other) := by
              obtain ⟨j, h1, h2⟩ := HIT.out.1 rfl
              exact ⟨j, by omega, h2⟩
            clear HIT
            go_wp2_with fail
            go_roundw
            case rel => exact ⟨by trivial, true, m + 1, HLT.out, rfl, by go_num, by simpa using HMN.out, HOK.out⟩
            case measure => have := HLT.out; simp [intOf]; omega
          | false =>
            have HMF : Hid (∀ j : Nat, j < m → base[j]? ≠ some other) := fun j h1 h2 => by have := HIT.out.2 ⟨j, h1, h2⟩; cases this
            clear HIT
            by_cases hxo : x = other
            · as_aux_lemma =>
              have HMN : Hid (∃ j : Nat, j < m + 1 ∧ base[j]? = some other) := ⟨m, by omega, by rw [HX.out, hxo]⟩
              have t0 : (x == other) = true := by simpa using hxo
              clear hxo
              go_wp2_with fail
              go_roundw
              case rel => exact ⟨by trivial, true, m + 1, HLT.out, rfl, by go_num, by simpa using HMN.out, HOK.out⟩
              case measure => have := HLT.out; simp [intOf]; omega
            · as_aux_lemma =>
              have HMN : Hid (¬ ∃ j : Nat, j < m + 1 ∧ base[j]? = some other) := fun ⟨j, h1, h2⟩ => by
                by_cases hj : j = m
                · subst hj
                  have e := HX.out.symm.trans h2
                  cases e
                  exact hxo rfl
                · exact HMF.out j (by omega) h2
              have t0 : (x == other) = false := by simpa using hxo
              clear hxo
              go_wp2_with fail
              go_roundw
              case rel => exact ⟨by trivial, false, m + 1, HLT.out, rfl, by go_num, by simpa using HMN.out, HOK.out⟩
              case measure => have := HLT.out; simp [intOf]; omega
        · have i1 : ¬ (m : Int) < (n2 : Int) := by omega
          have hmn : m = base.length := by have := HN2.out; omega
          have hpl : ∀ (j : Nat) (x : Int), base[j]? = some x → PlaceP at_ x := all_done (Q := fun _ x => PlaceP at_ x) HALL.out (by omega)
          have HO1 : Hid (it = true ↔ ExtP (descW 8 (base ++ [at_])) other) := by
            show _ ↔ _
            rw [ext_line HL3.out hpl]
            constructor
            · intro e
              obtain ⟨j, h1, h2⟩ := HIT.out.1 e
              exact ⟨(hpl j _ h2).1, j, h2⟩
            · rintro ⟨_, j, h2⟩
              exact HIT.out.2 ⟨j, by have := (List.getElem?_eq_some_iff.1 h2).1; omega, h2⟩
          have HO2 : Hid (false = true ↔ ExtP (descW 8 (base ++ [at_])) at_) := by
            show _ ↔ _
            rw [ext_line HL3.out hpl]
            exact ⟨(fun e => by cases e), fun ⟨_, j, h2⟩ => absurd rfl (hpl j _ h2).2.2⟩
          have HLY := Lib.hid (line_yes _ base at_ w2 (HC.out.on HB2.out) HL3.out)
          clear hm hlt HIT HALL hmn hpl
          go_wp2_with fail
          refine HLY.out.mono ?_
          rintro e w3 ⟨vl, rfl, hel, hbl⟩
          have HB3 := Lib.hid (below_on HB2.out hbl HB2.out.size)
          have HWY := Lib.hid (words_yes 8 vl (base ++ [at_]) w3 hel (by simp) (by have := HL3.out; simp; omega))
          clear hbl hel HLY HB2
          go_wp2_with fail
          refine HWY.out.mono ?_
          rintro e w4 ⟨vw, rfl, hew, hbw⟩
          have HB4 := Lib.hid (below_on HB3.out hbw HB3.out.size)
          have HE1 := Lib.hid (extends_any vw (descW 8 (base ++ [at_])) other it w4 hew (descW_fit _ _) HOT.out HO1.out)
          have HEW := Lib.hid hew
          clear hbw hew HWY HB3 HO1
          go_wp2_with fail
          refine HE1.out.mono ?_
          rintro e w5 ⟨rfl, hb5⟩
          have HB5 := Lib.hid (below_on HB4.out hb5 HB4.out.size)
          have HE2 := Lib.hid (extends_any vw (descW 8 (base ++ [at_])) at_ false w5 (HEW.out.on hb5) (descW_fit _ _) HAT.out.2 HO2.out)
          clear hb5 HE1 HB4 HO2 HEW
          have heq : (it == it) = true := by cases it <;> rfl
          go_wp2_with fail
          refine HE2.out.mono ?_
          rintro e w6 ⟨rfl, hb6⟩
          have RES := Lib.hid (below_on HB5.out hb6 HB5.out.size)
          clear hb6 HE2 HB5
          go_wp2_with fail
          go_ret
          exact ⟨rfl, RES.out⟩
end Go.Proofs.Ytnnbcbabhcomjaa
