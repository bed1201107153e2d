/-
  The document's Walk (layer 13). Conditions: code has at most 900000 words.
-/
import Derived.Test.YtkkjfbpflfknpaaChB
import Derived.Test.YtkkjfbpflfknpaaInsF
namespace Go.Proofs.Ytkkjfbpflfknpaa
open Go.ChangeShapes Go.WideShapes Go.ChangeAt Go.RowKit

abbrev RT : TypeId := 88
abbrev RS : TypeId := 84
theorem info_rref : (Try.prog.info? RT).map (fun i => (i.zero, i.size, i.bytes)) = some (some (.agg #[.int .i64 0, .int .i64 0, .int .i64 0]), 3, 24) := by kernel_rfl
/- where the walk begins -/
theorem start_any (code : List Nat) (head op : Int) (hn : code.length ≤ 900000) (hh : (Lit.int .i64 head).wf = true) (h0 : head ≠ 0) :
    ∃ p, IntKind.i64.wrap (head - 1) = p ∧ -9223372036854775808 ≤ p ∧ p ≤ 9223372036854775807 ∧ walkG code op p [] = walkV code head op := by
  have hb := bounds_i64 hh
  unfold walkV
  rw [if_neg h0]
  by_cases hm : head = -9223372036854775808
  · subst hm
    refine ⟨9223372036854775807, by decide, by decide, by decide, ?_⟩
    rw [if_pos (by decide), walk_out (.inr (by omega))]
  · refine ⟨head - 1, by simp only [IntKind.wrap_i64]; omega, by omega, by omega, ?_⟩
    by_cases h1 : head < 0
    · rw [if_pos h1, walk_out (.inl (by omega))]
    · rw [if_neg h1]

set_option maxRecDepth 100000 in
set_option maxHeartbeats 2000000 in
theorem rwalk_any (a : Option Addr) (n cap : Nat) (code : List Nat) (head op : Int) (w : World) (h : WordsAt w (.slice a n cap) code) (hn : n ≤ 900000) (hh : (Lit.int .i64 head).wf = true) :
    Calls Try.prog 28 #[.slice a n cap, .int .i64 head, .int .i64 op] w fun e w' => WalkTold RT (.bool true) (.bool false) w (walkV code head op) e w' := by
  by_cases h0 : head = 0
  · unfold walkV
    rw [if_pos h0]
    subst h0
    clear hh h
    go_enter Try.func28, Try.ntmps28
    go_wp2_with fail
    go_ret2
    exact WalkTold.yes ⟨SRow.nil _ _ _, fun j hj => hj.elim, Below.refl _ _⟩ rfl
  · obtain ⟨p0, t0, hp1, hp2, hans⟩ := start_any code head op (by rw [← h.len]; exact hn) hh h0
    have e0 : (head == 0) = false := by simp [h0]
    have HC := Lib.hid h
    have HL := Lib.hid h.len
    generalize walkV code head op = ans at *
    have HG : Hid (Goes RT w code op ans (.slice none 0 0) w p0 []) := ⟨SRow.nil _ _ _, fun j hj => hj.elim, Below.refl _ _, hans, .inr rfl⟩
    have HP : Hid (-9223372036854775808 ≤ p0 ∧ p0 ≤ 9223372036854775807) := ⟨hp1, hp2⟩
    clear hh h hans hp1 hp2 h0
    go_enter Try.func28, Try.ntmps28
    go_wp2_with fail
    go_loopw [8, 9] (fun v i wr => ∃ (p : Int) (acc : List RefD), -9223372036854775808 ≤ p ∧ p ≤ 9223372036854775807 ∧ i = .int .i64 p ∧ Goes RT w code op ans v wr p acc) (fun _ i _ => (intOf i + 1).toNat)
    case atStart => exact ⟨p0, [], HP.out.1, HP.out.2, rfl, HG.out⟩
    case round =>
      obtain ⟨p, acc, hp1, hp2, rfl, hg⟩ := hrel
      have HR := Lib.hid hg
      clear hg HG t0
      by_cases hin : 0 ≤ p ∧ p < (n : Int)
      · obtain ⟨k, rfl⟩ := Int.eq_ofNat_of_zero_le hin.1
        have hk : k < n := by omega
        obtain ⟨b, off, x, rfl, _, hbw, hx, hx4, hc⟩ := HC.out.cell hk
        have HX := Lib.hid hx
        have HX4 := Lib.hid hx4
        have i3 : (k : Int) < (n : Int) := by omega
        have i4 : (0 : Int) ≤ (k : Int) := by omega
        have HK : Hid (k < n) := hk
        have hc1 : wr.cell? ⟨b, off + k, none⟩ = some (.int .u32 (x : Nat)) := (HR.out.below.cell (p := ⟨b, off + k, none⟩) hbw).trans hc
        have HB : Hid (b < w.heap.size) := hbw
        clear hin hbw hc hx hk
        clear ‹n = code.length›
        by_cases hrf : Refers x op
        · have HRF := Lib.hid hrf
          have HGI := Lib.hid (fun w => refGetIns_yes x w hx4 hrf.1)
          have q1 := hrf.2.1
          have q2 := hrf.2.2
          generalize ((getN x 26 6 : Nat) : Int) = o at *
          generalize ((getN x 22 4 : Nat) : Int) = ra at *
          generalize ((getN x 18 4 : Nat) : Int) = rb at *
          generalize signI (getN x 0 18) 18 = rn at *
          subst q1 q2
          obtain ⟨y, hy⟩ : ∃ y, y = x % 262144 := ⟨_, rfl⟩
          obtain ⟨q, hq⟩ : ∃ q, q = y / 64 := ⟨_, rfl⟩
          obtain ⟨m, hm⟩ : ∃ m, m = q % 16 := ⟨_, rfl⟩
          obtain ⟨en, hen⟩ : ∃ en, en = y % 64 := ⟨_, rfl⟩
          obtain ⟨d, hd⟩ : ∃ d, d = y / 1024 := ⟨_, rfl⟩
          have HREF : Hid (refOf k x = ⟨(k : Int), m, en⟩ ∧ downN x = d) := ⟨by unfold refOf; rw [getN_6, getN_6_0, hm, hq, hen, hy], by unfold downN; rw [getN_10, hd, hy]⟩
          have t1 : (x : Int).tmod 262144 = (y : Int) := by rw [Int.tmod_eq_emod_of_nonneg (by omega)]; omega
          have t2 : (y : Int).tdiv 64 = (q : Int) := by rw [Int.tdiv_eq_ediv_of_nonneg (by omega)]; omega
          have t3 : (q : Int).tmod 16 = (m : Int) := by rw [Int.tmod_eq_emod_of_nonneg (by omega)]; omega
          have t4 : (y : Int).tmod 64 = (en : Int) := by rw [Int.tmod_eq_emod_of_nonneg (by omega)]; omega
          have t5 : (y : Int).tdiv 1024 = (d : Int) := by rw [Int.tdiv_eq_ediv_of_nonneg (by omega)]; omega
          have b1 : y < 262144 := by omega
          have b2 : q < 262144 := by omega
          have b3 : m < 16 := by omega
          have b4 : en < 64 := by omega
          have b5 : d < 256 := by omega
          clear hrf hy hq hm hen hd
          go_wp2_with fail
          refine (HGI.out _).mono ?_
          rintro e w1 ⟨rfl, hb1⟩
          have HG1 := Lib.hid (HR.out.on (below_on hb1 ((Below.refl _ _).alloc (Nat.le_refl _) (.cells #[.int .i64 o, .int .i64 ra, .int .i64 0, .int .i64 rn] 77)) hb1.size))
          have hc2 : (w1.alloc (.cells #[.int .i64 o, .int .i64 ra, .int .i64 0, .int .i64 rn] 77)).cell? ⟨b, off + k, none⟩ = some (.int .u32 (x : Nat)) := by
            have h1 := (hb1.cell (p := ⟨b, off + k, none⟩) (cell_lt hc1)).trans hc1
            exact (((Below.refl _ _).alloc (Nat.le_refl _) _).cell (p := ⟨b, off + k, none⟩) (cell_lt h1)).trans h1
          clear hb1 hc1 HR
          go_upto_region 10 with fail
          generalize w1.alloc (.cells #[.int .i64 o, .int .i64 ra, .int .i64 0, .int .i64 rn] 77) = w2 at *
          have HKL : Hid (k < code.length) := by have := HL.out; have := HK.out; exact show k < code.length by omega
          obtain ⟨v4, w4, hr4, hs4, hg4⟩ := more_el (T := RS) Try.underlying84 info_rref rfl (by decide) refRow_len refs_ones HG1.out.row (RefD.mk (k : Int) m en) (by have := HG1.out.small HKL.out; have := HL.out; omega)
          have HW4 : Hid (WalkWay RT w w4 v4 (acc ++ [refOf k x])) := HG1.out.more HKL.out (by rw [HREF.out.1]; exact hs4) hg4
          have HG5 : Hid (d ≠ 0 → Goes RT w code o ans v4 w4 ((k : Int) - d) (acc ++ [refOf k x])) := fun hd0 => HG1.out.next HKL.out HW4.out (by omega) (by rw [← HREF.out.2, ← walk_on HX.out HRF.out (by rw [HREF.out.2]; exact hd0)]; exact HG1.out.rest)
          clear hs4 hg4
          by_cases hd0 : d = 0
          · have RES : Hid (ans = some (acc ++ [refOf k x])) := HG1.out.rest.symm.trans (walk_last HX.out HRF.out (HREF.out.2.trans hd0))
            subst hd0
            clear HG5 HG1 HREF HGI b5
            go_wp2_with (at_builtin; refine Lib.wpList_append_run _ rfl _ _ _ _ rfl _ _ rfl rfl _ _ hr4 ?_)
            go_ret2
            exact WalkTold.yes HW4.out RES.out
          · have t6 : (((d : Nat) : Int) == 0) = false := by simp; omega
            have HG6 := Lib.hid (HG5.out hd0)
            clear HG5 HG1 HW4 HREF HGI
            go_wp2_with (at_builtin; refine Lib.wpList_append_run _ rfl _ _ _ _ rfl _ _ rfl rfl _ _ hr4 ?_)
            go_roundw
            case rel => exact ⟨(k : Int) - d, _, by omega, by omega, by go_num, HG6.out⟩
            case measure => simp [intOf]; omega
        · have RES : Hid (ans = none) := HR.out.rest.symm.trans (walk_bad HX.out hrf)
          by_cases hm : MayP (getN x 26 6 : Nat) (getN x 22 4 : Nat) (getN x 18 4 : Nat) (signI (getN x 0 18) 18)
          · have h2 : ¬ (((getN x 26 6 : Nat) : Int) = op ∧ ((getN x 18 4 : Nat) : Int) = 0) := fun g => hrf ⟨hm, g.1, g.2⟩
            have HGI := Lib.hid (fun w => refGetIns_yes x w hx4 hm)
            clear hrf hm
            generalize ((getN x 26 6 : Nat) : Int) = o at *
            generalize ((getN x 22 4 : Nat) : Int) = ra at *
            generalize ((getN x 18 4 : Nat) : Int) = rb at *
            generalize signI (getN x 0 18) 18 = rn at *
            by_cases ho : o = op
            · have hb : ¬ rb = 0 := fun g => h2 ⟨ho, g⟩
              have hb2 : (rb == 0) = false := by simp [hb]
              subst ho
              clear h2
              go_wp2_with fail
              refine (HGI.out _).mono ?_
              rintro e w1 ⟨rfl, hb1⟩
              have RB := Lib.hid (HR.out.on (below_on hb1 ((Below.refl _ _).alloc (Nat.le_refl _) (.cells #[.int .i64 o, .int .i64 ra, .int .i64 rb, .int .i64 rn] 77)) hb1.size)).below
              clear hb1 hc1 HR HGI
              go_wp2_with fail
              go_ret2
              exact WalkTold.no RB.out RES.out
            · have ho2 : (o == op) = false := by simp [ho]
              clear h2
              go_wp2_with fail
              refine (HGI.out _).mono ?_
              rintro e w1 ⟨rfl, hb1⟩
              have RB := Lib.hid (HR.out.on (below_on hb1 ((Below.refl _ _).alloc (Nat.le_refl _) (.cells #[.int .i64 o, .int .i64 ra, .int .i64 rb, .int .i64 rn] 77)) hb1.size)).below
              clear hb1 hc1 HR HGI
              go_wp2_with fail
              go_ret2
              exact WalkTold.no RB.out RES.out
          · have HGI := Lib.hid (fun w => refGetIns_no x w hx4 hm)
            clear hrf hm
            go_wp2_with fail
            refine (HGI.out _).mono ?_
            rintro e w1 ⟨rfl, hb1⟩
            have RB := Lib.hid (HR.out.on (below_on hb1 ((Below.refl _ _).alloc (Nat.le_refl _) (.cells #[.int .i64 0, .int .i64 0, .int .i64 0, .int .i64 0] 77)) hb1.size)).below
            clear hb1 hc1 HR HGI
            go_wp2_with fail
            go_ret2
            exact WalkTold.no RB.out RES.out
      · by_cases h1 : p < 0
        · have RES : Hid (ans = none) := HR.out.rest.symm.trans (walk_out (.inl h1))
          have RB := Lib.hid HR.out.below
          clear hin HR
          go_wp2_with fail
          go_ret2
          exact WalkTold.no RB.out RES.out
        · have h2 : (n : Int) ≤ p := by omega
          have RES : Hid (ans = none) := HR.out.rest.symm.trans (walk_out (.inr (by have := HL.out; omega)))
          have RB := Lib.hid HR.out.below
          clear hin HR
          go_wp2_with fail
          go_ret2
          exact WalkTold.no RB.out RES.out
end Go.Proofs.Ytkkjfbpflfknpaa
