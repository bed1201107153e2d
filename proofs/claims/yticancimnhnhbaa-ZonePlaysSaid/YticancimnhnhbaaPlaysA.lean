/-
  The walk of ZonePlays (layer 6), under way. No conditions.
-/
import Derived.Test.YticancimnhnhbaaZoneZ
namespace Go.Proofs.Yticancimnhnhbaa
open Go.ChangeShapes Go.WideShapes Go.ChangeAt Go.RowKit

theorem Both.all {w wr : World} {zp mb n : Nat} {L M : List ZR} {m : Value} (h : Both w wr zp mb L M m n) :
    Calls Try.prog 24 #[.pointer (some ⟨zp, 0, none⟩)] wr fun e w' => ∃ a c L', e = .returned (.slice a L.length c) ∧ L'.map ZR.z = L.map ZR.z ∧ SRow ZT 6 w' (.slice a L.length c) L'.length (zcs L') ∧ (∀ x ∈ L', Stored w' x) ∧ Both w w' zp mb L M m n := by
  obtain ⟨lv, hz, ho⟩ := h.zoo.is
  exact (all_any zp mb lv L n wr hz h.zoo.few).mono fun _ _ ⟨⟨a, c, L', he, h1, h2, h3⟩, hk⟩ => ⟨a, c, L', he, h1, h2, h3, h.still hk⟩

set_option maxRecDepth 100000 in
set_option maxHeartbeats 8000000 in
theorem zonePlays_small (a : Option Addr) (n cap : Nat) (at_ by_ kd va : Int) (D : List Deed6) (w : World) (hD : Deeds6 w a n D) (hn : n ≤ 40) (hat : (Lit.int .i64 at_).wf = true) (hby : by_ ≤ 9223372036854775807) :
    Calls Try.prog 3 #[.slice a n cap, .int .i64 at_, .int .i64 by_, .int .i64 kd, .int .i64 va] w fun e w' => e = .returned (.bool true) ∧ Below w.heap.size w w' := by
  have hn' : ¬ (40 : Int) < (n : Int) := by omega
  have HN := Lib.hid Zoo.new
  have HD := Lib.hid hD
  have q1 := arg_eql
  have q2 := arg_neq
  clear hD
  go_enter Try.func3, Try.ntmps3
  go_wp2_with fail
  refine (up06 _).mono ?_
  rintro e w1 ⟨rfl, hb1⟩
  go_wp2_with fail
  refine (HN.out _).mono ?_
  rintro e w2 ⟨zp, mb, rfl, hz⟩
  have HB2 : Hid (Both w w2 zp mb [] [] (.slice none 0 0) 0) := ⟨hz.base hb1, SRow.nil _ _ _, by simp, rfl⟩
  clear hz hb1
  go_wp2_with fail
  go_loopw [13, 14] (fun m i wr => PlaysRel w wr zp mb n m i) (fun _ i _ => n - (intOf i).toNat)
  case atStart => exact ⟨0, Nat.zero_le _, rfl, [], [], HB2.out, Nat.le_refl _⟩
  case round =>
    clear HB2
    obtain ⟨k, hk, rfl, L, M, hB, hl⟩ := hrel
    have HB := Lib.hid hB
    obtain ⟨ma, mc, rfl, hm1, hm2⟩ := hB.row.shape
    clear hB
    by_cases hlt : k < n
    · obtain ⟨b, off, d, rfl, hda⟩ := HD.out.at_ hlt
      obtain ⟨g0, c0, c1, c2, c3, c4, c5, hps, hqs⟩ := hda.on HB.out.zoo.below
      have e2 : (0 : Int) ≤ (k : Int) := by omega
      have e3 : (k : Int) < (n : Int) := by omega
      have HDA := Lib.hid hda
      have HF : Hid (Calls Try.prog 8 #[.agg #[.int .i64 d.x.z.b, .int .i64 d.x.z.d, .int .i64 d.x.z.r, .int .i64 d.x.z.e, d.x.p.v, d.x.q.v]] wr fun e w' => e = .returned (.bool (decide (d.x.p.n ≤ 40 ∧ d.x.q.n ≤ 40))) ∧ Below wr.heap.size wr w') := few_any d.x wr hps.cap hqs.cap
      by_cases hfew : d.x.p.n ≤ 40 ∧ d.x.q.n ≤ 40
      · rw [show decide (d.x.p.n ≤ 40 ∧ d.x.q.n ≤ 40) = true by simpa using hfew] at HF
        have hfp : d.x.z.P.length ≤ 100 ∧ d.x.z.Q.length ≤ 100 := by have := hps.len; have := hqs.len; omega
        have HFP := Lib.hid hfp
        clear hda hps hqs hfew hfp
        go_wp2_with fail
        refine HF.out.mono ?_
        rintro e w3 ⟨rfl, hb3⟩
        have HB3 := Lib.hid (HB.out.still (.of_below hb3))
        clear HF hb3 g0 c0 c1 c2 c3 c4 c5
        obtain ⟨g0, c0, c1, c2, c3, c4, c5, hps, hqs⟩ := HDA.out.on HB3.out.zoo.below
        cases hg : d.gone with
        | true =>
          rw [hg] at g0
          have HR := Lib.hid (rremove_any d.x.z.b _ M w3 HB3.out.ref (by have := HB3.out.len; omega))
          clear hps hqs c1 c2 c3 c4 c5 hg
          go_wp2_with fail
          refine HR.out.mono ?_
          rintro e w4 ⟨v4, rfl, hmd⟩
          have HMD := Lib.hid hmd
          have k4 := hmd.kept
          have g04 := (HDA.out.on (HB3.out.still k4).zoo.below).g
          have c04 := (HDA.out.on (HB3.out.still k4).zoo.below).c0
          have HP := Lib.hid ((HB3.out.still k4).zoo.remove2 d.x.z.b)
          obtain ⟨v4a, v4c, rfl, hv1, hv2⟩ := hmd.row.shape
          clear hmd k4 HR
          go_wp2_with fail
          refine HP.out.mono ?_
          rintro e w5 ⟨hsp, ⟨A, y, B', he, hy, rfl, hz5⟩ | ⟨hno, rfl, hz5⟩⟩
          · have hsr := same_rem HB3.out.zoo.good HB3.out.same he hy
            have C0 := Lib.hid ((HB3.out.removed HMD.out hsp hz5 hsr.1).more (n' := (k + 1) * 200) (by omega))
            have HL2 : Hid ((A ++ B').length ≤ 100) := by show _ ≤ _; rw [he] at hl; simp at hl ⊢; omega
            have HK2 : Hid ((A ++ B').length ≤ k + 1) := by show _ ≤ _; rw [he] at hl; simp at hl ⊢; omega
            have hany := hsr.2
            generalize hL2 : A ++ B' = L2 at *
            generalize hM2 : others d.x.z.b M = M2 at *
            clear hz5 hsp hsr he HP hL2 hM2
            rw [hany]
            have n1 : (canLoad (L2.map ZR.z) at_ by_ != canLoad (L2.map ZR.z) at_ by_) = false := by simp
            have n2 : (canStore (L2.map ZR.z) at_ by_ != canStore (L2.map ZR.z) at_ by_) = false := by simp
            have n3 : (canRun (L2.map ZR.z) at_ != canRun (L2.map ZR.z) at_) = false := by simp
            have n4 : (kindOf (L2.map ZR.z) (at_ - at_ % 4) != kindOf (L2.map ZR.z) (at_ - at_ % 4)) = false := by simp
            have n5 : (fitsZ (L2.map ZR.z) kd va != fitsZ (L2.map ZR.z) kd va) = false := by simp
            go_wp2_with fail
            refine (C0.out.pload at_ by_).mono ?_
            rintro e x1 ⟨rfl, hb1⟩
            have C1 := Lib.hid hb1
            clear hb1
            go_wp2_with fail
            refine (C1.out.rload at_ by_ hby HL2.out).mono ?_
            rintro e x2 ⟨rfl, hb2⟩
            have C2 := Lib.hid hb2
            clear hb2
            go_wp2_with fail
            refine (C2.out.pstore at_ by_).mono ?_
            rintro e x3 ⟨rfl, hb3⟩
            have C3 := Lib.hid hb3
            clear hb3
            go_wp2_with fail
            refine (C3.out.rstore at_ by_ hby HL2.out).mono ?_
            rintro e x4 ⟨rfl, hb4⟩
            have C4 := Lib.hid hb4
            clear hb4
            go_wp2_with fail
            refine (C4.out.prun at_).mono ?_
            rintro e x5 ⟨rfl, hb5⟩
            have C5 := Lib.hid hb5
            clear hb5
            go_wp2_with fail
            refine (C5.out.rrun at_ HL2.out).mono ?_
            rintro e x6 ⟨rfl, hb6⟩
            have C6 := Lib.hid hb6
            clear hb6
            go_wp2_with fail
            refine (C6.out.pcell at_ hat).mono ?_
            rintro e x7 ⟨rfl, hb7⟩
            have C7 := Lib.hid hb7
            clear hb7
            go_wp2_with fail
            refine (C7.out.rcell at_ HL2.out).mono ?_
            rintro e x8 ⟨rfl, hb8⟩
            have C8 := Lib.hid hb8
            clear hb8
            go_wp2_with fail
            refine (C8.out.pfits kd va).mono ?_
            rintro e x9 ⟨rfl, hb9⟩
            have C9 := Lib.hid hb9
            clear hb9
            go_wp2_with fail
            refine (C9.out.rfits kd va HL2.out).mono ?_
            rintro e x10 ⟨rfl, hb10⟩
            have C10 := Lib.hid hb10
            clear hb10
            go_wp2_with fail
            go_roundw
            case rel => exact ⟨k + 1, by omega, by go_num, L2, M2, C10.out, HK2.out⟩
            case measure => simp [intOf]; omega
          · have hsr := same_none HB3.out.same hno
            have C0 := Lib.hid ((HB3.out.removed HMD.out hsp hz5 hsr.1).more (n' := (k + 1) * 200) (by omega))
            have HL2 : Hid (L.length ≤ 100) := by show _ ≤ _; omega
            have HK2 : Hid (L.length ≤ k + 1) := by show _ ≤ _; omega
            have hany := hsr.2
            generalize hM2 : others d.x.z.b M = M2 at *
            generalize hL2 : L = L2 at *
            clear hz5 hsp hsr HP hM2 hL2
            rw [hany]
            have n1 : (canLoad (L2.map ZR.z) at_ by_ != canLoad (L2.map ZR.z) at_ by_) = false := by simp
            have n2 : (canStore (L2.map ZR.z) at_ by_ != canStore (L2.map ZR.z) at_ by_) = false := by simp
            have n3 : (canRun (L2.map ZR.z) at_ != canRun (L2.map ZR.z) at_) = false := by simp
            have n4 : (kindOf (L2.map ZR.z) (at_ - at_ % 4) != kindOf (L2.map ZR.z) (at_ - at_ % 4)) = false := by simp
            have n5 : (fitsZ (L2.map ZR.z) kd va != fitsZ (L2.map ZR.z) kd va) = false := by simp
            go_wp2_with fail
            refine (C0.out.pload at_ by_).mono ?_
            rintro e x1 ⟨rfl, hb1⟩
            have C1 := Lib.hid hb1
            clear hb1
            go_wp2_with fail
            refine (C1.out.rload at_ by_ hby HL2.out).mono ?_
            rintro e x2 ⟨rfl, hb2⟩
            have C2 := Lib.hid hb2
            clear hb2
            go_wp2_with fail
            refine (C2.out.pstore at_ by_).mono ?_
            rintro e x3 ⟨rfl, hb3⟩
            have C3 := Lib.hid hb3
            clear hb3
            go_wp2_with fail
            refine (C3.out.rstore at_ by_ hby HL2.out).mono ?_
            rintro e x4 ⟨rfl, hb4⟩
            have C4 := Lib.hid hb4
            clear hb4
            go_wp2_with fail
            refine (C4.out.prun at_).mono ?_
            rintro e x5 ⟨rfl, hb5⟩
            have C5 := Lib.hid hb5
            clear hb5
            go_wp2_with fail
            refine (C5.out.rrun at_ HL2.out).mono ?_
            rintro e x6 ⟨rfl, hb6⟩
            have C6 := Lib.hid hb6
            clear hb6
            go_wp2_with fail
            refine (C6.out.pcell at_ hat).mono ?_
            rintro e x7 ⟨rfl, hb7⟩
            have C7 := Lib.hid hb7
            clear hb7
            go_wp2_with fail
            refine (C7.out.rcell at_ HL2.out).mono ?_
            rintro e x8 ⟨rfl, hb8⟩
            have C8 := Lib.hid hb8
            clear hb8
            go_wp2_with fail
            refine (C8.out.pfits kd va).mono ?_
            rintro e x9 ⟨rfl, hb9⟩
            have C9 := Lib.hid hb9
            clear hb9
            go_wp2_with fail
            refine (C9.out.rfits kd va HL2.out).mono ?_
            rintro e x10 ⟨rfl, hb10⟩
            have C10 := Lib.hid hb10
            clear hb10
            go_wp2_with fail
            go_roundw
            case rel => exact ⟨k + 1, by omega, by go_num, L2, M2, C10.out, HK2.out⟩
            case measure => simp [intOf]; omega
        | false =>
          rw [hg] at g0
          have HA := Lib.hid (as6_any d.x w3)
          clear hps hqs hg
          go_wp2_with fail
          refine HA.out.mono ?_
          rintro e w4 ⟨rfl, k4⟩
          have HB4 := Lib.hid (HB3.out.still k4)
          clear HA k4 g0 c0 c1 c2 c3 c4 c5
          obtain ⟨g0, c0, c1, c2, c3, c4, c5, hps, hqs⟩ := HDA.out.on HB4.out.zoo.below
          have HR := Lib.hid (radd_any d.x _ M w4 HB4.out.ref HB4.out.good (by have := HB4.out.len; omega) hps hqs HFP.out.1 HFP.out.2)
          clear hps hqs c1 c2 c3 c4 c5 g0
          go_wp2_with fail
          refine HR.out.mono ?_
          rintro e w5 (⟨hmay, v5, A, B', hM, hspl, rfl, hmd⟩ | ⟨hmay, rfl, k5⟩)
          · have HB5 := Lib.hid (HB4.out.still hmd.kept)
            have HMD := Lib.hid hmd
            obtain ⟨-, -, -, -, -, -, -, hxp, hxq⟩ := HDA.out.on (Below.refl _ _)
            obtain ⟨g0, c0, c1, c2, c3, c4, c5, hps, hqs⟩ := HDA.out.on HB5.out.zoo.below
            have HP := Lib.hid (HB5.out.zoo.add2 d.x hps hqs HFP.out.1 HFP.out.2 (by show _ < _; omega) (by show _ ≤ _; omega))
            have HX : Hid (IntsAt w d.x.p d.x.z.P ∧ IntsAt w d.x.q d.x.z.Q) := ⟨hxp, hxq⟩
            clear HR hps hqs hxp hxq
            go_wp2_with fail
            refine HP.out.mono ?_
            rintro e w6 ⟨hsp, ⟨hmay2, rfl, L', hadd, hlen, hz6⟩ | ⟨hno, rfl, hz6⟩⟩
            · have hsa := same_add HB4.out.same hadd hspl
              have C0 := Lib.hid ((HB4.out.added hM HX.out HMD.out hsp hz6 hsa).more (n' := (k + 1) * 200) (by omega))
              have HL2 : Hid (L'.length ≤ 100) := by show _ ≤ _; omega
              have HK2 : Hid (L'.length ≤ k + 1) := by show _ ≤ _; omega
              generalize hM2 : A ++ d.x :: B' = M2 at *
              generalize hL2 : L' = L2 at *
              clear hz6 hsp hsa HP hM2 hL2 HMD hadd hspl hlen
              have n1 : (canLoad (L2.map ZR.z) at_ by_ != canLoad (L2.map ZR.z) at_ by_) = false := by simp
              have n2 : (canStore (L2.map ZR.z) at_ by_ != canStore (L2.map ZR.z) at_ by_) = false := by simp
              have n3 : (canRun (L2.map ZR.z) at_ != canRun (L2.map ZR.z) at_) = false := by simp
              have n4 : (kindOf (L2.map ZR.z) (at_ - at_ % 4) != kindOf (L2.map ZR.z) (at_ - at_ % 4)) = false := by simp
              have n5 : (fitsZ (L2.map ZR.z) kd va != fitsZ (L2.map ZR.z) kd va) = false := by simp
              go_wp2_with fail
              refine (C0.out.pload at_ by_).mono ?_
              rintro e x1 ⟨rfl, hb1⟩
              have C1 := Lib.hid hb1
              clear hb1
              go_wp2_with fail
              refine (C1.out.rload at_ by_ hby HL2.out).mono ?_
              rintro e x2 ⟨rfl, hb2⟩
              have C2 := Lib.hid hb2
              clear hb2
              go_wp2_with fail
              refine (C2.out.pstore at_ by_).mono ?_
              rintro e x3 ⟨rfl, hb3⟩
              have C3 := Lib.hid hb3
              clear hb3
              go_wp2_with fail
              refine (C3.out.rstore at_ by_ hby HL2.out).mono ?_
              rintro e x4 ⟨rfl, hb4⟩
              have C4 := Lib.hid hb4
              clear hb4
              go_wp2_with fail
              refine (C4.out.prun at_).mono ?_
              rintro e x5 ⟨rfl, hb5⟩
              have C5 := Lib.hid hb5
              clear hb5
              go_wp2_with fail
              refine (C5.out.rrun at_ HL2.out).mono ?_
              rintro e x6 ⟨rfl, hb6⟩
              have C6 := Lib.hid hb6
              clear hb6
              go_wp2_with fail
              refine (C6.out.pcell at_ hat).mono ?_
              rintro e x7 ⟨rfl, hb7⟩
              have C7 := Lib.hid hb7
              clear hb7
              go_wp2_with fail
              refine (C7.out.rcell at_ HL2.out).mono ?_
              rintro e x8 ⟨rfl, hb8⟩
              have C8 := Lib.hid hb8
              clear hb8
              go_wp2_with fail
              refine (C8.out.pfits kd va).mono ?_
              rintro e x9 ⟨rfl, hb9⟩
              have C9 := Lib.hid hb9
              clear hb9
              go_wp2_with fail
              refine (C9.out.rfits kd va HL2.out).mono ?_
              rintro e x10 ⟨rfl, hb10⟩
              have C10 := Lib.hid hb10
              clear hb10
              go_wp2_with fail
              go_roundw
              case rel => exact ⟨k + 1, by omega, by go_num, L2, M2, C10.out, HK2.out⟩
              case measure => simp [intOf]; omega
            · exact absurd (HB4.out.same ▸ hmay) hno
          · have HB5 := Lib.hid (HB4.out.still k5)
            obtain ⟨g0, c0, c1, c2, c3, c4, c5, hps, hqs⟩ := HDA.out.on HB5.out.zoo.below
            have HP := Lib.hid (HB5.out.zoo.add2 d.x hps hqs HFP.out.1 HFP.out.2 (by show _ < _; omega) (by show _ ≤ _; omega))
            clear HR hps hqs
            go_wp2_with fail
            refine HP.out.mono ?_
            rintro e w6 ⟨hsp, ⟨hmay2, rfl, L', hadd, hlen, hz6⟩ | ⟨hno, rfl, hz6⟩⟩
            · exact absurd (HB4.out.same ▸ hmay2) hmay
            · have hB6 : Both w w6 zp mb L M (.slice ma M.length mc) (k * 200) := ⟨hz6, HB5.out.row.spared hsp, HB5.out.ints, HB5.out.same⟩
              have C0 := Lib.hid (hB6.more (n' := (k + 1) * 200) (by omega))
              have HL2 : Hid (L.length ≤ 100) := by show _ ≤ _; omega
              have HK2 : Hid (L.length ≤ k + 1) := by show _ ≤ _; omega
              generalize hM2 : M = M2 at *
              generalize hL2 : L = L2 at *
              clear hz6 hsp HP hM2 hL2 hB6
              have n1 : (canLoad (L2.map ZR.z) at_ by_ != canLoad (L2.map ZR.z) at_ by_) = false := by simp
              have n2 : (canStore (L2.map ZR.z) at_ by_ != canStore (L2.map ZR.z) at_ by_) = false := by simp
              have n3 : (canRun (L2.map ZR.z) at_ != canRun (L2.map ZR.z) at_) = false := by simp
              have n4 : (kindOf (L2.map ZR.z) (at_ - at_ % 4) != kindOf (L2.map ZR.z) (at_ - at_ % 4)) = false := by simp
              have n5 : (fitsZ (L2.map ZR.z) kd va != fitsZ (L2.map ZR.z) kd va) = false := by simp
              go_wp2_with fail
              refine (C0.out.pload at_ by_).mono ?_
              rintro e x1 ⟨rfl, hb1⟩
              have C1 := Lib.hid hb1
              clear hb1
              go_wp2_with fail
              refine (C1.out.rload at_ by_ hby HL2.out).mono ?_
              rintro e x2 ⟨rfl, hb2⟩
              have C2 := Lib.hid hb2
              clear hb2
              go_wp2_with fail
              refine (C2.out.pstore at_ by_).mono ?_
              rintro e x3 ⟨rfl, hb3⟩
              have C3 := Lib.hid hb3
              clear hb3
              go_wp2_with fail
              refine (C3.out.rstore at_ by_ hby HL2.out).mono ?_
              rintro e x4 ⟨rfl, hb4⟩
              have C4 := Lib.hid hb4
              clear hb4
              go_wp2_with fail
              refine (C4.out.prun at_).mono ?_
              rintro e x5 ⟨rfl, hb5⟩
              have C5 := Lib.hid hb5
              clear hb5
              go_wp2_with fail
              refine (C5.out.rrun at_ HL2.out).mono ?_
              rintro e x6 ⟨rfl, hb6⟩
              have C6 := Lib.hid hb6
              clear hb6
              go_wp2_with fail
              refine (C6.out.pcell at_ hat).mono ?_
              rintro e x7 ⟨rfl, hb7⟩
              have C7 := Lib.hid hb7
              clear hb7
              go_wp2_with fail
              refine (C7.out.rcell at_ HL2.out).mono ?_
              rintro e x8 ⟨rfl, hb8⟩
              have C8 := Lib.hid hb8
              clear hb8
              go_wp2_with fail
              refine (C8.out.pfits kd va).mono ?_
              rintro e x9 ⟨rfl, hb9⟩
              have C9 := Lib.hid hb9
              clear hb9
              go_wp2_with fail
              refine (C9.out.rfits kd va HL2.out).mono ?_
              rintro e x10 ⟨rfl, hb10⟩
              have C10 := Lib.hid hb10
              clear hb10
              go_wp2_with fail
              go_roundw
              case rel => exact ⟨k + 1, by omega, by go_num, L2, M2, C10.out, HK2.out⟩
              case measure => simp [intOf]; omega
      · rw [show decide (d.x.p.n ≤ 40 ∧ d.x.q.n ≤ 40) = false by simpa using hfew] at HF
        clear hda hps hqs hfew
        go_wp2_with fail
        refine HF.out.mono ?_
        rintro e w3 ⟨rfl, hb3⟩
        have HB3 := Lib.hid (HB.out.still (.of_below hb3))
        clear hb3
        go_wp2_with fail
        go_ret
        exact ⟨rfl, HB3.out.zoo.below⟩
    · have hkn : k = n := by omega
      subst hkn
      go_wp2_with fail
      refine HB.out.all.mono ?_
      rintro e w3 ⟨sa, sc, L', rfl, hL', hrow, hst, hb3⟩
      have HB3 := Lib.hid hb3
      have hlen : L'.length = L.length := by have := congrArg List.length hL'; simpa using this
      have hlM := HB3.out.len
      have HR := Lib.hid hrow
      have HS := Lib.hid hst
      clear hb3 hrow hst
      go_wp2_with fail
      have k0 : Hid (Kept No w3 w3) := Kept.refl _ _
      go_loopw [18] (fun i wx => ∃ j : Nat, j ≤ M.length ∧ i = .int .i64 j ∧ Hid (Kept No w3 wx)) (fun i _ => M.length - (intOf i).toNat)
      case atStart => exact ⟨0, Nat.zero_le _, rfl, k0⟩
      case round =>
        obtain ⟨j, hj, rfl, hK⟩ := hrel
        have HB4 := Lib.hid (HB3.out.still hK.out)
        by_cases hjl : j < M.length
        · obtain ⟨x, hx⟩ : ∃ x, L'[j]? = some x := ⟨_, List.getElem?_eq_getElem (by omega)⟩
          obtain ⟨b, cap2, hv, hbl, hcap1, hcap2, hcs⟩ := HR.out.cell (by omega)
          rw [hlen] at hv
          cases hv
          obtain ⟨b2, cap3, hv2, hbl2, hcap3, hcap4, hcs2⟩ := HB4.out.row.cell (by omega)
          cases hv2
          obtain ⟨y, hy⟩ : ∃ y, M[j]? = some y := ⟨_, List.getElem?_eq_getElem hjl⟩
          have hxy : x.z = y.z := by
            have e1 : (L'.map ZR.z)[j]? = some x.z := by simp [hx]
            have e2 : (M.map ZR.z)[j]? = some y.z := by simp [hy]
            rw [hL', ← HB3.out.same, e2] at e1
            exact (Option.some.inj e1).symm
          have hi6 : ∀ wv, Kept No wr wv → (IntsAt wv x.p x.z.P ∧ IntsAt wv y.p x.z.P) ∧ (IntsAt wv x.q x.z.Q ∧ IntsAt wv y.q x.z.Q) := fun wv k => by
            have hxs := HS.out x (List.mem_of_getElem? hx)
            have hys := HB3.out.ints y (List.mem_of_getElem? hy)
            have kb := (HB4.out.still k).zoo.below
            exact ⟨⟨hxs.ps.on (hK.out.trans k).none, by rw [hxy]; exact hys.1.on kb⟩, ⟨hxs.qs.on (hK.out.trans k).none, by rw [hxy]; exact hys.2.on kb⟩⟩
          have HI := Lib.hid hi6
          have h6y := six_of rfl hcs2 hy
          have H6Y := Lib.hid h6y
          have HXY := Lib.hid hxy
          have hlb2 := hbl2
          clear hi6 hxy hcs2 h6y
          have h6 := (six_of rfl hcs hx).keep hK.out hbl (fun h => h)
          obtain ⟨c0, c1, c2, c3, c4, c5⟩ := h6
          have HAs := Lib.hid (as6_any x wr)
          have e5 : (j : Int) < (L.length : Int) := by omega
          have e6 : (0 : Int) ≤ (j : Int) := by omega
          clear hcs
          go_wp2_with fail
          refine HAs.out.mono ?_
          rintro e w5 ⟨rfl, k5⟩
          have HB5 := Lib.hid (HB4.out.still k5)
          have r1 : RowAt (w5.alloc (.cells #[.int .i64 0, .int .i64 0, .int .i64 0, .int .i64 0, .slice none 0 0, .slice none 0 0] RZT)) w5.heap.size RZT zeros6 := RowAt.new w5 RZT zeros6
          have HS1 := Lib.hid (store_rzone r1 rfl x)
          have HR1 := Lib.hid (r1.set x.el.cs)
          clear r1 c0 c1 c2 c3 c4 c5 HAs
          obtain ⟨wz, hwz⟩ : ∃ wz, wz = (w5.alloc (.cells #[.int .i64 0, .int .i64 0, .int .i64 0, .int .i64 0, .slice none 0 0, .slice none 0 0] RZT)).setRow w5.heap.size x.el.cs.toArray := ⟨_, rfl⟩
          have kz : Kept No wr wz := by rw [hwz]; exact (k5.alloc _).then (kept_row _ w5.heap.size _) (fun j' hj' h' => by have := k5.more; omega)
          rw [← hwz] at HS1 HR1
          have hzs : w5.heap.size < wz.heap.size := by rw [hwz]; simp
          clear hwz
          obtain ⟨u0, u1, u2, u3, u4, u5⟩ := cells_zone HR1.out
          simp only [Nat.zero_add] at u1 u2 u3 u4 u5
          obtain ⟨t0, t1, t2, t3, t4, t5⟩ := H6Y.out.keep kz hlb2 (fun h => h)
          rw [← HXY.out] at t0 t1 t2 t3
          have hbz : b2 < wz.heap.size := Nat.lt_of_lt_of_le hlb2 kz.more
          have HS2 : Hid (∀ wv, Kept No wz wv → ((wv.cell? ⟨w5.heap.size, 0, none⟩ = some (.int .i64 x.z.b) ∧ wv.cell? ⟨w5.heap.size, 1, none⟩ = some (.int .i64 x.z.d) ∧ wv.cell? ⟨w5.heap.size, 2, none⟩ = some (.int .i64 x.z.r) ∧ wv.cell? ⟨w5.heap.size, 3, none⟩ = some (.int .i64 x.z.e) ∧ wv.cell? ⟨w5.heap.size, 4, none⟩ = some x.p.v ∧ wv.cell? ⟨w5.heap.size, 5, none⟩ = some x.q.v) ∧ (wv.cell? ⟨b2, j * 6, none⟩ = some (.int .i64 x.z.b) ∧ wv.cell? ⟨b2, j * 6 + 1, none⟩ = some (.int .i64 x.z.d) ∧ wv.cell? ⟨b2, j * 6 + 2, none⟩ = some (.int .i64 x.z.r) ∧ wv.cell? ⟨b2, j * 6 + 3, none⟩ = some (.int .i64 x.z.e) ∧ wv.cell? ⟨b2, j * 6 + 4, none⟩ = some y.p.v ∧ wv.cell? ⟨b2, j * 6 + 5, none⟩ = some y.q.v)) ∧ Kept No wz wv) := fun wv k => by
            have q : ∀ bb i, bb < wz.heap.size → wv.cell? ⟨bb, i, none⟩ = wz.cell? ⟨bb, i, none⟩ := fun bb i h => k.cell (p := ⟨bb, i, none⟩) h (fun h => h)
            refine ⟨⟨⟨(q _ _ hzs).trans u0, (q _ _ hzs).trans u1, (q _ _ hzs).trans u2, (q _ _ hzs).trans u3, (q _ _ hzs).trans u4, (q _ _ hzs).trans u5⟩, ⟨(q _ _ hbz).trans t0, (q _ _ hbz).trans t1, (q _ _ hbz).trans t2, (q _ _ hbz).trans t3, (q _ _ hbz).trans t4, (q _ _ hbz).trans t5⟩⟩, k⟩
          have HKZ := Lib.hid kz
          have e7 : (j : Int) < (M.length : Int) := by omega
          have n1 : (x.z.b != x.z.b) = false := by simp
          have n2 : (x.z.d != x.z.d) = false := by simp
          have n3 : (x.z.r != x.z.r) = false := by simp
          have n4 : (x.z.e != x.z.e) = false := by simp
          clear u0 u1 u2 u3 u4 u5 t0 t1 t2 t3 t4 t5 kz hbz hzs hlb2 H6Y HR1
          go_wp2_with (refine wpList_store_run _ rfl _ _ _ rfl _ _ rfl rfl (by exact HS1.out) ?_)
          clear HS1
          refine wp_region_held_drew (S := fun w' => ((w'.cell? ⟨w5.heap.size, 0, none⟩ = some (.int .i64 x.z.b) ∧ w'.cell? ⟨w5.heap.size, 1, none⟩ = some (.int .i64 x.z.d) ∧ w'.cell? ⟨w5.heap.size, 2, none⟩ = some (.int .i64 x.z.r) ∧ w'.cell? ⟨w5.heap.size, 3, none⟩ = some (.int .i64 x.z.e) ∧ w'.cell? ⟨w5.heap.size, 4, none⟩ = some x.p.v ∧ w'.cell? ⟨w5.heap.size, 5, none⟩ = some x.q.v) ∧ (w'.cell? ⟨b2, j * 6, none⟩ = some (.int .i64 x.z.b) ∧ w'.cell? ⟨b2, j * 6 + 1, none⟩ = some (.int .i64 x.z.d) ∧ w'.cell? ⟨b2, j * 6 + 2, none⟩ = some (.int .i64 x.z.r) ∧ w'.cell? ⟨b2, j * 6 + 3, none⟩ = some (.int .i64 x.z.e) ∧ w'.cell? ⟨b2, j * 6 + 4, none⟩ = some y.p.v ∧ w'.cell? ⟨b2, j * 6 + 5, none⟩ = some y.q.v)) ∧ Kept No wz w') (by kernel_rfl) ?_ (fun hHeld => ?_)
          · exact HS2.out _ (Kept.refl _ _).drew
          refine wpAnyH_take (i := 0) (v := ?_) rfl (by kernel_rfl) (by kernel_rfl) (by kernel_rfl) (fun _ _ _ h => h) (Or.inl ⟨by rfl, ?_⟩) (by assumption) ?_
          rotate_left
          · intro w hSw
            (try dsimp only at hSw)
            go_simp
            (try with_reducible rfl)
          try simp only [Act.put, List.getElem_toArray, List.getElem_cons_zero, List.setIfInBounds_toArray, List.set_cons_zero, List.set_cons_succ]
          refine wpAnyH_take (i := 1) (v := ?_) rfl (by kernel_rfl) (by kernel_rfl) (by kernel_rfl) (fun _ _ _ h => h) (Or.inl ⟨by rfl, ?_⟩) (by assumption) ?_
          rotate_left
          · intro w hSw
            (try dsimp only at hSw)
            go_simp
            (try with_reducible rfl)
          try simp only [Act.put, List.getElem_toArray, List.getElem_cons_zero, List.getElem_cons_succ, List.setIfInBounds_toArray, List.set_cons_zero, List.set_cons_succ]
          refine wpAnyH_take (i := 2) (v := ?_) rfl (by kernel_rfl) (by kernel_rfl) (by kernel_rfl) (fun _ _ _ h => h) (Or.inl ⟨by rfl, ?_⟩) (by assumption) ?_
          rotate_left
          · intro w hSw
            (try dsimp only at hSw)
            go_simp
            (try with_reducible rfl)
          try simp only [Act.put, List.getElem_toArray, List.getElem_cons_zero, List.getElem_cons_succ, List.setIfInBounds_toArray, List.set_cons_zero, List.set_cons_succ]
          refine wpAnyH_take (i := 3) (v := ?_) rfl (by kernel_rfl) (by kernel_rfl) (by kernel_rfl) (fun _ _ _ h => h) (Or.inl ⟨by rfl, ?_⟩) (by assumption) ?_
          rotate_left
          · intro w hSw
            (try dsimp only at hSw)
            go_simp
            (try with_reducible rfl)
          try simp only [Act.put, List.getElem_toArray, List.getElem_cons_zero, List.getElem_cons_succ, List.setIfInBounds_toArray, List.set_cons_zero, List.set_cons_succ]
          refine wpAnyH_take (i := 4) (v := ?_) rfl (by kernel_rfl) (by kernel_rfl) (by kernel_rfl) (fun _ _ _ h => h) (Or.inl ⟨by rfl, ?_⟩) (by assumption) ?_
          rotate_left
          · intro w hSw
            (try dsimp only at hSw)
            go_simp
            (try with_reducible rfl)
          try simp only [Act.put, List.getElem_toArray, List.getElem_cons_zero, List.getElem_cons_succ, List.setIfInBounds_toArray, List.set_cons_zero, List.set_cons_succ]
          refine wpAnyH_take (i := 5) (v := ?_) rfl (by kernel_rfl) (by kernel_rfl) (by kernel_rfl) (fun _ _ _ h => h) (Or.inl ⟨by rfl, ?_⟩) (by assumption) ?_
          rotate_left
          · intro w hSw
            (try dsimp only at hSw)
            go_simp
            (try with_reducible rfl)
          try simp only [Act.put, List.getElem_toArray, List.getElem_cons_zero, List.getElem_cons_succ, List.setIfInBounds_toArray, List.set_cons_zero, List.set_cons_succ]
          refine wpAnyH_take (i := 6) (v := ?_) rfl (by kernel_rfl) (by kernel_rfl) (by kernel_rfl) (fun _ _ _ h => h) (Or.inl ⟨by rfl, ?_⟩) (by assumption) ?_
          rotate_left
          · intro w hSw
            (try dsimp only at hSw)
            go_simp
            (try with_reducible rfl)
          try simp only [Act.put, List.getElem_toArray, List.getElem_cons_zero, List.getElem_cons_succ, List.setIfInBounds_toArray, List.set_cons_zero, List.set_cons_succ]
          refine wpAnyH_take (i := 7) (v := ?_) rfl (by kernel_rfl) (by kernel_rfl) (by kernel_rfl) (fun _ _ _ h => h) (Or.inl ⟨by rfl, ?_⟩) (by assumption) ?_
          rotate_left
          · intro w hSw
            (try dsimp only at hSw)
            go_simp
            (try with_reducible rfl)
          try simp only [Act.put, List.getElem_toArray, List.getElem_cons_zero, List.getElem_cons_succ, List.setIfInBounds_toArray, List.set_cons_zero, List.set_cons_succ]
          refine wpAnyH_take (i := 8) (v := ?_) rfl (by kernel_rfl) (by kernel_rfl) (by kernel_rfl) (fun _ _ _ h => h) (Or.inl ⟨by rfl, ?_⟩) (by assumption) ?_
          rotate_left
          · intro w hSw
            (try dsimp only at hSw)
            go_simp
            (try with_reducible rfl)
          try simp only [Act.put, List.getElem_toArray, List.getElem_cons_zero, List.getElem_cons_succ, List.setIfInBounds_toArray, List.set_cons_zero, List.set_cons_succ]
          refine wpAnyH_take (i := 9) (v := ?_) rfl (by kernel_rfl) (by kernel_rfl) (by kernel_rfl) (fun _ _ _ h => h) (Or.inl ⟨by rfl, ?_⟩) (by assumption) ?_
          rotate_left
          · intro w hSw
            (try dsimp only at hSw)
            go_simp
            (try with_reducible rfl)
          try simp only [Act.put, List.getElem_toArray, List.getElem_cons_zero, List.getElem_cons_succ, List.setIfInBounds_toArray, List.set_cons_zero, List.set_cons_succ]
          refine wpAnyH_take (i := 10) (v := ?_) rfl (by kernel_rfl) (by kernel_rfl) (by kernel_rfl) (fun _ _ _ h => h) (Or.inl ⟨by rfl, ?_⟩) (by assumption) ?_
          rotate_left
          · intro w hSw
            (try dsimp only at hSw)
            go_simp
            (try with_reducible rfl)
          try simp only [Act.put, List.getElem_toArray, List.getElem_cons_zero, List.getElem_cons_succ, List.setIfInBounds_toArray, List.set_cons_zero, List.set_cons_succ]
          refine wpAnyH_take (i := 11) (v := ?_) rfl (by kernel_rfl) (by kernel_rfl) (by kernel_rfl) (fun _ _ _ h => h) (Or.inl ⟨by rfl, ?_⟩) (by assumption) ?_
          rotate_left
          · intro w hSw
            (try dsimp only at hSw)
            go_simp
            (try with_reducible rfl)
          try simp only [Act.put, List.getElem_toArray, List.getElem_cons_zero, List.getElem_cons_succ, List.setIfInBounds_toArray, List.set_cons_zero, List.set_cons_succ]
          refine wpAnyH_take (i := 12) (v := ?_) rfl (by kernel_rfl) (by kernel_rfl) (by kernel_rfl) (fun _ _ _ h => h) (Or.inl ⟨by rfl, ?_⟩) (by assumption) ?_
          rotate_left
          · intro w hSw
            (try dsimp only at hSw)
            go_simp
            (try with_reducible rfl)
          try simp only [Act.put, List.getElem_toArray, List.getElem_cons_zero, List.getElem_cons_succ, List.setIfInBounds_toArray, List.set_cons_zero, List.set_cons_succ]
          refine wpAnyH_take (i := 13) (v := ?_) rfl (by kernel_rfl) (by kernel_rfl) (by kernel_rfl) (fun _ _ _ h => h) (Or.inl ⟨by rfl, ?_⟩) (by assumption) ?_
          rotate_left
          · intro w hSw
            (try dsimp only at hSw)
            go_simp
            (try with_reducible rfl)
          try simp only [Act.put, List.getElem_toArray, List.getElem_cons_zero, List.getElem_cons_succ, List.setIfInBounds_toArray, List.set_cons_zero, List.set_cons_succ]
          refine wpAnyH_take (i := 14) (v := ?_) rfl (by kernel_rfl) (by kernel_rfl) (by kernel_rfl) (fun _ _ _ h => h) (Or.inl ⟨by rfl, ?_⟩) (by assumption) ?_
          rotate_left
          · intro w hSw
            (try dsimp only at hSw)
            go_simp
            (try with_reducible rfl)
          try simp only [Act.put, List.getElem_toArray, List.getElem_cons_zero, List.getElem_cons_succ, List.setIfInBounds_toArray, List.set_cons_zero, List.set_cons_succ]
          refine wpAnyH_take (i := 15) (v := ?_) rfl (by kernel_rfl) (by kernel_rfl) (by kernel_rfl) (fun _ _ _ h => h) (Or.inl ⟨by rfl, ?_⟩) (by assumption) ?_
          rotate_left
          · intro w hSw
            (try dsimp only at hSw)
            go_simp
            (try with_reducible rfl)
          try simp only [Act.put, List.getElem_toArray, List.getElem_cons_zero, List.getElem_cons_succ, List.setIfInBounds_toArray, List.set_cons_zero, List.set_cons_succ]
          refine wpAnyH_take (i := 16) (v := ?_) rfl (by kernel_rfl) (by kernel_rfl) (by kernel_rfl) (fun _ _ _ h => h) (Or.inl ⟨by rfl, ?_⟩) (by assumption) ?_
          rotate_left
          · intro w hSw
            (try dsimp only at hSw)
            go_simp
            (try with_reducible rfl)
          try simp only [Act.put, List.getElem_toArray, List.getElem_cons_zero, List.getElem_cons_succ, List.setIfInBounds_toArray, List.set_cons_zero, List.set_cons_succ]
          refine wpAnyH_take (i := 17) (v := ?_) rfl (by kernel_rfl) (by kernel_rfl) (by kernel_rfl) (fun _ _ _ h => h) (Or.inl ⟨by rfl, ?_⟩) (by assumption) ?_
          rotate_left
          · intro w hSw
            (try dsimp only at hSw)
            go_simp
            (try with_reducible rfl)
          try simp only [Act.put, List.getElem_toArray, List.getElem_cons_zero, List.getElem_cons_succ, List.setIfInBounds_toArray, List.set_cons_zero, List.set_cons_succ]
          refine wpAnyH_take (i := 18) (v := ?_) rfl (by kernel_rfl) (by kernel_rfl) (by kernel_rfl) (fun _ _ _ h => h) (Or.inl ⟨by rfl, ?_⟩) (by assumption) ?_
          rotate_left
          · intro w hSw
            (try dsimp only at hSw)
            go_simp
            (try with_reducible rfl)
          try simp only [Act.put, List.getElem_toArray, List.getElem_cons_zero, List.getElem_cons_succ, List.setIfInBounds_toArray, List.set_cons_zero, List.set_cons_succ]
          refine wpAnyH_take (i := 19) (v := ?_) rfl (by kernel_rfl) (by kernel_rfl) (by kernel_rfl) (fun _ _ _ h => h) (Or.inl ⟨by rfl, ?_⟩) (by assumption) ?_
          rotate_left
          · intro w hSw
            (try dsimp only at hSw)
            go_simp
            (try with_reducible rfl)
          try simp only [Act.put, List.getElem_toArray, List.getElem_cons_zero, List.getElem_cons_succ, List.setIfInBounds_toArray, List.set_cons_zero, List.set_cons_succ]
          refine wpAnyH_take (i := 20) (v := ?_) rfl (by kernel_rfl) (by kernel_rfl) (by kernel_rfl) (fun _ _ _ h => h) (Or.inl ⟨by rfl, ?_⟩) (by assumption) ?_
          rotate_left
          · intro w hSw
            (try dsimp only at hSw)
            go_simp
            (try with_reducible rfl)
          try simp only [Act.put, List.getElem_toArray, List.getElem_cons_zero, List.getElem_cons_succ, List.setIfInBounds_toArray, List.set_cons_zero, List.set_cons_succ]
          refine wpAnyH_take (i := 21) (v := ?_) rfl (by kernel_rfl) (by kernel_rfl) (by kernel_rfl) (fun _ _ _ h => h) (Or.inl ⟨by rfl, ?_⟩) (by assumption) ?_
          rotate_left
          · intro w hSw
            (try dsimp only at hSw)
            go_simp
            (try with_reducible rfl)
          try simp only [Act.put, List.getElem_toArray, List.getElem_cons_zero, List.getElem_cons_succ, List.setIfInBounds_toArray, List.set_cons_zero, List.set_cons_succ]
          refine wpAnyH_take (i := 22) (v := ?_) rfl (by kernel_rfl) (by kernel_rfl) (by kernel_rfl) (fun _ _ _ h => h) (Or.inl ⟨by rfl, ?_⟩) (by assumption) ?_
          rotate_left
          · intro w hSw
            (try dsimp only at hSw)
            go_simp
            (try with_reducible rfl)
          try simp only [Act.put, List.getElem_toArray, List.getElem_cons_zero, List.getElem_cons_succ, List.setIfInBounds_toArray, List.set_cons_zero, List.set_cons_succ]
          refine wpAnyH_take (i := 23) (v := ?_) rfl (by kernel_rfl) (by kernel_rfl) (by kernel_rfl) (fun _ _ _ h => h) (Or.inl ⟨by rfl, ?_⟩) (by assumption) ?_
          rotate_left
          · intro w hSw
            (try dsimp only at hSw)
            go_simp
            (try with_reducible rfl)
          try simp only [Act.put, List.getElem_toArray, List.getElem_cons_zero, List.getElem_cons_succ, List.setIfInBounds_toArray, List.set_cons_zero, List.set_cons_succ]
          refine wpAnyH_take (i := 24) (v := ?_) rfl (by kernel_rfl) (by kernel_rfl) (by kernel_rfl) (fun _ _ _ h => h) (Or.inl ⟨by rfl, ?_⟩) (by assumption) ?_
          rotate_left
          · intro w hSw
            (try dsimp only at hSw)
            go_simp
            (try with_reducible rfl)
          try simp only [Act.put, List.getElem_toArray, List.getElem_cons_zero, List.getElem_cons_succ, List.setIfInBounds_toArray, List.set_cons_zero, List.set_cons_succ]
          refine wpAnyH_take (i := 25) (v := ?_) rfl (by kernel_rfl) (by kernel_rfl) (by kernel_rfl) (fun _ _ _ h => h) (Or.inl ⟨by rfl, ?_⟩) (by assumption) ?_
          rotate_left
          · intro w hSw
            (try dsimp only at hSw)
            go_simp
            (try with_reducible rfl)
          try simp only [Act.put, List.getElem_toArray, List.getElem_cons_zero, List.getElem_cons_succ, List.setIfInBounds_toArray, List.set_cons_zero, List.set_cons_succ]
          refine wpAnyH_take (i := 26) (v := ?_) rfl (by kernel_rfl) (by kernel_rfl) (by kernel_rfl) (fun _ _ _ h => h) (Or.inl ⟨by rfl, ?_⟩) (by assumption) ?_
          rotate_left
          · intro w hSw
            (try dsimp only at hSw)
            go_simp
            (try with_reducible rfl)
          try simp only [Act.put, List.getElem_toArray, List.getElem_cons_zero, List.getElem_cons_succ, List.setIfInBounds_toArray, List.set_cons_zero, List.set_cons_succ]
          refine wpAnyH_take (i := 27) (v := ?_) rfl (by kernel_rfl) (by kernel_rfl) (by kernel_rfl) (fun _ _ _ h => h) (Or.inl ⟨by rfl, ?_⟩) (by assumption) ?_
          rotate_left
          · intro w hSw
            (try dsimp only at hSw)
            go_simp
            (try with_reducible rfl)
          try simp only [Act.put, List.getElem_toArray, List.getElem_cons_zero, List.getElem_cons_succ, List.setIfInBounds_toArray, List.set_cons_zero, List.set_cons_succ]
          refine wpAnyH_take (i := 28) (v := ?_) rfl (by kernel_rfl) (by kernel_rfl) (by kernel_rfl) (fun _ _ _ h => h) (Or.inl ⟨by rfl, ?_⟩) (by assumption) ?_
          rotate_left
          · intro w hSw
            (try dsimp only at hSw)
            go_simp
            (try with_reducible rfl)
          try simp only [Act.put, List.getElem_toArray, List.getElem_cons_zero, List.getElem_cons_succ, List.setIfInBounds_toArray, List.set_cons_zero, List.set_cons_succ]
          refine wpAnyH_take (i := 29) (v := ?_) rfl (by kernel_rfl) (by kernel_rfl) (by kernel_rfl) (fun _ _ _ h => h) (Or.inl ⟨by rfl, ?_⟩) (by assumption) ?_
          rotate_left
          · intro w hSw
            (try dsimp only at hSw)
            go_simp
            (try with_reducible rfl)
          try simp only [Act.put, List.getElem_toArray, List.getElem_cons_zero, List.getElem_cons_succ, List.setIfInBounds_toArray, List.set_cons_zero, List.set_cons_succ]
          refine wpAnyH_take (i := 30) (v := ?_) rfl (by kernel_rfl) (by kernel_rfl) (by kernel_rfl) (fun _ _ _ h => h) (Or.inl ⟨by rfl, ?_⟩) (by assumption) ?_
          rotate_left
          · intro w hSw
            (try dsimp only at hSw)
            go_simp
            (try with_reducible rfl)
          try simp only [Act.put, List.getElem_toArray, List.getElem_cons_zero, List.getElem_cons_succ, List.setIfInBounds_toArray, List.set_cons_zero, List.set_cons_succ]
          refine wpAnyH_take (i := 31) (v := ?_) rfl (by kernel_rfl) (by kernel_rfl) (by kernel_rfl) (fun _ _ _ h => h) (Or.inl ⟨by rfl, ?_⟩) (by assumption) ?_
          rotate_left
          · intro w hSw
            (try dsimp only at hSw)
            go_simp
            (try with_reducible rfl)
          try simp only [Act.put, List.getElem_toArray, List.getElem_cons_zero, List.getElem_cons_succ, List.setIfInBounds_toArray, List.set_cons_zero, List.set_cons_succ]
          refine wpAnyH_take (i := 32) (v := ?_) rfl (by kernel_rfl) (by kernel_rfl) (by kernel_rfl) (fun _ _ _ h => h) (Or.inl ⟨by rfl, ?_⟩) (by assumption) ?_
          rotate_left
          · intro w hSw
            (try dsimp only at hSw)
            go_simp
            (try with_reducible rfl)
          try simp only [Act.put, List.getElem_toArray, List.getElem_cons_zero, List.getElem_cons_succ, List.setIfInBounds_toArray, List.set_cons_zero, List.set_cons_succ]
          refine wpAnyH_take (i := 33) (v := ?_) rfl (by kernel_rfl) (by kernel_rfl) (by kernel_rfl) (fun _ _ _ h => h) (Or.inl ⟨by rfl, ?_⟩) (by assumption) ?_
          rotate_left
          · intro w hSw
            (try dsimp only at hSw)
            go_simp
            (try with_reducible rfl)
          try simp only [Act.put, List.getElem_toArray, List.getElem_cons_zero, List.getElem_cons_succ, List.setIfInBounds_toArray, List.set_cons_zero, List.set_cons_succ]
          refine wpAnyH_take (i := 34) (v := ?_) rfl (by kernel_rfl) (by kernel_rfl) (by kernel_rfl) (fun _ _ _ h => h) (Or.inl ⟨by rfl, ?_⟩) (by assumption) ?_
          rotate_left
          · intro w hSw
            (try dsimp only at hSw)
            go_simp
            (try with_reducible rfl)
          try simp only [Act.put, List.getElem_toArray, List.getElem_cons_zero, List.getElem_cons_succ, List.setIfInBounds_toArray, List.set_cons_zero, List.set_cons_succ]
          refine wpAnyH_take (i := 35) (v := ?_) rfl (by kernel_rfl) (by kernel_rfl) (by kernel_rfl) (fun _ _ _ h => h) (Or.inl ⟨by rfl, ?_⟩) (by assumption) ?_
          rotate_left
          · intro w hSw
            (try dsimp only at hSw)
            go_simp
            (try with_reducible rfl)
          try simp only [Act.put, List.getElem_toArray, List.getElem_cons_zero, List.getElem_cons_succ, List.setIfInBounds_toArray, List.set_cons_zero, List.set_cons_succ]
          refine wpAnyH_take (i := 36) (v := ?_) rfl (by kernel_rfl) (by kernel_rfl) (by kernel_rfl) (fun _ _ _ h => h) (Or.inl ⟨by rfl, ?_⟩) (by assumption) ?_
          rotate_left
          · intro w hSw
            (try dsimp only at hSw)
            go_simp
            (try with_reducible rfl)
          try simp only [Act.put, List.getElem_toArray, List.getElem_cons_zero, List.getElem_cons_succ, List.setIfInBounds_toArray, List.set_cons_zero, List.set_cons_succ]
          refine wpAnyH_take (i := 37) (v := ?_) rfl (by kernel_rfl) (by kernel_rfl) (by kernel_rfl) (fun _ _ _ h => h) (Or.inl ⟨by rfl, ?_⟩) (by assumption) ?_
          rotate_left
          · intro w hSw
            (try dsimp only at hSw)
            go_simp
            (try with_reducible rfl)
          try simp only [Act.put, List.getElem_toArray, List.getElem_cons_zero, List.getElem_cons_succ, List.setIfInBounds_toArray, List.set_cons_zero, List.set_cons_succ]
          refine wpAnyH_take (i := 38) (v := ?_) rfl (by kernel_rfl) (by kernel_rfl) (by kernel_rfl) (fun _ _ _ h => h) (Or.inl ⟨by rfl, ?_⟩) (by assumption) ?_
          rotate_left
          · intro w hSw
            (try dsimp only at hSw)
            go_simp
            (try with_reducible rfl)
          try simp only [Act.put, List.getElem_toArray, List.getElem_cons_zero, List.getElem_cons_succ, List.setIfInBounds_toArray, List.set_cons_zero, List.set_cons_succ]
          refine wpAnyH_take (i := 39) (v := ?_) rfl (by kernel_rfl) (by kernel_rfl) (by kernel_rfl) (fun _ _ _ h => h) (Or.inl ⟨by rfl, ?_⟩) (by assumption) ?_
          rotate_left
          · intro w hSw
            (try dsimp only at hSw)
            go_simp
            (try with_reducible rfl)
          try simp only [Act.put, List.getElem_toArray, List.getElem_cons_zero, List.getElem_cons_succ, List.setIfInBounds_toArray, List.set_cons_zero, List.set_cons_succ]
          refine wpAnyH_take (i := 40) (v := ?_) rfl (by kernel_rfl) (by kernel_rfl) (by kernel_rfl) (fun _ _ _ h => h) (Or.inl ⟨by rfl, ?_⟩) (by assumption) ?_
          rotate_left
          · intro w hSw
            (try dsimp only at hSw)
            go_simp
            (try with_reducible rfl)
          try simp only [Act.put, List.getElem_toArray, List.getElem_cons_zero, List.getElem_cons_succ, List.setIfInBounds_toArray, List.set_cons_zero, List.set_cons_succ]
          refine wpAnyH_take (i := 41) (v := ?_) rfl (by kernel_rfl) (by kernel_rfl) (by kernel_rfl) (fun _ _ _ h => h) (Or.inl ⟨by rfl, ?_⟩) (by assumption) ?_
          rotate_left
          · intro w hSw
            (try dsimp only at hSw)
            go_simp
            (try with_reducible rfl)
          try simp only [Act.put, List.getElem_toArray, List.getElem_cons_zero, List.getElem_cons_succ, List.setIfInBounds_toArray, List.set_cons_zero, List.set_cons_succ]
          refine wpAnyH_take (i := 42) (v := ?_) rfl (by kernel_rfl) (by kernel_rfl) (by kernel_rfl) (fun _ _ _ h => h) (Or.inl ⟨by rfl, ?_⟩) (by assumption) ?_
          rotate_left
          · intro w hSw
            (try dsimp only at hSw)
            go_simp
            (try with_reducible rfl)
          try simp only [Act.put, List.getElem_toArray, List.getElem_cons_zero, List.getElem_cons_succ, List.setIfInBounds_toArray, List.set_cons_zero, List.set_cons_succ]
          refine wpAnyH_take (i := 43) (v := ?_) rfl (by kernel_rfl) (by kernel_rfl) (by kernel_rfl) (fun _ _ _ h => h) (Or.inl ⟨by rfl, ?_⟩) (by assumption) ?_
          rotate_left
          · intro w hSw
            (try dsimp only at hSw)
            go_simp
            (try with_reducible rfl)
          try simp only [Act.put, List.getElem_toArray, List.getElem_cons_zero, List.getElem_cons_succ, List.setIfInBounds_toArray, List.set_cons_zero, List.set_cons_succ]
          refine wpAnyH_take (i := 44) (v := ?_) rfl (by kernel_rfl) (by kernel_rfl) (by kernel_rfl) (fun _ _ _ h => h) (Or.inl ⟨by rfl, ?_⟩) (by assumption) ?_
          rotate_left
          · intro w hSw
            (try dsimp only at hSw)
            go_simp
            (try with_reducible rfl)
          try simp only [Act.put, List.getElem_toArray, List.getElem_cons_zero, List.getElem_cons_succ, List.setIfInBounds_toArray, List.set_cons_zero, List.set_cons_succ]
          refine wpAnyH_take (i := 45) (v := ?_) rfl (by kernel_rfl) (by kernel_rfl) (by kernel_rfl) (fun _ _ _ h => h) (Or.inl ⟨by rfl, ?_⟩) (by assumption) ?_
          rotate_left
          · intro w hSw
            (try dsimp only at hSw)
            go_simp
            (try with_reducible rfl)
          try simp only [Act.put, List.getElem_toArray, List.getElem_cons_zero, List.getElem_cons_succ, List.setIfInBounds_toArray, List.set_cons_zero, List.set_cons_succ]
          refine wpAnyH_ready (rs := [46]) (by kernel_rfl) (by simp) ?_
          refine AllReadyH.cons rfl (fun K hK => ?_) AllReadyH.nil
          go_simp
          refine (ints_same x.p y.p x.z.P _ (HI.out _ (HKZ.out.trans hHeld.2)).1.1 (HI.out _ (HKZ.out.trans hHeld.2)).1.2).mono ?_
          rintro e v1 ⟨rfl, hk1⟩
          first | show K _ _ | go_wp2_with fail
          refine hK.out _ _ ?_ (fun hHeld1 => ?_)
          · exact HS2.out _ (hHeld.2.trans hk1)
          clear hK K
          try simp only [Act.put, List.getElem_toArray, List.getElem_cons_zero, List.getElem_cons_succ, List.setIfInBounds_toArray, List.set_cons_zero, List.set_cons_succ]
          refine wpAnyH_take (i := 47) (v := ?_) rfl (by kernel_rfl) (by kernel_rfl) (by kernel_rfl) (fun _ _ _ h => h) (Or.inl ⟨by rfl, ?_⟩) (by assumption) ?_
          rotate_left
          · intro w hSw
            (try dsimp only at hSw)
            go_simp
            (try with_reducible rfl)
          try simp only [Act.put, List.getElem_toArray, List.getElem_cons_zero, List.getElem_cons_succ, List.setIfInBounds_toArray, List.set_cons_zero, List.set_cons_succ]
          refine wpAnyH_take (i := 48) (v := ?_) rfl (by kernel_rfl) (by kernel_rfl) (by kernel_rfl) (fun _ _ _ h => h) (Or.inl ⟨by rfl, ?_⟩) (by assumption) ?_
          rotate_left
          · intro w hSw
            (try dsimp only at hSw)
            go_simp
            (try with_reducible rfl)
          try simp only [Act.put, List.getElem_toArray, List.getElem_cons_zero, List.getElem_cons_succ, List.setIfInBounds_toArray, List.set_cons_zero, List.set_cons_succ]
          refine wpAnyH_take (i := 49) (v := ?_) rfl (by kernel_rfl) (by kernel_rfl) (by kernel_rfl) (fun _ _ _ h => h) (Or.inl ⟨by rfl, ?_⟩) (by assumption) ?_
          rotate_left
          · intro w hSw
            (try dsimp only at hSw)
            go_simp
            (try with_reducible rfl)
          try simp only [Act.put, List.getElem_toArray, List.getElem_cons_zero, List.getElem_cons_succ, List.setIfInBounds_toArray, List.set_cons_zero, List.set_cons_succ]
          refine wpAnyH_take (i := 50) (v := ?_) rfl (by kernel_rfl) (by kernel_rfl) (by kernel_rfl) (fun _ _ _ h => h) (Or.inl ⟨by rfl, ?_⟩) (by assumption) ?_
          rotate_left
          · intro w hSw
            (try dsimp only at hSw)
            go_simp
            (try with_reducible rfl)
          try simp only [Act.put, List.getElem_toArray, List.getElem_cons_zero, List.getElem_cons_succ, List.setIfInBounds_toArray, List.set_cons_zero, List.set_cons_succ]
          refine wpAnyH_take (i := 51) (v := ?_) rfl (by kernel_rfl) (by kernel_rfl) (by kernel_rfl) (fun _ _ _ h => h) (Or.inl ⟨by rfl, ?_⟩) (by assumption) ?_
          rotate_left
          · intro w hSw
            (try dsimp only at hSw)
            go_simp
            (try with_reducible rfl)
          try simp only [Act.put, List.getElem_toArray, List.getElem_cons_zero, List.getElem_cons_succ, List.setIfInBounds_toArray, List.set_cons_zero, List.set_cons_succ]
          refine wpAnyH_take (i := 52) (v := ?_) rfl (by kernel_rfl) (by kernel_rfl) (by kernel_rfl) (fun _ _ _ h => h) (Or.inl ⟨by rfl, ?_⟩) (by assumption) ?_
          rotate_left
          · intro w hSw
            (try dsimp only at hSw)
            go_simp
            (try with_reducible rfl)
          try simp only [Act.put, List.getElem_toArray, List.getElem_cons_zero, List.getElem_cons_succ, List.setIfInBounds_toArray, List.set_cons_zero, List.set_cons_succ]
          refine wpAnyH_take (i := 53) (v := ?_) rfl (by kernel_rfl) (by kernel_rfl) (by kernel_rfl) (fun _ _ _ h => h) (Or.inl ⟨by rfl, ?_⟩) (by assumption) ?_
          rotate_left
          · intro w hSw
            (try dsimp only at hSw)
            go_simp
            (try with_reducible rfl)
          try simp only [Act.put, List.getElem_toArray, List.getElem_cons_zero, List.getElem_cons_succ, List.setIfInBounds_toArray, List.set_cons_zero, List.set_cons_succ]
          refine wpAnyH_take (i := 54) (v := ?_) rfl (by kernel_rfl) (by kernel_rfl) (by kernel_rfl) (fun _ _ _ h => h) (Or.inl ⟨by rfl, ?_⟩) (by assumption) ?_
          rotate_left
          · intro w hSw
            (try dsimp only at hSw)
            go_simp
            (try with_reducible rfl)
          try simp only [Act.put, List.getElem_toArray, List.getElem_cons_zero, List.getElem_cons_succ, List.setIfInBounds_toArray, List.set_cons_zero, List.set_cons_succ]
          refine wpAnyH_take (i := 55) (v := ?_) rfl (by kernel_rfl) (by kernel_rfl) (by kernel_rfl) (fun _ _ _ h => h) (Or.inl ⟨by rfl, ?_⟩) (by assumption) ?_
          rotate_left
          · intro w hSw
            (try dsimp only at hSw)
            go_simp
            (try with_reducible rfl)
          try simp only [Act.put, List.getElem_toArray, List.getElem_cons_zero, List.getElem_cons_succ, List.setIfInBounds_toArray, List.set_cons_zero, List.set_cons_succ]
          refine wpAnyH_take (i := 56) (v := ?_) rfl (by kernel_rfl) (by kernel_rfl) (by kernel_rfl) (fun _ _ _ h => h) (Or.inl ⟨by rfl, ?_⟩) (by assumption) ?_
          rotate_left
          · intro w hSw
            (try dsimp only at hSw)
            go_simp
            (try with_reducible rfl)
          try simp only [Act.put, List.getElem_toArray, List.getElem_cons_zero, List.getElem_cons_succ, List.setIfInBounds_toArray, List.set_cons_zero, List.set_cons_succ]
          refine wpAnyH_ready (rs := [57]) (by kernel_rfl) (by simp) ?_
          refine AllReadyH.cons rfl (fun K hK => ?_) AllReadyH.nil
          go_simp
          refine (ints_same x.q y.q x.z.Q _ (HI.out _ (HKZ.out.trans hHeld1.2)).2.1 (HI.out _ (HKZ.out.trans hHeld1.2)).2.2).mono ?_
          rintro e v2 ⟨rfl, hk2⟩
          first | show K _ _ | go_wp2_with fail
          refine hK.out _ _ ?_ (fun hHeld2 => ?_)
          · exact HS2.out _ (hHeld1.2.trans hk2)
          clear hK K
          try simp only [Act.put, List.getElem_toArray, List.getElem_cons_zero, List.getElem_cons_succ, List.setIfInBounds_toArray, List.set_cons_zero, List.set_cons_succ]
          refine wpAnyH_take (i := 58) (v := ?_) rfl (by kernel_rfl) (by kernel_rfl) (by kernel_rfl) (fun _ _ _ h => h) (Or.inl ⟨by rfl, ?_⟩) (by assumption) ?_
          rotate_left
          · intro w hSw
            (try dsimp only at hSw)
            go_simp
            (try with_reducible rfl)
          try simp only [Act.put, List.getElem_toArray, List.getElem_cons_zero, List.getElem_cons_succ, List.setIfInBounds_toArray, List.set_cons_zero, List.set_cons_succ]
          refine wpAnyH_take (i := 59) (v := ?_) rfl (by kernel_rfl) (by kernel_rfl) (by kernel_rfl) (fun _ _ _ h => h) (Or.inl ⟨by rfl, ?_⟩) (by assumption) ?_
          rotate_left
          · intro w hSw
            (try dsimp only at hSw)
            go_simp
            (try with_reducible rfl)
          try simp only [Act.put, List.getElem_toArray, List.getElem_cons_zero, List.getElem_cons_succ, List.setIfInBounds_toArray, List.set_cons_zero, List.set_cons_succ]
          refine wpAnyH_done (by kernel_rfl) ?_ _
          have HE := Lib.hid hHeld2.2
          clear hHeld hHeld1 hHeld2
          go_wp2_with fail
          go_roundw
          case rel => exact ⟨j + 1, by omega, by go_num, show Kept _ _ _ from (hK.out.trans HKZ.out).trans HE.out⟩
          case measure => simp [intOf]; omega
        · go_wp2_with fail
          go_ret
          exact ⟨rfl, HB4.out.zoo.below⟩
end Go.Proofs.Yticancimnhnhbaa
