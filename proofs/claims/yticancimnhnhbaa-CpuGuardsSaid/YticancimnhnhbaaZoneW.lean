/-
  The walk of ZoneApart (layer 6): it returns true and changes nothing that was there. No conditions.
-/
import Derived.Test.YticancimnhnhbaaZoneU
import Derived.Test.YticancimnhnhbaaZoneV
import Derived.Deep.DeepCutAuto
namespace Go.Proofs.Yticancimnhnhbaa
open Go.ChangeShapes Go.WideShapes Go.ChangeAt Go.RowKit

theorem Zoo.base {w w1 w2 : World} {zp mb n : Nat} {L : List ZR} (h : Zoo w1.heap.size w1 w2 zp mb L n) (hb : Below w.heap.size w w1) : Zoo w.heap.size w w2 zp mb L n := by
  obtain ⟨lv, hz, ho⟩ := h.is
  exact ⟨⟨lv, hz, fun j hj => Nat.le_trans hb.size (ho j hj)⟩, Nat.le_trans hb.size h.lz, Nat.le_trans hb.size h.lm, hb.trans (h.below.mono hb.size), h.few⟩

/- the deed that is next, where the walk stands -/
structure DeedAt (w : World) (b o : Nat) (d : Deed6) : Prop where
  g : w.cell? ⟨b, o, none⟩ = some (.bool d.gone)
  c0 : w.cell? ⟨b, o + 1, none⟩ = some (.int .i64 d.x.z.b)
  c1 : w.cell? ⟨b, o + 2, none⟩ = some (.int .i64 d.x.z.d)
  c2 : w.cell? ⟨b, o + 3, none⟩ = some (.int .i64 d.x.z.r)
  c3 : w.cell? ⟨b, o + 4, none⟩ = some (.int .i64 d.x.z.e)
  c4 : w.cell? ⟨b, o + 5, none⟩ = some d.x.p.v
  c5 : w.cell? ⟨b, o + 6, none⟩ = some d.x.q.v
  ps : IntsAt w d.x.p d.x.z.P
  qs : IntsAt w d.x.q d.x.z.Q
theorem DeedAt.on {w w' : World} {b o : Nat} {d : Deed6} (h : DeedAt w b o d) (hb : Below w.heap.size w w') : DeedAt w' b o d := by
  have key : ∀ j, b < w.heap.size → w'.cell? ⟨b, j, none⟩ = w.cell? ⟨b, j, none⟩ := fun j hl => hb.cell (p := ⟨b, j, none⟩) hl
  have hl := cell_lt h.g
  exact ⟨(key _ hl).trans h.g, (key _ hl).trans h.c0, (key _ hl).trans h.c1, (key _ hl).trans h.c2, (key _ hl).trans h.c3, (key _ hl).trans h.c4, (key _ hl).trans h.c5, h.ps.on hb, h.qs.on hb⟩
theorem Deeds6.at_ {w : World} {a : Option Addr} {n : Nat} {D : List Deed6} (h : Deeds6 w a n D) {k : Nat} (hk : k < n) : ∃ b off d, a = some ⟨b, off, none⟩ ∧ DeedAt w b (off + k * 7) d := by
  rcases h.cells with h0 | ⟨b, off, rfl, hb, hc⟩
  · omega
  · obtain ⟨d, hd⟩ : ∃ d, D[k]? = some d := ⟨_, List.getElem?_eq_getElem (by rw [h.len]; exact hk)⟩
    obtain ⟨hg, hs⟩ := hc k d hd
    obtain ⟨hp, hq⟩ := h.ints d (List.mem_of_getElem? hd)
    exact ⟨b, off, d, rfl, hg, hs.c0, hs.c1, hs.c2, hs.c3, hs.c4, hs.c5, hp, hq⟩

def ApartRel (w wr : World) (zp mb n : Nat) (k : Value) : Prop := ∃ i : Nat, i ≤ n ∧ k = .int .i64 i ∧ ∃ L, Zoo w.heap.size w wr zp mb L (i * 200) ∧ L.length ≤ i

set_option maxRecDepth 100000 in
set_option maxHeartbeats 4000000 in
theorem zoneApart_big (a : Option Addr) (n cap : Nat) (at_ by_ : Int) (w : World) (hn : 40 < n) :
    Calls Try.prog 4 #[.slice a n cap, .int .i64 at_, .int .i64 by_] w fun e w' => e = .returned (.bool true) ∧ Below w.heap.size w w' := by
  have hn' : (40 : Int) < (n : Int) := by omega
  have HN := Lib.hid Zoo.new
  go_enter Try.func4, Try.ntmps4
  go_wp2_with fail
  refine (up06 _).mono ?_
  rintro e w1 ⟨rfl, hb1⟩
  go_wp2_with fail
  refine (HN.out _).mono ?_
  rintro e w2 ⟨zp, mb, rfl, hz⟩
  have HZ := Lib.hid (hz.base hb1)
  clear hz hb1
  go_wp2_with fail
  go_ret
  exact ⟨rfl, HZ.out.below⟩

set_option maxRecDepth 100000 in
set_option maxHeartbeats 8000000 in
theorem zoneApart_small (a : Option Addr) (n cap : Nat) (at_ by_ : Int) (D : List Deed6) (w : World) (hD : Deeds6 w a n D) (hn : n ≤ 40) (hat : (Lit.int .i64 at_).wf = true) :
    Calls Try.prog 4 #[.slice a n cap, .int .i64 at_, .int .i64 by_] w fun e w' => e = .returned (.bool true) ∧ Below w.heap.size w w' := by
  have hn' : ¬ (40 : Int) < (n : Int) := by omega
  have HN := Lib.hid Zoo.new
  have HD := Lib.hid hD
  clear hD
  go_enter Try.func4, Try.ntmps4
  go_wp2_with fail
  refine (up06 _).mono ?_
  rintro e w1 ⟨rfl, hb1⟩
  go_wp2_with fail
  refine (HN.out _).mono ?_
  rintro e w2 ⟨zp, mb, rfl, hz⟩
  have HZ := Lib.hid (hz.base hb1)
  clear hz hb1
  go_wp2_with fail
  go_loopw [9] (fun k wr => ApartRel w wr zp mb n k) (fun k _ => n - (intOf k).toNat)
  case atStart => exact ⟨0, Nat.zero_le _, rfl, [], HZ.out, Nat.le_refl _⟩
  case round =>
    clear HZ
    obtain ⟨k, hk, rfl, L, hz, hl⟩ := hrel
    have HZ := Lib.hid hz
    clear hz
    by_cases hlt : k < n
    · obtain ⟨b, off, d, rfl, hda⟩ := HD.out.at_ hlt
      have hd2 := hda.on HZ.out.below
      obtain ⟨g0, c0, c1, c2, c3, c4, c5, hps, hqs⟩ := hd2
      have e2 : (0 : Int) ≤ (k : Int) := by omega
      have e3 : (k : Int) < (n : Int) := by omega
      have HDA := Lib.hid hda
      have HF : Hid (Calls Try.prog 8 #[.agg #[.int .i64 d.x.z.b, .int .i64 d.x.z.d, .int .i64 d.x.z.r, .int .i64 d.x.z.e, d.x.p.v, d.x.q.v]] wr fun e w' => e = .returned (.bool (decide (d.x.p.n ≤ 40 ∧ d.x.q.n ≤ 40))) ∧ Below wr.heap.size wr w') := few_any d.x wr hps.cap hqs.cap
      by_cases hfew : d.x.p.n ≤ 40 ∧ d.x.q.n ≤ 40
      · rw [show decide (d.x.p.n ≤ 40 ∧ d.x.q.n ≤ 40) = true by simpa using hfew] at HF
        have hfp : d.x.z.P.length ≤ 100 ∧ d.x.z.Q.length ≤ 100 := by have := hps.len; have := hqs.len; omega
        have HFP := Lib.hid hfp
        clear hda hps hqs hfew hfp
        go_wp2_with fail
        refine HF.out.mono ?_
        rintro e w3 ⟨rfl, hb3⟩
        have HZ3 := Lib.hid (HZ.out.on hb3)
        clear HF hb3 g0 c0 c1 c2 c3 c4 c5
        obtain ⟨g0, c0, c1, c2, c3, c4, c5, hps, hqs⟩ := HDA.out.on HZ3.out.below
        cases hg : d.gone with
        | true =>
          rw [hg] at g0
          have HR := Lib.hid (HZ3.out.remove d.x.z.b)
          clear hps hqs c1 c2 c3 c4 c5 hg
          go_wp2_with fail
          refine HR.out.mono ?_
          rintro e w4 (⟨A, y, B', he, -, rfl, hz4⟩ | ⟨-, rfl, hz4⟩)
          · have HZ4 : Hid (Zoo w.heap.size w w4 zp mb (A ++ B') ((k + 1) * 200) ∧ (A ++ B').length ≤ k + 1) := ⟨⟨by obtain ⟨lv, h1, h2⟩ := hz4.is; exact ⟨lv, ⟨h1.head, h1.list, h1.cells.mono (by omega), h1.good, h1.read, h1.small⟩, h2⟩, hz4.lz, hz4.lm, hz4.below, hz4.few⟩, by rw [he] at hl; simp at hl ⊢; omega⟩
            clear hz4 he HR c0 g0
            go_wp2_with fail
            go_roundw
            case rel => exact ⟨k + 1, by omega, by go_num, _, HZ4.out.1, HZ4.out.2⟩
            case measure => simp [intOf]; omega
          · have HZ4 : Hid (Zoo w.heap.size w w4 zp mb L ((k + 1) * 200)) := ⟨by obtain ⟨lv, h1, h2⟩ := hz4.is; exact ⟨lv, ⟨h1.head, h1.list, h1.cells.mono (by omega), h1.good, h1.read, h1.small⟩, h2⟩, hz4.lz, hz4.lm, hz4.below, hz4.few⟩
            clear hz4 HR c0 g0
            go_wp2_with fail
            go_roundw
            case rel => exact ⟨k + 1, by omega, by go_num, _, HZ4.out, by omega⟩
            case measure => simp [intOf]; omega
        | false =>
          rw [hg] at g0
          have HA := Lib.hid (HZ3.out.add d.x hps hqs HFP.out.1 HFP.out.2 (by omega) (by omega))
          clear hps hqs hg
          go_wp2_with fail
          refine HA.out.mono ?_
          rintro e w4 (⟨-, rfl, L', -, hlen, hz4⟩ | ⟨-, rfl, hz4⟩)
          · have HZ4 : Hid (Zoo w.heap.size w w4 zp mb L' ((k + 1) * 200) ∧ L'.length ≤ k + 1) := ⟨by rw [show (k + 1) * 200 = k * 200 + 200 by omega]; exact hz4, by omega⟩
            clear hz4 hlen HA c0 g0 c1 c2 c3 c4 c5
            go_wp2_with fail
            go_roundw
            case rel => exact ⟨k + 1, by omega, by go_num, _, HZ4.out.1, HZ4.out.2⟩
            case measure => simp [intOf]; omega
          · have HZ4 : Hid (Zoo w.heap.size w w4 zp mb L ((k + 1) * 200)) := ⟨by obtain ⟨lv, h1, h2⟩ := hz4.is; exact ⟨lv, ⟨h1.head, h1.list, h1.cells.mono (by omega), h1.good, h1.read, h1.small⟩, h2⟩, hz4.lz, hz4.lm, hz4.below, hz4.few⟩
            clear hz4 HA c0 g0 c1 c2 c3 c4 c5
            go_wp2_with fail
            go_roundw
            case rel => exact ⟨k + 1, by omega, by go_num, _, HZ4.out, by omega⟩
            case measure => simp [intOf]; omega
      · rw [show decide (d.x.p.n ≤ 40 ∧ d.x.q.n ≤ 40) = false by simpa using hfew] at HF
        clear hda hps hqs hfew
        go_wp2_with fail
        refine HF.out.mono ?_
        rintro e w3 ⟨rfl, hb3⟩
        have HZ3 := Lib.hid (HZ.out.on hb3)
        clear hb3
        go_wp2_with fail
        go_ret
        exact ⟨rfl, HZ3.out.below⟩
    · obtain rfl : k = n := by omega
      have e3 : ¬ (k : Int) < (k : Int) := by omega
      have hg := HZ.out.good
      have HB : Hid ((canStore (L.map ZR.z) at_ by_ = true → canLoad (L.map ZR.z) at_ by_ = true) ∧ (canRun (L.map ZR.z) at_ = true → canLoad (L.map ZR.z) at_ 1 = false) ∧ (kindOf (L.map ZR.z) (at_ - at_ % 4) ≠ 0 → canStore (L.map ZR.z) at_ 1 = true) ∧ (ahead (L.map ZR.z) at_ = true → canLoad (L.map ZR.z) at_ 1 = true)) :=
        ⟨store_load hg, run_load hg, cell_store hg, ahead_load⟩
      clear hg
      go_upto_region 13 with fail
      go_cut [90] (fun s wx => s = .bool false ∧ Hid (Zoo w.heap.size w wx zp mb L (k * 200)))
      case first =>
        as_aux_lemma =>
          cases hs : canStore (L.map ZR.z) at_ by_ with
          | false =>
            cases hr : canRun (L.map ZR.z) at_ with
            | false =>
              by_cases hc : kindOf (L.map ZR.z) (at_ - at_ % 4) = 0
              · have hc' : (kindOf (L.map ZR.z) (at_ - at_ % 4) != 0) = false := by simpa using hc
                clear hc
                go_wp2_with fail
                refine (HZ.out.store at_ by_).mono ?_
                rintro e y1 ⟨rfl, hy1⟩
                have Y1 := Lib.hid hy1
                clear hy1
                rw [hs]
                go_wp2_with fail
                refine (Y1.out.run at_).mono ?_
                rintro e y2 ⟨rfl, hy2⟩
                have Y2 := Lib.hid hy2
                clear hy2
                rw [hr]
                go_wp2_with fail
                refine (Y2.out.cell at_ hat).mono ?_
                rintro e y3 ⟨rfl, hy3⟩
                have Y3 := Lib.hid hy3
                clear hy3
                go_wp2_with fail
                go_meet
                exact ⟨rfl, Y3⟩
              · have HC := Lib.hid hc
                have hc' : (kindOf (L.map ZR.z) (at_ - at_ % 4) != 0) = true := by simpa using hc
                clear hc
                go_wp2_with fail
                refine (HZ.out.store at_ by_).mono ?_
                rintro e y1 ⟨rfl, hy1⟩
                have Y1 := Lib.hid hy1
                clear hy1
                rw [hs]
                go_wp2_with fail
                refine (Y1.out.run at_).mono ?_
                rintro e y2 ⟨rfl, hy2⟩
                have Y2 := Lib.hid hy2
                clear hy2
                rw [hr]
                go_wp2_with fail
                refine (Y2.out.cell at_ hat).mono ?_
                rintro e y3 ⟨rfl, hy3⟩
                have Y3 := Lib.hid hy3
                clear hy3
                go_wp2_with fail
                refine (Y3.out.store at_ 1).mono ?_
                rintro e y4 ⟨rfl, hy4⟩
                have Y4 := Lib.hid hy4
                clear hy4
                rw [HB.out.2.2.1 HC.out]
                go_wp2_with fail
                go_meet
                exact ⟨rfl, Y4⟩
            | true =>
              by_cases hc : kindOf (L.map ZR.z) (at_ - at_ % 4) = 0
              · have hc' : (kindOf (L.map ZR.z) (at_ - at_ % 4) != 0) = false := by simpa using hc
                clear hc
                go_wp2_with fail
                refine (HZ.out.store at_ by_).mono ?_
                rintro e y1 ⟨rfl, hy1⟩
                have Y1 := Lib.hid hy1
                clear hy1
                rw [hs]
                go_wp2_with fail
                refine (Y1.out.run at_).mono ?_
                rintro e y2 ⟨rfl, hy2⟩
                have Y2 := Lib.hid hy2
                clear hy2
                rw [hr]
                go_wp2_with fail
                refine (Y2.out.load at_ 1).mono ?_
                rintro e y3 ⟨rfl, hy3⟩
                have Y3 := Lib.hid hy3
                clear hy3
                rw [HB.out.2.1 hr]
                go_wp2_with fail
                refine (Y3.out.cell at_ hat).mono ?_
                rintro e y4 ⟨rfl, hy4⟩
                have Y4 := Lib.hid hy4
                clear hy4
                go_wp2_with fail
                go_meet
                exact ⟨rfl, Y4⟩
              · have HC := Lib.hid hc
                have hc' : (kindOf (L.map ZR.z) (at_ - at_ % 4) != 0) = true := by simpa using hc
                clear hc
                go_wp2_with fail
                refine (HZ.out.store at_ by_).mono ?_
                rintro e y1 ⟨rfl, hy1⟩
                have Y1 := Lib.hid hy1
                clear hy1
                rw [hs]
                go_wp2_with fail
                refine (Y1.out.run at_).mono ?_
                rintro e y2 ⟨rfl, hy2⟩
                have Y2 := Lib.hid hy2
                clear hy2
                rw [hr]
                go_wp2_with fail
                refine (Y2.out.load at_ 1).mono ?_
                rintro e y3 ⟨rfl, hy3⟩
                have Y3 := Lib.hid hy3
                clear hy3
                rw [HB.out.2.1 hr]
                go_wp2_with fail
                refine (Y3.out.cell at_ hat).mono ?_
                rintro e y4 ⟨rfl, hy4⟩
                have Y4 := Lib.hid hy4
                clear hy4
                go_wp2_with fail
                refine (Y4.out.store at_ 1).mono ?_
                rintro e y5 ⟨rfl, hy5⟩
                have Y5 := Lib.hid hy5
                clear hy5
                rw [HB.out.2.2.1 HC.out]
                go_wp2_with fail
                go_meet
                exact ⟨rfl, Y5⟩
          | true =>
            cases hr : canRun (L.map ZR.z) at_ with
            | false =>
              by_cases hc : kindOf (L.map ZR.z) (at_ - at_ % 4) = 0
              · have hc' : (kindOf (L.map ZR.z) (at_ - at_ % 4) != 0) = false := by simpa using hc
                clear hc
                go_wp2_with fail
                refine (HZ.out.store at_ by_).mono ?_
                rintro e y1 ⟨rfl, hy1⟩
                have Y1 := Lib.hid hy1
                clear hy1
                rw [hs]
                go_wp2_with fail
                refine (Y1.out.load at_ by_).mono ?_
                rintro e y2 ⟨rfl, hy2⟩
                have Y2 := Lib.hid hy2
                clear hy2
                rw [HB.out.1 hs]
                go_wp2_with fail
                refine (Y2.out.run at_).mono ?_
                rintro e y3 ⟨rfl, hy3⟩
                have Y3 := Lib.hid hy3
                clear hy3
                rw [hr]
                go_wp2_with fail
                refine (Y3.out.cell at_ hat).mono ?_
                rintro e y4 ⟨rfl, hy4⟩
                have Y4 := Lib.hid hy4
                clear hy4
                go_wp2_with fail
                go_meet
                exact ⟨rfl, Y4⟩
              · have HC := Lib.hid hc
                have hc' : (kindOf (L.map ZR.z) (at_ - at_ % 4) != 0) = true := by simpa using hc
                clear hc
                go_wp2_with fail
                refine (HZ.out.store at_ by_).mono ?_
                rintro e y1 ⟨rfl, hy1⟩
                have Y1 := Lib.hid hy1
                clear hy1
                rw [hs]
                go_wp2_with fail
                refine (Y1.out.load at_ by_).mono ?_
                rintro e y2 ⟨rfl, hy2⟩
                have Y2 := Lib.hid hy2
                clear hy2
                rw [HB.out.1 hs]
                go_wp2_with fail
                refine (Y2.out.run at_).mono ?_
                rintro e y3 ⟨rfl, hy3⟩
                have Y3 := Lib.hid hy3
                clear hy3
                rw [hr]
                go_wp2_with fail
                refine (Y3.out.cell at_ hat).mono ?_
                rintro e y4 ⟨rfl, hy4⟩
                have Y4 := Lib.hid hy4
                clear hy4
                go_wp2_with fail
                refine (Y4.out.store at_ 1).mono ?_
                rintro e y5 ⟨rfl, hy5⟩
                have Y5 := Lib.hid hy5
                clear hy5
                rw [HB.out.2.2.1 HC.out]
                go_wp2_with fail
                go_meet
                exact ⟨rfl, Y5⟩
            | true =>
              by_cases hc : kindOf (L.map ZR.z) (at_ - at_ % 4) = 0
              · have hc' : (kindOf (L.map ZR.z) (at_ - at_ % 4) != 0) = false := by simpa using hc
                clear hc
                go_wp2_with fail
                refine (HZ.out.store at_ by_).mono ?_
                rintro e y1 ⟨rfl, hy1⟩
                have Y1 := Lib.hid hy1
                clear hy1
                rw [hs]
                go_wp2_with fail
                refine (Y1.out.load at_ by_).mono ?_
                rintro e y2 ⟨rfl, hy2⟩
                have Y2 := Lib.hid hy2
                clear hy2
                rw [HB.out.1 hs]
                go_wp2_with fail
                refine (Y2.out.run at_).mono ?_
                rintro e y3 ⟨rfl, hy3⟩
                have Y3 := Lib.hid hy3
                clear hy3
                rw [hr]
                go_wp2_with fail
                refine (Y3.out.load at_ 1).mono ?_
                rintro e y4 ⟨rfl, hy4⟩
                have Y4 := Lib.hid hy4
                clear hy4
                rw [HB.out.2.1 hr]
                go_wp2_with fail
                refine (Y4.out.cell at_ hat).mono ?_
                rintro e y5 ⟨rfl, hy5⟩
                have Y5 := Lib.hid hy5
                clear hy5
                go_wp2_with fail
                go_meet
                exact ⟨rfl, Y5⟩
              · have HC := Lib.hid hc
                have hc' : (kindOf (L.map ZR.z) (at_ - at_ % 4) != 0) = true := by simpa using hc
                clear hc
                go_wp2_with fail
                refine (HZ.out.store at_ by_).mono ?_
                rintro e y1 ⟨rfl, hy1⟩
                have Y1 := Lib.hid hy1
                clear hy1
                rw [hs]
                go_wp2_with fail
                refine (Y1.out.load at_ by_).mono ?_
                rintro e y2 ⟨rfl, hy2⟩
                have Y2 := Lib.hid hy2
                clear hy2
                rw [HB.out.1 hs]
                go_wp2_with fail
                refine (Y2.out.run at_).mono ?_
                rintro e y3 ⟨rfl, hy3⟩
                have Y3 := Lib.hid hy3
                clear hy3
                rw [hr]
                go_wp2_with fail
                refine (Y3.out.load at_ 1).mono ?_
                rintro e y4 ⟨rfl, hy4⟩
                have Y4 := Lib.hid hy4
                clear hy4
                rw [HB.out.2.1 hr]
                go_wp2_with fail
                refine (Y4.out.cell at_ hat).mono ?_
                rintro e y5 ⟨rfl, hy5⟩
                have Y5 := Lib.hid hy5
                clear hy5
                go_wp2_with fail
                refine (Y5.out.store at_ 1).mono ?_
                rintro e y6 ⟨rfl, hy6⟩
                have Y6 := Lib.hid hy6
                clear hy6
                rw [HB.out.2.2.1 HC.out]
                go_wp2_with fail
                go_meet
                exact ⟨rfl, Y6⟩
      case rest =>
        obtain ⟨rfl, hY⟩ := hcut
        have Y0 := Lib.hid hY.out
        clear hY HZ
        by_cases h0 : at_ = 0
        · have f2 : fitsZ (L.map ZR.z) 2 at_ = true := by simp [fitsZ, h0]
          have f1 : fitsZ (L.map ZR.z) 1 at_ = true := by simp [fitsZ, h0]
          have g0 : (at_ == 0) = true := by simpa using h0
          have H0 := Lib.hid h0
          have F1 := Lib.hid f1
          have F2 := Lib.hid f2
          clear h0 f1 f2
          go_wp2_with fail
          refine (Y0.out.fits 2 at_).mono ?_
          rintro e y1 ⟨rfl, hy1⟩
          have Y1 := Lib.hid hy1
          clear hy1
          rw [F2.out]
          go_wp2_with fail
          refine (Y1.out.fits 1 at_).mono ?_
          rintro e y2 ⟨rfl, hy2⟩
          have Y2 := Lib.hid hy2
          clear hy2
          rw [F1.out]
          go_wp2_with fail
          go_ret
          exact ⟨rfl, Y2.out.below⟩
        · have g0 : (at_ == 0) = false := by simpa using h0
          have f2 : fitsZ (L.map ZR.z) 2 at_ = canRun (L.map ZR.z) at_ := by simp [fitsZ, h0]
          have f1 : fitsZ (L.map ZR.z) 1 at_ = ahead (L.map ZR.z) at_ := by simp [fitsZ, h0]
          have F1 := Lib.hid f1
          have F2 := Lib.hid f2
          clear h0 f1 f2
          cases hr : canRun (L.map ZR.z) at_ with
          | false =>
            cases ha : ahead (L.map ZR.z) at_ with
            | false =>
              go_wp2_with fail
              refine (Y0.out.fits 2 at_).mono ?_
              rintro e y1 ⟨rfl, hy1⟩
              have Y1 := Lib.hid hy1
              clear hy1
              rw [F2.out, hr]
              go_wp2_with fail
              refine (Y1.out.fits 1 at_).mono ?_
              rintro e y2 ⟨rfl, hy2⟩
              have Y2 := Lib.hid hy2
              clear hy2
              rw [F1.out, ha]
              go_wp2_with fail
              go_ret
              exact ⟨rfl, Y2.out.below⟩
            | true =>
              go_wp2_with fail
              refine (Y0.out.fits 2 at_).mono ?_
              rintro e y1 ⟨rfl, hy1⟩
              have Y1 := Lib.hid hy1
              clear hy1
              rw [F2.out, hr]
              go_wp2_with fail
              refine (Y1.out.fits 1 at_).mono ?_
              rintro e y2 ⟨rfl, hy2⟩
              have Y2 := Lib.hid hy2
              clear hy2
              rw [F1.out, ha]
              go_wp2_with fail
              refine (Y2.out.load at_ 1).mono ?_
              rintro e y3 ⟨rfl, hy3⟩
              have Y3 := Lib.hid hy3
              clear hy3
              rw [HB.out.2.2.2 ha]
              go_wp2_with fail
              go_ret
              exact ⟨rfl, Y3.out.below⟩
          | true =>
            cases ha : ahead (L.map ZR.z) at_ with
            | false =>
              go_wp2_with fail
              refine (Y0.out.fits 2 at_).mono ?_
              rintro e y1 ⟨rfl, hy1⟩
              have Y1 := Lib.hid hy1
              clear hy1
              rw [F2.out, hr]
              go_wp2_with fail
              refine (Y1.out.run at_).mono ?_
              rintro e y2 ⟨rfl, hy2⟩
              have Y2 := Lib.hid hy2
              clear hy2
              rw [hr]
              go_wp2_with fail
              refine (Y2.out.fits 1 at_).mono ?_
              rintro e y3 ⟨rfl, hy3⟩
              have Y3 := Lib.hid hy3
              clear hy3
              rw [F1.out, ha]
              go_wp2_with fail
              go_ret
              exact ⟨rfl, Y3.out.below⟩
            | true =>
              go_wp2_with fail
              refine (Y0.out.fits 2 at_).mono ?_
              rintro e y1 ⟨rfl, hy1⟩
              have Y1 := Lib.hid hy1
              clear hy1
              rw [F2.out, hr]
              go_wp2_with fail
              refine (Y1.out.run at_).mono ?_
              rintro e y2 ⟨rfl, hy2⟩
              have Y2 := Lib.hid hy2
              clear hy2
              rw [hr]
              go_wp2_with fail
              refine (Y2.out.fits 1 at_).mono ?_
              rintro e y3 ⟨rfl, hy3⟩
              have Y3 := Lib.hid hy3
              clear hy3
              rw [F1.out, ha]
              go_wp2_with fail
              refine (Y3.out.load at_ 1).mono ?_
              rintro e y4 ⟨rfl, hy4⟩
              have Y4 := Lib.hid hy4
              clear hy4
              rw [HB.out.2.2.2 ha]
              go_wp2_with fail
              go_ret
              exact ⟨rfl, Y4.out.below⟩

theorem zoneApart_walk (a : Option Addr) (n cap : Nat) (at_ by_ : Int) (w : World) (hD : ∃ D, Deeds6 w a n D) (hat : (Lit.int .i64 at_).wf = true) (_hby : (Lit.int .i64 by_).wf = true) :
    Calls Try.prog 4 #[.slice a n cap, .int .i64 at_, .int .i64 by_] w fun e w' => e = .returned (.bool true) ∧ Below w.heap.size w w' := by
  obtain ⟨D, hD⟩ := hD
  by_cases hn : n ≤ 40
  · exact zoneApart_small a n cap at_ by_ D w hD hn hat
  · exact zoneApart_big a n cap at_ by_ w (by omega)
end Go.Proofs.Yticancimnhnhbaa
