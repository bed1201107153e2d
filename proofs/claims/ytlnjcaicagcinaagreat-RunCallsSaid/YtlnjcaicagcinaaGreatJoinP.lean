/-
  The document's Call (layer 8). No conditions beyond those that each theorem names.
-/
import Derived.Test.YtlnjcaicagcinaaGreatJoinL
import Derived.Test.YtlnjcaicagcinaaGreatJoinH
namespace Go.Proofs.YtlnjcaicagcinaaGreat
open Go.ChangeShapes Go.WideShapes Go.ChangeAt Go.RowKit

/- the document's machine, without a state -/
structure RBox (w0 w : World) (xp xb : Nat) (mv : Value) (M : List ZR) (l : List Nat) : Prop where
  mach : RowAt w xp MCT [.slice (some ⟨xb, 0, none⟩) 2048 2048, mv]
  bytes : ByteRow w xb l
  row : SRow RZT 6 w mv M.length (zcs M)
  ints : ∀ x ∈ M, IntsAt w0 x.p x.z.P ∧ IntsAt w0 x.q x.z.Q
  good : Good (M.map ZR.z)
  small : M.length ≤ 100
  len : l.length = 2048
  below : Below w0.heap.size w0 w
  low : w0.heap.size ≤ xb
theorem RBox.on {w0 w w' : World} {xp xb : Nat} {mv : Value} {M : List ZR} {l : List Nat} (h : RBox w0 w xp xb mv M l) (k : Kept No w w') : RBox w0 w' xp xb mv M l :=
  ⟨h.mach.keep k (fun h => h), h.bytes.keep k (fun h => h), h.row.keep k (fun _ _ h => h), h.ints, h.good, h.small, h.len, h.below.trans (k.none.mono h.below.size), h.low⟩
def InCallR (w0 w wr : World) (xp xb tp tr ob : Nat) (mv : Value) (M : List ZR) (F : Nat) (o : Ran) (i : Value) : Prop :=
  ∃ (k : Nat) (r : List Int) (p : Int) (l : List Nat), k ≤ F ∧ i = .int .i64 k ∧ RMach w0 wr xp xb tp tr mv M r p l ∧ RowAt wr ob OT [.int .i64 0, .int .i64 0, .int .i64 0] ∧ Kept (· = xb) w wr ∧ runOf (M.map ZR.z) (F - k) r p l k = o
theorem rtold {w wr : World} {xb ob : Nat} {l : List Nat} (hb : ByteRow wr xb l) (ho : RowAt wr ob OT [.int .i64 0, .int .i64 0, .int .i64 0]) (hob : w.heap.size = ob) (k : Kept (· = xb) w wr) (e t n : Int) :
    (Instr.storeAt OT (.pointer (some ⟨ob, 0, none⟩)) (.agg #[.int .i64 e, .int .i64 t, .int .i64 n])).run Tryz.prog wr = .ok () (wr.setRow ob #[.int .i64 e, .int .i64 t, .int .i64 n]) ∧
    RowAt (wr.setRow ob #[.int .i64 e, .int .i64 t, .int .i64 n]) ob OT [.int .i64 e, .int .i64 t, .int .i64 n] ∧ ByteRow (wr.setRow ob #[.int .i64 e, .int .i64 t, .int .i64 n]) xb l ∧ Kept (· = xb) w (wr.setRow ob #[.int .i64 e, .int .i64 t, .int .i64 n]) := by
  have ks := kept_row wr ob #[.int .i64 e, .int .i64 t, .int .i64 n]
  have hs := store_el (P := Tryz.prog) ho 0 (⟨[.int .i64 e, .int .i64 t, .int .i64 n], rfl, by intro u hu; simp at hu; rcases hu with rfl | rfl | rfl <;> rfl⟩ : El 3) OT size_ot (.agg #[.int .i64 e, .int .i64 t, .int .i64 n]) rfl (by simp)
  exact ⟨hs, ho.set _, hb.keep ks (RowAt.ne_type (brow hb) ho (by decide)), k.then (T := (· = ob)) ks fun j hj e => by omega⟩

set_option maxRecDepth 100000 in
set_option maxHeartbeats 8000000 in
theorem rcall_any {w0 w : World} {xp xb : Nat} {mv : Value} {M : List ZR} {l : List Nat} (h : RBox w0 w xp xb mv M l) (at_ fuel : Int) :
    Calls Tryz.prog 13 #[.pointer (some ⟨xp, 0, none⟩), .int .i64 at_, .int .i64 fuel] w fun e w' =>
      e = .returned (.agg #[.int .i64 (callOf (M.map ZR.z) at_ l fuel).e, .int .i64 (callOf (M.map ZR.z) at_ l fuel).t, .int .i64 (callOf (M.map ZR.z) at_ l fuel).n]) ∧ ByteRow w' xb (callOf (M.map ZR.z) at_ l fuel).l ∧ Kept (· = xb) w w' := by
  unfold callOf
  obtain ⟨f, hf, hF⟩ : ∃ f : Int, (f = if 2000 < fuel then 2000 else fuel) ∧ most fuel = f.toNat := ⟨_, rfl, by unfold most; split <;> omega⟩
  have hF2 : most fuel ≤ 2000 := by unfold most; omega
  generalize most fuel = F at *
  obtain ⟨o, ho⟩ : ∃ o, runOf (M.map ZR.z) F regs0 at_ l 0 = o := ⟨_, rfl⟩
  rw [ho]
  have hs0 := h.below.size
  have hlow := h.low
  obtain ⟨w3, hw3⟩ : ∃ w3, w3 = ((w.alloc (.cells #[.int .i64 0, .int .i64 0, .int .i64 0] OT)).alloc zeros32).alloc (.cells #[.slice (some ⟨w.heap.size + 1, 0, none⟩) 16 16, .int .i64 at_] RST) := ⟨_, rfl⟩
  have e1 : (w.alloc (.cells #[.int .i64 0, .int .i64 0, .int .i64 0] OT)).heap.size = w.heap.size + 1 := by simp
  have e2 : ((w.alloc (.cells #[.int .i64 0, .int .i64 0, .int .i64 0] OT)).alloc zeros32).heap.size = w.heap.size + 2 := by simp
  have c0 : RowAt w3 w.heap.size OT [.int .i64 0, .int .i64 0, .int .i64 0] := by
    rw [hw3]
    exact (RowAt.new w OT [.int .i64 0, .int .i64 0, .int .i64 0]).keep (((Kept.refl No _).alloc _).alloc _) (fun h => h)
  have rr : RowAt w3 (w.heap.size + 1) RGT (regVals (List.replicate 16 0)) := by
    have := RowAt.new (w.alloc (.cells #[.int .i64 0, .int .i64 0, .int .i64 0] OT)) RGT (regVals (List.replicate 16 0))
    rw [e1] at this
    rw [hw3]
    exact this.keep ((Kept.refl No _).alloc _) (fun h => h)
  have rs : RowAt w3 (w.heap.size + 2) RST [.slice (some ⟨w.heap.size + 1, 0, none⟩) 16 16, .int .i64 at_] := by
    have := RowAt.new ((w.alloc (.cells #[.int .i64 0, .int .i64 0, .int .i64 0] OT)).alloc zeros32) RST [.slice (some ⟨w.heap.size + 1, 0, none⟩) 16 16, .int .i64 at_]
    rw [e2] at this
    rw [hw3]
    exact this
  have k3 : Kept No w w3 := by rw [hw3]; exact (((Kept.refl _ _).alloc _).alloc _).alloc _
  have b3 := h.on k3
  have m3 : RMach w0 w3 xp xb (w.heap.size + 2) (w.heap.size + 1) mv M (List.replicate 16 0) at_ l :=
    ⟨b3.mach, b3.bytes, b3.row, b3.ints, b3.good, b3.small, rs, rr, by simp, b3.len, by
      intro x hx
      have := List.eq_of_mem_replicate hx
      subst this
      unfold I32
      omega, b3.below, by omega, by omega, by omega⟩
  have q4 := m3.setR (a := 14) 272 (by unfold I32; omega)
  have q5 := q4.1.setR (a := 15) (-4) (by unfold I32; omega)
  have er : ((List.replicate 16 (0 : Int)).set 14 272).set 15 (-4) = regs0 := rfl
  rw [er] at q5
  obtain ⟨w5, hw5⟩ : ∃ w5, w5 = (w3.setCell ⟨w.heap.size + 1, 14, none⟩ (.int .i32 272)).setCell ⟨w.heap.size + 1, 15, none⟩ (.int .i32 (-4)) := ⟨_, rfl⟩
  have k5 : Kept (· = w.heap.size + 1) w3 w5 := by rw [hw5]; exact q4.2.trans q5.2
  have c5 := c0.keep k5 (by omega)
  have IN : Hid (InCallR w0 w w5 xp xb (w.heap.size + 2) (w.heap.size + 1) w.heap.size mv M F o (.int .i64 0)) :=
    ⟨0, regs0, at_, l, Nat.zero_le _, rfl, by rw [hw5]; exact q5.1, c5, (k3.up (S := (· = xb))).then k5 (fun j hj e => by omega), ho⟩
  have s0 := m3.s0
  have s14 := m3.reg (a := 14) (by omega)
  have f14 := m3.regs.free 14
  have t0 := q4.1.s0
  have s15 := q4.1.reg (a := 15) (by omega)
  have f15 := q4.1.regs.free 15
  have g14 : (List.replicate 16 (0 : Int)).getD 14 0 = 0 := rfl
  have g15 : ((List.replicate 16 (0 : Int)).set 14 272).getD 15 0 = 0 := rfl
  rw [g14] at s14
  rw [g15] at s15
  have hmk := fun v => make_regs v
  have HW3 := Lib.hid hw3
  have HW5 := Lib.hid hw5
  have HFf := Lib.hid hf
  have HF := Lib.hid hF
  have HF2 := Lib.hid hF2
  have NT : Hid (w.heap.size < w.heap.size + 2 ∧ w.heap.size < w.heap.size + 1) := ⟨by omega, by omega⟩
  have LOW : Hid (xb < w.heap.size) := h.bytes.lt
  clear h ho hs0 hlow hw3 hw5 hf hF hF2 e1 e2 c0 rr rs k3 b3 m3 q4 q5 er k5 c5 g14 g15
  go_enter Tryz.func13, Tryz.ntmps13
  go_upto_region 2 with fail
  clear hmk
  rw [← HW3.out]
  go_upto_if 25 with fail
  rw [← HW5.out]
  generalize w.heap.size + 2 = tp at *
  generalize w.heap.size + 1 = tr at *
  clear s0 s14 f14 t0 s15 f15 HW5 HW3
  go_cut [2] (fun s2 wx => s2 = .int .i64 f ∧ w5 = wx)
  case first =>
    as_aux_lemma =>
      have hf := HFf.out
      by_cases c1 : 2000 < fuel
      · rw [if_pos c1] at hf
        subst hf
        clear HFf HF
        go_wp2_with fail
        go_meet
        exact ⟨rfl, rfl⟩
      · rw [if_neg c1] at hf
        subst hf
        clear HFf HF
        go_wp2_with fail
        go_meet
        exact ⟨rfl, rfl⟩
  case rest =>
    obtain ⟨rfl, rfl⟩ := hcut
    clear HFf
    go_wp2_with fail
    go_loopw [8] (fun i wr => InCallR w0 w wr xp xb tp tr w.heap.size mv M F o i) (fun i _ => F - (intOf i).toNat)
    case atStart => exact IN.out
    case round =>
      clear IN
      obtain ⟨k, r, p, l', hk, rfl, hmach, hot, hkept, hrun⟩ := hrel
      have c16 := hmach.s1
      have hk2 : k ≤ 2000 := Nat.le_trans hk HF2.out
      have HRun := Lib.hid hrun
      have HMa := Lib.hid hmach
      have HOt := Lib.hid hot
      have HKp := Lib.hid hkept
      clear hmach hot hkept hrun
      by_cases hp : p = 4294967292
      · as_aux_lemma =>
        have HT := Lib.hid (rtold HMa.out.bytes HOt.out rfl HKp.out 0 0 k)
        have ho := HRun.out
        rw [runOf_end hp] at ho
        have HO2 := Lib.hid ho
        subst hp
        clear ho HRun HMa HOt HKp
        go_wp2_with (refine wpList_store_run _ rfl _ _ _ rfl _ _ rfl rfl (by exact HT.out.1) ?_)
        refine bodyPost_ret (v := .agg #[.int .i64 0, .int .i64 0, .int .i64 k]) ?_ rfl ⟨?_, by rw [← HO2.out]; exact HT.out.2.2.1, HT.out.2.2.2⟩
        · exact results_cell_row Tryz.results13 _ _ w.heap.size OT _ _ _ rfl HT.out.2.1 Tryz.underlying47 rfl (by rw [size_ot]; rfl)
        · rw [← HO2.out]
      · have q1 : (p == 4294967292) = false := by simpa using hp
        by_cases hkF : k = F
        · as_aux_lemma =>
          have q2 : f ≤ (k : Int) := by have := HF.out; omega
          have HT := Lib.hid (rtold HMa.out.bytes HOt.out rfl HKp.out 2 0 k)
          have ho := HRun.out
          rw [hkF, Nat.sub_self, runOf_zero hp, ← hkF] at ho
          have HO2 := Lib.hid ho
          clear ho HRun HMa HOt HKp hp hkF HF
          go_wp2_with (refine wpList_store_run _ rfl _ _ _ rfl _ _ rfl rfl (by exact HT.out.1) ?_)
          refine bodyPost_ret (v := .agg #[.int .i64 2, .int .i64 0, .int .i64 k]) ?_ rfl ⟨?_, by rw [← HO2.out]; exact HT.out.2.2.1, HT.out.2.2.2⟩
          · exact results_cell_row Tryz.results13 _ _ w.heap.size OT _ _ _ rfl HT.out.2.1 Tryz.underlying47 rfl (by rw [size_ot]; rfl)
          · rw [← HO2.out]
        · have q2 : ¬ f ≤ (k : Int) := by have := HF.out; omega
          have hk1 : F - k = F - (k + 1) + 1 := by omega
          have HKF : Hid (k + 1 ≤ F) := by show _ ≤ _; omega
          have HS := Lib.hid (rstep_any HMa.out)
          have hlen := stepOf_len (M.map ZR.z) r p l'
          go_wp2_with fail
          refine HS.out.mono ?_
          rintro e w4 hd
          obtain rfl := hd.1
          have hm4 := hd.2.1
          have hot4 : RowAt w4 w.heap.size OT [.int .i64 0, .int .i64 0, .int .i64 0] := HOt.out.keep hd.2.2 (fun e => by
            rcases e with e | e | e
            · exact RowAt.ne_type HOt.out (brow HMa.out.bytes) (by decide) e
            · exact RowAt.ne_type HOt.out HMa.out.st (by decide) e
            · exact RowAt.ne_type HOt.out HMa.out.regs (by decide) e)
          have hk4 : Kept (· = xb) w w4 := HKp.out.then hd.2.2 (fun j hj e => by
            rcases e with e | e | e
            · exact e
            · have := NT.out.1; omega
            · have := NT.out.2; omega)
          have HM4 := Lib.hid hm4
          have HOt4 := Lib.hid hot4
          have HK4 := Lib.hid hk4
          clear hm4 hot4 hk4 hd HS hlen c16
          by_cases ht : (stepOf (M.map ZR.z) r p l').t = 0
          · have ho := HRun.out
            rw [hk1, runOf_step hp ht] at ho
            have HO := Lib.hid ho
            have q3 : ((stepOf (M.map ZR.z) r p l').t != 0) = false := by simp [ht]
            clear ho HRun HMa HOt HKp ht hp hk1
            generalize stepOf (M.map ZR.z) r p l' = d at *
            go_wp2_with fail
            go_roundw
            case rel => exact ⟨k + 1, d.r, d.p, d.l, HKF.out, by go_num, HM4.out, HOt4.out, HK4.out, HO.out⟩
            case measure => have hkf := HKF.out; simp [intOf]; omega
          · as_aux_lemma =>
            have ho := HRun.out
            rw [hk1, runOf_trap hp ht] at ho
            have HT := Lib.hid (rtold HM4.out.bytes HOt4.out rfl HK4.out 1 (stepOf (M.map ZR.z) r p l').t k)
            have q3 : ((stepOf (M.map ZR.z) r p l').t != 0) = true := by simp [ht]
            have HO2 := Lib.hid ho
            clear ho HRun HMa HOt HKp HM4 HOt4 HK4 ht hp hk1
            generalize stepOf (M.map ZR.z) r p l' = d at *
            go_wp2_with (refine wpList_store_run _ rfl _ _ _ rfl _ _ rfl rfl (by exact HT.out.1) ?_)
            refine bodyPost_ret (v := .agg #[.int .i64 1, .int .i64 d.t, .int .i64 k]) ?_ rfl ⟨?_, by rw [← HO2.out]; exact HT.out.2.2.1, HT.out.2.2.2⟩
            · exact results_cell_row Tryz.results13 _ _ w.heap.size OT _ _ _ rfl HT.out.2.1 Tryz.underlying47 rfl (by rw [size_ot]; rfl)
            · rw [← HO2.out]
end Go.Proofs.YtlnjcaicagcinaaGreat

/-
  The walk of RunCalls (layer 8): it returns true and changes nothing that was there. No conditions.
-/
namespace Go.Proofs.YtlnjcaicagcinaaGreat
open Go.ChangeShapes Go.WideShapes Go.ChangeAt Go.RowKit

theorem Duo.box {w w3 w5 : World} {mp g zp mb xp xb n : Nat} {L M : List ZR} {lv mv : Value} {l : List Nat} (hd : Duo w w3 mp g zp mb xp xb L M mv n l) (hz : ZAt w3 zp mb lv L n) (hl : L.length ≤ 100) (k : Kept (· = g) w3 w5) : RBox w w5 xp xb mv M l := by
  have hs := hd.both.zoo.size
  have hlow := hd.low
  have hg := brow hd.mem.row
  refine ⟨hd.mach.keep k (RowAt.ne_type hd.mach hg (by decide)), hd.bytes.keep k hd.apart, hd.both.row.keep_row k hg (by decide), hd.both.ints, ?_, ?_, hd.len, k.below hd.both.zoo.below hs (fun j _ hj => by omega), hlow.2.2.2⟩
  · rw [hd.both.same]; exact hz.good
  · have := congrArg List.length hd.both.same
    simp at this
    omega

theorem Duo.after {w w3 w5 wA : World} {mp g zp mb xp xb n : Nat} {L M : List ZR} {mv : Value} {l l' : List Nat} (hd : Duo w w3 mp g zp mb xp xb L M mv n l) (k : Kept (· = g) w3 w5) (hm : MemAt w5 mp g l') (kA : Kept (· = xb) w5 wA) :
    MemAt wA mp g l' ∧ RowAt wA xp MCT [.slice (some ⟨xb, 0, none⟩) 2048 2048, mv] :=
  have hg := brow hd.mem.row
  have m5 := hd.mach.keep k (RowAt.ne_type hd.mach hg (by decide))
  have b5 := brow (hd.bytes.keep k hd.apart)
  ⟨hm.keep kA (RowAt.ne_type (mhead hm) b5 (by decide)) (fun e => hd.apart e.symm), m5.keep kA (RowAt.ne_type m5 b5 (by decide))⟩

set_option maxRecDepth 100000 in
set_option maxHeartbeats 8000000 in
theorem runCalls_main (a : Option Addr) (n cap : Nat) (at_ fuel : Int) (B : List Blk) (w : World) (h : Blks w a n B) (hf : FewB B) (h400 : fuel ≤ 400) :
    Calls Tryz.prog 4 #[.slice a n cap, .int .i64 at_, .int .i64 fuel] w fun e w' => e = .returned (.bool true) ∧ Below w.heap.size w w' := by
  have HB := Lib.hid h
  have HF := Lib.hid hf
  have hn10 : n ≤ 100 := by have := hf.2; rw [h.len] at this; omega
  have HN10 := Lib.hid hn10
  have e1 : (if FewB B then (1 : Int) else 0) = 1 := if_pos hf
  have i2 : ¬ 400 < fuel := by omega
  clear h hf hn10
  go_enter Tryz.func4, Tryz.ntmps4
  go_wp2_with fail
  refine (up08 _).mono ?_
  rintro e w1 ⟨rfl, hb1⟩
  go_wp2_with fail
  refine (few7_any a n cap B _ (HB.out.on hb1)).mono ?_
  rintro e w2 ⟨rfl, rfl⟩
  rw [e1]
  clear e1
  have HBg := Lib.hid (begun_any a n cap B w1 (HB.out.on hb1) HF.out)
  have B1 := Lib.hid hb1
  clear hb1
  go_wp2_with fail
  refine HBg.out.mono ?_
  rintro e w3 ⟨mp, g, zp, mb, xp, xb, L, M, mv, l, rfl, hduo, -, hlen⟩
  obtain ⟨lv, hz, -⟩ := hduo.both.zoo.is
  have HD := Lib.hid hduo
  have HZ := Lib.hid hz
  have HLen := Lib.hid hlen
  clear hz hlen hduo HBg
  go_wp2_with fail
  refine (call_any HD.out.mem HZ.out at_ fuel).mono ?_
  rintro e w4 ⟨rfl, m4, k4⟩
  have hol : (callOf (L.map ZR.z) at_ l fuel).l.length = 2048 := by unfold callOf; rw [runOf_len]; exact HD.out.len
  have RC := Lib.hid (fun v (kv : Kept (· = g) w3 v) => rcall_any (HD.out.box HZ.out (Nat.le_trans HLen.out HN10.out) kv) at_ fuel)
  rw [HD.out.both.same] at RC
  generalize callOf (L.map ZR.z) at_ l fuel = o at *
  have r5 := RowAt.new w4 OT [.int .i64 o.e, .int .i64 o.t, .int .i64 o.n]
  have R5 := Lib.hid r5
  have M4 := Lib.hid m4
  have K4 := Lib.hid k4
  have HOl := Lib.hid hol
  clear m4 k4 r5 hol
  go_wp2_with fail
  obtain ⟨w5, hw5⟩ : ∃ w5, w5 = w4.alloc (.cells #[.int .i64 o.e, .int .i64 o.t, .int .i64 o.n] OT) := ⟨_, rfl⟩
  have K5 : Hid (Kept (· = g) w3 w5) := by show Kept _ _ _; rw [hw5]; exact K4.out.alloc _
  have M5 : Hid (MemAt w5 mp g o.l) := by show MemAt _ _ _ _; rw [hw5]; exact M4.out.keep ((Kept.refl No _).alloc _) (fun h => h) (fun h => h)
  have R6 : Hid (RowAt w5 w4.heap.size OT [.int .i64 o.e, .int .i64 o.t, .int .i64 o.n]) := by show RowAt _ _ _ _; rw [hw5]; exact R5.out
  rw [← hw5]
  clear hw5 K4 M4 R5
  generalize w4.heap.size = ob at *
  refine wp_region_held_drew (S := fun w' => RowAt w' ob OT [.int .i64 o.e, .int .i64 o.t, .int .i64 o.n] ∧ True) (by kernel_rfl) ?_ (fun hHeld => ?_)
  · exact ⟨R6.out.keep (Kept.refl No _).drew (fun h => h), trivial⟩
  refine wpAnyH_take (i := 0) (v := ?_) rfl (by kernel_rfl) (by kernel_rfl) (by kernel_rfl) (fun _ _ _ h => h) (Or.inl ⟨by rfl, ?_⟩) (by assumption) ?_
  rotate_left
  · intro w hSw
    (try dsimp only at hSw)
    go_simp
    (try with_reducible rfl)
  try simp only [Act.put, List.getElem_toArray, List.getElem_cons_zero, List.setIfInBounds_toArray, List.set_cons_zero, List.set_cons_succ]
  refine wpAnyH_take (i := 1) (v := ?_) rfl (by kernel_rfl) (by kernel_rfl) (by kernel_rfl) (fun _ _ _ h => h) (Or.inl ⟨by rfl, ?_⟩) (by assumption) ?_
  rotate_left
  · intro w hSw
    (try dsimp only at hSw)
    go_simp
    (try with_reducible rfl)
  try simp only [Act.put, List.getElem_toArray, List.getElem_cons_zero, List.getElem_cons_succ, List.setIfInBounds_toArray, List.set_cons_zero, List.set_cons_succ]
  refine wpAnyH_take (i := 2) (v := _) rfl (by kernel_rfl) (by kernel_rfl) (by kernel_rfl) (fun _ _ _ h => h) (yieldsIf_load_mid (by rfl) _ _ rfl _ _ rfl _ _ (fun w hSw => hSw.1.range) (Tryz.underlying47) rfl (by rw [size_ot]; rfl)) (by assumption) ?_
  try simp only [Act.put, List.getElem_toArray, List.getElem_cons_zero, List.getElem_cons_succ, List.setIfInBounds_toArray, List.set_cons_zero, List.set_cons_succ]
  refine wpAnyH_take (i := 3) (v := ?_) rfl (by kernel_rfl) (by kernel_rfl) (by kernel_rfl) (fun _ _ _ h => h) (Or.inl ⟨by rfl, ?_⟩) (by assumption) ?_
  rotate_left
  · intro w hSw
    (try dsimp only at hSw)
    go_simp
    (try with_reducible rfl)
  try simp only [Act.put, List.getElem_toArray, List.getElem_cons_zero, List.getElem_cons_succ, List.setIfInBounds_toArray, List.set_cons_zero, List.set_cons_succ]
  refine wpAnyH_take (i := 4) (v := ?_) rfl (by kernel_rfl) (by kernel_rfl) (by kernel_rfl) (fun _ _ _ h => h) (Or.inl ⟨by rfl, ?_⟩) (by assumption) ?_
  rotate_left
  · intro w hSw
    (try dsimp only at hSw)
    go_simp
    (try with_reducible rfl)
  try simp only [Act.put, List.getElem_toArray, List.getElem_cons_zero, List.getElem_cons_succ, List.setIfInBounds_toArray, List.set_cons_zero, List.set_cons_succ]
  refine wpAnyH_take (i := 5) (v := ?_) rfl (by kernel_rfl) (by kernel_rfl) (by kernel_rfl) (fun _ _ _ h => h) (Or.inl ⟨by rfl, ?_⟩) (by assumption) ?_
  rotate_left
  · intro w hSw
    (try dsimp only at hSw)
    go_simp
    (try with_reducible rfl)
  try simp only [Act.put, List.getElem_toArray, List.getElem_cons_zero, List.getElem_cons_succ, List.setIfInBounds_toArray, List.set_cons_zero, List.set_cons_succ]
  refine wpAnyH_ready (rs := [6]) (by kernel_rfl) (by simp) ?_
  refine AllReadyH.cons rfl (fun K hK => ?_) AllReadyH.nil
  go_simp
  refine (RC.out _ K5.out.drew).mono ?_
  rintro e wA ⟨rfl, hbA, kA⟩
  have HBA := Lib.hid hbA
  have HKA := Lib.hid kA
  have AF := Lib.hid (HD.out.after K5.out.drew (M5.out.keep (Kept.refl No _).drew (fun h => h) (fun h => h)) kA)
  clear hbA kA
  first | show K _ _ | go_wp2_with fail
  refine hK.out _ _ ?_ (fun hHeld1 => ?_)
  · exact ⟨(R6.out.keep (Kept.refl No _).drew (fun h => h)).keep HKA.out (RowAt.ne_type R6.out (brow (HD.out.bytes.keep K5.out HD.out.apart)) (by decide)), trivial⟩
  clear hK K
  try simp only [Act.put, List.getElem_toArray, List.getElem_cons_zero, List.getElem_cons_succ, List.setIfInBounds_toArray, List.set_cons_zero, List.set_cons_succ]
  refine held_now (fun w' => (w'.cell? ⟨xp, 0, none⟩ = some (.slice (some ⟨xb, 0, none⟩) 2048 2048) ∧ ByteRow w' xb o.l ∧ RowAt w' ob OT [.int .i64 o.e, .int .i64 o.t, .int .i64 o.n]) ∧ Kept No wA w') (fun _ h => ⟨h.1.2.2, trivial⟩) ?_ (fun hHeld2 => ?_)
  · exact ⟨⟨by rw [AF.out.2.cell]; rfl, HBA.out, hHeld1.1⟩, Kept.refl _ _⟩
  refine wpAnyH_take (i := 7) (v := ?_) rfl (by kernel_rfl) (by kernel_rfl) (by kernel_rfl) (fun _ _ _ h => h) (Or.inl ⟨by rfl, ?_⟩) (by assumption) ?_
  rotate_left
  · intro w hSw
    (try dsimp only at hSw)
    go_simp
    (try with_reducible rfl)
  try simp only [Act.put, List.getElem_toArray, List.getElem_cons_zero, List.getElem_cons_succ, List.setIfInBounds_toArray, List.set_cons_zero, List.set_cons_succ]
  refine wpAnyH_take (i := 8) (v := ?_) rfl (by kernel_rfl) (by kernel_rfl) (by kernel_rfl) (fun _ _ _ h => h) (Or.inl ⟨by rfl, ?_⟩) (by assumption) ?_
  rotate_left
  · intro w hSw
    (try dsimp only at hSw)
    go_simp
    (try with_reducible rfl)
  try simp only [Act.put, List.getElem_toArray, List.getElem_cons_zero, List.getElem_cons_succ, List.setIfInBounds_toArray, List.set_cons_zero, List.set_cons_succ]
  refine wpAnyH_take (i := 9) (v := ?_) rfl (by kernel_rfl) (by kernel_rfl) (by kernel_rfl) (fun _ _ _ h => h) (Or.inl ⟨by rfl, ?_⟩) (by assumption) ?_
  rotate_left
  · intro w hSw
    (try dsimp only at hSw)
    go_simp
    (try with_reducible rfl)
  try simp only [Act.put, List.getElem_toArray, List.getElem_cons_zero, List.getElem_cons_succ, List.setIfInBounds_toArray, List.set_cons_zero, List.set_cons_succ]
  refine wpAnyH_take (i := 10) (v := ?_) rfl (by kernel_rfl) (by kernel_rfl) (by kernel_rfl) (fun _ _ _ h => h) (Or.inl ⟨by rfl, ?_⟩) (by assumption) ?_
  rotate_left
  · intro w hSw
    (try dsimp only at hSw)
    go_simp
    (try with_reducible rfl)
  try simp only [Act.put, List.getElem_toArray, List.getElem_cons_zero, List.getElem_cons_succ, List.setIfInBounds_toArray, List.set_cons_zero, List.set_cons_succ]
  refine wpAnyH_take (i := 13) (v := ?_) rfl (by kernel_rfl) (by kernel_rfl) (by kernel_rfl) (fun _ _ _ h => h) (Or.inl ⟨by rfl, ?_⟩) (by assumption) ?_
  rotate_left
  · intro w hSw
    (try dsimp only at hSw)
    go_simp
    (try with_reducible rfl)
  try simp only [Act.put, List.getElem_toArray, List.getElem_cons_zero, List.getElem_cons_succ, List.setIfInBounds_toArray, List.set_cons_zero, List.set_cons_succ]
  refine wpAnyH_take (i := 14) (v := ?_) rfl (by kernel_rfl) (by kernel_rfl) (by kernel_rfl) (fun _ _ _ h => h) (Or.inl ⟨by rfl, ?_⟩) (by assumption) ?_
  rotate_left
  · intro w hSw
    (try dsimp only at hSw)
    go_simp
    (try with_reducible rfl)
  try simp only [Act.put, List.getElem_toArray, List.getElem_cons_zero, List.getElem_cons_succ, List.setIfInBounds_toArray, List.set_cons_zero, List.set_cons_succ]
  refine wpAnyH_take (i := 15) (v := ?_) rfl (by kernel_rfl) (by kernel_rfl) (by kernel_rfl) (fun _ _ _ h => h) (Or.inl ⟨by rfl, ?_⟩) (by assumption) ?_
  rotate_left
  · intro w hSw
    (try dsimp only at hSw)
    go_simp
    (try with_reducible rfl)
  try simp only [Act.put, List.getElem_toArray, List.getElem_cons_zero, List.getElem_cons_succ, List.setIfInBounds_toArray, List.set_cons_zero, List.set_cons_succ]
  refine wpAnyH_take (i := 16) (v := ?_) rfl (by kernel_rfl) (by kernel_rfl) (by kernel_rfl) (fun _ _ _ h => h) (Or.inl ⟨by rfl, ?_⟩) (by assumption) ?_
  rotate_left
  · intro w hSw
    (try dsimp only at hSw)
    go_simp
    (try with_reducible rfl)
  try simp only [Act.put, List.getElem_toArray, List.getElem_cons_zero, List.getElem_cons_succ, List.setIfInBounds_toArray, List.set_cons_zero, List.set_cons_succ]
  refine wpAnyH_take (i := 17) (v := ?_) rfl (by kernel_rfl) (by kernel_rfl) (by kernel_rfl) (fun _ _ _ h => h) (Or.inl ⟨by rfl, ?_⟩) (by assumption) ?_
  rotate_left
  · intro w hSw
    have hcv := row_string hSw.1.2.1 0 2048 2048 (by rw [HOl.out]; omega) 2048 rfl
    (try dsimp only at hSw)
    go_simp
    (try with_reducible rfl)
  try simp only [Act.put, List.getElem_toArray, List.getElem_cons_zero, List.getElem_cons_succ, List.setIfInBounds_toArray, List.set_cons_zero, List.set_cons_succ]
  refine wpAnyH_ready (rs := [11]) (by kernel_rfl) (by simp) ?_
  refine AllReadyH.cons rfl (fun K hK => ?_) AllReadyH.nil
  go_simp
  refine (bytes_all AF.out.1 HOl.out).mono ?_
  rintro e wE ⟨rfl, hbE, kE⟩
  have hcv := row_string hbE 0 2048 2048 (by rw [HOl.out]; omega) 2048 rfl
  have KE := Lib.hid kE
  clear hbE kE
  first | show K _ _ | go_wp2_with fail
  refine hK.out _ _ ?_ (fun hHeld3 => ?_)
  · exact ⟨⟨(KE.out.cell (cell_lt hHeld2.1.1) (fun h => h)).trans hHeld2.1.1, hHeld2.1.2.1.keep KE.out (fun h => h), hHeld2.1.2.2.keep KE.out (fun h => h)⟩, KE.out⟩
  clear hK K
  try simp only [Act.put, List.getElem_toArray, List.getElem_cons_zero, List.getElem_cons_succ, List.setIfInBounds_toArray, List.set_cons_zero, List.set_cons_succ]
  refine wpAnyH_ready (rs := [12]) (by kernel_rfl) (by simp) ?_
  refine AllReadyH.cons rfl (fun K hK => ?_) AllReadyH.nil
  go_simp
  refine hK.out _ _ ?_ (fun hHeld4 => ?_)
  · exact hHeld3
  clear hK K
  try simp only [Act.put, List.getElem_toArray, List.getElem_cons_zero, List.getElem_cons_succ, List.setIfInBounds_toArray, List.set_cons_zero, List.set_cons_succ]
  refine wpAnyH_take (i := 18) (v := ?_) rfl (by kernel_rfl) (by kernel_rfl) (by kernel_rfl) (fun _ _ _ h => h) (Or.inl ⟨by rfl, ?_⟩) (by assumption) ?_
  rotate_left
  · intro w hSw
    (try dsimp only at hSw)
    go_simp
    (try with_reducible rfl)
  try simp only [Act.put, List.getElem_toArray, List.getElem_cons_zero, List.getElem_cons_succ, List.setIfInBounds_toArray, List.set_cons_zero, List.set_cons_succ]
  refine wpAnyH_take (i := 19) (v := ?_) rfl (by kernel_rfl) (by kernel_rfl) (by kernel_rfl) (fun _ _ _ h => h) (Or.inl ⟨by rfl, ?_⟩) (by assumption) ?_
  rotate_left
  · intro w hSw
    (try dsimp only at hSw)
    go_simp
    (try with_reducible rfl)
  try simp only [Act.put, List.getElem_toArray, List.getElem_cons_zero, List.getElem_cons_succ, List.setIfInBounds_toArray, List.set_cons_zero, List.set_cons_succ]
  refine wpAnyH_take (i := 20) (v := ?_) rfl (by kernel_rfl) (by kernel_rfl) (by kernel_rfl) (fun _ _ _ h => h) (Or.inl ⟨by rfl, ?_⟩) (by assumption) ?_
  rotate_left
  · intro w hSw
    (try dsimp only at hSw)
    go_simp
    (try with_reducible rfl)
  try simp only [Act.put, List.getElem_toArray, List.getElem_cons_zero, List.getElem_cons_succ, List.setIfInBounds_toArray, List.set_cons_zero, List.set_cons_succ]
  refine wpAnyH_done (by kernel_rfl) ?_ _
  clear hHeld hHeld1 hHeld2 hHeld3 hHeld4 hcv
  go_wp2_with fail
  go_ret
  refine ⟨rfl, ?_⟩
  have kk : Kept (fun j => j = g ∨ j = xb) w3 wE := ((K5.out.drew.wide2 (fun _ e => .inl e)).trans (HKA.out.wide2 fun _ e => .inr e)).trans KE.out.up
  have hb : Below w.heap.size w w3 := B1.out.trans (HD.out.both.zoo.below.mono B1.out.size)
  have hlow := HD.out.low
  have hs1 := B1.out.size
  have hs3 : w1.heap.size ≤ w3.heap.size := HD.out.both.zoo.size
  exact kk.below hb (by omega) fun j _ hj => by rcases hj with hj | hj <;> omega

set_option maxRecDepth 100000 in
set_option maxHeartbeats 4000000 in
theorem runCalls_not (a : Option Addr) (n cap : Nat) (at_ fuel : Int) (B : List Blk) (w : World) (h : Blks w a n B) (hno : ¬ FewB B ∨ 400 < fuel) :
    Calls Tryz.prog 4 #[.slice a n cap, .int .i64 at_, .int .i64 fuel] w fun e w' => e = .returned (.bool true) ∧ Below w.heap.size w w' := by
  have HB := Lib.hid h
  clear h
  by_cases hf : FewB B
  · have e1 : (if FewB B then (1 : Int) else 0) = 1 := if_pos hf
    have h1 : 400 < fuel := by
      rcases hno with h | h
      · exact absurd hf h
      · exact h
    clear hno hf
    go_enter Tryz.func4, Tryz.ntmps4
    go_wp2_with fail
    refine (up08 _).mono ?_
    rintro e w1 ⟨rfl, hb1⟩
    go_wp2_with fail
    refine (few7_any a n cap B _ (HB.out.on hb1)).mono ?_
    rintro e w2 ⟨rfl, rfl⟩
    rw [e1]
    go_wp2_with fail
    go_ret
    exact ⟨rfl, hb1⟩
  · have e1 : (if FewB B then (1 : Int) else 0) = 0 := if_neg hf
    clear hno hf
    go_enter Tryz.func4, Tryz.ntmps4
    go_wp2_with fail
    refine (up08 _).mono ?_
    rintro e w1 ⟨rfl, hb1⟩
    go_wp2_with fail
    refine (few7_any a n cap B _ (HB.out.on hb1)).mono ?_
    rintro e w2 ⟨rfl, rfl⟩
    rw [e1]
    go_wp2_with fail
    go_ret
    exact ⟨rfl, hb1⟩

theorem runCalls_walk (a : Option Addr) (n cap : Nat) (at_ fuel : Int) (w : World) (hB : ∃ B, Blks w a n B) (_hat : (Lit.int .i64 at_).wf = true) (_hfl : (Lit.int .i64 fuel).wf = true) :
    Calls Tryz.prog 4 #[.slice a n cap, .int .i64 at_, .int .i64 fuel] w fun e w' => e = .returned (.bool true) ∧ Below w.heap.size w w' := by
  obtain ⟨B, hB⟩ := hB
  by_cases hc : FewB B ∧ fuel ≤ 400
  · exact runCalls_main a n cap at_ fuel B w hB hc.1 hc.2
  · refine runCalls_not a n cap at_ fuel B w hB ?_
    by_cases h1 : FewB B
    · have : ¬ fuel ≤ 400 := fun h => hc ⟨h1, h⟩
      omega
    · exact .inl h1
end Go.Proofs.YtlnjcaicagcinaaGreat
