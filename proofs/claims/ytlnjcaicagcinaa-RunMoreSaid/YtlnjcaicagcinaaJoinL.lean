/-
  Code that is called: what a call comes to, as data, and the program's Call (layer 8). No conditions beyond those that each theorem names.
-/
import Derived.Test.YtlnjcaicagcinaaJoinG
import Derived.Deep.DeepCutAuto
namespace Go.Proofs.Ytlnjcaicagcinaa
open Go.ChangeShapes Go.WideShapes Go.ChangeAt Go.RowKit

/- what a call comes to: how it ends, the trap, the steps; the bytes -/
structure Ran where
  e : Int
  t : Int
  n : Int
  l : List Nat
def Ran.cs (o : Ran) : List Value := [.int .i64 o.e, .int .i64 o.t, .int .i64 o.n]
def runOf (Z : List ZV) : Nat → List Int → Int → List Nat → Int → Ran
  | 0, _, p, l, n => if p = 4294967292 then ⟨0, 0, n, l⟩ else ⟨2, 0, n, l⟩
  | k + 1, r, p, l, n => if p = 4294967292 then ⟨0, 0, n, l⟩ else if (stepOf Z r p l).t = 0 then runOf Z k (stepOf Z r p l).r (stepOf Z r p l).p (stepOf Z r p l).l (n + 1) else ⟨1, (stepOf Z r p l).t, n, (stepOf Z r p l).l⟩
def regs0 : List Int := [0, 0, 0, 0, 0, 0, 0, 0, 0, 0, 0, 0, 0, 0, 272, -4]
def most (fuel : Int) : Nat := (min (max fuel 0) 2000).toNat
def callOf (Z : List ZV) (p : Int) (l : List Nat) (fuel : Int) : Ran := runOf Z (most fuel) regs0 p l 0
theorem runOf_end {Z : List ZV} {k : Nat} {r : List Int} {p : Int} {l : List Nat} {n : Int} (h : p = 4294967292) : runOf Z k r p l n = ⟨0, 0, n, l⟩ := by
  cases k with
  | zero => rw [runOf, if_pos h]
  | succ k => rw [runOf, if_pos h]
theorem runOf_zero {Z : List ZV} {r : List Int} {p : Int} {l : List Nat} {n : Int} (h : p ≠ 4294967292) : runOf Z 0 r p l n = ⟨2, 0, n, l⟩ := by rw [runOf, if_neg h]
theorem runOf_trap {Z : List ZV} {k : Nat} {r : List Int} {p : Int} {l : List Nat} {n : Int} (h : p ≠ 4294967292) (ht : (stepOf Z r p l).t ≠ 0) : runOf Z (k + 1) r p l n = ⟨1, (stepOf Z r p l).t, n, (stepOf Z r p l).l⟩ := by rw [runOf, if_neg h, if_neg ht]
theorem runOf_step {Z : List ZV} {k : Nat} {r : List Int} {p : Int} {l : List Nat} {n : Int} (h : p ≠ 4294967292) (ht : (stepOf Z r p l).t = 0) : runOf Z (k + 1) r p l n = runOf Z k (stepOf Z r p l).r (stepOf Z r p l).p (stepOf Z r p l).l (n + 1) := by rw [runOf, if_neg h, if_pos ht]
theorem stepOf_llen (Z : List ZV) (r : List Int) (p : Int) (l : List Nat) : (stepOf Z r p l).l.length = l.length := (stepOf_wrote Z r p l).1.len
theorem runOf_len (Z : List ZV) : ∀ (k : Nat) (r : List Int) (p : Int) (l : List Nat) (n : Int), (runOf Z k r p l n).l.length = l.length
  | 0, r, p, l, n => by rw [runOf]; split <;> rfl
  | k + 1, r, p, l, n => by
    rw [runOf]
    split
    · rfl
    · split
      · rw [runOf_len Z k, stepOf_llen]
      · exact stepOf_llen Z r p l
/- with more fuel, what has ended ends the same -/
theorem runOf_more (Z : List ZV) : ∀ (k m : Nat) (r : List Int) (p : Int) (l : List Nat) (n : Int), (runOf Z k r p l n).e ≠ 2 → runOf Z (k + m) r p l n = runOf Z k r p l n
  | 0, m, r, p, l, n, h => by
    by_cases hp : p = 4294967292
    · rw [runOf_end hp, runOf_end hp]
    · rw [runOf_zero hp] at h
      exact absurd rfl h
  | k + 1, m, r, p, l, n, h => by
    by_cases hp : p = 4294967292
    · rw [runOf_end hp, runOf_end hp]
    · rw [show k + 1 + m = k + m + 1 by omega]
      by_cases ht : (stepOf Z r p l).t = 0
      · rw [runOf_step hp ht] at h ⊢
        rw [runOf_step hp ht]
        exact runOf_more Z k m _ _ _ _ h
      · rw [runOf_trap hp ht, runOf_trap hp ht]
/- how many steps are done -/
theorem runOf_steps (Z : List ZV) : ∀ (k : Nat) (r : List Int) (p : Int) (l : List Nat) (n : Int), n ≤ (runOf Z k r p l n).n ∧ (runOf Z k r p l n).n ≤ n + k ∧ ((runOf Z k r p l n).e = 2 → (runOf Z k r p l n).n = n + k) ∧ ((runOf Z k r p l n).e = 0 ∨ (runOf Z k r p l n).e = 1 ∨ (runOf Z k r p l n).e = 2)
  | 0, r, p, l, n => by
    by_cases hp : p = 4294967292
    · rw [runOf_end hp]
      exact ⟨by simp, by simp, fun h => by simp at h, .inl rfl⟩
    · rw [runOf_zero hp]
      exact ⟨by simp, by simp, fun _ => by simp, .inr (.inr rfl)⟩
  | k + 1, r, p, l, n => by
    by_cases hp : p = 4294967292
    · rw [runOf_end hp]
      exact ⟨by simp, by simp only; omega, fun h => by simp at h, .inl rfl⟩
    · by_cases ht : (stepOf Z r p l).t = 0
      · rw [runOf_step hp ht]
        obtain ⟨h1, h2, h3, h4⟩ := runOf_steps Z k (stepOf Z r p l).r (stepOf Z r p l).p (stepOf Z r p l).l (n + 1)
        exact ⟨by omega, by omega, fun h => by have := h3 h; omega, h4⟩
      · rw [runOf_trap hp ht]
        exact ⟨by simp, by simp only; omega, fun h => by simp at h, .inr (.inl rfl)⟩
theorem runOf_grows (Z : List ZV) : ∀ (k m : Nat) (r : List Int) (p : Int) (l : List Nat) (n : Int), (runOf Z k r p l n).n ≤ (runOf Z (k + m) r p l n).n
  | 0, m, r, p, l, n => by
    have h1 := (runOf_steps Z (0 + m) r p l n).1
    have h2 := (runOf_steps Z 0 r p l n).2.1
    omega
  | k + 1, m, r, p, l, n => by
    by_cases hp : p = 4294967292
    · rw [runOf_end hp, runOf_end hp]
      exact Int.le_refl _
    · rw [show k + 1 + m = k + m + 1 by omega]
      by_cases ht : (stepOf Z r p l).t = 0
      · rw [runOf_step hp ht, runOf_step hp ht]
        exact runOf_grows Z k m _ _ _ _
      · rw [runOf_trap hp ht, runOf_trap hp ht]
        exact Int.le_refl _

set_option maxRecDepth 100000 in
set_option maxHeartbeats 4000000 in
theorem begun8_any (at_ : Int) (w : World) : Calls Try.prog 18 #[.int .i64 at_] w fun e w' => e = .returned (.agg (cst regs0 at_).toArray) ∧ Kept No w w' := by
  obtain ⟨w2, hw2⟩ : ∃ w2, w2 = (w.alloc (.cells zst.toArray ST)).alloc (.cells (cst (List.replicate 16 0) at_).toArray ST) := ⟨_, rfl⟩
  have e0 : (w.alloc (.cells zst.toArray ST)).heap.size = w.heap.size + 1 := by simp
  have HST : Hid ((Instr.storeAt ST (.pointer (some ⟨w.heap.size + 1, 0, none⟩)) (.agg (cst (List.replicate 16 0) at_).toArray)).run Try.prog ((w.alloc (.cells zst.toArray ST)).alloc (.cells zst.toArray ST)) = .ok () w2) := by
    have hz := RowAt.new (w.alloc (.cells zst.toArray ST)) ST zst
    rw [e0] at hz
    have hs := store_el (P := Try.prog) hz 0 (elS (List.replicate 16 0) at_ (by simp)) ST size_st (.agg (cst (List.replicate 16 0) at_).toArray) rfl (by simp [zst, cst])
    rw [splice_all _ _ (by rw [(elS (List.replicate 16 0) at_ (by simp)).len]; rfl)] at hs
    rw [hw2]
    refine Eq.trans hs ?_
    have hsr := setRow_alloc (w.alloc (.cells zst.toArray ST)) zst.toArray (cst (List.replicate 16 0) at_).toArray ST
    rw [e0] at hsr
    exact congrArg _ hsr
  have r2 : RowAt w2 (w.heap.size + 1) ST (cst (List.replicate 16 0) at_) := by
    have := RowAt.new (w.alloc (.cells zst.toArray ST)) ST (cst (List.replicate 16 0) at_)
    rw [e0] at this
    rw [hw2]
    exact this
  have q2 : RowAt w2 w.heap.size ST zst := by
    have h0 := RowAt.new w ST zst
    rw [hw2]
    exact h0.keep ((Kept.refl No _).alloc _) (fun h => h)
  have k2 : Kept No w w2 := by rw [hw2]; exact ((Kept.refl _ _).alloc _).alloc _
  have K2 := Lib.hid k2
  have r3 := r2.setCell 14 (.int .i32 272)
  have r4 := r3.setCell 15 (.int .i32 (-4))
  have e4 : ((cst (List.replicate 16 0) at_).set 14 (.int .i32 272)).set 15 (.int .i32 (-4)) = cst regs0 at_ := rfl
  rw [e4] at r4
  have k3 : Kept (· = w.heap.size + 1) w2 ((w2.setCell ⟨w.heap.size + 1, 14, none⟩ (.int .i32 272)).setCell ⟨w.heap.size + 1, 15, none⟩ (.int .i32 (-4))) := (kept_set _ _ _ _).trans (kept_set _ _ _ _)
  have R4 := Lib.hid r4
  have q4 := q2.keep k3 (by omega)
  have HST2 : Hid ((Instr.storeAt ST (.pointer (some ⟨w.heap.size, 0, none⟩)) (.agg (cst regs0 at_).toArray)).run Try.prog ((w2.setCell ⟨w.heap.size + 1, 14, none⟩ (.int .i32 272)).setCell ⟨w.heap.size + 1, 15, none⟩ (.int .i32 (-4))) = .ok () (((w2.setCell ⟨w.heap.size + 1, 14, none⟩ (.int .i32 272)).setCell ⟨w.heap.size + 1, 15, none⟩ (.int .i32 (-4))).setRow w.heap.size (cst regs0 at_).toArray)) := by
    have hs := store_el (P := Try.prog) q4 0 (elS regs0 at_ rfl) ST size_st (.agg (cst regs0 at_).toArray) rfl (by simp [zst, cst])
    rw [splice_all _ _ (by rw [(elS regs0 at_ rfl).len]; rfl)] at hs
    exact hs
  have Q5 := Lib.hid (q4.set (cst regs0 at_))
  have K5 : Hid (Kept No w (((w2.setCell ⟨w.heap.size + 1, 14, none⟩ (.int .i32 272)).setCell ⟨w.heap.size + 1, 15, none⟩ (.int .i32 (-4))).setRow w.heap.size (cst regs0 at_).toArray)) := by
    have h1 := (k2.up (S := No)).then (S := No) k3 (fun k hk e => by omega)
    exact h1.then (T := (· = w.heap.size)) (kept_row ((w2.setCell ⟨w.heap.size + 1, 14, none⟩ (.int .i32 272)).setCell ⟨w.heap.size + 1, 15, none⟩ (.int .i32 (-4))) w.heap.size _) (fun k hk e => by omega)
  have s14 : w2.cell? ⟨w.heap.size + 1, 14, none⟩ = some (.int .i32 0) := by rw [r2.cell]; rfl
  have s15 : (w2.setCell ⟨w.heap.size + 1, 14, none⟩ (.int .i32 272)).cell? ⟨w.heap.size + 1, 15, none⟩ = some (.int .i32 0) := by rw [r3.cell]; rfl
  have f14 := r2.free 14
  have f15 := r3.free 15
  clear r2 q2 k2 r3 e4 k3 r4 q4 e0
  have HW2 := Lib.hid hw2
  clear hw2
  go_enter Try.func18, Try.ntmps18
  go_wp2_with (first
    | (refine wpList_store_run _ rfl _ _ _ rfl _ _ rfl rfl (by exact HST.out) ?_)
    | (refine wpList_load_row rfl _ _ rfl (w.heap.size + 1) rfl ST (cst regs0 at_).toArray (0, 0) _ R4.out Try.underlying64 rfl (by rw [size_st]; rfl) ?_)
    | (refine wpList_store_run _ rfl _ _ _ rfl _ _ rfl rfl (by exact HST2.out) ?_))
  refine bodyPost_ret (v := .agg (cst regs0 at_).toArray) ?_ rfl ⟨rfl, K5.out⟩
  exact results_cell_row Try.results18 _ _ w.heap.size ST _ _ _ rfl Q5.out Try.underlying64 rfl (by rw [size_st]; rfl)
end Go.Proofs.Ytlnjcaicagcinaa

/-
  The program's Call (layer 8). No conditions beyond those that each theorem names.
-/
namespace Go.Proofs.Ytlnjcaicagcinaa
open Go.ChangeShapes Go.WideShapes Go.ChangeAt Go.RowKit

abbrev OT : TypeId := 31
def InCall (w wr : World) (sp mp g zp mb ob : Nat) (lv : Value) (L : List ZR) (N F : Nat) (o : Ran) (i : Value) : Prop :=
  ∃ (k : Nat) (r : List Int) (p : Int) (l : List Nat), k ≤ F ∧ i = .int .i64 k ∧ Mach wr sp mp g zp mb lv L N r p l ∧ RowAt wr ob OT [.int .i64 0, .int .i64 0, .int .i64 0] ∧ Kept (· = g) w wr ∧ runOf (L.map ZR.z) (F - k) r p l k = o
theorem size_ot : (Try.prog.info? OT).map (·.size) = some 3 := by kernel_rfl

/- an outcome is told -/
theorem told {w wr : World} {mp g ob : Nat} {l : List Nat} (hm : MemAt wr mp g l) (ho : RowAt wr ob OT [.int .i64 0, .int .i64 0, .int .i64 0]) (hob : w.heap.size = ob) (k : Kept (· = g) w wr) (e t n : Int) :
    (Instr.storeAt OT (.pointer (some ⟨ob, 0, none⟩)) (.agg #[.int .i64 e, .int .i64 t, .int .i64 n])).run Try.prog wr = .ok () (wr.setRow ob #[.int .i64 e, .int .i64 t, .int .i64 n]) ∧
    RowAt (wr.setRow ob #[.int .i64 e, .int .i64 t, .int .i64 n]) ob OT [.int .i64 e, .int .i64 t, .int .i64 n] ∧ MemAt (wr.setRow ob #[.int .i64 e, .int .i64 t, .int .i64 n]) mp g l ∧ Kept (· = g) w (wr.setRow ob #[.int .i64 e, .int .i64 t, .int .i64 n]) := by
  have ks := kept_row wr ob #[.int .i64 e, .int .i64 t, .int .i64 n]
  have hs := store_el (P := Try.prog) ho 0 (⟨[.int .i64 e, .int .i64 t, .int .i64 n], rfl, by intro u hu; simp at hu; rcases hu with rfl | rfl | rfl <;> rfl⟩ : El 3) OT size_ot (.agg #[.int .i64 e, .int .i64 t, .int .i64 n]) rfl (by simp)
  refine ⟨hs, ho.set _, hm.keep ks (RowAt.ne_type (mhead hm) ho (by decide)) (RowAt.ne_type (brow hm.row) ho (by decide)), k.then (T := (· = ob)) ks fun j hj e => by omega⟩

set_option maxRecDepth 100000 in
set_option maxHeartbeats 4000000 in
theorem call_any {w : World} {mp g zp mb : Nat} {lv : Value} {L : List ZR} {N : Nat} {l : List Nat} (hm : MemAt w mp g l) (hz : ZAt w zp mb lv L N) (at_ fuel : Int) :
    Calls Try.prog 7 #[.pointer (some ⟨mp, 0, none⟩), .pointer (some ⟨zp, 0, none⟩), .int .i64 at_, .int .i64 fuel] w fun e w' =>
      e = .returned (.agg #[.int .i64 (callOf (L.map ZR.z) at_ l fuel).e, .int .i64 (callOf (L.map ZR.z) at_ l fuel).t, .int .i64 (callOf (L.map ZR.z) at_ l fuel).n]) ∧ MemAt w' mp g (callOf (L.map ZR.z) at_ l fuel).l ∧ Kept (· = g) w w' := by
  unfold callOf
  have hF2 : most fuel ≤ 2000 := by unfold most; omega
  have hF : ((most fuel : Nat) : Int) = min (max fuel 0) 2000 := by unfold most; omega
  generalize most fuel = F at *
  obtain ⟨o, ho⟩ : ∃ o, runOf (L.map ZR.z) F regs0 at_ l 0 = o := ⟨_, rfl⟩
  rw [ho]
  have HO := Lib.hid ho
  have HM := Lib.hid hm
  have HZ := Lib.hid hz
  have hgl := hm.row.lt
  have K0 : Hid (Kept No w (w.alloc (.cells #[.int .i64 0, .int .i64 0, .int .i64 0] OT))) := (Kept.refl _ _).alloc _
  have HF := Lib.hid hF
  have HF2 := Lib.hid hF2
  clear hm hz ho hF hF2
  go_enter Try.func7, Try.ntmps7
  go_wp2_with fail
  refine (begun8_any at_ _).mono ?_
  rintro e w2 ⟨rfl, k2⟩
  have c0 : RowAt w2 w.heap.size OT [.int .i64 0, .int .i64 0, .int .i64 0] := (RowAt.new w OT [.int .i64 0, .int .i64 0, .int .i64 0]).keep k2 (fun h => h)
  obtain ⟨w3, hw3⟩ : ∃ w3, w3 = w2.alloc (.cells (cst regs0 at_).toArray ST) := ⟨_, rfl⟩
  have HST : Hid ((Instr.storeAt ST (.pointer (some ⟨w2.heap.size, 0, none⟩)) (.agg (cst regs0 at_).toArray)).run Try.prog (w2.alloc (.cells zst.toArray ST)) = .ok () w3) := by
    have hz := RowAt.new w2 ST zst
    have hs := store_el (P := Try.prog) hz 0 (elS regs0 at_ rfl) ST size_st (.agg (cst regs0 at_).toArray) rfl (by simp [zst, cst])
    rw [splice_all _ _ (by rw [(elS regs0 at_ rfl).len]; rfl)] at hs
    rw [hw3]
    exact Eq.trans hs (congrArg _ (setRow_alloc w2 zst.toArray (cst regs0 at_).toArray ST))
  have k3 : Kept No w2 w3 := by rw [hw3]; exact (Kept.refl _ _).alloc _
  have r3 : RowAt w3 w2.heap.size ST (cst regs0 at_) := by rw [hw3]; exact RowAt.new w2 ST (cst regs0 at_)
  have kw : Kept No w w3 := (K0.out.trans k2).trans k3
  have hsp : w.heap.size < w2.heap.size := c0.lt
  have IN : Hid (InCall w w3 w2.heap.size mp g zp mb w.heap.size lv L N F o (.int .i64 0)) :=
    ⟨0, regs0, at_, l, Nat.zero_le _, rfl, ⟨r3, HM.out.keep kw (fun h => h) (fun h => h), HZ.out.keep_row kw (fun _ h => h.elim), rfl⟩, c0.keep k3 (fun h => h), kw.up, HO.out⟩
  have hgp : g < w.heap.size := hgl
  clear k2 c0 hw3 k3 r3 kw HM HZ HO
  have HSp := Lib.hid hsp
  go_upto_region 2 with (refine wpList_store_run _ rfl _ _ _ rfl _ _ rfl rfl (by exact HST.out) ?_)
  clear HST
  generalize w2.heap.size = sp at *
  dsimp only [Act.put]
  go_cut [10] (fun s10 wx => s10 = .int .i64 (F : Int) ∧ w3 = wx)
  case first =>
    as_aux_lemma =>
      have hF := HF.out
      by_cases c1 : fuel < 0
      · obtain rfl : F = 0 := by omega
        clear hF HF
        go_wp2_with fail
        go_meet
        exact ⟨rfl, rfl⟩
      · by_cases c2 : 2000 < fuel
        · obtain rfl : F = 2000 := by omega
          clear hF HF
          go_wp2_with fail
          go_meet
          exact ⟨rfl, rfl⟩
        · obtain rfl : fuel = (F : Int) := by omega
          clear hF HF
          go_wp2_with fail
          go_meet
          exact ⟨rfl, rfl⟩
  case rest =>
    obtain ⟨rfl, rfl⟩ := hcut
    clear HF
    go_wp2_with fail
    go_loopw [11] (fun i wr => InCall w wr sp mp g zp mb w.heap.size lv L N F o i) (fun i _ => F - (intOf i).toNat)
    case atStart => exact IN.out
    case round =>
      clear IN
      obtain ⟨k, r, p, l', hk, rfl, hmach, hot, hkept, hrun⟩ := hrel
      have c16 := hmach.st.spot hmach.rl
      have hk2 : k ≤ 2000 := Nat.le_trans hk HF2.out
      have HRun := Lib.hid hrun
      have HMa := Lib.hid hmach
      have HOt := Lib.hid hot
      have HKp := Lib.hid hkept
      clear hmach hot hkept hrun
      by_cases hp : p = 4294967292
      · as_aux_lemma =>
        have HT := Lib.hid (told HMa.out.mem HOt.out rfl HKp.out 0 0 k)
        have ho := HRun.out
        rw [runOf_end hp] at ho
        have HO2 := Lib.hid ho
        subst hp
        clear ho HRun HMa HOt HKp
        go_wp2_with (refine wpList_store_run _ rfl _ _ _ rfl _ _ rfl rfl (by exact HT.out.1) ?_)
        refine bodyPost_ret (v := .agg #[.int .i64 0, .int .i64 0, .int .i64 k]) ?_ rfl ⟨?_, by rw [← HO2.out]; exact HT.out.2.2.1, HT.out.2.2.2⟩
        · exact results_cell_row Try.results7 _ _ w.heap.size OT _ _ _ rfl HT.out.2.1 Try.underlying31 rfl (by rw [size_ot]; rfl)
        · rw [← HO2.out]
      · have q1 : (p == 4294967292) = false := by simpa using hp
        by_cases hkF : k = F
        · as_aux_lemma =>
          have q2 : ((k : Int) == (F : Int)) = true := by simp [hkF]
          have HT := Lib.hid (told HMa.out.mem HOt.out rfl HKp.out 2 0 k)
          have ho := HRun.out
          rw [hkF, Nat.sub_self, runOf_zero hp, ← hkF] at ho
          have HO2 := Lib.hid ho
          clear ho HRun HMa HOt HKp hp hkF
          go_wp2_with (refine wpList_store_run _ rfl _ _ _ rfl _ _ rfl rfl (by exact HT.out.1) ?_)
          refine bodyPost_ret (v := .agg #[.int .i64 2, .int .i64 0, .int .i64 k]) ?_ rfl ⟨?_, by rw [← HO2.out]; exact HT.out.2.2.1, HT.out.2.2.2⟩
          · exact results_cell_row Try.results7 _ _ w.heap.size OT _ _ _ rfl HT.out.2.1 Try.underlying31 rfl (by rw [size_ot]; rfl)
          · rw [← HO2.out]
        · have q2 : ((k : Int) == (F : Int)) = false := by simp; omega
          have hk1 : F - k = F - (k + 1) + 1 := by omega
          have HKF : Hid (k + 1 ≤ F) := by show _ ≤ _; omega
          have HS := Lib.hid (step_any HMa.out)
          have hlen := stepOf_len (L.map ZR.z) r p l'
          go_wp2_with fail
          refine HS.out.mono ?_
          rintro e w4 hd
          obtain rfl := hd.1
          have hm4 := HMa.out.after hd (by rw [hlen]; exact HMa.out.rl)
          have hot4 : RowAt w4 w.heap.size OT [.int .i64 0, .int .i64 0, .int .i64 0] := HOt.out.keep hd.2.2.2 (fun e => by
            rcases e with e | e
            · have := HSp.out; omega
            · omega)
          have hk4 : Kept (· = g) w w4 := HKp.out.then hd.2.2.2 (fun j hj e => by
            rcases e with e | e
            · have := HSp.out; omega
            · exact e)
          have HM4 := Lib.hid hm4
          have HOt4 := Lib.hid hot4
          have HK4 := Lib.hid hk4
          clear hm4 hot4 hk4 hd HS hlen c16
          by_cases ht : (stepOf (L.map ZR.z) r p l').t = 0
          · have ho := HRun.out
            rw [hk1, runOf_step hp ht] at ho
            have HO := Lib.hid ho
            have q3 : ((stepOf (L.map ZR.z) r p l').t != 0) = false := by simp [ht]
            clear ho HRun HMa HOt HKp ht hp hk1
            generalize stepOf (L.map ZR.z) r p l' = d at *
            go_wp2_with fail
            go_roundw
            case rel => exact ⟨k + 1, d.r, d.p, d.l, HKF.out, by go_num, HM4.out, HOt4.out, HK4.out, HO.out⟩
            case measure => have hkf := HKF.out; simp [intOf]; omega
          · as_aux_lemma =>
            have ho := HRun.out
            rw [hk1, runOf_trap hp ht] at ho
            have HT := Lib.hid (told HM4.out.mem HOt4.out rfl HK4.out 1 (stepOf (L.map ZR.z) r p l').t k)
            have q3 : ((stepOf (L.map ZR.z) r p l').t != 0) = true := by simp [ht]
            have HO2 := Lib.hid ho
            clear ho HRun HMa HOt HKp HM4 HOt4 HK4 ht hp hk1
            generalize stepOf (L.map ZR.z) r p l' = d at *
            go_wp2_with (refine wpList_store_run _ rfl _ _ _ rfl _ _ rfl rfl (by exact HT.out.1) ?_)
            refine bodyPost_ret (v := .agg #[.int .i64 1, .int .i64 d.t, .int .i64 k]) ?_ rfl ⟨?_, by rw [← HO2.out]; exact HT.out.2.2.1, HT.out.2.2.2⟩
            · exact results_cell_row Try.results7 _ _ w.heap.size OT _ _ _ rfl HT.out.2.1 Try.underlying31 rfl (by rw [size_ot]; rfl)
            · rw [← HO2.out]
end Go.Proofs.Ytlnjcaicagcinaa

/-
  The examples at the head of layer 8's laws (up): it returns true and changes nothing that was there. No conditions.
-/
namespace Go.Proofs.Ytlnjcaicagcinaa
open Go.ChangeShapes Go.WideShapes Go.ChangeAt Go.RowKit

theorem zat_g {w w' : World} {mp g zp mb : Nat} {lv : Value} {L : List ZR} {n : Nat} {l : List Nat} (hz : ZAt w zp mb lv L n) (hm : MemAt w mp g l) (k : Kept (· = g) w w') : ZAt w' zp mb lv L n :=
  hz.keep_row k fun j hj => by subst hj; exact ⟨_, _, brow hm.row, by decide, by decide, by decide⟩
theorem cells3 {w : World} {b : Nat} {e t n : Int} (h : RowAt w b OT [.int .i64 e, .int .i64 t, .int .i64 n]) : w.cell? ⟨b, 0, none⟩ = some (.int .i64 e) ∧ w.cell? ⟨b, 1, none⟩ = some (.int .i64 t) ∧ w.cell? ⟨b, 2, none⟩ = some (.int .i64 n) :=
  ⟨by rw [h.cell]; rfl, by rw [h.cell]; rfl, by rw [h.cell]; rfl⟩
theorem put_go (w : World) : Calls Try.prog 9 #[.agg #[.int .i64 21, .int .i64 15, .int .i64 0, .int .i64 0]] w fun e w' => e = .returned (.int .u32 1472200704) ∧ Kept No w w' :=
  (refPutIns_any 21 15 0 0 w (by decide) (by decide) (by decide) (by decide) (by decide)).mono fun _ _ ⟨he, hb⟩ => ⟨by rw [he]; rfl, Kept.of_below hb⟩
def blkOne (b x : Nat) : Blk := ⟨⟨ZUp, ⟨none, 0, 0⟩, ⟨none, 0, 0⟩⟩, ⟨some ⟨b, 0, none⟩, 1, 1⟩, [x]⟩
theorem begs_one (b x : Nat) (L : List ZR) (l : List Nat) (h : Begs [blkOne b x] 1 L l) : L.map ZR.z = [ZUp] ∧ l = splice (List.replicate 2048 0) 272 (bytes4 x) := by
  obtain ⟨L0, l0, d, ⟨rfl, rfl⟩, hd, ha, rfl⟩ := h
  simp at hd
  subst hd
  refine ⟨?_, ?_⟩
  · have hm : MayAdd ([] : List ZV) ZUp := ⟨by decide, rfl, by simp [cellsOk, DeclOk]⟩
    rcases ha with ⟨_, A, B, hs, e⟩ | ⟨hn, _⟩
    · have h0 := hs.eq
      simp at h0
      obtain ⟨rfl, rfl⟩ := h0
      exact e
    · exact absurd hm hn
  · show laid 272 [x] (List.replicate 2048 0) 1 = _
    rw [laid, if_pos (by decide)]
    rfl
theorem step_go (l : List Nat) (hl : l.length = 2048) (hw : wordAt l 272 = 1472200704) : stepOf [ZUp] regs0 272 l = ⟨0, regs0, 4294967292, l⟩ := by
  have e : (272 : Int).toNat = 272 := rfl
  unfold stepOf
  rw [e, hw, if_neg (by rw [hl]; decide), if_pos (by decide)]
  rfl
theorem call_one (l : List Nat) (hl : l.length = 2048) (hw : wordAt l 272 = 1472200704) : callOf [ZUp] 272 l 5 = ⟨0, 0, 1, l⟩ := by
  have h := step_go l hl hw
  show runOf [ZUp] 5 regs0 272 l 0 = _
  rw [runOf_step (by decide) (by rw [h]), h]
  exact runOf_end rfl
theorem call_two (l : List Nat) : callOf [ZUp] 272 l 0 = ⟨2, 0, 0, l⟩ := by
  show runOf [ZUp] 0 regs0 272 l 0 = _
  exact runOf_zero (by decide)
theorem call_three (l : List Nat) : callOf [ZUp] 16 l 5 = ⟨1, 5, 0, l⟩ := by
  have h : stepOf [ZUp] regs0 16 l = ⟨5, regs0, 16, l⟩ := by
    unfold stepOf
    rw [if_pos (.inl (by decide))]
  show runOf [ZUp] 5 regs0 16 l 0 = _
  rw [runOf_trap (by decide) (by rw [h]; show (5 : Int) ≠ 0; decide), h]

set_option maxRecDepth 100000 in
set_option maxHeartbeats 4000000 in
theorem up08 (w : World) : Calls Try.prog 4 #[] w fun e w' => e = .returned (.bool true) ∧ Below w.heap.size w w' := by
  go_enter Try.func4, Try.ntmps4
  go_wp2_with fail
  refine (put_go _).mono ?_
  rintro e w1 ⟨rfl, k1⟩
  obtain ⟨W, hW⟩ : ∃ W, W = (w1.alloc (.cells #[.int .u32 1472200704] 39)).alloc (.cells #[.int .i64 272, .int .i64 272, .int .i64 272, .int .i64 276, .slice none 0 0, .slice none 0 0, .slice (some ⟨w1.heap.size, 0, none⟩) 1 1] 45) := ⟨_, rfl⟩
  have kW : Kept No w W := by rw [hW]; exact (k1.alloc _).alloc _
  have hblk : Blks W (some ⟨w1.heap.size + 1, 0, none⟩) 1 [blkOne w1.heap.size 1472200704] := by
    have r1 : RowAt W (w1.heap.size + 1) 45 [.int .i64 272, .int .i64 272, .int .i64 272, .int .i64 276, .slice none 0 0, .slice none 0 0, .slice (some ⟨w1.heap.size, 0, none⟩) 1 1] := by
      have e0 : (w1.alloc (.cells #[.int .u32 1472200704] 39)).heap.size = w1.heap.size + 1 := by simp
      have := RowAt.new (w1.alloc (.cells #[.int .u32 1472200704] 39)) 45 [.int .i64 272, .int .i64 272, .int .i64 272, .int .i64 276, .slice none 0 0, .slice none 0 0, .slice (some ⟨w1.heap.size, 0, none⟩) 1 1]
      rw [e0] at this
      rw [hW]
      exact this
    have r0 : RowAt W w1.heap.size 39 [.int .u32 1472200704] := by
      rw [hW]
      exact (RowAt.new w1 39 [.int .u32 1472200704]).keep ((Kept.refl No _).alloc _) (fun h => h)
    refine ⟨rfl, by decide, .inr ⟨_, 0, rfl, r1.lt, fun i d hd => ?_⟩, fun d hd => ?_, fun d hd => ?_⟩
    · match i, hd with
      | 0, hd =>
        simp at hd
        subst hd
        exact ⟨⟨by rw [r1.cell]; rfl, by rw [r1.cell]; rfl, by rw [r1.cell]; rfl, by rw [r1.cell]; rfl, by rw [r1.cell]; rfl, by rw [r1.cell]; rfl⟩, by rw [r1.cell]; rfl⟩
    · simp at hd
      subst hd
      exact ⟨⟨rfl, ⟨Nat.le_refl 0, Nat.zero_le _⟩, fun _ => rfl, .inl rfl, by simp [blkOne]⟩, ⟨rfl, ⟨Nat.le_refl 0, Nat.zero_le _⟩, fun _ => rfl, .inl rfl, by simp [blkOne]⟩⟩
    · simp at hd
      subst hd
      refine ⟨rfl, ⟨Nat.le_refl 1, (by show 1 ≤ maxLen; decide)⟩, .inr ⟨_, 0, rfl, r0.lt, fun j x hx => ?_⟩, by simp [blkOne]⟩
      match j, hx with
      | 0, hx =>
        simp [blkOne] at hx
        subst hx
        rw [r0.cell]
        rfl
  have HBg := Lib.hid (begun_any _ 1 1 _ W hblk ⟨fun d hd => by simp at hd; subst hd; exact ⟨by simp [blkOne], by simp [blkOne], by simp [blkOne], by simp [blkOne], by simp [blkOne]⟩, by simp⟩)
  have KW := Lib.hid kW
  clear kW hblk k1
  go_wp2_with fail
  rw [← hW]
  clear hW
  refine HBg.out.mono ?_
  rintro e w3 ⟨mp, g, zp, mb, xp, xb, L, M, mv, l, rfl, hduo, hbegs, -⟩
  obtain ⟨hL, hl⟩ := begs_one _ _ L l hbegs
  have hll := hduo.len
  have hwd : wordAt l 272 = 1472200704 := by rw [hl]; exact wordAt_put _ 272 _ (by simp) (by decide)
  obtain ⟨lv, hz, -⟩ := hduo.both.zoo.is
  have HM3 := Lib.hid hduo.mem
  have HZ3 := Lib.hid hz
  have hc := call_any hduo.mem hz 272 5
  rw [hL, call_one l hll hwd] at hc
  have HC := Lib.hid hc
  have HL := Lib.hid hL
  have KB := Lib.hid (hduo.both.zoo.below)
  have HLow := Lib.hid hduo.low
  have hWs : W.heap.size ≤ w3.heap.size := hduo.both.zoo.size
  clear hbegs hL hl hll hwd hz hc hduo
  go_wp2_with fail
  refine HC.out.mono ?_
  rintro e w4 ⟨rfl, m4, k4⟩
  have k5 := k4.alloc (.cells #[.int .i64 0, .int .i64 0, .int .i64 1] OT)
  have r5 := RowAt.new w4 OT [.int .i64 0, .int .i64 0, .int .i64 1]
  have m5 := m4.keep ((Kept.refl No w4).alloc (.cells #[.int .i64 0, .int .i64 0, .int .i64 1] OT)) (fun h => h) (fun h => h)
  have hc := call_any m5 (zat_g HZ3.out HM3.out k5) 272 0
  rw [HL.out, call_two] at hc
  have HC2 := Lib.hid hc
  have K5 := Lib.hid k5
  have M5 := Lib.hid m5
  have R5 := Lib.hid r5
  clear hc k5 r5 m5 m4 k4 HC
  go_wp2_with fail
  refine HC2.out.mono ?_
  rintro e w6 ⟨rfl, m6, k6⟩
  have k7 := K5.out.trans (k6.alloc (.cells #[.int .i64 2, .int .i64 0, .int .i64 0] OT))
  have r7 := RowAt.new w6 OT [.int .i64 2, .int .i64 0, .int .i64 0]
  have q7 := R5.out.keep (k6.alloc (.cells #[.int .i64 2, .int .i64 0, .int .i64 0] OT)) (RowAt.ne_type R5.out (brow M5.out.row) (by decide))
  have m7 := m6.keep ((Kept.refl No w6).alloc (.cells #[.int .i64 2, .int .i64 0, .int .i64 0] OT)) (fun h => h) (fun h => h)
  have hc := call_any m7 (zat_g HZ3.out HM3.out k7) 16 5
  rw [HL.out, call_three] at hc
  have HC3 := Lib.hid hc
  have K7 := Lib.hid k7
  have M7 := Lib.hid m7
  have R7 := Lib.hid r7
  have Q7 := Lib.hid q7
  clear hc k7 r7 q7 m7 m6 k6 HC2 M5 R5 K5
  go_wp2_with fail
  refine HC3.out.mono ?_
  rintro e w8 ⟨rfl, m8, k8⟩
  have k9 := K7.out.trans (k8.alloc (.cells #[.int .i64 1, .int .i64 5, .int .i64 0] OT))
  have r9 := RowAt.new w8 OT [.int .i64 1, .int .i64 5, .int .i64 0]
  have q9 := R7.out.keep (k8.alloc (.cells #[.int .i64 1, .int .i64 5, .int .i64 0] OT)) (RowAt.ne_type R7.out (brow M7.out.row) (by decide))
  have p9 := Q7.out.keep (k8.alloc (.cells #[.int .i64 1, .int .i64 5, .int .i64 0] OT)) (RowAt.ne_type Q7.out (brow M7.out.row) (by decide))
  have K9 := Lib.hid k9
  obtain ⟨a0, a1, a2⟩ := cells3 p9
  obtain ⟨a3, a4, a5⟩ := cells3 q9
  obtain ⟨a6, a7, a8⟩ := cells3 r9
  clear k9 m8 k8 HC3 M7 R7 Q7 K7 p9 q9 r9
  go_wp2_with fail
  go_ret
  refine ⟨rfl, ?_⟩
  have hb : Below w.heap.size w w3 := KW.out.none.trans (KB.out.mono (by have := KW.out.more; omega))
  refine K9.out.below hb (by have := KW.out.more; omega) fun j _ hj => ?_
  have h1 := KW.out.more
  have h2 := HLow.out.2.1
  omega
end Go.Proofs.Ytlnjcaicagcinaa
