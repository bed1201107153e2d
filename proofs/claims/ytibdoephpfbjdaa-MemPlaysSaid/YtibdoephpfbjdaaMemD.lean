/-
  The walk of MemKeeps (layer 4): it returns true and changes nothing that was there. No conditions.
-/
import Derived.Test.YtibdoephpfbjdaaMemC
namespace Go.Proofs.Ytibdoephpfbjdaa
open Go.ChangeShapes Go.WideShapes Go.ChangeAt Go.RowKit

set_option maxHeartbeats 1000000 in
theorem memKeeps_large (a : Option Addr) (n cap : Nat) (at_ : Int) (x : Int) (w : World) (h : 150 < n) :
    Calls Try.prog 4 #[.slice a n cap, .int .i64 at_, .int .u32 x] w fun e w' => e = .returned (.bool true) ∧ Below w.heap.size w w' := by
  go_enter Try.func4, Try.ntmps4
  go_wp2_with fail
  refine (up04 _).mono ?_
  rintro e w0 ⟨rfl, b0⟩
  go_wp2_with fail
  refine (memNew_raw 1024 _ (by omega) (by omega) (by omega)).mono ?_
  rintro e w1 ⟨rfl, hw1⟩
  have b1 : Below w.heap.size w w1 := below_on b0 (hw1 ▸ (newMem_kept w0 1024 (fun _ => False)).none) b0.size
  clear hw1
  go_wp2_with fail
  go_ret
  exact ⟨rfl, b1⟩

theorem pick_nat (c n : Int) (hlo : -9223372036854775808 ≤ c) (hhi : c ≤ 9223372036854775807) (hn : 1 ≤ n) (hm : n ≤ 65536) :
    ∃ q : Nat, (q : Int) < n ∧ Hid (∀ w : World, Calls Try.prog 7 #[.int .i64 c, .int .i64 n] w fun e w' => e = .returned (.int .i64 (q : Nat)) ∧ w = w') := by
  have hr := pickI_range c n (by omega)
  refine ⟨(pickI c n).toNat, by omega, fun w => ?_⟩
  rw [Int.toNat_of_nonneg hr.1]
  exact pick_any c n w hlo hhi hn hm

def KeepRel (w wr : World) (p g n : Nat) (i : Value) : Prop := ∃ (k : Nat) (l : List Nat), k ≤ n ∧ i = .int .i64 k ∧ MemAt wr p g l ∧ l.length = 1024 ∧ Below w.heap.size w wr

set_option maxHeartbeats 2000000 in
theorem memKeeps_small (a : Option Addr) (n cap : Nat) (X Y : Nat → Int) (Z : Nat → Nat) (at_ : Int) (x : Nat) (w : World) (hd : Deeds w a n X Y Z) (h : n ≤ 150) (hlo : -9223372036854775808 ≤ at_) (hhi : at_ ≤ 9223372036854775807) (hx : x < 4294967296) :
    Calls Try.prog 4 #[.slice a n cap, .int .i64 at_, .int .u32 x] w fun e w' => e = .returned (.bool true) ∧ Below w.heap.size w w' := by
  have HD := Lib.hid hd
  clear hd
  go_enter Try.func4, Try.ntmps4
  go_wp2_with fail
  refine (up04 _).mono ?_
  rintro e w0 ⟨rfl, b0⟩
  go_wp2_with fail
  refine (memNew_raw 1024 _ (by omega) (by omega) (by omega)).mono ?_
  rintro e w1 ⟨rfl, hw1⟩
  have b1 : Below w.heap.size w w1 := below_on b0 (hw1 ▸ (newMem_kept w0 1024 (fun _ => False)).none) b0.size
  have m1 : MemAt w1 (w0.heap.size + 1) w0.heap.size (List.replicate 1024 0) := hw1 ▸ newMem_at w0 1024 (by omega)
  have g0 : w.heap.size ≤ w0.heap.size := b0.size
  clear hw1 b0
  generalize w0.heap.size + 1 = p at *
  generalize w0.heap.size = g at *
  go_wp2_with fail
  go_loopw [10] (fun i wr => KeepRel w wr p g n i) (fun i _ => n - (intOf i).toNat)
  case atStart => exact ⟨0, _, Nat.zero_le _, rfl, m1, List.length_replicate, b1⟩
  case round =>
    clear m1 b1
    obtain ⟨k, l, hk, rfl, hm, hl, hb⟩ := hrel
    have HM := Lib.hid hm
    have HL := Lib.hid hl
    have HB := Lib.hid hb
    clear hm hl hb
    by_cases hlt : k < n
    · rcases HD.out.cells with h0 | ⟨b, off, rfl, hbs, hcs⟩
      · omega
      · have c1 : wr.cell? ⟨b, off + k * 3 + 1, none⟩ = some (.int .i64 (Y k)) := (HB.out.cell (p := ⟨b, off + k * 3 + 1, none⟩) hbs).trans (hcs k hlt).2.1
        have c2 : wr.cell? ⟨b, off + k * 3 + 2, none⟩ = some (.int .u32 (Z k : Nat)) := (HB.out.cell (p := ⟨b, off + k * 3 + 2, none⟩) hbs).trans (hcs k hlt).2.2
        clear hcs
        have y := HD.out.ys k hlt
        have z := HD.out.zs k hlt
        generalize Y k = yk at *
        generalize Z k = zk at *
        obtain ⟨q, hq, HP⟩ := pick_nat yk 256 y.1 y.2 (by omega) (by omega)
        have HS := Lib.hid (memSetWord_yes p g l (4 * q) zk wr.drew HM.out.drew z (by omega) (by rw [HL.out]; omega))
        rw [show ((4 * q : Nat) : Int) = 4 * (q : Int) by omega] at HS
        have e1 : IntKind.i64.wrap (4 * (q : Int)) = 4 * (q : Int) := IntWalk.i64_in _ (by omega)
        have e2 : (0 : Int) ≤ (k : Int) := by omega
        have e3 : (k : Int) < (n : Int) := by omega
        go_wp2_with fail
        go_region_with (first | (go_at_call 7; refine (HP.out _).mono ?_; rintro e w' ⟨rfl, rfl⟩) | (go_at_call 10; refine HS.out.mono ?_; rintro e w' ⟨rfl, hm', hk'⟩))
        all_goals
          go_wp2
          go_roundw
          case rel => exact ⟨k + 1, _, by omega, by go_num, hm', by rw [length_splice _ _ _ (by rw [HL.out]; simp [bytes4]; omega)]; exact HL.out, hk'.below HB.out.drew HB.out.size (fun j _ e => by omega)⟩
          case measure => simp [intOf]; omega
    · obtain rfl : k = n := by omega
      obtain ⟨q, hq, HP⟩ := pick_nat at_ 256 hlo hhi (by omega) (by omega)
      have HN := Lib.hid (memBytes_yes p g l 0 1024 0 1024 wr HM.out (.inl rfl) (.inl ⟨rfl, by rw [HL.out]; omega⟩) (by omega))
      go_wp2_with fail
      refine HN.out.mono ?_
      rintro e w2 ⟨rfl, hw2⟩
      have pa : piece l 0 1024 = l := by rw [← HL.out]; exact piece_all l
      rw [pa] at hw2
      have kk : Kept (fun _ => False) wr w2 := hw2 ▸ (Kept.refl _ _).alloc _
      have HM2 := Lib.hid (HM.out.keep kk (by simp) (by simp))
      have HR2 : Hid (ByteRow w2 wr.heap.size l) := hw2 ▸ ByteRow.new wr l HM.out.row.2
      have HB2 := Lib.hid (below_on HB.out kk.none HB.out.size)
      have hg : g < wr.heap.size := HM.out.row.lt
      have hz : wr.heap.size < w2.heap.size := HR2.out.lt
      clear hw2 pa kk HM HB HN
      generalize wr.heap.size = u at *
      go_wp2_with fail
      refine (HP.out _).mono ?_
      rintro e w' ⟨rfl, rfl⟩
      have HS := Lib.hid (memSetWord_yes p g l (4 * q) x w2 HM2.out hx (by omega) (by rw [HL.out]; omega))
      rw [show ((4 * q : Nat) : Int) = 4 * (q : Int) by omega] at HS
      go_wp2_with fail
      refine HS.out.mono ?_
      rintro e w3 ⟨rfl, m3, k3⟩
      have HL3 : Hid ((splice l (4 * q) (bytes4 x)).length = 1024) := by show _ = _; rw [length_splice _ _ _ (by rw [HL.out]; simp [bytes4]; omega)]; exact HL.out
      have HV := Lib.hid (wordAt_set l (4 * q) x (by rw [HL.out]; omega) hx)
      have P1 := Lib.hid (splice_low l (bytes4 x) (4 * q) (4 * q) (Nat.le_refl _) (by rw [HL.out]; omega))
      have P2 := Lib.hid (splice_high l (bytes4 x) (4 * q) (4 * q + 4) 1024 (Nat.le_refl _) (by rw [HL.out]; omega))
      have HR3 := Lib.hid (HR2.out.keep k3 (by omega))
      have HB3 := Lib.hid (k3.below HB2.out HB2.out.size (fun j _ e => by omega))
      have HM3 := Lib.hid m3
      clear m3 k3 HR2 HB2 HM2 HS HP
      generalize splice l (4 * q) (bytes4 x) = l3 at *
      have HW3 := Lib.hid (memWord_yes p g l3 (4 * q) w3 HM3.out (by omega) (by rw [HL3.out]; omega))
      rw [show ((4 * q : Nat) : Int) = 4 * (q : Int) by omega, HV.out] at HW3
      go_wp2_with fail
      refine HW3.out.mono ?_
      rintro e w' ⟨rfl, rfl⟩
      have HN := Lib.hid (memBytes_yes p g l3 0 1024 0 1024 w3 HM3.out (.inl rfl) (.inl ⟨rfl, by rw [HL3.out]; omega⟩) (by omega))
      go_wp2_with fail
      refine HN.out.mono ?_
      rintro e w4 ⟨rfl, hw4⟩
      have pa : piece l3 0 1024 = l3 := by rw [← HL3.out]; exact piece_all l3
      rw [pa] at hw4
      have kk : Kept (fun _ => False) w3 w4 := hw4 ▸ (Kept.refl _ _).alloc _
      have HR4 : Hid (ByteRow w4 w3.heap.size l3) := hw4 ▸ ByteRow.new w3 l3 HM3.out.row.2
      have HR5 := Lib.hid (HR3.out.keep kk (by simp))
      have HB4 := Lib.hid (below_on HB3.out kk.none HB3.out.size)
      clear hw4 pa kk HM3 HB3 HN HR3 HW3
      generalize w3.heap.size = v at *
      have s1 : ∀ (c m : Nat), (convert 30 9 (.slice (some ⟨v, 0, none⟩) (4 * q) c)).run Try.prog (w4.drewN m) = .ok (.string (strOf (piece l 0 (4 * q)))) (w4.drewN m) := fun c m => by
        have h := row_string (w := w4.drewN m) (g := v) (l := l3) HR4.out 0 (4 * q) c (by rw [HL3.out]; omega) (4 * q) rfl
        rw [P1.out] at h
        exact h
      have s2 : ∀ (c m : Nat), (convert 30 9 (.slice (some ⟨u, 0, none⟩) (4 * q) c)).run Try.prog (w4.drewN m) = .ok (.string (strOf (piece l 0 (4 * q)))) (w4.drewN m) := fun c m =>
        row_string (w := w4.drewN m) (g := u) (l := l) HR5.out 0 (4 * q) c (by rw [HL.out]; omega) (4 * q) rfl
      by_cases h255 : q = 255
      · subst h255
        have s3 : ∀ (c m : Nat), (convert 30 9 (.slice (some ⟨v, 0, none⟩) 0 c)).run Try.prog (w4.drewN m) = .ok (.string (strOf [])) (w4.drewN m) := fun c m =>
          row_string (w := w4.drewN m) (g := v) (l := l3) HR4.out 0 0 c (by omega) 0 rfl
        have s4 : ∀ (c m : Nat), (convert 30 9 (.slice (some ⟨u, 0, none⟩) 0 c)).run Try.prog (w4.drewN m) = .ok (.string (strOf [])) (w4.drewN m) := fun c m =>
          row_string (w := w4.drewN m) (g := u) (l := l) HR5.out 0 0 c (by omega) 0 rfl
        generalize strOf (piece l 0 (4 * 255)) = t1 at *
        generalize strOf [] = t2 at *
        rw [show 4 * 255 = 1020 from rfl] at s1 s2
        rw [show 4 * ((255 : Nat) : Int) = 1020 from rfl]
        go_wp2_with fail
        go_quiet (fail)
        go_wp2
        go_ret
        exact ⟨rfl, below_on HB4.out ((Drawn.of_n _ _).below _) HB4.out.size⟩
      · have s3 : ∀ (c m : Nat), (convert 30 9 (.slice (some ⟨v, 4 * q + 4, none⟩) (1020 - 4 * q) c)).run Try.prog (w4.drewN m) = .ok (.string (strOf (piece l (4 * q + 4) 1024))) (w4.drewN m) := fun c m => by
          have h := row_string (w := w4.drewN m) (g := v) (l := l3) HR4.out (4 * q + 4) 1024 c (by rw [HL3.out]; omega) (1020 - 4 * q) (by omega)
          rw [P2.out] at h
          exact h
        have s4 : ∀ (c m : Nat), (convert 30 9 (.slice (some ⟨u, 4 * q + 4, none⟩) (1020 - 4 * q) c)).run Try.prog (w4.drewN m) = .ok (.string (strOf (piece l (4 * q + 4) 1024))) (w4.drewN m) := fun c m =>
          row_string (w := w4.drewN m) (g := u) (l := l) HR5.out (4 * q + 4) 1024 c (by rw [HL.out]; omega) (1020 - 4 * q) (by omega)
        generalize strOf (piece l 0 (4 * q)) = t1 at *
        generalize strOf (piece l (4 * q + 4) 1024) = t2 at *
        go_wp2_with fail
        have a1 : IntKind.i64.wrap (4 * (q : Int) + 4) = 4 * (q : Int) + 4 := IntWalk.i64_in _ (by omega)
        have a2 : (4 * (q : Int)).toNat = 4 * q := by omega
        have a3 : (4 * (q : Int) + 4).toNat = 4 * q + 4 := by omega
        have a4 : (0 : Int) ≤ 4 * (q : Int) := by omega
        have a5 : 4 * (q : Int) ≤ 1024 := by omega
        have a6 : (0 : Int) ≤ 4 * (q : Int) + 4 := by omega
        have a7 : 4 * (q : Int) + 4 ≤ 1024 := by omega
        have a8 : ¬ 1024 = 4 * q + 4 := by omega
        go_quiet (fail)
        go_wp2
        go_ret
        exact ⟨rfl, below_on HB4.out ((Drawn.of_n _ _).below _) HB4.out.size⟩

theorem memKeeps_walk (a : Option Addr) (n cap : Nat) (at_ x : Int) (w : World) (hd : ∃ X Y Z, Deeds w a n X Y Z) (w1 : (Lit.int .i64 at_).wf = true) (w2 : (Lit.int .u32 x).wf = true) :
    Calls Try.prog 4 #[.slice a n cap, .int .i64 at_, .int .u32 x] w fun e w' => e = .returned (.bool true) ∧ Below w.heap.size w w' := by
  obtain ⟨X, Y, Z, hd⟩ := hd
  obtain ⟨m, rfl, hm⟩ := u32_nat w2
  have b := bounds_i64 w1
  by_cases h : n ≤ 150
  · exact memKeeps_small a n cap X Y Z at_ m w hd h b.1 b.2 hm
  · exact memKeeps_large a n cap at_ m w (by omega)
end Go.Proofs.Ytibdoephpfbjdaa
