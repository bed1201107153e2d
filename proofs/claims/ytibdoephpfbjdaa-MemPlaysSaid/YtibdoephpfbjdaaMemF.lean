/-
  The walk of MemPlays (layer 4), small scripts: it returns true and changes nothing that was there. No conditions.
-/
import Derived.Test.YtibdoephpfbjdaaMemE
import Derived.Deep.DeepCutAuto
import Derived.Deep.RegionHeld3
namespace Go.Proofs.Ytibdoephpfbjdaa
open Go.ChangeShapes Go.WideShapes Go.ChangeAt Go.RowKit

def PlayRel (w wr : World) (p g o n s : Nat) (i : Value) : Prop := ∃ (k : Nat) (l : List Nat), k ≤ n ∧ i = .int .i64 k ∧ MemAt wr p g l ∧ ByteRow wr o l ∧ l.length = s ∧ Below w.heap.size w wr

set_option maxRecDepth 100000 in
set_option maxHeartbeats 40000000 in
theorem memPlays_small (s : Nat) (a : Option Addr) (n cap : Nat) (X Y : Nat → Int) (Z : Nat → Nat) (f t : Int) (w : World) (hd : Deeds w a n X Y Z) (h1 : 1024 ≤ s) (h2 : s ≤ 4096) (h4 : s % 4 = 0) (h : n ≤ 150) :
    Calls Try.prog 3 #[.int .i64 s, .slice a n cap, .int .i64 f, .int .i64 t] w fun e w' => e = .returned (.bool true) ∧ Below w.heap.size w w' := by
  have hq : (((s : Int) % 4) != 0) = false := by simp; omega
  have hn1 : decide (150 < (n : Int)) = false := by simp; omega
  have HN := Lib.hid (fun w => memNew_raw s w h1 (by omega) h4)
  have mk := make_zeros (s : Int) s rfl (by omega)
  have HD := Lib.hid hd
  have H4 := Lib.hid h4
  clear hd h4
  go_enter Try.func3, Try.ntmps3
  go_wp2_with fail
  refine (up04 _).mono ?_
  rintro e w0 ⟨rfl, b0⟩
  go_wp2_with fail
  refine (HN.out _).mono ?_
  rintro e w1 ⟨rfl, hw1⟩
  have b1 : Below w.heap.size w w1 := below_on b0 (hw1 ▸ (newMem_kept w0 s (fun _ => False)).none) b0.size
  have m1 : MemAt w1 (w0.heap.size + 1) w0.heap.size (List.replicate s 0) := hw1 ▸ newMem_at w0 s (by omega)
  have g0 : w.heap.size ≤ w0.heap.size := b0.size
  have g1 : w1.heap.size = w0.heap.size + 2 := hw1 ▸ newMem_size w0 s
  have b2 : Below w.heap.size w (w1.alloc (zeros s)) := b1.alloc b1.size _
  have m2 : MemAt (w1.alloc (zeros s)) (w0.heap.size + 1) w0.heap.size (List.replicate s 0) := m1.keep (S := fun _ => False) ((Kept.refl _ _).alloc _) (by simp) (by simp)
  have r2 : ByteRow (w1.alloc (zeros s)) w1.heap.size (List.replicate s 0) := ByteRow.new w1 (List.replicate s 0) (by simp)
  obtain ⟨p, hp⟩ : ∃ p, p = w0.heap.size + 1 := ⟨_, rfl⟩
  obtain ⟨o, ho⟩ : ∃ o, o = w1.heap.size := ⟨_, rfl⟩
  rw [← hp] at m2 ⊢
  have HO := Lib.hid ho
  have hpo : p < o := by omega
  have hgo : w0.heap.size < p := by omega
  generalize w0.heap.size = g at *
  clear hw1 b0 m1 b1 hp ho g1
  have HB2 := Lib.hid b2
  have HM2 := Lib.hid m2
  have HR2 := Lib.hid r2
  clear b2 m2 r2
  go_wp2_with fail
  rw [← HO.out] at *
  go_loopw [13] (fun i wr => PlayRel w wr p g o n s i) (fun i _ => n - (intOf i).toNat)
  case atStart => exact ⟨0, _, Nat.zero_le _, rfl, HM2.out, HR2.out, List.length_replicate, HB2.out⟩
  case round =>
    clear HM2 HR2 HB2 mk HN
    obtain ⟨k, l, hk, rfl, hm, hr, hl, hb⟩ := hrel
    have HM := Lib.hid hm
    have HR := Lib.hid hr
    have HL := Lib.hid hl
    have HB := Lib.hid hb
    clear hm hl hb hr
    by_cases hlt : k < n
    · rcases HD.out.cells with h0 | ⟨b, off, rfl, hbs, hcs⟩
      · omega
      · have c0 : wr.cell? ⟨b, off + k * 3, none⟩ = some (.int .i64 (X k)) := (HB.out.cell (p := ⟨b, off + k * 3, none⟩) hbs).trans (hcs k hlt).1
        have c1 : wr.cell? ⟨b, off + k * 3 + 1, none⟩ = some (.int .i64 (Y k)) := (HB.out.cell (p := ⟨b, off + k * 3 + 1, none⟩) hbs).trans (hcs k hlt).2.1
        have c2 : wr.cell? ⟨b, off + k * 3 + 2, none⟩ = some (.int .u32 (Z k : Nat)) := (HB.out.cell (p := ⟨b, off + k * 3 + 2, none⟩) hbs).trans (hcs k hlt).2.2
        have hx := HD.out.xs k hlt
        have hy := HD.out.ys k hlt
        have hz := HD.out.zs k hlt
        generalize X k = xk at *
        generalize Y k = yk at *
        generalize Z k = zk at *
        obtain ⟨q, hq4, HP⟩ := pick_nat xk 4 hx.1 hx.2 (by omega) (by omega)
        clear hcs
        have k1 : Kept (fun _ => False) wr (wr.alloc (.cells #[.int .i64 xk, .int .i64 yk, .int .u32 (zk : Nat)] 33)) := (Kept.refl _ _).alloc _
        have HM1 := Lib.hid (HM.out.keep k1 (by simp) (by simp))
        have HR1 := Lib.hid (HR.out.keep k1 (by simp))
        have HB1 := Lib.hid (below_on HB.out k1.none HB.out.size)
        have xo : o < wr.heap.size := HR.out.lt
        clear k1 HM HR HB
        have q4 : q = 0 ∨ q = 1 ∨ q = 2 ∨ q = 3 := by omega
        have pos : yk < 0 ∨ (0 ≤ yk ∧ (s : Int) ≤ yk) ∨ (0 ≤ yk ∧ yk < s) := by omega
        clear hq4
        rcases q4 with rfl | rfl | rfl | rfl
        · by_cases hodd : yk.tmod 4 = 0
          · have o1 : (yk.tmod 4 != 0) = false := by simpa using hodd
            rcases pos with p1 | ⟨p0, p1⟩ | ⟨p0, p1⟩
            · as_aux_lemma =>
                have HW := Lib.hid (memWord_far p g l yk _ HM1.out hodd (.inl p1))
                clear hodd
                go_wp2_with fail
                refine (HP.out _).mono ?_
                rintro e w' ⟨rfl, rfl⟩
                go_wp2_with fail
                refine HW.out.mono ?_
                rintro e w' ⟨rfl, rfl⟩
                go_wp2_with fail
                go_roundw
                case rel => exact ⟨k + 1, l, by omega, by go_num, HM1.out, HR1.out, HL.out, HB1.out⟩
                case measure => simp [intOf]; omega
            · as_aux_lemma =>
                have HW := Lib.hid (memWord_far p g l yk _ HM1.out hodd (.inr (by rw [HL.out]; omega)))
                have o2 : (yk % 4 != 0) = false := by rwa [Int.tmod_eq_emod_of_nonneg p0] at o1
                clear hodd
                go_wp2_with fail
                refine (HP.out _).mono ?_
                rintro e w' ⟨rfl, rfl⟩
                go_wp2_with fail
                refine HW.out.mono ?_
                rintro e w' ⟨rfl, rfl⟩
                go_wp2_with fail
                go_roundw
                case rel => exact ⟨k + 1, l, by omega, by go_num, HM1.out, HR1.out, HL.out, HB1.out⟩
                case measure => simp [intOf]; omega
            · as_aux_lemma =>
                obtain ⟨i, rfl⟩ := Int.eq_ofNat_of_zero_le p0
                have i4 : i % 4 = 0 := by rw [Int.tmod_eq_emod_of_nonneg p0] at hodd; omega
                have o2 : (((i : Int) % 4) != 0) = false := by rwa [Int.tmod_eq_emod_of_nonneg p0] at o1
                have ile : i + 4 ≤ s := by have := H4.out; omega
                have HW := Lib.hid (memWord_yes p g l i _ HM1.out i4 (by rw [HL.out]; exact ile))
                have HV := Lib.hid (refWord_at o i (s - i) l _ HR1.out (by rw [HL.out]; exact ile) (by omega) (by omega))
                have vv : (((wordAt l i : Nat) : Int) != (wordAt l i : Nat)) = false := by simp
                generalize wordAt l i = v at *
                clear hodd o1 i4
                go_wp2_with fail
                refine (HP.out _).mono ?_
                rintro e w' ⟨rfl, rfl⟩
                go_wp2_with fail
                refine HW.out.mono ?_
                rintro e w' ⟨rfl, rfl⟩
                go_wp2_with fail
                refine HV.out.mono ?_
                rintro e w' ⟨rfl, rfl⟩
                go_wp2_with fail
                go_roundw
                case rel => exact ⟨k + 1, l, by omega, by go_num, HM1.out, HR1.out, HL.out, HB1.out⟩
                case measure => simp [intOf]; omega
          · have o1 : (yk.tmod 4 != 0) = true := by simpa using hodd
            have HW := Lib.hid (fun w => memWord_odd p yk w hodd)
            rcases pos with p1 | ⟨p0, p1⟩ | ⟨p0, p1⟩
            · as_aux_lemma =>
                clear hodd
                go_wp2_with fail
                refine (HP.out _).mono ?_
                rintro e w' ⟨rfl, rfl⟩
                go_wp2_with fail
                refine (HW.out _).mono ?_
                rintro e w' ⟨rfl, rfl⟩
                go_wp2_with fail
                go_roundw
                case rel => exact ⟨k + 1, l, by omega, by go_num, HM1.out, HR1.out, HL.out, HB1.out⟩
                case measure => simp [intOf]; omega
            · as_aux_lemma =>
                have o2 : (yk % 4 != 0) = true := by rwa [Int.tmod_eq_emod_of_nonneg p0] at o1
                clear hodd
                go_wp2_with fail
                refine (HP.out _).mono ?_
                rintro e w' ⟨rfl, rfl⟩
                go_wp2_with fail
                refine (HW.out _).mono ?_
                rintro e w' ⟨rfl, rfl⟩
                go_wp2_with fail
                go_roundw
                case rel => exact ⟨k + 1, l, by omega, by go_num, HM1.out, HR1.out, HL.out, HB1.out⟩
                case measure => simp [intOf]; omega
            · as_aux_lemma =>
                have o2 : (yk % 4 != 0) = true := by rwa [Int.tmod_eq_emod_of_nonneg p0] at o1
                clear hodd
                go_wp2_with fail
                refine (HP.out _).mono ?_
                rintro e w' ⟨rfl, rfl⟩
                go_wp2_with fail
                refine (HW.out _).mono ?_
                rintro e w' ⟨rfl, rfl⟩
                go_wp2_with fail
                go_roundw
                case rel => exact ⟨k + 1, l, by omega, by go_num, HM1.out, HR1.out, HL.out, HB1.out⟩
                case measure => simp [intOf]; omega
        · by_cases hodd : yk.tmod 4 = 0
          · have o1 : (yk.tmod 4 != 0) = false := by simpa using hodd
            rcases pos with p1 | ⟨p0, p1⟩ | ⟨p0, p1⟩
            · as_aux_lemma =>
                have HW := Lib.hid (memSetWord_far p g l yk zk _ HM1.out hodd (.inl p1))
                clear hodd
                go_wp2_with fail
                refine (HP.out _).mono ?_
                rintro e w' ⟨rfl, rfl⟩
                go_wp2_with fail
                refine HW.out.mono ?_
                rintro e w' ⟨rfl, rfl⟩
                go_wp2_with fail
                go_roundw
                case rel => exact ⟨k + 1, l, by omega, by go_num, HM1.out, HR1.out, HL.out, HB1.out⟩
                case measure => simp [intOf]; omega
            · as_aux_lemma =>
                have HW := Lib.hid (memSetWord_far p g l yk zk _ HM1.out hodd (.inr (by rw [HL.out]; omega)))
                have o2 : (yk % 4 != 0) = false := by rwa [Int.tmod_eq_emod_of_nonneg p0] at o1
                clear hodd
                go_wp2_with fail
                refine (HP.out _).mono ?_
                rintro e w' ⟨rfl, rfl⟩
                go_wp2_with fail
                refine HW.out.mono ?_
                rintro e w' ⟨rfl, rfl⟩
                go_wp2_with fail
                go_roundw
                case rel => exact ⟨k + 1, l, by omega, by go_num, HM1.out, HR1.out, HL.out, HB1.out⟩
                case measure => simp [intOf]; omega
            · as_aux_lemma =>
                obtain ⟨i, rfl⟩ := Int.eq_ofNat_of_zero_le p0
                have i4 : i % 4 = 0 := by rw [Int.tmod_eq_emod_of_nonneg p0] at hodd; omega
                have o2 : (((i : Int) % 4) != 0) = false := by rwa [Int.tmod_eq_emod_of_nonneg p0] at o1
                have ile : i + 4 ≤ s := by have := H4.out; omega
                have HW := Lib.hid (memSetWord_yes p g l i zk _ HM1.out hz i4 (by rw [HL.out]; exact ile))
                clear hodd o1 i4
                go_wp2_with fail
                refine (HP.out _).mono ?_
                rintro e w' ⟨rfl, rfl⟩
                go_wp2_with fail
                refine HW.out.mono ?_
                rintro e w3 ⟨rfl, m3, k3⟩
                have x1 : w3.cell? ⟨wr.heap.size, 1, none⟩ = some (.int .i64 (i : Int)) := (k3.cell (p := ⟨wr.heap.size, 1, none⟩) (by simp) (by have := HM1.out.row.lt; simp at *; omega)).trans (by simp)
                have x2 : w3.cell? ⟨wr.heap.size, 2, none⟩ = some (.int .u32 (zk : Nat)) := (k3.cell (p := ⟨wr.heap.size, 2, none⟩) (by simp) (by have := HM1.out.row.lt; simp at *; omega)).trans (by simp)
                have HM3 := Lib.hid m3
                have HR3 := Lib.hid (HR1.out.keep k3 (by omega))
                have HB3 := Lib.hid (k3.below HB1.out HB1.out.size (fun j _ e => by omega))
                have z3 : wr.heap.size < w3.heap.size := by have := k3.more; simp at this; omega
                clear m3 k3 HM1 HR1 HB1 HW
                have HV := Lib.hid (refBytes_new zk w3 hz)
                go_wp2_with fail
                refine HV.out.mono ?_
                rintro e w4 ⟨rfl, hw4⟩
                have k4 : Kept (fun _ => False) w3 w4 := hw4 ▸ (Kept.refl _ _).alloc _
                have HS4 : Hid (ByteRow w4 w3.heap.size (bytes4 zk)) := hw4 ▸ ByteRow.new w3 _ (bytes4_lt zk)
                have HM4 := Lib.hid (HM3.out.keep k4 (by simp) (by simp))
                have HR4 := Lib.hid (HR3.out.keep k4 (by simp))
                have HB4 := Lib.hid (below_on HB3.out k4.none HB3.out.size)
                have HX4 := Lib.hid ((k4.cell (p := ⟨wr.heap.size, 1, none⟩) z3 (by simp)).trans x1)
                have z4 : w3.heap.size < w4.heap.size := HS4.out.lt
                clear k4 x1 x2 HM3 HR3 HB3 HV hw4
                generalize w3.heap.size = u at *
                generalize wr.heap.size = xb at *
                go_wp2_with fail
                go_loopw [20] (fun v wi => LaidRel w4 wi o i l (bytes4 zk) v) (fun v _ => 4 - (intOf v).toNat)
                case atStart => exact ⟨0, by omega, rfl, laid_start HR4.out i, Kept.refl _ _⟩
                case round =>
                  obtain ⟨j, hj, rfl, hr, hk4⟩ := hrel
                  have HI := Lib.hid hr
                  have HK := Lib.hid hk4
                  clear hr hk4
                  by_cases j4 : j < 4
                  · have y1 := (HK.out.cell (p := ⟨xb, 1, none⟩) (by show xb < _; omega) (by show ¬ xb = o; omega)).trans HX4.out
                    have y2 := (HS4.out.keep HK.out (by omega)).at_ j (by simp [bytes4]; omega)
                    have il : i + j < (splice l i ((bytes4 zk).take j)).length := by rw [length_splice _ _ _ (by rw [HL.out, List.length_take]; omega), HL.out]; omega
                    have y3 := HI.out.at_ (i + j) il
                    have y4 := HI.out.free (i + j)
                    clear il
                    generalize (splice l i ((bytes4 zk).take j)).getD (i + j) 0 = old at y3
                    have HG : Hid ((bytes4 zk).getD j 0 < 256) := getD_lt _ _ (bytes4_lt zk)
                    have HE := Lib.hid (laid_step l i (bytes4 zk) j (by rw [HL.out]; simp [bytes4]; omega) (by simp [bytes4]; omega))
                    generalize (bytes4 zk).getD j 0 = c at *
                    have e1 : IntKind.i64.wrap ((i : Int) + (j : Int)) = (i : Int) + (j : Int) := IntWalk.i64_in _ (by omega)
                    have e2 : ((i : Int) + (j : Int)).toNat = i + j := by omega
                    have e3 : (0 : Int) ≤ (i : Int) + (j : Int) := by omega
                    have e4 : (i : Int) + (j : Int) < (s : Int) := by omega
                    have e5 : (j : Int) < 4 := by omega
                    go_wp2_with fail
                    go_region
                    all_goals
                      go_wp2
                      go_roundw
                      case rel => exact ⟨j + 1, by omega, by go_num, HE.out ▸ HI.out.setCell (i + j) c HG.out, (HK.out.trans (kept_set _ _ _ _)).drew⟩
                      case measure => simp [intOf]; omega
                  · obtain rfl : j = 4 := by omega
                    go_wp2_with fail
                    go_roundw
                    case rel => exact ⟨k + 1, splice l i (bytes4 zk), by omega, by go_num, HM4.out.keep HK.out (by omega) (by omega), HI.out, by rw [length_splice _ _ _ (by rw [HL.out]; exact ile)]; exact HL.out, HK.out.below HB4.out HB4.out.size (fun j _ e => by have := HB4.out.size; omega)⟩
                    case measure => simp [intOf]; omega
          · have o1 : (yk.tmod 4 != 0) = true := by simpa using hodd
            have HW := Lib.hid (fun w => memSetWord_odd p yk zk w hodd)
            rcases pos with p1 | ⟨p0, p1⟩ | ⟨p0, p1⟩
            · as_aux_lemma =>
                clear hodd
                go_wp2_with fail
                refine (HP.out _).mono ?_
                rintro e w' ⟨rfl, rfl⟩
                go_wp2_with fail
                refine (HW.out _).mono ?_
                rintro e w' ⟨rfl, rfl⟩
                go_wp2_with fail
                go_roundw
                case rel => exact ⟨k + 1, l, by omega, by go_num, HM1.out, HR1.out, HL.out, HB1.out⟩
                case measure => simp [intOf]; omega
            · as_aux_lemma =>
                have o2 : (yk % 4 != 0) = true := by rwa [Int.tmod_eq_emod_of_nonneg p0] at o1
                clear hodd
                go_wp2_with fail
                refine (HP.out _).mono ?_
                rintro e w' ⟨rfl, rfl⟩
                go_wp2_with fail
                refine (HW.out _).mono ?_
                rintro e w' ⟨rfl, rfl⟩
                go_wp2_with fail
                go_roundw
                case rel => exact ⟨k + 1, l, by omega, by go_num, HM1.out, HR1.out, HL.out, HB1.out⟩
                case measure => simp [intOf]; omega
            · as_aux_lemma =>
                have o2 : (yk % 4 != 0) = true := by rwa [Int.tmod_eq_emod_of_nonneg p0] at o1
                clear hodd
                go_wp2_with fail
                refine (HP.out _).mono ?_
                rintro e w' ⟨rfl, rfl⟩
                go_wp2_with fail
                refine (HW.out _).mono ?_
                rintro e w' ⟨rfl, rfl⟩
                go_wp2_with fail
                go_roundw
                case rel => exact ⟨k + 1, l, by omega, by go_num, HM1.out, HR1.out, HL.out, HB1.out⟩
                case measure => simp [intOf]; omega
        · rcases pos with p1 | ⟨p0, p1⟩ | ⟨p0, p1⟩
          · as_aux_lemma =>
              have HW := Lib.hid (memByte_no p g l yk _ HM1.out (.inl p1))
              go_wp2_with fail
              refine (HP.out _).mono ?_
              rintro e w' ⟨rfl, rfl⟩
              go_wp2_with fail
              refine HW.out.mono ?_
              rintro e w' ⟨rfl, rfl⟩
              go_wp2_with fail
              go_roundw
              case rel => exact ⟨k + 1, l, by omega, by go_num, HM1.out, HR1.out, HL.out, HB1.out⟩
              case measure => simp [intOf]; omega
          · as_aux_lemma =>
              have HW := Lib.hid (memByte_no p g l yk _ HM1.out (.inr (by rw [HL.out]; omega)))
              go_wp2_with fail
              refine (HP.out _).mono ?_
              rintro e w' ⟨rfl, rfl⟩
              go_wp2_with fail
              refine HW.out.mono ?_
              rintro e w' ⟨rfl, rfl⟩
              go_wp2_with fail
              go_roundw
              case rel => exact ⟨k + 1, l, by omega, by go_num, HM1.out, HR1.out, HL.out, HB1.out⟩
              case measure => simp [intOf]; omega
          · as_aux_lemma =>
              obtain ⟨i, rfl⟩ := Int.eq_ofNat_of_zero_le p0
              have ile : i < s := by omega
              have HW := Lib.hid (memByte_yes p g l i _ HM1.out (by rw [HL.out]; exact ile))
              have oc := HR1.out.at_ i (by rw [HL.out]; exact ile)
              have vv : (((l.getD i 0 : Nat) : Int) != (l.getD i 0 : Nat)) = false := by simp
              generalize l.getD i 0 = v at *
              go_wp2_with fail
              refine (HP.out _).mono ?_
              rintro e w' ⟨rfl, rfl⟩
              go_wp2_with fail
              refine HW.out.mono ?_
              rintro e w' ⟨rfl, rfl⟩
              go_wp2_with fail
              go_roundw
              case rel => exact ⟨k + 1, l, by omega, by go_num, HM1.out, HR1.out, HL.out, HB1.out⟩
              case measure => simp [intOf]; omega
        · rcases pos with p1 | ⟨p0, p1⟩ | ⟨p0, p1⟩
          · as_aux_lemma =>
              have HW := Lib.hid (memSetByte_no p g l yk ((zk : Int) % 256) _ HM1.out (.inl p1))
              go_wp2_with fail
              refine (HP.out _).mono ?_
              rintro e w' ⟨rfl, rfl⟩
              go_wp2_with fail
              refine HW.out.mono ?_
              rintro e w' ⟨rfl, rfl⟩
              go_wp2_with fail
              go_roundw
              case rel => exact ⟨k + 1, l, by omega, by go_num, HM1.out, HR1.out, HL.out, HB1.out⟩
              case measure => simp [intOf]; omega
          · as_aux_lemma =>
              have HW := Lib.hid (memSetByte_no p g l yk ((zk : Int) % 256) _ HM1.out (.inr (by rw [HL.out]; omega)))
              go_wp2_with fail
              refine (HP.out _).mono ?_
              rintro e w' ⟨rfl, rfl⟩
              go_wp2_with fail
              refine HW.out.mono ?_
              rintro e w' ⟨rfl, rfl⟩
              go_wp2_with fail
              go_roundw
              case rel => exact ⟨k + 1, l, by omega, by go_num, HM1.out, HR1.out, HL.out, HB1.out⟩
              case measure => simp [intOf]; omega
          · as_aux_lemma =>
              obtain ⟨i, rfl⟩ := Int.eq_ofNat_of_zero_le p0
              have ile : i < s := by omega
              have HW := Lib.hid (memSetByte_yes p g l i (zk % 256) _ HM1.out (by rw [HL.out]; exact ile))
              rw [show ((zk % 256 : Nat) : Int) = (zk : Int) % 256 by omega] at HW
              go_wp2_with fail
              refine (HP.out _).mono ?_
              rintro e w' ⟨rfl, rfl⟩
              go_wp2_with fail
              refine HW.out.mono ?_
              rintro e w3 ⟨rfl, hw3⟩
              have hzb : zk % 256 < 256 := Nat.mod_lt _ (by omega)
              have k3 : Kept (· = g) (wr.alloc (.cells #[.int .i64 xk, .int .i64 (i : Int), .int .u32 (zk : Nat)] 33)) w3 := hw3 ▸ kept_set _ _ _ _
              have m3 : MemAt w3 p g (l.set i (zk % 256)) := by
                have := HM1.out.setCell i (zk % 256) hzb
                rw [show ((zk % 256 : Nat) : Int) = (zk : Int) % 256 by omega] at this
                exact hw3 ▸ this
              have hg1 := HM1.out.row.lt
              have x1 : w3.cell? ⟨wr.heap.size, 1, none⟩ = some (.int .i64 (i : Int)) := (k3.cell (p := ⟨wr.heap.size, 1, none⟩) (by simp) (by show ¬ wr.heap.size = g; omega)).trans (by simp)
              have x2 : w3.cell? ⟨wr.heap.size, 2, none⟩ = some (.int .u32 (zk : Nat)) := (k3.cell (p := ⟨wr.heap.size, 2, none⟩) (by simp) (by show ¬ wr.heap.size = g; omega)).trans (by simp)
              have HM3 := Lib.hid m3
              have HR3 := Lib.hid (HR1.out.keep k3 (by omega))
              have HB3 := Lib.hid (k3.below HB1.out HB1.out.size (fun j _ e => by omega))
              have oc := HR3.out.at_ i (by rw [HL.out]; exact ile)
              have of := HR3.out.free i
              clear m3 k3 HM1 HR1 HB1 HW hw3
              generalize l.getD i 0 = v at oc
              go_wp2_with fail
              go_roundw
              case rel =>
                have k4 : Kept (· = o) w3 (w3.setCell ⟨o, i, none⟩ (.int .u8 ((zk : Int) % 256))) := kept_set _ _ _ _
                have r4 := HR3.out.setCell i (zk % 256) hzb
                rw [show ((zk % 256 : Nat) : Int) = (zk : Int) % 256 by omega] at r4
                exact ⟨k + 1, _, by omega, by go_num, HM3.out.keep k4 (by omega) (by omega), r4, by rw [List.length_set]; exact HL.out, k4.below HB3.out HB3.out.size (fun j _ e => by have := HB3.out.size; omega)⟩
              case measure => simp [intOf]; omega
    · obtain rfl : k = n := by omega
      obtain ⟨F1, hF⟩ : ∃ F1 : Int, 0 ≤ F1 ∧ (f < 0 ∧ F1 = 0 ∨ 0 ≤ f ∧ F1 = f) := by
        by_cases hf : f < 0
        · exact ⟨0, by omega, .inl ⟨hf, rfl⟩⟩
        · exact ⟨f, by omega, .inr ⟨by omega, rfl⟩⟩
      have HF := Lib.hid hF
      clear hF
      go_upto_if 223 with fail
      go_cut [2] (fun s2 wx => s2 = .int .i64 F1 ∧ wr = wx)
      case first =>
        as_aux_lemma =>
          rcases HF.out with ⟨_, ⟨hf, rfl⟩ | ⟨hf, rfl⟩⟩
          all_goals
            go_wp2_with fail
            go_meet
            exact ⟨rfl, rfl⟩
      case rest =>
        obtain ⟨rfl, rfl⟩ := hcut
        obtain ⟨T1, hT⟩ : ∃ T1 : Int, T1 ≤ s ∧ ((s : Int) < t ∧ T1 = s ∨ t ≤ s ∧ T1 = t) := by
          by_cases ht : (s : Int) < t
          · exact ⟨s, by omega, .inl ⟨ht, rfl⟩⟩
          · exact ⟨t, by omega, .inr ⟨by omega, rfl⟩⟩
        have HT := Lib.hid hT
        have T0 := hT.1
        have F0 := HF.out.1
        clear hT
        go_upto_if 226 with fail
        go_cut [3] (fun s3 wx => s3 = .int .i64 T1 ∧ wr = wx)
        case first =>
          as_aux_lemma =>
            rcases HT.out with ⟨_, ⟨ht, rfl⟩ | ⟨ht, rfl⟩⟩
            all_goals
              go_wp2_with fail
              go_meet
              exact ⟨rfl, rfl⟩
        case rest =>
          obtain ⟨rfl, rfl⟩ := hcut
          clear HF HT
          obtain ⟨F2, hG⟩ : ∃ F2 : Int, (T1 < F1 ∧ F2 = T1 ∨ F1 ≤ T1 ∧ F2 = F1) := by
            by_cases ht : T1 < F1
            · exact ⟨T1, .inl ⟨ht, rfl⟩⟩
            · exact ⟨F1, .inr ⟨by omega, rfl⟩⟩
          have HG := Lib.hid hG
          have G1 : F2 = T1 ∨ (0 ≤ F2 ∧ F2 < T1) := by omega
          clear hG
          go_upto_if 230 with fail
          go_cut [2] (fun s2 wx => s2 = .int .i64 F2 ∧ wr = wx)
          case first =>
            as_aux_lemma =>
              clear G1
              rcases HG.out with ⟨ht, rfl⟩ | ⟨ht, rfl⟩
              all_goals
                go_wp2_with fail
                go_meet
                exact ⟨rfl, rfl⟩
          case rest =>
            obtain ⟨rfl, rfl⟩ := hcut
            clear HG F0
            have u0 : wr.heap.size < (wr.alloc (.cells (byteVals (piece l 0 s)).toArray 5)).heap.size := by simp
            have k1 : Kept (fun _ => False) wr (wr.alloc (.cells (byteVals (piece l 0 s)).toArray 5)).drew := ((Kept.refl _ _).alloc _).drew
            have HN1 : Hid (∀ W : World, MemAt W p g l → Calls Try.prog 14 #[.pointer (some ⟨p, 0, none⟩), .int .i64 0, .int .i64 s] W fun e w' => e = .returned (.slice (some ⟨W.heap.size, 0, none⟩) s s) ∧ W.alloc (.cells (byteVals (piece l 0 s)).toArray 5) = w') :=
              fun W hW => memBytes_yes p g l 0 s 0 s W hW (.inl rfl) (.inl ⟨rfl, by rw [HL.out]; omega⟩) (by omega)
            have pa : piece l 0 s = l := by rw [← HL.out]; exact piece_all l
            have r1 : ByteRow (wr.alloc (.cells (byteVals (piece l 0 s)).toArray 5)).drew wr.heap.size l := by
              rw [pa]
              exact ByteRow.new wr l HM.out.row.2
            have v1 := row_string r1 0 s s (by rw [HL.out]; omega) s rfl
            have v2 := row_string (HR.out.keep k1 (by simp)) 0 s s (by rw [HL.out]; omega) s rfl
            have v3 := row_string HR.out.drew 0 s s (by rw [HL.out]; omega) s rfl
            have HM1 := Lib.hid (HM.out.keep k1 (by simp) (by simp))
            rcases G1 with rfl | ⟨g1, g2⟩
            · have HN2 := Lib.hid (fun (W : World) (hW : MemAt W p g l) => memBytes_no p g l F2 F2 W hW (.inl (by omega)))
              have v4 := no_string (wr.alloc (.cells (byteVals (piece l 0 s)).toArray 5)).drew 0 0
              rw [show strOf [] = ⟨#[]⟩ from rfl] at v4
              have HK := Lib.hid k1
              clear k1 pa r1 HR u0
              generalize strOf (piece l 0 s) = S at *
              generalize Obj.cells (byteVals (piece l 0 s)).toArray 5 = C at *
              by_cases hs : 0 ≤ F2
              all_goals as_aux_lemma =>
                go_wp2_with fail
                refine wp_region_held_drew (S := fun w' => (convert 30 9 (.slice (some ⟨o, 0, none⟩) s s)).run Try.prog w' = .ok (.string S) w') (by kernel_rfl) ?_ (fun hHeld => ?_)
                · exact v3
                refine wpAnyH_take (i := 0) (v := ?_) rfl (by kernel_rfl) (by kernel_rfl) (by kernel_rfl) (fun _ _ _ h => h) (Or.inl ⟨by rfl, ?_⟩) (by assumption) ?_
                rotate_left
                · intro w hSw
                  (try dsimp only at hSw)
                  go_simp
                  (try with_reducible rfl)
                try simp only [Act.put, List.getElem_toArray, List.getElem_cons_zero, List.setIfInBounds_toArray, List.set_cons_zero, List.set_cons_succ]
                refine wpAnyH_take (i := 1) (v := ?_) rfl (by kernel_rfl) (by kernel_rfl) (by kernel_rfl) (fun _ _ _ h => h) (Or.inl ⟨by rfl, ?_⟩) (by assumption) ?_
                rotate_left
                · intro w hSw
                  (try dsimp only at hSw)
                  go_simp
                  (try with_reducible rfl)
                try simp only [Act.put, List.getElem_toArray, List.getElem_cons_succ, List.getElem_cons_zero, List.setIfInBounds_toArray, List.set_cons_zero, List.set_cons_succ]
                refine wpAnyH_take (i := 2) (v := ?_) rfl (by kernel_rfl) (by kernel_rfl) (by kernel_rfl) (fun _ _ _ h => h) (Or.inl ⟨by rfl, ?_⟩) (by assumption) ?_
                rotate_left
                · intro w hSw
                  (try dsimp only at hSw)
                  go_simp
                  (try with_reducible rfl)
                try simp only [Act.put, List.getElem_toArray, List.getElem_cons_succ, List.getElem_cons_zero, List.setIfInBounds_toArray, List.set_cons_zero, List.set_cons_succ]
                refine wpAnyH_take (i := 3) (v := ?_) rfl (by kernel_rfl) (by kernel_rfl) (by kernel_rfl) (fun _ _ _ h => h) (Or.inl ⟨by rfl, ?_⟩) (by assumption) ?_
                rotate_left
                · intro w hSw
                  (try dsimp only at hSw)
                  go_simp
                  (try with_reducible rfl)
                try simp only [Act.put, List.getElem_toArray, List.getElem_cons_succ, List.getElem_cons_zero, List.setIfInBounds_toArray, List.set_cons_zero, List.set_cons_succ]
                refine wpAnyH_take (i := 6) (v := ?_) rfl (by kernel_rfl) (by kernel_rfl) (by kernel_rfl) (fun _ _ _ h => h) (Or.inl ⟨by rfl, ?_⟩) (by assumption) ?_
                rotate_left
                · intro w hSw
                  (try dsimp only at hSw)
                  go_simp
                  (try with_reducible rfl)
                try simp only [Act.put, List.getElem_toArray, List.getElem_cons_succ, List.getElem_cons_zero, List.setIfInBounds_toArray, List.set_cons_zero, List.set_cons_succ]
                refine wpAnyH_take (i := 7) (v := ?_) rfl (by kernel_rfl) (by kernel_rfl) (by kernel_rfl) (fun _ _ _ h => h) (Or.inl ⟨by rfl, ?_⟩) (by assumption) ?_
                rotate_left
                · intro w hSw
                  (try dsimp only at hSw)
                  go_simp
                  (try with_reducible rfl)
                try simp only [Act.put, List.getElem_toArray, List.getElem_cons_succ, List.getElem_cons_zero, List.setIfInBounds_toArray, List.set_cons_zero, List.set_cons_succ]
                refine wpAnyH_ready (rs := [4]) (by kernel_rfl) (by simp) ?_
                refine AllReadyH.cons rfl (fun K hK => ?_) AllReadyH.nil
                go_simp
                refine (HN1.out _ ?_).mono ?_
                · exact HM.out.drew
                rintro e w' ⟨rfl, rfl⟩
                go_wp2_with fail
                refine hK.out _ _ ?_ (fun hHeld1 => ?_)
                · exact v2
                clear hK K
                try simp only [Act.put, List.getElem_toArray, List.getElem_cons_succ, List.getElem_cons_zero, List.setIfInBounds_toArray, List.set_cons_zero, List.set_cons_succ]
                refine wpAnyH_ready (rs := [5]) (by kernel_rfl) (by simp) ?_
                refine AllReadyH.cons rfl (fun K hK => ?_) AllReadyH.nil
                go_simp
                refine hK.out _ _ ?_ (fun hHeld2 => ?_)
                · exact v2
                clear hK K
                try simp only [Act.put, List.getElem_toArray, List.getElem_cons_succ, List.getElem_cons_zero, List.setIfInBounds_toArray, List.set_cons_zero, List.set_cons_succ]
                refine wpAnyH_take (i := 8) (v := ?_) rfl (by kernel_rfl) (by kernel_rfl) (by kernel_rfl) (fun _ _ _ h => h) (Or.inl ⟨by rfl, ?_⟩) (by assumption) ?_
                rotate_left
                · intro w hSw
                  (try dsimp only at hSw)
                  go_simp
                  (try with_reducible rfl)
                try simp only [Act.put, List.getElem_toArray, List.getElem_cons_succ, List.getElem_cons_zero, List.setIfInBounds_toArray, List.set_cons_zero, List.set_cons_succ]
                refine wpAnyH_take (i := 9) (v := ?_) rfl (by kernel_rfl) (by kernel_rfl) (by kernel_rfl) (fun _ _ _ h => h) (Or.inl ⟨by rfl, ?_⟩) (by assumption) ?_
                rotate_left
                · intro w hSw
                  (try dsimp only at hSw)
                  go_simp
                  (try with_reducible rfl)
                try simp only [Act.put, List.getElem_toArray, List.getElem_cons_succ, List.getElem_cons_zero, List.setIfInBounds_toArray, List.set_cons_zero, List.set_cons_succ]
                refine wpAnyH_take (i := 10) (v := ?_) rfl (by kernel_rfl) (by kernel_rfl) (by kernel_rfl) (fun _ _ _ h => h) (Or.inl ⟨by rfl, ?_⟩) (by assumption) ?_
                rotate_left
                · intro w hSw
                  (try dsimp only at hSw)
                  go_simp
                  (try with_reducible rfl)
                try simp only [Act.put, List.getElem_toArray, List.getElem_cons_succ, List.getElem_cons_zero, List.setIfInBounds_toArray, List.set_cons_zero, List.set_cons_succ]
                refine wpAnyH_take (i := 11) (v := ?_) rfl (by kernel_rfl) (by kernel_rfl) (by kernel_rfl) (fun _ _ _ h => h) (Or.inl ⟨by rfl, ?_⟩) (by assumption) ?_
                rotate_left
                · intro w hSw
                  (try dsimp only at hSw)
                  go_simp
                  (try with_reducible rfl)
                try simp only [Act.put, List.getElem_toArray, List.getElem_cons_succ, List.getElem_cons_zero, List.setIfInBounds_toArray, List.set_cons_zero, List.set_cons_succ]
                refine wpAnyH_take (i := 12) (v := ?_) rfl (by kernel_rfl) (by kernel_rfl) (by kernel_rfl) (fun _ _ _ h => h) (Or.inl ⟨by rfl, ?_⟩) (by assumption) ?_
                rotate_left
                · intro w hSw
                  (try dsimp only at hSw)
                  go_simp
                  (try with_reducible rfl)
                try simp only [Act.put, List.getElem_toArray, List.getElem_cons_succ, List.getElem_cons_zero, List.setIfInBounds_toArray, List.set_cons_zero, List.set_cons_succ]
                refine wpAnyH_take (i := 13) (v := ?_) rfl (by kernel_rfl) (by kernel_rfl) (by kernel_rfl) (fun _ _ _ h => h) (Or.inl ⟨by rfl, ?_⟩) (by assumption) ?_
                rotate_left
                · intro w hSw
                  (try dsimp only at hSw)
                  go_simp
                  (try with_reducible rfl)
                try simp only [Act.put, List.getElem_toArray, List.getElem_cons_succ, List.getElem_cons_zero, List.setIfInBounds_toArray, List.set_cons_zero, List.set_cons_succ]
                refine wpAnyH_take (i := 16) (v := ?_) rfl (by kernel_rfl) (by kernel_rfl) (by kernel_rfl) (fun _ _ _ h => h) (Or.inl ⟨by rfl, ?_⟩) (by assumption) ?_
                rotate_left
                · intro w hSw
                  (try dsimp only at hSw)
                  go_simp
                  (try with_reducible rfl)
                try simp only [Act.put, List.getElem_toArray, List.getElem_cons_succ, List.getElem_cons_zero, List.setIfInBounds_toArray, List.set_cons_zero, List.set_cons_succ]
                refine wpAnyH_ready (rs := [14]) (by kernel_rfl) (by simp) ?_
                refine AllReadyH.cons rfl (fun K hK => ?_) AllReadyH.nil
                go_simp
                refine (HN2.out _ ?_).mono ?_
                · exact HM1.out
                rintro e w' ⟨rfl, rfl⟩
                go_wp2_with fail
                refine hK.out _ _ ?_ (fun hHeld3 => ?_)
                · exact v2
                clear hK K
                try simp only [Act.put, List.getElem_toArray, List.getElem_cons_succ, List.getElem_cons_zero, List.setIfInBounds_toArray, List.set_cons_zero, List.set_cons_succ]
                refine wpAnyH_ready (rs := [15]) (by kernel_rfl) (by simp) ?_
                refine AllReadyH.cons rfl (fun K hK => ?_) AllReadyH.nil
                go_simp
                refine hK.out _ _ ?_ (fun hHeld4 => ?_)
                · exact v2
                clear hK K
                try simp only [Act.put, List.getElem_toArray, List.getElem_cons_succ, List.getElem_cons_zero, List.setIfInBounds_toArray, List.set_cons_zero, List.set_cons_succ]
                refine wpAnyH_take (i := 17) (v := ?_) rfl (by kernel_rfl) (by kernel_rfl) (by kernel_rfl) (fun _ _ _ h => h) (Or.inl ⟨by rfl, ?_⟩) (by assumption) ?_
                rotate_left
                · intro w hSw
                  (try dsimp only at hSw)
                  go_simp
                  (try with_reducible rfl)
                try simp only [Act.put, List.getElem_toArray, List.getElem_cons_succ, List.getElem_cons_zero, List.setIfInBounds_toArray, List.set_cons_zero, List.set_cons_succ]
                refine wpAnyH_take (i := 18) (v := ?_) rfl (by kernel_rfl) (by kernel_rfl) (by kernel_rfl) (fun _ _ _ h => h) (Or.inl ⟨by rfl, ?_⟩) (by assumption) ?_
                rotate_left
                · intro w hSw
                  (try dsimp only at hSw)
                  go_simp
                  (try with_reducible rfl)
                try simp only [Act.put, List.getElem_toArray, List.getElem_cons_succ, List.getElem_cons_zero, List.setIfInBounds_toArray, List.set_cons_zero, List.set_cons_succ]
                refine wpAnyH_take (i := 19) (v := ?_) rfl (by kernel_rfl) (by kernel_rfl) (by kernel_rfl) (fun _ _ _ h => h) (Or.inl ⟨by rfl, ?_⟩) (by assumption) ?_
                rotate_left
                · intro w hSw
                  (try dsimp only at hSw)
                  go_simp
                  (try with_reducible rfl)
                try simp only [Act.put, List.getElem_toArray, List.getElem_cons_succ, List.getElem_cons_zero, List.setIfInBounds_toArray, List.set_cons_zero, List.set_cons_succ]
                refine wpAnyH_done (by kernel_rfl) ?_ _
                all_goals
                  go_wp2
                  go_ret
                  exact ⟨rfl, below_on HB.out HK.out.none HB.out.size⟩
            · obtain ⟨i, rfl⟩ := Int.eq_ofNat_of_zero_le g1
              obtain ⟨j, rfl⟩ := Int.eq_ofNat_of_zero_le (show 0 ≤ T1 by omega)
              have ij : i < j := by omega
              have js : j ≤ s := by omega
              have HN2 : Hid (∀ W : World, MemAt W p g l → Calls Try.prog 14 #[.pointer (some ⟨p, 0, none⟩), .int .i64 i, .int .i64 j] W fun e w' => e = .returned (.slice (some ⟨W.heap.size, 0, none⟩) (j - i : Nat) (j - i : Nat)) ∧ W.alloc (.cells (byteVals (piece l i j)).toArray 5) = w') :=
                fun W hW => memBytes_yes p g l i j i j W hW (.inl rfl) (.inl ⟨rfl, by rw [HL.out]; exact js⟩) ij
              have v0 := fun c => row_string HR.out i j c (by rw [HL.out]; exact js) (j - i) rfl
              have k2 : Kept (fun _ => False) wr ((wr.alloc (.cells (byteVals (piece l 0 s)).toArray 5)).alloc (.cells (byteVals (piece l i j)).toArray 5)).drew := (((Kept.refl _ _).alloc _).alloc _).drew
              have v5 := row_string (HR.out.keep k2 (by simp)) 0 s s (by rw [HL.out]; omega) s rfl
              have r2 : ByteRow ((wr.alloc (.cells (byteVals (piece l 0 s)).toArray 5)).alloc (.cells (byteVals (piece l i j)).toArray 5)).drew (wr.heap.size + 1) (piece l i j) := by
                have := ByteRow.new (wr.alloc (.cells (byteVals (piece l 0 s)).toArray 5)) (piece l i j) (piece_lt HM.out.row.2 i j)
                simp at this
                exact this
              have pl : (piece l i j).length = j - i := piece_length l i j (by rw [HL.out]; exact js)
              have v4 := row_string r2 0 (j - i) (j - i) (by rw [pl]; exact Nat.le_refl _) (j - i) rfl
              have pe : piece (piece l i j) 0 (j - i) = piece l i j := by rw [← pl]; exact piece_all _
              rw [pe] at v4
              have HK := Lib.hid k2
              clear k1 k2 pa r1 r2 pl pe HR u0 g1 g2
              generalize strOf (piece l 0 s) = S at *
              generalize strOf (piece l i j) = S2 at *
              generalize Obj.cells (byteVals (piece l 0 s)).toArray 5 = C at *
              generalize Obj.cells (byteVals (piece l i j)).toArray 5 = C2 at *
              as_aux_lemma =>
                go_wp2_with fail
                refine wp_region_held_drew (S := fun w' => (convert 30 9 (.slice (some ⟨o, 0, none⟩) s s)).run Try.prog w' = .ok (.string S) w') (by kernel_rfl) ?_ (fun hHeld => ?_)
                · exact v3
                refine wpAnyH_take (i := 0) (v := ?_) rfl (by kernel_rfl) (by kernel_rfl) (by kernel_rfl) (fun _ _ _ h => h) (Or.inl ⟨by rfl, ?_⟩) (by assumption) ?_
                rotate_left
                · intro w hSw
                  (try dsimp only at hSw)
                  go_simp
                  (try with_reducible rfl)
                try simp only [Act.put, List.getElem_toArray, List.getElem_cons_zero, List.setIfInBounds_toArray, List.set_cons_zero, List.set_cons_succ]
                refine wpAnyH_take (i := 1) (v := ?_) rfl (by kernel_rfl) (by kernel_rfl) (by kernel_rfl) (fun _ _ _ h => h) (Or.inl ⟨by rfl, ?_⟩) (by assumption) ?_
                rotate_left
                · intro w hSw
                  (try dsimp only at hSw)
                  go_simp
                  (try with_reducible rfl)
                try simp only [Act.put, List.getElem_toArray, List.getElem_cons_succ, List.getElem_cons_zero, List.setIfInBounds_toArray, List.set_cons_zero, List.set_cons_succ]
                refine wpAnyH_take (i := 2) (v := ?_) rfl (by kernel_rfl) (by kernel_rfl) (by kernel_rfl) (fun _ _ _ h => h) (Or.inl ⟨by rfl, ?_⟩) (by assumption) ?_
                rotate_left
                · intro w hSw
                  (try dsimp only at hSw)
                  go_simp
                  (try with_reducible rfl)
                try simp only [Act.put, List.getElem_toArray, List.getElem_cons_succ, List.getElem_cons_zero, List.setIfInBounds_toArray, List.set_cons_zero, List.set_cons_succ]
                refine wpAnyH_take (i := 3) (v := ?_) rfl (by kernel_rfl) (by kernel_rfl) (by kernel_rfl) (fun _ _ _ h => h) (Or.inl ⟨by rfl, ?_⟩) (by assumption) ?_
                rotate_left
                · intro w hSw
                  (try dsimp only at hSw)
                  go_simp
                  (try with_reducible rfl)
                try simp only [Act.put, List.getElem_toArray, List.getElem_cons_succ, List.getElem_cons_zero, List.setIfInBounds_toArray, List.set_cons_zero, List.set_cons_succ]
                refine wpAnyH_take (i := 6) (v := ?_) rfl (by kernel_rfl) (by kernel_rfl) (by kernel_rfl) (fun _ _ _ h => h) (Or.inl ⟨by rfl, ?_⟩) (by assumption) ?_
                rotate_left
                · intro w hSw
                  (try dsimp only at hSw)
                  go_simp
                  (try with_reducible rfl)
                try simp only [Act.put, List.getElem_toArray, List.getElem_cons_succ, List.getElem_cons_zero, List.setIfInBounds_toArray, List.set_cons_zero, List.set_cons_succ]
                refine wpAnyH_take (i := 7) (v := ?_) rfl (by kernel_rfl) (by kernel_rfl) (by kernel_rfl) (fun _ _ _ h => h) (Or.inl ⟨by rfl, ?_⟩) (by assumption) ?_
                rotate_left
                · intro w hSw
                  (try dsimp only at hSw)
                  go_simp
                  (try with_reducible rfl)
                try simp only [Act.put, List.getElem_toArray, List.getElem_cons_succ, List.getElem_cons_zero, List.setIfInBounds_toArray, List.set_cons_zero, List.set_cons_succ]
                refine wpAnyH_ready (rs := [4]) (by kernel_rfl) (by simp) ?_
                refine AllReadyH.cons rfl (fun K hK => ?_) AllReadyH.nil
                go_simp
                refine (HN1.out _ ?_).mono ?_
                · exact HM.out.drew
                rintro e w' ⟨rfl, rfl⟩
                go_wp2_with fail
                refine hK.out _ _ ?_ (fun hHeld1 => ?_)
                · exact v2
                clear hK K
                try simp only [Act.put, List.getElem_toArray, List.getElem_cons_succ, List.getElem_cons_zero, List.setIfInBounds_toArray, List.set_cons_zero, List.set_cons_succ]
                refine wpAnyH_ready (rs := [5]) (by kernel_rfl) (by simp) ?_
                refine AllReadyH.cons rfl (fun K hK => ?_) AllReadyH.nil
                go_simp
                refine hK.out _ _ ?_ (fun hHeld2 => ?_)
                · exact v2
                clear hK K
                try simp only [Act.put, List.getElem_toArray, List.getElem_cons_succ, List.getElem_cons_zero, List.setIfInBounds_toArray, List.set_cons_zero, List.set_cons_succ]
                refine wpAnyH_take (i := 8) (v := ?_) rfl (by kernel_rfl) (by kernel_rfl) (by kernel_rfl) (fun _ _ _ h => h) (Or.inl ⟨by rfl, ?_⟩) (by assumption) ?_
                rotate_left
                · intro w hSw
                  (try dsimp only at hSw)
                  go_simp
                  (try with_reducible rfl)
                try simp only [Act.put, List.getElem_toArray, List.getElem_cons_succ, List.getElem_cons_zero, List.setIfInBounds_toArray, List.set_cons_zero, List.set_cons_succ]
                refine wpAnyH_take (i := 9) (v := ?_) rfl (by kernel_rfl) (by kernel_rfl) (by kernel_rfl) (fun _ _ _ h => h) (Or.inl ⟨by rfl, ?_⟩) (by assumption) ?_
                rotate_left
                · intro w hSw
                  (try dsimp only at hSw)
                  go_simp
                  (try with_reducible rfl)
                try simp only [Act.put, List.getElem_toArray, List.getElem_cons_succ, List.getElem_cons_zero, List.setIfInBounds_toArray, List.set_cons_zero, List.set_cons_succ]
                refine wpAnyH_take (i := 10) (v := ?_) rfl (by kernel_rfl) (by kernel_rfl) (by kernel_rfl) (fun _ _ _ h => h) (Or.inl ⟨by rfl, ?_⟩) (by assumption) ?_
                rotate_left
                · intro w hSw
                  (try dsimp only at hSw)
                  go_simp
                  (try with_reducible rfl)
                try simp only [Act.put, List.getElem_toArray, List.getElem_cons_succ, List.getElem_cons_zero, List.setIfInBounds_toArray, List.set_cons_zero, List.set_cons_succ]
                refine wpAnyH_take (i := 11) (v := ?_) rfl (by kernel_rfl) (by kernel_rfl) (by kernel_rfl) (fun _ _ _ h => h) (Or.inl ⟨by rfl, ?_⟩) (by assumption) ?_
                rotate_left
                · intro w hSw
                  (try dsimp only at hSw)
                  go_simp
                  (try with_reducible rfl)
                try simp only [Act.put, List.getElem_toArray, List.getElem_cons_succ, List.getElem_cons_zero, List.setIfInBounds_toArray, List.set_cons_zero, List.set_cons_succ]
                refine wpAnyH_take (i := 12) (v := ?_) rfl (by kernel_rfl) (by kernel_rfl) (by kernel_rfl) (fun _ _ _ h => h) (Or.inl ⟨by rfl, ?_⟩) (by assumption) ?_
                rotate_left
                · intro w hSw
                  (try dsimp only at hSw)
                  go_simp
                  (try with_reducible rfl)
                try simp only [Act.put, List.getElem_toArray, List.getElem_cons_succ, List.getElem_cons_zero, List.setIfInBounds_toArray, List.set_cons_zero, List.set_cons_succ]
                refine wpAnyH_take (i := 13) (v := ?_) rfl (by kernel_rfl) (by kernel_rfl) (by kernel_rfl) (fun _ _ _ h => h) (Or.inl ⟨by rfl, ?_⟩) (by assumption) ?_
                rotate_left
                · intro w hSw
                  (try dsimp only at hSw)
                  go_simp
                  (try with_reducible rfl)
                try simp only [Act.put, List.getElem_toArray, List.getElem_cons_succ, List.getElem_cons_zero, List.setIfInBounds_toArray, List.set_cons_zero, List.set_cons_succ]
                refine wpAnyH_take (i := 16) (v := ?_) rfl (by kernel_rfl) (by kernel_rfl) (by kernel_rfl) (fun _ _ _ h => h) (Or.inl ⟨by rfl, ?_⟩) (by assumption) ?_
                rotate_left
                · intro w hSw
                  (try dsimp only at hSw)
                  go_simp
                  (try with_reducible rfl)
                try simp only [Act.put, List.getElem_toArray, List.getElem_cons_succ, List.getElem_cons_zero, List.setIfInBounds_toArray, List.set_cons_zero, List.set_cons_succ]
                refine wpAnyH_ready (rs := [14]) (by kernel_rfl) (by simp) ?_
                refine AllReadyH.cons rfl (fun K hK => ?_) AllReadyH.nil
                go_simp
                refine (HN2.out _ ?_).mono ?_
                · exact HM1.out
                rintro e w' ⟨rfl, rfl⟩
                go_wp2_with fail
                refine hK.out _ _ ?_ (fun hHeld3 => ?_)
                · exact v5
                clear hK K
                try simp only [Act.put, List.getElem_toArray, List.getElem_cons_succ, List.getElem_cons_zero, List.setIfInBounds_toArray, List.set_cons_zero, List.set_cons_succ]
                refine wpAnyH_ready (rs := [15]) (by kernel_rfl) (by simp) ?_
                refine AllReadyH.cons rfl (fun K hK => ?_) AllReadyH.nil
                go_simp
                refine hK.out _ _ ?_ (fun hHeld4 => ?_)
                · exact v5
                clear hK K
                try simp only [Act.put, List.getElem_toArray, List.getElem_cons_succ, List.getElem_cons_zero, List.setIfInBounds_toArray, List.set_cons_zero, List.set_cons_succ]
                refine wpAnyH_take (i := 17) (v := ?_) rfl (by kernel_rfl) (by kernel_rfl) (by kernel_rfl) (fun _ _ _ h => h) (Or.inl ⟨by rfl, ?_⟩) (by assumption) ?_
                rotate_left
                · intro w hSw
                  (try dsimp only at hSw)
                  go_simp
                  (try with_reducible rfl)
                try simp only [Act.put, List.getElem_toArray, List.getElem_cons_succ, List.getElem_cons_zero, List.setIfInBounds_toArray, List.set_cons_zero, List.set_cons_succ]
                refine wpAnyH_take (i := 18) (v := ?_) rfl (by kernel_rfl) (by kernel_rfl) (by kernel_rfl) (fun _ _ _ h => h) (Or.inl ⟨by rfl, ?_⟩) (by assumption) ?_
                rotate_left
                · intro w hSw
                  (try dsimp only at hSw)
                  go_simp
                  (try with_reducible rfl)
                try simp only [Act.put, List.getElem_toArray, List.getElem_cons_succ, List.getElem_cons_zero, List.setIfInBounds_toArray, List.set_cons_zero, List.set_cons_succ]
                refine wpAnyH_take (i := 19) (v := ?_) rfl (by kernel_rfl) (by kernel_rfl) (by kernel_rfl) (fun _ _ _ h => h) (Or.inl ⟨by rfl, ?_⟩) (by assumption) ?_
                rotate_left
                · intro w hSw
                  (try dsimp only at hSw)
                  go_simp
                  (try with_reducible rfl)
                try simp only [Act.put, List.getElem_toArray, List.getElem_cons_succ, List.getElem_cons_zero, List.setIfInBounds_toArray, List.set_cons_zero, List.set_cons_succ]
                refine wpAnyH_done (by kernel_rfl) ?_ _
                all_goals
                  go_wp2
                  go_ret
                  exact ⟨rfl, below_on HB.out HK.out.none HB.out.size⟩
end Go.Proofs.Ytibdoephpfbjdaa
