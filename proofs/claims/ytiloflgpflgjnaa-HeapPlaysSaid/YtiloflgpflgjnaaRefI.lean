/-
  Contracts of the document's heap (dowelref05): Take, Give. No conditions beyond those that each theorem names.
-/
import Derived.Test.YtiloflgpflgjnaaRefH
namespace Go.Proofs.Ytiloflgpflgjnaa
open Go.ChangeShapes Go.WideShapes Go.ChangeAt Go.RowKit

def rfoot (m : Nat) (v : Value) : Nat → Prop := fun j => j = m ∨ own v j
/- words that are set, one behind the other -/
def SetRel (w wr : World) (m : Nat) (f t : Int) (v : Value) (F : List Bool) (s n : Nat) (c : Bool) (k : Value) : Prop := ∃ d : Nat, d ≤ n ∧ k = .int .i64 ((s + d : Nat) : Int) ∧ RefAt wr m f t v (setW F s d c) ∧ Kept (own v) w wr
def RefSet (w w' : World) (m : Nat) (f t : Int) (v : Value) (F' : List Bool) : Prop := RefAt w' m f t v F' ∧ Kept (own v) w w'

theorem set_step {w wr : World} {m b cap n N s d : Nat} {f t : Int} {F : List Bool} {c : Bool} (h : RefAt wr m f t (.slice (some ⟨b, 0, none⟩) N cap) (setW F s d c)) (hk : Kept (own (.slice (some ⟨b, 0, none⟩) N cap)) w wr) (hd : d < n) (hl : s + n ≤ F.length) (z : Int) (hz : z = ((s + d : Nat) : Int) + 1) :
    SetRel w (wr.setCell ⟨b, s + d, none⟩ (.bool c)) m f t (.slice (some ⟨b, 0, none⟩) N cap) F s n c (.int .i64 z) := by
  refine ⟨d + 1, by omega, by rw [hz]; congr 1, ?_, hk.setCell (p := ⟨b, s + d, none⟩) (fun _ => rfl) _⟩
  rw [← setW_step F s d c (by omega)]
  exact h.set (s + d) c (by rw [setW_length F s d c (by omega)]; omega)

theorem refTake_bad (m : Nat) (size : Int) (w : World) (h : ¬ (1 ≤ size ∧ size ≤ 65536)) :
    Calls Try.prog 13 #[.pointer (some ⟨m, 0, none⟩), .int .i64 size] w fun e w' => e = .returned (.tuple #[.int .i64 0, .int .i64 1]) ∧ w = w' := by
  by_cases h1 : size < 1
  · clear h
    go_enter Try.func13, Try.ntmps13
    go_wp2_with fail
    go_ret2
    exact ⟨rfl, rfl⟩
  · have h2 : 65536 < size := by omega
    clear h
    go_enter Try.func13, Try.ntmps13
    go_wp2_with fail
    go_ret2
    exact ⟨rfl, rfl⟩

def TakeRel (F : List Bool) (n : Nat) (row i : Value) : Prop := ∃ r k : Nat, row = .int .i64 r ∧ i = .int .i64 k ∧ k ≤ F.length ∧ Sought F n k r
def RefTook (w w' : World) (e : Ending) (m : Nat) (f t : Int) (v : Value) (F : List Bool) (n : Nat) : Prop :=
  (e = .returned (.tuple #[.int .i64 0, .int .i64 9]) ∧ w = w' ∧ ∀ s, ¬ Window F s n) ∨ ∃ s : Nat, e = .returned (.tuple #[.int .i64 (f + 4 * (s : Int)), .int .i64 0]) ∧ FirstWindow F s n ∧ RefSet w w' m f t v (setW F s n false)

set_option maxRecDepth 100000 in
set_option maxHeartbeats 2000000 in
theorem refTake (m : Nat) (f t size : Int) (v : Value) (F : List Bool) (n : Nat) (w : World) (h : RefAt w m f t v F) (hs : 1 ≤ size ∧ size ≤ 65536) (hn : (n : Int) = (size + 3) / 4) :
    Calls Try.prog 13 #[.pointer (some ⟨m, 0, none⟩), .int .i64 size] w fun e w' => RefTook w w' e m f t v F n := by
  have H := Lib.hid h
  have c0 := h.c0
  have c2 := h.c2
  have hr := h.range
  obtain ⟨av, cv, rfl, hcv1, hcv2⟩ := h.row.shape
  have hm' : cv ≤ 9223372036854775807 := hcv2
  have s1 : IntKind.i64.wrap (size + 3) = size + 3 := IntWalk.i64_in _ (by omega)
  have s2 : (size + 3).tdiv 4 = (n : Int) := by rw [Int.tdiv_eq_ediv_of_nonneg (by omega)]; exact hn.symm
  have hn0 : 0 < n := by omega
  have hn1 : n ≤ 16385 := by omega
  clear h hn hcv2
  have small : F.length ≤ 16384 := by omega
  generalize hN : F.length = N at *
  have HN := Lib.hid hN
  have hr2 := Lib.hid hr
  have hr3 : 0 ≤ f ∧ f ≤ 65536 := by omega
  clear hN hr
  go_enter Try.func13, Try.ntmps13
  go_wp2_with fail
  go_loop [7, 8] (fun row i => TakeRel F n row i) (fun _ i => N - (intOf i).toNat)
  case atStart => exact ⟨0, 0, rfl, rfl, Nat.zero_le _, Sought.start F n hn0⟩
  case round =>
    obtain ⟨r, k, rfl, rfl, hk, hS⟩ := hrel
    rw [HN.out] at hk
    have HS := Lib.hid hS
    have hrn := hS.lt
    clear hS
    by_cases hlt : k < N
    · have e1 : (k : Int) < (N : Int) := by omega
      have e0 : (0 : Int) ≤ (k : Int) := by omega
      obtain ⟨b, rfl, hb1, hb2, hbit⟩ := H.out.bit (by rw [HN.out]; omega)
      have hF : F[k]? = some (F.getD k false) := by rw [List.getD, List.getElem?_eq_getElem (by rw [HN.out]; exact hlt)]; rfl
      have cb := (hbit k _ hF).1
      have HF := Lib.hid hF
      clear hbit hF
      generalize F.getD k false = c at *
      cases c with
      | false =>
        have HNX := Lib.hid (HS.out.reset (by rw [HF.out]; simp))
        have e2 : ((0 : Int) == (n : Int)) = false := by simp; omega
        go_wp2_with fail
        go_round
        case rel => exact ⟨0, k + 1, rfl, by go_num, by rw [HN.out]; omega, HNX.out⟩
        case measure => simp [intOf]; omega
      | true =>
        by_cases hhit : r + 1 = n
        · obtain ⟨s, hsn, hfw⟩ := HS.out.hit HF.out hhit
          have HW := Lib.hid hfw
          have e2 : ((r : Int) + 1 == (n : Int)) = true := by simp; omega
          have g1 : IntKind.i64.wrap ((k : Int) - (n : Int)) = (k : Int) - (n : Int) := IntWalk.i64_in _ (by omega)
          have g2 : (k : Int) - (n : Int) + 1 = (s : Int) := by omega
          clear hfw HS
          have SZ : Hid (s + n = k + 1) := hsn
          have hs3 : s ≤ k := by omega
          have RES : Hid (∀ wr, RefAt wr m f t (.slice (some ⟨b, 0, none⟩) N cv) (setW F s n false) → Kept (own (.slice (some ⟨b, 0, none⟩) N cv)) w wr → ∀ (e : Ending) (z : Int), z = f + 4 * (s : Int) → e = .returned (.tuple #[.int .i64 z, .int .i64 0]) → RefTook w wr e m f t (.slice (some ⟨b, 0, none⟩) N cv) F n) := fun wr h1 h2 e z hz he => .inr ⟨s, by rw [he, hz], HW.out, h1, h2⟩
          have HST : Hid (SetRel w w m f t (.slice (some ⟨b, 0, none⟩) N cv) F s n false (.int .i64 (s : Int))) := ⟨0, Nat.zero_le _, rfl, by rw [setW_zero]; exact H.out, Kept.refl _ _⟩
          clear hsn
          go_wp2_with fail
          go_loopw [9] (fun j wr => SetRel w wr m f t (.slice (some ⟨b, 0, none⟩) N cv) F s n false j) (fun j _ => s + n - (intOf j).toNat)
          case atStart => exact HST.out
          case round =>
            obtain ⟨d, hd, rfl, hA, hK⟩ := hrel
            have HA := Lib.hid hA
            have HK := Lib.hid hK
            have c02 := hA.c0
            have c22 := hA.c2
            clear hA hK
            have hwl := setW_length F s d false (by rw [HN.out]; have := SZ.out; omega)
            by_cases hdn : d < n
            · obtain ⟨b', hv', -, -, hbit⟩ := HA.out.bit (by rw [hwl, HN.out]; omega)
              cases hv'
              have hsd : s + d < N := by have := SZ.out; omega
              obtain ⟨u, hu⟩ : ∃ u, (setW F s d false)[s + d]? = some u := ⟨_, List.getElem?_eq_getElem (by rw [hwl, HN.out]; exact hsd)⟩
              obtain ⟨cb, fb⟩ := hbit (s + d) _ hu
              have HNX := Lib.hid (set_step (n := n) (c := false) HA.out HK.out hdn (by rw [HN.out]; have := SZ.out; omega))
              have e5 : s + d ≤ k := by have := SZ.out; omega
              have HM := Lib.hid (show s + d < s + n by omega)
              clear hbit hu
              generalize hq : s + d = q at *
              have HQ := Lib.hid hq
              clear hq hwl
              have e6 : (q : Int) ≤ (k : Int) := by omega
              have e7 : (q : Int) < (N : Int) := by omega
              have e8 : (0 : Int) ≤ (q : Int) := by omega
              go_wp2_with fail
              go_roundw
              case rel => exact HNX.out _ (by omega)
              case measure => have := HM.out; simp [intOf]; omega
            · obtain rfl : d = n := by omega
              have e5 : ¬ s + d ≤ k := by have := SZ.out; omega
              have R2 := Lib.hid (RES.out wr HA.out HK.out)
              clear hwl
              generalize hq : s + d = q at *
              have HQ := Lib.hid hq
              clear hq
              have e6 : ¬ (q : Int) ≤ (k : Int) := by omega
              go_wp2_with fail
              go_ret2
              exact R2.out _ _ (by omega) rfl
        · have HNX := Lib.hid (HS.out.grow HF.out (by omega))
          have e2 : ((r : Int) + 1 == (n : Int)) = false := by simp; omega
          go_wp2_with fail
          go_round
          case rel => exact ⟨r + 1, k + 1, by go_num, by go_num, by rw [HN.out]; omega, HNX.out⟩
          case measure => simp [intOf]; omega
    · obtain rfl : k = N := by omega
      have HNO : Hid (∀ s, ¬ Window F s n) := fun s => by
        have := HS.out
        rw [← HN.out] at this
        exact this.over s
      go_wp2_with fail
      go_ret2
      exact .inl ⟨rfl, rfl, HNO.out⟩

theorem tmod4' (a : Int) : a.tmod 4 = 0 ↔ a % 4 = 0 := by rw [← Int.dvd_iff_tmod_eq_zero, ← Int.dvd_iff_emod_eq_zero]
def AllHeld (F : List Bool) (k n : Nat) : Prop := k + n ≤ F.length ∧ ∀ j, k ≤ j → j < k + n → F[j]? ≠ some true
def RefGave (w w' : World) (e : Ending) (m : Nat) (f t : Int) (v : Value) (F : List Bool) (k n : Nat) : Prop := e = .returned (.int .i64 0) ∧ RefSet w w' m f t v (setW F k n true)

set_option maxRecDepth 100000 in
set_option maxHeartbeats 2000000 in
theorem refGive_bad (m : Nat) (f t a s : Int) (v : Value) (F : List Bool) (w : World) (h : RefAt w m f t v F) (hm : ¬ (a % 4 = 0 ∧ (1 ≤ s ∧ s ≤ 65536) ∧ f ≤ a ∧ a < t)) :
    Calls Try.prog 11 #[.pointer (some ⟨m, 0, none⟩), .int .i64 a, .int .i64 s] w fun e w' => e = .returned (.int .i64 1) ∧ w = w' := by
  have c0 := h.c0
  have c1 := h.c1
  have HM := Lib.hid hm
  clear h hm
  by_cases h1 : a < f
  · go_enter Try.func11, Try.ntmps11
    go_wp2_with fail
    go_ret
    exact ⟨rfl, rfl⟩
  · by_cases h2 : t ≤ a
    · go_enter Try.func11, Try.ntmps11
      go_wp2_with fail
      go_ret
      exact ⟨rfl, rfl⟩
    · by_cases h3 : a.tmod 4 = 0
      · by_cases h4 : s < 1
        · go_enter Try.func11, Try.ntmps11
          go_wp2_with fail
          go_ret
          exact ⟨rfl, rfl⟩
        · have h5 : 65536 < s := by
            apply Classical.byContradiction
            intro hc
            exact HM.out ⟨by rw [← Int.dvd_iff_tmod_eq_zero, Int.dvd_iff_emod_eq_zero] at h3; exact h3, by omega, by omega, by omega⟩
          go_enter Try.func11, Try.ntmps11
          go_wp2_with fail
          go_ret
          exact ⟨rfl, rfl⟩
      · have h6 : (a.tmod 4 != 0) = true := by simpa using h3
        clear h3
        go_enter Try.func11, Try.ntmps11
        go_wp2_with fail
        go_ret
        exact ⟨rfl, rfl⟩

def HeldRel (F : List Bool) (k n : Nat) (i : Value) : Prop := ∃ d : Nat, d ≤ n ∧ i = .int .i64 ((k + d : Nat) : Int) ∧ ∀ j, k ≤ j → j < k + d → F[j]? ≠ some true
def RefGives (w w' : World) (e : Ending) (m : Nat) (f t : Int) (v : Value) (F : List Bool) (k n : Nat) : Prop := (¬ AllHeld F k n ∧ e = .returned (.int .i64 1) ∧ w = w') ∨ (AllHeld F k n ∧ RefGave w w' e m f t v F k n)

set_option maxRecDepth 100000 in
set_option maxHeartbeats 2000000 in
theorem refGive_in (m : Nat) (f t a s : Int) (v : Value) (F : List Bool) (k n : Nat) (w : World) (h : RefAt w m f t v F) (h1 : a % 4 = 0) (h2 : 1 ≤ s ∧ s ≤ 65536) (h3 : f ≤ a ∧ a < t) (hk : (k : Int) = (a - f) / 4) (hn : (n : Int) = (s + 3) / 4) :
    Calls Try.prog 11 #[.pointer (some ⟨m, 0, none⟩), .int .i64 a, .int .i64 s] w fun e w' => RefGives w w' e m f t v F k n := by
  have H := Lib.hid h
  have c0 := h.c0
  have c1 := h.c1
  have c2 := h.c2
  have hr := h.range
  obtain ⟨av, cv, rfl, hcv1, hcv2⟩ := h.row.shape
  have hm' : cv ≤ 9223372036854775807 := hcv2
  have s1 : IntKind.i64.wrap (s + 3) = s + 3 := IntWalk.i64_in _ (by omega)
  have s2 : (s + 3).tdiv 4 = (n : Int) := by rw [Int.tdiv_eq_ediv_of_nonneg (by omega)]; exact hn.symm
  have s3 : IntKind.i64.wrap (a - f) = a - f := IntWalk.i64_in _ (by omega)
  have s4 : (a - f).tdiv 4 = (k : Int) := by rw [Int.tdiv_eq_ediv_of_nonneg (by omega)]; exact hk.symm
  have t1 : ¬ a < f := by omega
  have t2 : ¬ t ≤ a := by omega
  have t3 : (a.tmod 4 != 0) = false := by have := tmod4' a; simp; omega
  have t4 : ¬ s < 1 := by omega
  have t5 : ¬ 65536 < s := by omega
  have hn1 : n ≤ 16385 := by omega
  have hk1 : k ≤ 16385 := by omega
  have small : F.length ≤ 16384 := by omega
  clear h hn hk hcv2 h1
  generalize hN : F.length = N at *
  have HN := Lib.hid hN
  clear hN hr
  by_cases hfar : N < k + n
  · have e1 : (N : Int) < (k : Int) + (n : Int) := by omega
    have HNO : Hid (¬ AllHeld F k n) := fun hh => by have := hh.1; rw [HN.out] at this; omega
    go_enter Try.func11, Try.ntmps11
    go_wp2_with fail
    go_ret
    exact .inl ⟨HNO.out, rfl, rfl⟩
  · have e1 : ¬ (N : Int) < (k : Int) + (n : Int) := by omega
    have e1' : k + n ≤ N := by omega
    clear hfar
    go_enter Try.func11, Try.ntmps11
    go_wp2_with fail
    go_loop [9] (fun i => HeldRel F k n i) (fun i => k + n - (intOf i).toNat)
    case atStart => exact ⟨0, Nat.zero_le _, rfl, fun j h1 h2 => by omega⟩
    case round =>
      obtain ⟨d, hd, rfl, hF⟩ := hrel
      have HF := Lib.hid hF
      clear hF
      by_cases hdn : d < n
      · obtain ⟨b, rfl, hb1, hb2, hbit⟩ := H.out.bit (by rw [HN.out]; omega)
        obtain ⟨u, hu⟩ : ∃ u, F[k + d]? = some u := ⟨_, List.getElem?_eq_getElem (by rw [HN.out]; omega)⟩
        have cb := (hbit (k + d) _ hu).1
        have HU := Lib.hid hu
        have HM := Lib.hid (show k + d < k + n by omega)
        have HD := Lib.hid hdn
        have e7 : k + d < N := by omega
        clear hbit hu
        generalize hq : k + d = q at *
        have HQ := Lib.hid hq
        clear hq
        have e2 : (q : Int) < (k : Int) + (n : Int) := by have := HM.out; omega
        have e3 : (q : Int) < (N : Int) := by omega
        have e4 : (0 : Int) ≤ (q : Int) := by omega
        cases u with
        | true =>
          have HNO : Hid (¬ AllHeld F k n) := fun hh => hh.2 q (by have := HQ.out; omega) HM.out HU.out
          go_wp2_with fail
          go_ret
          exact .inl ⟨HNO.out, rfl, rfl⟩
        | false =>
          have HNX : Hid (HeldRel F k n (.int .i64 ((q : Int) + 1))) := ⟨d + 1, HD.out, by have := HQ.out; congr 1; omega, fun j h1 h2 => by
            by_cases hj : j < q
            · exact HF.out j h1 (by have := HQ.out; omega)
            · obtain rfl : j = q := by have := HQ.out; omega
              rw [HU.out]; simp⟩
          go_wp2_with fail
          go_round
          case rel => exact HNX.out
          case measure => have := HM.out; simp [intOf]; omega
      · obtain rfl : d = n := by omega
        have HAL : Hid (AllHeld F k d) := ⟨by rw [HN.out]; exact e1', HF.out⟩
        have e2 : ¬ ((k + d : Nat) : Int) < (k : Int) + (d : Int) := by omega
        have HST : Hid (SetRel w w m f t (.slice av N cv) F k d true (.int .i64 (k : Int))) := ⟨0, Nat.zero_le _, rfl, by rw [setW_zero]; exact H.out, Kept.refl _ _⟩
        clear hdn hd
        generalize hq : k + d = q at *
        have HQ := Lib.hid hq
        clear hq
        go_wp2_with fail
        go_loopw [10] (fun j wr => SetRel w wr m f t (.slice av N cv) F k d true j) (fun j _ => q - (intOf j).toNat)
        case atStart => exact HST.out
        case round =>
          obtain ⟨d', hd', rfl, hA, hK⟩ := hrel
          have HA := Lib.hid hA
          have HK := Lib.hid hK
          have c02 := hA.c0
          have c22 := hA.c2
          clear hA hK
          have hwl := setW_length F k d' true (by rw [HN.out]; have := HQ.out; omega)
          by_cases hdn : d' < d
          · obtain ⟨b, rfl, hb1, hb2, hbit⟩ := HA.out.bit (by rw [hwl, HN.out]; have := HQ.out; omega)
            have hsd : k + d' < N := by have := HQ.out; omega
            obtain ⟨u, hu⟩ : ∃ u, (setW F k d' true)[k + d']? = some u := ⟨_, List.getElem?_eq_getElem (by rw [hwl, HN.out]; exact hsd)⟩
            obtain ⟨cb, fb⟩ := hbit (k + d') _ hu
            have HNX := Lib.hid (set_step (n := d) (c := true) HA.out HK.out hdn (by rw [HN.out]; have := HQ.out; omega))
            have HM := Lib.hid (show k + d' < q by have := HQ.out; omega)
            have e5 : k + d' < k + d := by omega
            clear hbit hu hwl
            generalize hq : k + d' = p at *
            have HP := Lib.hid hq
            clear hq
            have e6 : (p : Int) < (k : Int) + (d : Int) := by omega
            have e7 : (p : Int) < (N : Int) := by omega
            have e8 : (0 : Int) ≤ (p : Int) := by omega
            go_wp2_with fail
            go_roundw
            case rel => exact HNX.out _ (by omega)
            case measure => have := HM.out; simp [intOf]; omega
          · obtain rfl : d' = d := by omega
            have RES : Hid (∀ e, e = .returned (.int .i64 0) → RefGives w wr e m f t (.slice av N cv) F k d') := fun e he => .inr ⟨HAL.out, he, HA.out, HK.out⟩
            have e5 : ¬ k + d' < k + d' := by omega
            clear hwl
            generalize hq : k + d' = p at *
            have HP := Lib.hid hq
            have e6 : ¬ (p : Int) < (k : Int) + (d' : Int) := by omega
            clear hq
            go_wp2_with fail
            go_ret
            exact RES.out _ rfl
end Go.Proofs.Ytiloflgpflgjnaa
