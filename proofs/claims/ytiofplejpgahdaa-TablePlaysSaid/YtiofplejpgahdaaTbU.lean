/-
  The document's example of layer 18. No conditions.
-/
import Derived.Test.YtiofplejpgahdaaTbI
namespace Go.Proofs.Ytiofplejpgahdaa
open Go.ChangeShapes Go.WideShapes Go.ChangeAt Go.RowKit

/- a module with a name, a base and imports, and nothing else -/
def mdD (name : ByteArray) (base : Int) (imps : List ByteArray) : ModD := ⟨name, 0, base, 0, 0, 0, 0, 0, [], [], imps, [], []⟩
def mdX (name : ByteArray) (base : Int) (iv : Value) (imps : List ByteArray) : ModX := ⟨mdD name base imps, nilS, nilS, iv, nilS, nilS, []⟩
theorem mdX_at {name : ByteArray} {base : Int} {iv : Value} {imps : List ByteArray} {w : World} (h : ElsAt 1 sRow w iv imps) : ModAt w (mdX name base iv imps) :=
  ⟨els_none _ _ _, els_none _ _ _, h, els_none _ _ _, (fun y hy => by cases hy), els_none _ _ _, rfl⟩
theorem mdX_few {name : ByteArray} {base : Int} {iv : Value} {imps : List ByteArray} (h : imps.length ≤ 1000) : ModFew (mdX name base iv imps) :=
  ⟨Nat.zero_le _, Nat.zero_le _, h, Nat.zero_le _, (fun y hy => by cases hy), Nat.zero_le _⟩
theorem add_bare {B lo : Nat} {tb room : Nat} {D : List ModD} (name : ByteArray) (base : Int) (iv : Value) (imps : List ByteArray) (w : World) (h : TabD B lo w tb room D) (g : ElsAt 1 sRow w iv imps) (f : imps.length ≤ 1000) (hB : B ≤ w.heap.size) (hlo : lo ≤ w.heap.size) :
    Calls Try.prog 10 #[.pointer (some ⟨tb, 0, none⟩), .agg #[.string name, .int .u32 0, .int .i64 base, .int .i64 0, .int .i64 0, .int .i64 0, .int .i64 0, .int .i64 0, .slice none 0 0, .slice none 0 0, iv, .slice none 0 0, .slice none 0 0]] w fun e w' => e = .returned (errV (addC room (nmsD D) name imps)) ∧ TabD B lo w' tb room (addD room D (mdD name base imps)) ∧ Off B w w' :=
  add_told (mdX name base iv imps) w h (mdX_at g) (mdX_few f) hB hlo
theorem refsT_none {I : List (List ByteArray)} {s : ByteArray} (h : ∀ l ∈ I, s ∉ l) : refsT I s = 0 := by
  unfold refsT
  rw [List.length_eq_zero_iff, List.filter_eq_nil_iff]
  intro l hl
  simpa using h l hl
def nA : ByteArray := ⟨#[65]⟩
def nB : ByteArray := ⟨#[66]⟩
def nC : ByteArray := ⟨#[67]⟩
theorem ne_BA : ¬ nB = nA := by decide
theorem ne_AB : ¬ nA = nB := by decide
abbrev D1 : List ModD := [mdD nA 0 []]
abbrev D2 : List ModD := [mdD nA 0 [], mdD nB 0 [nA]]
theorem upA : addC 2 (nmsD []) nA [] = 0 ∧ addD 2 [] (mdD nA 0 []) = D1 := by
  have h : addC 2 (nmsD []) nA [] = 0 := addC_on (by simp) (by simp) (by simp)
  exact ⟨h, by unfold addD; rw [show (mdD nA 0 []).name = nA from rfl, show (mdD nA 0 []).imps = [] from rfl, if_pos h]; rfl⟩
theorem upB : addC 2 (nmsD D1) nB [nA] = 0 ∧ addD 2 D1 (mdD nB 0 [nA]) = D2 := by
  have h : addC 2 (nmsD D1) nB [nA] = 0 := addC_on (by simp) (by simp [mdD, ne_BA]) (by simp [mdD])
  exact ⟨h, by unfold addD; rw [show (mdD nB 0 [nA]).name = nB from rfl, show (mdD nB 0 [nA]).imps = [nA] from rfl, if_pos h]; rfl⟩
theorem upC : addC 2 (nmsD D2) nC [] = 8 ∧ addD 2 D2 (mdD nC 0 []) = D2 := by
  have h : addC 2 (nmsD D2) nC [] = 8 := addC_full (by simp)
  exact ⟨h, by unfold addD; rw [show (mdD nC 0 []).name = nC from rfl, show (mdD nC 0 []).imps = [] from rfl, h]; rfl⟩
theorem upD : remB (nmsD D2) (impD D2) nA = false := remB_held fun h => refsT_zero h [nA] (by simp [mdD]) (by simp)
theorem upE : remB (nmsD D2) (impD D2) nB = true ∧ remL (nmsD D2) (impD D2) nB D2 = D1 := by
  have h : remB (nmsD D2) (impD D2) nB = true := remB_yes (by simp [mdD]) (refsT_none fun l hl => by
    simp [mdD] at hl
    rcases hl with rfl | rfl
    · simp
    · simp [ne_BA])
  exact ⟨h, remL_yes h (posV_at (k := 1) rfl (by simp [mdD, ne_BA]))⟩
theorem upF : refsT (impD D1) nA = 0 := refsT_none fun l hl => by
  simp [mdD] at hl
  subst hl
  simp
set_option maxRecDepth 100000 in
theorem tab_eql (w : World) : (binOp .eql 32 (.iface 54 (.int .i64 8)) (.iface 54 (.int .i64 8))).run Try.prog w = .ok (.bool true) w := by kernel_rfl
set_option maxRecDepth 100000 in
set_option maxHeartbeats 2000000 in
theorem up18 (w : World) : Calls Try.prog 5 #[] w fun e w' => e = .returned (.bool true) ∧ Below w.heap.size w w' := by
  have HN := Lib.hid (new_told w.heap.size w.heap.size 2 2 w (Nat.le_refl _) (by decide))
  have hq := tab_eql
  go_enter Try.func5, Try.ntmps5
  go_wp2_with fail
  refine HN.out.mono ?_
  rintro e w1 ⟨tb, rfl, ht1, hb1⟩
  have HA : Hid (Calls Try.prog 10 #[.pointer (some ⟨tb, 0, none⟩), .agg #[.string { data := #[65] }, .int .u32 0, .int .i64 0, .int .i64 0, .int .i64 0, .int .i64 0, .int .i64 0, .int .i64 0, .slice none 0 0, .slice none 0 0, .slice none 0 0, .slice none 0 0, .slice none 0 0]] w1 fun e w' => e = .returned .nilIface ∧ TabD w.heap.size w.heap.size w' tb 2 D1 ∧ Off w.heap.size w1 w') := by
    have h := add_bare nA 0 nilS [] w1 ht1 (els_none _ _ _) (by decide) hb1.size hb1.size
    rw [upA.1, upA.2] at h
    exact h
  have HB1 := Lib.hid hb1
  clear ht1 hb1 HN
  go_wp2_with fail
  refine HA.out.mono ?_
  rintro e w2 ⟨rfl, ht2, ho2⟩
  have HB2 := Lib.hid (HB1.out.trans ho2.below)
  have hbel : Below w2.heap.size w2 (w2.alloc (.cells #[.string { data := #[65] }] StT)) := (Below.refl _ _).alloc (Nat.le_refl _) _
  have hel : ElsAt 1 sRow (w2.alloc (.cells #[.string { data := #[65] }] StT)) (.slice (some ⟨w2.heap.size, 0, none⟩) 1 1) [nA] :=
    ⟨_, 1, 1, rfl, rfl, Nat.le_refl _, by decide, (fun h => by cases h), .inr ⟨_, 0, rfl, (RowAt.new w2 StT [.string nA]).lt, fun i x j hx hj => by
      obtain rfl : j = 0 := by omega
      have hi := (List.getElem?_eq_some_iff.1 hx).1
      obtain rfl : i = 0 := by simpa using hi
      cases hx
      exact (RowAt.new w2 StT [.string nA]).cell 0⟩⟩
  have HB3 := Lib.hid (below_on HB2.out hbel HB2.out.size)
  have HAB : Hid (Calls Try.prog 10 #[.pointer (some ⟨tb, 0, none⟩), .agg #[.string { data := #[66] }, .int .u32 0, .int .i64 0, .int .i64 0, .int .i64 0, .int .i64 0, .int .i64 0, .int .i64 0, .slice none 0 0, .slice none 0 0, .slice (some ⟨w2.heap.size, 0, none⟩) 1 1, .slice none 0 0, .slice none 0 0]] (w2.alloc (.cells #[.string { data := #[65] }] StT)) fun e w' => e = .returned .nilIface ∧ TabD w.heap.size w.heap.size w' tb 2 D2 ∧ Off w.heap.size (w2.alloc (.cells #[.string { data := #[65] }] StT)) w') := by
    have h := add_bare nB 0 (.slice (some ⟨w2.heap.size, 0, none⟩) 1 1) [nA] _ (ht2.on hbel) hel (by decide) HB3.out.size HB3.out.size
    rw [upB.1, upB.2] at h
    exact h
  clear ht2 ho2 hbel hel HB1 HA
  go_wp2_with fail
  refine HAB.out.mono ?_
  rintro e w3 ⟨rfl, ht3, ho3⟩
  have HB4 := Lib.hid (HB3.out.trans ho3.below)
  have HAC : Hid (Calls Try.prog 10 #[.pointer (some ⟨tb, 0, none⟩), .agg #[.string { data := #[67] }, .int .u32 0, .int .i64 0, .int .i64 0, .int .i64 0, .int .i64 0, .int .i64 0, .int .i64 0, .slice none 0 0, .slice none 0 0, .slice none 0 0, .slice none 0 0, .slice none 0 0]] w3 fun e w' => e = .returned (.iface 54 (.int .i64 8)) ∧ TabD w.heap.size w.heap.size w' tb 2 D2 ∧ Off w.heap.size w3 w') := by
    have h := add_bare nC 0 nilS [] w3 ht3 (els_none _ _ _) (by decide) HB4.out.size HB4.out.size
    rw [upC.1, upC.2] at h
    exact h
  clear ht3 ho3 HAB HB2 HB3
  go_wp2_with fail
  refine HAC.out.mono ?_
  rintro e w4 ⟨rfl, ht4, ho4⟩
  have HB5 := Lib.hid (HB4.out.trans ho4.below)
  have HRA : Hid (Calls Try.prog 9 #[.pointer (some ⟨tb, 0, none⟩), .string { data := #[65] }] w4 fun e w' => e = .returned (.bool false) ∧ TabD w.heap.size w.heap.size w' tb 2 D2 ∧ Off w.heap.size w4 w') := by
    have h := remove_told nA w4 ht4 HB5.out.size
    rw [remL_no upD, upD] at h
    exact h
  clear ht4 ho4 HAC HB4
  go_wp2_with fail
  refine HRA.out.mono ?_
  rintro e w5 ⟨rfl, ht5, ho5⟩
  have HB6 := Lib.hid (HB5.out.trans ho5.below)
  have HRB : Hid (Calls Try.prog 9 #[.pointer (some ⟨tb, 0, none⟩), .string { data := #[66] }] w5 fun e w' => e = .returned (.bool true) ∧ TabD w.heap.size w.heap.size w' tb 2 D1 ∧ Off w.heap.size w5 w') := by
    have h := remove_told nB w5 ht5 HB6.out.size
    rw [upE.2, upE.1] at h
    exact h
  clear ht5 ho5 HRA HB5
  go_wp2_with fail
  refine HRB.out.mono ?_
  rintro e w6 ⟨rfl, ht6, ho6⟩
  have HB7 := Lib.hid (HB6.out.trans ho6.below)
  have HRF : Hid (Calls Try.prog 14 #[.pointer (some ⟨tb, 0, none⟩), .string { data := #[65] }] w6 fun e w' => e = .returned (.int .i64 0) ∧ Below w6.heap.size w6 w') := by
    have h := refs_told nA w6 ht6
    rw [upF] at h
    exact h
  have HT6 := Lib.hid ht6
  clear ht6 ho6 HRB HB6
  go_wp2_with fail
  refine HRF.out.mono ?_
  rintro e w7 ⟨rfl, hb7⟩
  have HT7 := Lib.hid (HT6.out.on hb7)
  have HB8 := Lib.hid (below_on HB7.out hb7 HB7.out.size)
  clear hb7 HRF HT6 HB7
  go_wp2_with fail
  refine (room_told w7 HT7.out).mono ?_
  rintro e w8 ⟨rfl, hb8⟩
  have HT8 := Lib.hid (HT7.out.on hb8)
  have HB9 := Lib.hid (below_on HB8.out hb8 HB8.out.size)
  clear hb8 HT7 HB8
  go_wp2_with fail
  refine (names_told w8 HT8.out).mono ?_
  rintro e w9 ⟨nb, rfl, hel9, hb9⟩
  have HB10 := Lib.hid (below_on HB9.out hb9 HB9.out.size)
  clear hel9 hb9 HT8 HB9
  go_wp2_with fail
  go_ret
  exact ⟨rfl, HB10.out⟩
end Go.Proofs.Ytiofplejpgahdaa
