/-
  Contracts of strings.Clone, and of files' New, has, missing, Get, Delete, Put, Names (layer 10). No conditions beyond those that each theorem names.
-/
import Derived.Test.YtidncccbgihhhaaByteS
import Derived.Test.YtidncccbgihhhaaSortF
import Derived.Test.YtidncccbgihhhaaNameA
import Derived.Test.YtidncccbgihhhaaErrV
namespace Go.Proofs.Ytidncccbgihhhaa
open Go.ChangeShapes Go.WideShapes Go.ChangeAt Go.RowKit

theorem drew_below (w : World) : Below w.heap.size w w.drew := (Drawn.of_n w 1).below _
set_option maxRecDepth 100000 in
theorem sclone_any (s : ByteArray) (w : World) (hlim : s.size ≤ 1000000) :
    Calls Try.prog 21 #[.string s] w fun e w' => e = .returned (.string s) ∧ Below w.heap.size w w' := by
  go_enter Try.func21, Try.ntmps21
  go_wp2_with fail
  refine (Any.stringslite_Clone Try.clone26 s _ (by omega)).mono ?_
  rintro e w1 ⟨rfl, hb⟩
  have HB := Lib.hid hb
  clear hb
  go_wp2_with fail
  go_ret
  exact ⟨rfl, HB.out⟩

/- files: a pointer to a map; what each name has lies in a row of its own, from block lo on -/
abbrev FT : TypeId := 52
structure FilesAt (lo : Nat) (w : World) (fb mb : Nat) (R : RL) : Prop where
  head : RowAt w fb FT [.map (some mb)]
  map : MapAt w mb R
  rows : ∀ p ∈ R, SRow BT 1 w p.2.1 p.2.2.length (byteVals p.2.2) ∧ (∀ j, own p.2.1 j → lo ≤ j) ∧ ∀ x ∈ p.2.2, x < 256
  le : R.length ≤ 32
theorem FilesAt.cell {lo : Nat} {w : World} {fb mb : Nat} {R : RL} (h : FilesAt lo w fb mb R) : w.cell? ⟨fb, 0, none⟩ = some (.map (some mb)) := h.head.cell 0
/- what is not kept is no row of bytes -/
theorem SRow.keep_rows {S : Nat → Prop} {w w' : World} {v : Value} {n : Nat} {cs : List Value} (h : SRow BT 1 w v n cs) (k : Kept S w w') (hS : ∀ j cs, RowAt w j BT cs → ¬ S j) : SRow BT 1 w' v n cs := by
  refine h.keep k fun j hj => ?_
  rcases h.is with ⟨rfl, _⟩ | ⟨b, cap, rest, rfl, hr, _⟩
  · exact hj.elim
  · simp only [own] at hj
    subst hj
    exact hS _ _ hr
theorem FilesAt.keep {S : Nat → Prop} {lo : Nat} {w w' : World} {fb mb : Nat} {R : RL} (h : FilesAt lo w fb mb R) (k : Kept S w w') (hf : ¬ S fb) (hm : ¬ S mb) (hS : ∀ j cs, RowAt w j BT cs → lo ≤ j → ¬ S j) : FilesAt lo w' fb mb R :=
  ⟨h.head.keep k hf, h.map.keep k hm, fun p hp => by
    have hr := h.rows p hp
    refine ⟨hr.1.keep k fun j hj => ?_, hr.2⟩
    rcases hr.1.is with ⟨e, _⟩ | ⟨b, cap, rest, e, hb, _⟩
    · rw [e] at hj; exact hj.elim
    · have hlo := hr.2.1 j hj
      rw [e] at hj
      simp only [own] at hj
      subst hj
      exact hS _ _ hb hlo, h.le⟩
theorem FilesAt.on {lo : Nat} {w w' : World} {fb mb : Nat} {R : RL} (h : FilesAt lo w fb mb R) (hb : Below w.heap.size w w') : FilesAt lo w' fb mb R :=
  h.keep (Kept.of_below (S := fun _ => False) hb) (fun h => h) (fun h => h) (fun _ _ _ _ h => h)
theorem FilesAt.lt {lo : Nat} {w : World} {fb mb : Nat} {R : RL} (h : FilesAt lo w fb mb R) : fb < w.heap.size ∧ mb < w.heap.size := ⟨h.head.lt, h.map.lt⟩
theorem FilesAt.ne {lo : Nat} {w : World} {fb mb : Nat} {R : RL} (h : FilesAt lo w fb mb R) : fb ≠ mb := by
  rintro rfl
  obtain ⟨es, c, hb⟩ := h.map.obj
  have := h.head
  unfold RowAt at this
  rw [hb] at this
  cases this
theorem MapAt.no_row {w : World} {mb : Nat} {R : RL} (h : MapAt w mb R) {j : Nat} {t : TypeId} {cs : List Value} (hr : RowAt w j t cs) : j ≠ mb := by
  rintro rfl
  obtain ⟨es, c, hb⟩ := h.obj
  unfold RowAt at hr
  rw [hb] at hr
  cases hr

set_option maxRecDepth 100000 in
theorem fnew_any (lo : Nat) (w : World) : Calls Try.prog 6 #[] w fun e w' => ∃ fb mb, e = .returned (.pointer (some ⟨fb, 0, none⟩)) ∧ FilesAt lo w' fb mb [] ∧ Below w.heap.size w w' ∧ w.heap.size ≤ mb ∧ w.heap.size ≤ fb := by
  have hmm := @run_makeMap Try.prog
  have h1 := MapAt.new w
  have k : Kept (fun _ => False) w (w.alloc (.map #[] 0)) := (Kept.refl _ _).alloc _
  have k2 : Kept (fun _ => False) (w.alloc (.map #[] 0)) ((w.alloc (.map #[] 0)).alloc (.cells #[.map (some w.heap.size)] FT)) := (Kept.refl _ _).alloc _
  have hr : RowAt ((w.alloc (.map #[] 0)).alloc (.cells #[.map (some w.heap.size)] FT)) (w.heap.size + 1) FT [.map (some w.heap.size)] := by
    have := RowAt.new (w.alloc (.map #[] 0)) FT [.map (some w.heap.size)]
    simpa using this
  have RES : Hid (FilesAt lo ((w.alloc (.map #[] 0)).alloc (.cells #[.map (some w.heap.size)] FT)) (w.heap.size + 1) w.heap.size [] ∧ Below w.heap.size w ((w.alloc (.map #[] 0)).alloc (.cells #[.map (some w.heap.size)] FT))) :=
    ⟨⟨hr, h1.keep k2 (fun h => h), (fun p hp => by cases hp), by simp⟩, (k.trans k2).none⟩
  clear h1 k k2 hr
  go_enter Try.func6, Try.ntmps6
  go_wp2_with fail
  go_ret
  exact ⟨_, _, rfl, RES.out.1, RES.out.2, Nat.le_refl _, by omega⟩

set_option maxRecDepth 100000 in
theorem has_any (lo : Nat) (fb mb : Nat) (R : RL) (s : ByteArray) (w : World) (h : FilesAt lo w fb mb R) (hs : s.size ≤ maxLen) :
    Calls Try.prog 19 #[.pointer (some ⟨fb, 0, none⟩), .string s] w fun e w' => e = .returned (.bool (decide (s ∈ nms R))) ∧ w = w' := by
  have c1 := h.cell
  obtain ⟨v, hl⟩ := h.map.look_ok hs
  generalize decide (s ∈ nms R) = b at *
  clear h hs
  go_enter Try.func19, Try.ntmps19
  go_wp2_with fail
  go_ret
  exact ⟨rfl, rfl⟩

set_option maxRecDepth 100000 in
theorem missing_any (lo : Nat) (fb mb : Nat) (R : RL) (s : ByteArray) (w : World) (h : FilesAt lo w fb mb R) (hs : s.size ≤ maxLen) :
    Calls Try.prog 15 #[.pointer (some ⟨fb, 0, none⟩), .string s] w fun e w' => e = .returned (errV (missC R s)) ∧ w = w' := by
  have H := Lib.hid (has_any lo fb mb R s w h hs)
  clear h hs
  by_cases hn : NameP s
  · have HN := Lib.hid hn
    by_cases hm : s ∈ nms R
    · have h0 := missC_yes hn hm
      rw [h0, errV_zero]
      rw [decide_eq_true hm] at H
      clear hn hm h0
      go_enter Try.func15, Try.ntmps15
      go_wp2_with fail
      refine (may_yes s _ HN.out).mono ?_
      rintro e w1 ⟨rfl, rfl⟩
      go_wp2_with fail
      refine H.out.mono ?_
      rintro e w1 ⟨rfl, rfl⟩
      go_wp2_with fail
      go_ret
      exact ⟨rfl, rfl⟩
    · have h0 := missC_none hn hm
      rw [h0, errV_succ]
      rw [decide_eq_false hm] at H
      clear hn hm h0
      go_enter Try.func15, Try.ntmps15
      go_wp2_with fail
      refine (may_yes s _ HN.out).mono ?_
      rintro e w1 ⟨rfl, rfl⟩
      go_wp2_with fail
      refine H.out.mono ?_
      rintro e w1 ⟨rfl, rfl⟩
      go_wp2_with fail
      go_ret
      exact ⟨rfl, rfl⟩
  · have HN := Lib.hid hn
    have h0 := missC_bad (L := R) hn
    rw [h0, errV_succ]
    clear hn h0
    go_enter Try.func15, Try.ntmps15
    go_wp2_with fail
    refine (may_no s _ HN.out).mono ?_
    rintro e w1 ⟨rfl, rfl⟩
    go_wp2_with fail
    go_ret
    exact ⟨rfl, rfl⟩

set_option maxRecDepth 100000 in
theorem get_no (lo : Nat) (fb mb : Nat) (R : RL) (s : ByteArray) (w : World) (h : FilesAt lo w fb mb R) (hs : s.size ≤ maxLen) (c : Nat) (hc : missC R s = c + 1) :
    Calls Try.prog 14 #[.pointer (some ⟨fb, 0, none⟩), .string s] w fun e w' => e = .returned (.tuple #[.slice none 0 0, errV (c + 1)]) ∧ w = w' := by
  have H := Lib.hid (missing_any lo fb mb R s w h hs)
  rw [hc] at H
  rw [errV_succ] at *
  clear h hs hc
  go_enter Try.func14, Try.ntmps14
  go_wp2_with fail
  refine H.out.mono ?_
  rintro e w1 ⟨rfl, rfl⟩
  go_wp2_with fail
  go_ret2
  exact ⟨rfl, rfl⟩

set_option maxRecDepth 100000 in
theorem get_yes (lo : Nat) (fb mb : Nat) (R : RL) (s : ByteArray) (v : Value) (l : List Nat) (w : World) (h : FilesAt lo w fb mb R) (hs : s.size ≤ maxLen) (hn : NameP s) (hm : (s, (v, l)) ∈ R) (hl : l.length ≤ 1000000) :
    Calls Try.prog 14 #[.pointer (some ⟨fb, 0, none⟩), .string s] w fun e w' => ∃ v', e = .returned (.tuple #[v', .nilIface]) ∧ SRow BT 1 w' v' l.length (byteVals l) ∧ (∀ j, own v' j → w.heap.size ≤ j) ∧ Below w.heap.size w w' := by
  have H := Lib.hid (missing_any lo fb mb R s w h hs)
  rw [missC_yes hn (mem_nms.2 ⟨_, hm, rfl⟩), errV_zero] at H
  have hr := h.rows _ hm
  have HB := Lib.hid (bclone_any v l w (hr.1.bytes hr.2.2) hl)
  have c1 := h.cell
  have hlk := h.map.look hm hs
  clear h hs hr hn hm hl
  go_enter Try.func14, Try.ntmps14
  go_wp2_with fail
  refine H.out.mono ?_
  rintro e w1 ⟨rfl, rfl⟩
  go_wp2_with fail
  refine HB.out.mono ?_
  rintro e w2 ⟨v', rfl, hr, ho, hb⟩
  have RES := Lib.hid (And.intro hr (And.intro ho hb))
  clear hr ho hb
  go_wp2_with fail
  go_ret2
  exact ⟨v', rfl, RES.out⟩

set_option maxRecDepth 100000 in
theorem fdel_any (lo : Nat) (fb mb : Nat) (R : RL) (s : ByteArray) (w : World) (h : FilesAt lo w fb mb R) (hs : s.size ≤ maxLen) :
    Calls Try.prog 9 #[.pointer (some ⟨fb, 0, none⟩), .string s] w fun e w' => e = .returned (errV (missC R s)) ∧ FilesAt lo w' fb mb (delN R s) ∧ Kept (· = mb) w w' := by
  have H := Lib.hid (missing_any lo fb mb R s w h hs)
  cases hc : missC R s with
  | succ c =>
    have RES : Hid (FilesAt lo w fb mb (delN R s) ∧ Kept (· = mb) w w) := ⟨by unfold delN; rw [if_neg (by rw [hc]; omega)]; exact h, Kept.refl _ _⟩
    rw [hc] at H
    rw [errV_succ] at *
    clear h hs hc
    go_enter Try.func9, Try.ntmps9
    go_wp2_with fail
    refine H.out.mono ?_
    rintro e w1 ⟨rfl, rfl⟩
    go_wp2_with fail
    go_ret
    exact ⟨rfl, RES.out⟩
  | zero =>
    obtain ⟨w', hd, hM, hK, _⟩ := h.map.del hs 0
    have RES : Hid (FilesAt lo w' fb mb (delN R s) ∧ Kept (· = mb) w w') := by
      unfold delN
      rw [if_pos hc]
      refine ⟨⟨h.head.keep hK h.ne, hM, fun p hp => ?_, Nat.le_trans (length_delF R s) h.le⟩, hK⟩
      have hr := h.rows p (mem_del.1 hp).1
      exact ⟨hr.1.keep_rows hK fun j cs hj e => h.map.no_row hj e, hr.2⟩
    have c1 := h.cell
    rw [hc, errV_zero] at H
    rw [errV_zero]
    clear h hs hc hM hK
    go_enter Try.func9, Try.ntmps9
    go_wp2_with fail
    refine H.out.mono ?_
    rintro e w1 ⟨rfl, rfl⟩
    go_wp2_with fail
    go_ret
    exact ⟨rfl, RES.out⟩
end Go.Proofs.Ytidncccbgihhhaa
