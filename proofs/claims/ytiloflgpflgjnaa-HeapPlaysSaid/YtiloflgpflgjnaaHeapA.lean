/-
  Contracts of slices.Delete, Insert, Replace, Clone, IndexFunc, ContainsFunc over holes, as package heap (layer 5) calls them. No conditions beyond those that each theorem names.
-/
import Derived.Test.YtiloflgpflgjnaaSeq
import Derived.Lib.Overlaps
import Derived.Lib.SliceRun
import Derived.RegionTactic
import Derived.Deep.RegionWith
namespace Go.Proofs.Ytiloflgpflgjnaa
open Go.ChangeShapes Go.WideShapes Go.ChangeAt Go.RowKit

/- the cells of pairs of numbers -/
def pcs (L : List (Int × Int)) : List Value := L.flatMap fun x => [.int .i64 x.1, .int .i64 x.2]
theorem pcs_nil : pcs [] = [] := rfl
theorem pcs_cons (x : Int × Int) (L : List (Int × Int)) : pcs (x :: L) = .int .i64 x.1 :: .int .i64 x.2 :: pcs L := rfl
theorem pcs_append (A B : List (Int × Int)) : pcs (A ++ B) = pcs A ++ pcs B := by simp [pcs]
theorem pcs_length (L : List (Int × Int)) : (pcs L).length = L.length * 2 := by
  induction L with
  | nil => rfl
  | cons x L ih => rw [pcs_cons, List.length_cons, List.length_cons, ih, List.length_cons]; omega
theorem pcs_ones (L : List (Int × Int)) : Ones (pcs L) := by
  intro u hu
  simp [pcs] at hu
  obtain ⟨a, b, _, rfl | rfl⟩ := hu <;> rfl
theorem pcs_fst (L : List (Int × Int)) (i : Nat) : (pcs L)[i * 2]? = L[i]?.map fun x => Value.int .i64 x.1 := by
  induction L generalizing i with
  | nil => simp [pcs_nil]
  | cons x L ih =>
    cases i with
    | zero => simp [pcs_cons]
    | succ i => rw [pcs_cons, show (i + 1) * 2 = i * 2 + 1 + 1 by omega]; simpa using ih i
theorem pcs_snd (L : List (Int × Int)) (i : Nat) : (pcs L)[i * 2 + 1]? = L[i]?.map fun x => Value.int .i64 x.2 := by
  induction L generalizing i with
  | nil => simp [pcs_nil]
  | cons x L ih =>
    cases i with
    | zero => simp [pcs_cons]
    | succ i => rw [pcs_cons, show (i + 1) * 2 + 1 = i * 2 + 1 + 1 + 1 by omega]; simpa using ih i

theorem infoH : (Try.prog.info? 54).map (fun i => (i.zero, i.size, i.bytes)) = some (some (.agg #[.int .i64 0, .int .i64 0]), 2, 16) := by kernel_rfl
theorem sizeH : (Try.prog.info? 54).map (·.size) = some 2 := by kernel_rfl
abbrev HT : TypeId := 54

/- the cells that a slice from an element on reads -/
theorem read_from {w : World} {b : Nat} {t : TypeId} {A B rest : List Value} (h : RowAt w b t (A ++ (B ++ rest))) (o : Nat) (ho : o = A.length) : ∀ j v, B[j]? = some v → w.cell? ((⟨b, o, none⟩ : Addr).add j) = some v := by
  intro j v hj
  have hjl := (List.getElem?_eq_some_iff.1 hj).1
  subst ho
  rw [Addr.add_lit, h.cell, List.getElem?_append_right (by omega), Nat.add_sub_cancel_left, List.getElem?_append_left hjl, hj]

set_option maxHeartbeats 1000000 in
theorem delete_at (b cap : Nat) (A B : List (Int × Int)) (x : Int × Int) (rest : List Value) (w : World) (h : RowAt w b HT (pcs (A ++ x :: B) ++ rest)) (hl : (A.length + (B.length + 1)) * 2 + rest.length = cap * 2) (hm : cap ≤ maxLen) :
    Calls Try.prog 33 #[.slice (some ⟨b, 0, none⟩) (A.length + (B.length + 1)) cap, .int .i64 (A.length : Nat), .int .i64 ((A.length : Nat) + 1)] w fun e w' =>
      e = .returned (.slice (some ⟨b, 0, none⟩) (A.length + B.length) cap) ∧ (∃ rest', RowAt w' b HT (pcs (A ++ B) ++ rest') ∧ (A.length + B.length) * 2 + rest'.length = cap * 2) ∧ Kept (· = b) w w' := by
  have hA := pcs_length A
  have hB := pcs_length B
  have h0 : RowAt w.drew b HT (pcs A ++ (.int .i64 x.1 :: .int .i64 x.2 :: pcs B ++ rest)) := by simpa [pcs_append, pcs_cons] using h.drew
  have h0' : RowAt w.drew b HT ((pcs A ++ [.int .i64 x.1, .int .i64 x.2]) ++ (pcs B ++ rest)) := by simpa [pcs_append, pcs_cons] using h.drew
  obtain ⟨ad, hadE, hsrc⟩ : ∃ ad : Addr, (if cap = A.length + 1 then some (⟨b, 0, none⟩ : Addr) else some ⟨b, (A.length + 1) * 2, none⟩) = some ad ∧ Src Try.prog 2 44 (.slice (some ad) B.length (cap - (A.length + 1))) B.length (pcs B) w.drew := by
    by_cases hc : cap = A.length + 1
    · have : B = [] := List.eq_nil_of_length_eq_zero (by omega)
      subst this
      exact ⟨⟨b, 0, none⟩, by simp [hc], Src.ofSlice _ Try.underlying44 _ _ _ _ (by simp [pcs_nil]) (by simp [pcs_nil]) (pcs_ones _)⟩
    · exact ⟨⟨b, (A.length + 1) * 2, none⟩, by simp [hc], Src.ofSlice _ Try.underlying44 _ _ _ _ hB (read_from h0' _ (by simp [hA]; omega)) (pcs_ones _)⟩
  have hap : ∀ ty, (Builtin.append_ #[44, 44] ty #[.slice (some ⟨b, 0, none⟩) A.length cap, .slice (some ad) B.length (cap - (A.length + 1))]).run Try.prog w.drew = _ := fun ty => append_room h0 hA _ ty Try.underlying44 sizeH hsrc (by simp [hB]; omega) (by omega)
  have h1 := h0.set (pcs A ++ pcs B ++ (Value.int .i64 x.1 :: .int .i64 x.2 :: pcs B ++ rest).drop (pcs B).length)
  have k1 : Kept (· = b) w (w.drew.setRow b (pcs A ++ pcs B ++ (Value.int .i64 x.1 :: .int .i64 x.2 :: pcs B ++ rest).drop (pcs B).length).toArray) := (Kept.refl (· = b) w).drew.setRow (fun _ => rfl) _
  have hl1 : ((Value.int .i64 x.1 :: .int .i64 x.2 :: pcs B ++ rest).drop (pcs B).length).length = 2 + rest.length := by simp; omega
  generalize (Value.int .i64 x.1 :: .int .i64 x.2 :: pcs B ++ rest).drop (pcs B).length = r1 at *
  have hclr : ∀ ty c, (Builtin.clear_ #[44] ty #[.slice (some ⟨b, (A.length + B.length) * 2, none⟩) 1 c]).run Try.prog (w.drew.setRow b (pcs A ++ pcs B ++ r1).toArray) = _ := fun ty c =>
    clear_rows h1 ty Try.underlying44 Try.zeroValue54 ((A.length + B.length) * 2) 1 c (by simp [hA, hB, hl1, Value.cells]; omega) (by intro u hu; simp [Value.cells] at hu; subst hu; rfl)
  have hsp : splice (pcs A ++ pcs B ++ r1) ((A.length + B.length) * 2) (zrs (.agg #[.int .i64 0, .int .i64 0]) 1) = pcs (A ++ B) ++ (zrs (.agg #[.int .i64 0, .int .i64 0]) 1 ++ r1.drop 2) := by
    have := splice_end (pcs A ++ pcs B) r1 (zrs (.agg #[.int .i64 0, .int .i64 0]) 1)
    rw [List.length_append, hA, hB, ← Nat.add_mul] at this
    rw [this, zrs_length, pcs_append]
    simp [Value.cells]
  have h2 := h1.set (splice (pcs A ++ pcs B ++ r1) ((A.length + B.length) * 2) (zrs (.agg #[.int .i64 0, .int .i64 0]) 1))
  have k2 := k1.setRow (g := b) (fun _ => rfl) (splice (pcs A ++ pcs B ++ r1) ((A.length + B.length) * 2) (zrs (.agg #[.int .i64 0, .int .i64 0]) 1)).toArray
  have RES : Hid ((∃ rest', RowAt ((w.drew.setRow b (pcs A ++ pcs B ++ r1).toArray).setRow b (splice (pcs A ++ pcs B ++ r1) ((A.length + B.length) * 2) (zrs (.agg #[.int .i64 0, .int .i64 0]) 1)).toArray) b HT (pcs (A ++ B) ++ rest') ∧ (A.length + B.length) * 2 + rest'.length = cap * 2) ∧ Kept (· = b) w ((w.drew.setRow b (pcs A ++ pcs B ++ r1).toArray).setRow b (splice (pcs A ++ pcs B ++ r1) ((A.length + B.length) * 2) (zrs (.agg #[.int .i64 0, .int .i64 0]) 1)).toArray)) :=
    ⟨⟨zrs (.agg #[.int .i64 0, .int .i64 0]) 1 ++ r1.drop 2, by rw [← hsp]; exact h2, by simp [zrs_length, Value.cells, hl1]; omega⟩, k2⟩
  clear h h0 h0' h1 h2 k1 k2 hsp hsrc
  generalize (splice (pcs A ++ pcs B ++ r1) ((A.length + B.length) * 2) (zrs (.agg #[.int .i64 0, .int .i64 0]) 1)).toArray = Y at *
  generalize (pcs A ++ pcs B ++ r1).toArray = X at *
  generalize A.length = a at *
  generalize B.length = c at *
  have HA := Lib.hid hap
  clear hap hA hB hl1
  have hm' : cap ≤ 9223372036854775807 := hm
  have e1 : ¬ ((a : Int) = (a : Int) + 1) := by omega
  have e2 : ((a : Int) + 1).toNat = a + 1 := by omega
  have e3 : (0 : Int) ≤ (a : Int) + 1 := by omega
  have e4 : (a : Int) + 1 ≤ ((a + (c + 1) : Nat) : Int) := by omega
  have e5 : a + (c + 1) - (a + 1) = c := by omega
  have e6 : a ≤ cap := by omega
  have e8 : a + (c + 1) - (a + c) = 1 := by omega
  have e7 : (a : Int) + 1 ≤ (a : Int) + ((c : Int) + 1) := by omega
  go_enter Try.func33, Try.ntmps33
  go_wp2_with fail
  go_region_law (refine step_append rfl (.tmp 22) (.tmp 25) 44 44 rfl _ _ (by simp [Act.eval, Act.put]) (by simp [Act.eval, Act.put]) (HA.out _) ?_)
  go_wp2
  go_ret
  exact ⟨rfl, RES.out⟩

/- one hole more: at the end -/
theorem one_src {w : World} {vb : Nat} {x : Int × Int} (h : RowAt w vb HT (pcs [x])) : Src Try.prog 2 44 (.slice (some ⟨vb, 0, none⟩) 1 1) 1 (pcs [x]) w :=
  Src.ofSlice w Try.underlying44 _ _ _ _ rfl (fun j u hu => by rw [Addr.add_lit, Nat.zero_add, h.cell, hu]) (pcs_ones _)

def Inserted (w w' : World) (v : Value) (e : Ending) (L : List (Int × Int)) : Prop :=
  ∃ v', e = .returned v' ∧ SRow HT 2 w' v' L.length (pcs L) ∧ Kept (own v) w w' ∧ ∀ j, own v' j → own v j ∨ w.heap.size ≤ j

theorem insert_end (v : Value) (A : List (Int × Int)) (x : Int × Int) (vb : Nat) (w : World) (h : SRow HT 2 w v A.length (pcs A)) (hx : RowAt w vb HT (pcs [x])) (small : A.length ≤ 100000) :
    Calls Try.prog 34 #[v, .int .i64 (A.length : Nat), .slice (some ⟨vb, 0, none⟩) 1 1] w fun e w' => Inserted w w' v e (A ++ [x]) := by
  have hap := fun ty => h.append 44 ty Try.underlying44 infoH rfl (by omega) (one_src hx) (.inl (by omega)) (by omega)
  rw [← pcs_append] at hap
  unfold Inserted
  rw [List.length_append]
  show Calls _ _ _ _ fun e w' => ∃ v', e = .returned v' ∧ SRow HT 2 w' v' (A.length + 1) (pcs (A ++ [x])) ∧ Kept (own v) w w' ∧ ∀ j, own v' j → own v j ∨ w.heap.size ≤ j
  generalize pcs (A ++ [x]) = cs at *
  have his := h.is
  clear h hx
  generalize A.length = n at *
  rcases his with ⟨rfl, rfl⟩ | ⟨b, cap, rest, rfl, _, _, h2, h3⟩
  · have HA := Lib.hid hap
    clear hap
    go_enter Try.func34, Try.ntmps34
    obtain ⟨v', w', hr, q1, q2, q3, _⟩ := HA.out 44
    clear HA
    go_wp2_with (at_builtin; refine Lib.wpList_append_run _ rfl _ _ _ _ rfl _ _ rfl rfl _ _ hr ?_)
    all_goals
      go_ret
      exact ⟨v', rfl, q1, q2, q3⟩
  · have hm' : cap ≤ 9223372036854775807 := h3
    have HA := Lib.hid hap
    clear hap
    go_enter Try.func34, Try.ntmps34
    obtain ⟨v', w', hr, q1, q2, q3, _⟩ := HA.out 44
    clear HA
    go_wp2_with (at_builtin; refine Lib.wpList_append_run _ rfl _ _ _ _ rfl _ _ rfl rfl _ _ hr ?_)
    all_goals
      go_ret
      exact ⟨v', rfl, q1, q2, q3⟩

theorem RowAt.shape {w : World} {b : Nat} {t : TypeId} {cs : List Value} (h : RowAt w b t cs) : w.shape? b = some (t, cs.length) := by
  unfold RowAt at h
  simp [World.shape?, h]
theorem splice_shift (A B rest X : List Value) (hX : X.length = 2) (h2 : 2 ≤ (B ++ rest).length) : splice (splice (A ++ (B ++ rest)) (A.length + 2) B) A.length X = A ++ (X ++ (B ++ rest.drop 2)) := by
  have e1 : splice (A ++ (B ++ rest)) (A.length + 2) B = A ++ ((B ++ rest).take 2 ++ (B ++ rest.drop 2)) := by
    unfold splice
    rw [List.take_append, List.take_of_length_le (by omega), Nat.add_sub_cancel_left, List.drop_append, List.drop_of_length_le (by omega), List.nil_append, List.append_assoc,
      show A.length + 2 + B.length - A.length = B.length + 2 by omega, List.drop_append, List.drop_of_length_le (by omega), List.nil_append, Nat.add_sub_cancel_left]
  rw [e1]
  have hl : ((B ++ rest).take 2).length = 2 := by rw [List.length_take]; omega
  unfold splice
  rw [List.take_append, List.take_of_length_le (by omega), Nat.sub_self, List.take_zero, List.append_nil, List.drop_append, List.drop_of_length_le (by omega), List.nil_append, hX, Nat.add_sub_cancel_left, List.drop_append, List.drop_of_length_le (by omega), List.nil_append, hl, Nat.sub_self, List.drop_zero]

set_option maxHeartbeats 1000000 in
theorem insert_shift (b cap : Nat) (A B : List (Int × Int)) (x : Int × Int) (rest : List Value) (vb : Nat) (w : World) (h : RowAt w b HT (pcs (A ++ B) ++ rest)) (hl : (A.length + B.length) * 2 + rest.length = cap * 2) (hm : cap ≤ maxLen) (hB0 : B ≠ []) (hroom : A.length + B.length < cap) (hx : RowAt w vb HT (pcs [x])) (hne : vb ≠ b) (small : A.length + B.length ≤ 100000) :
    Calls Try.prog 34 #[.slice (some ⟨b, 0, none⟩) (A.length + B.length) cap, .int .i64 (A.length : Nat), .slice (some ⟨vb, 0, none⟩) 1 1] w fun e w' =>
      Inserted w w' (.slice (some ⟨b, 0, none⟩) (A.length + B.length) cap) e (A ++ x :: B) := by
  have hA := pcs_length A
  have hB := pcs_length B
  have hBl : 0 < B.length := List.length_pos_iff.2 hB0
  have h0 : RowAt w.drew b HT (pcs A ++ (pcs B ++ rest)) := by simpa [pcs_append] using h.drew
  have hov : ∀ lb cb, (callFunc 35 #[.slice (some ⟨vb, 0, none⟩) 1 1, .slice (some ⟨b, (A.length + 1) * 2, none⟩) lb cb]).run Try.prog w = .ok (.value (.bool false)) w := fun lb cb => by
    rw [run_callFunc_extern Try.func35 (by kernel_rfl) (by kernel_rfl) (by kernel_rfl) (e := Extern.SlicesOverlaps.overlaps #[44, 44] #[4]) (by kernel_rfl),
      Lib.run_overlaps_apart w 44 4 54 Try.underlying44 2 Try.sizeOf54 ⟨vb, 0, none⟩ ⟨b, (A.length + 1) * 2, none⟩ 1 1 lb cb hne _ _ _ _ hx.shape h.shape (by simp [pcs_length]; omega) (hx.free _) (hx.free _)]
    rfl
  have hcp1 : ∀ ty dc sc, (Builtin.copy_ #[44, 44] ty #[.slice (some ⟨b, (A.length + 1) * 2, none⟩) B.length dc, .slice (some ⟨b, A.length * 2, none⟩) (B.length + 1) sc]).run Try.prog w.drew = _ := fun ty dc sc =>
    copy_rows h0 _ ty Try.underlying44 sizeH ((A.length + 1) * 2) B.length dc ⟨b, A.length * 2, none⟩ (B.length + 1) sc (pcs B) (by rw [hB]; congr 1; exact (Nat.min_eq_right (by omega)).symm) (read_from h0 _ hA.symm) (by simp [hA, hB]; omega) (pcs_ones _)
  have h1 := h0.set (splice (pcs A ++ (pcs B ++ rest)) ((A.length + 1) * 2) (pcs B))
  have hx1 : RowAt (w.drew.setRow b (splice (pcs A ++ (pcs B ++ rest)) ((A.length + 1) * 2) (pcs B)).toArray) vb HT (pcs [x]) := hx.drew.keep (kept_row _ b _) hne
  have hsl : (splice (pcs A ++ (pcs B ++ rest)) ((A.length + 1) * 2) (pcs B)).length = A.length * 2 + (B.length * 2 + rest.length) := by rw [length_splice _ _ _ (by simp [hA, hB]; omega)]; simp [hA, hB]
  have hcp2 : ∀ ty dc, (Builtin.copy_ #[44, 44] ty #[.slice (some ⟨b, A.length * 2, none⟩) (B.length + 1) dc, .slice (some ⟨vb, 0, none⟩) 1 1]).run Try.prog (w.drew.setRow b (splice (pcs A ++ (pcs B ++ rest)) ((A.length + 1) * 2) (pcs B)).toArray) = _ := fun ty dc =>
    copy_rows h1 _ ty Try.underlying44 sizeH (A.length * 2) (B.length + 1) dc ⟨vb, 0, none⟩ 1 1 (pcs [x]) (by rw [pcs_length]; congr 1 <;> exact (Nat.min_eq_left (by omega)).symm) (fun j u hu => by rw [Addr.add_lit, Nat.zero_add, hx1.cell, hu]) (by rw [hsl, pcs_length]; simp <;> omega) (pcs_ones _)
  have h2 := h1.set (splice (splice (pcs A ++ (pcs B ++ rest)) ((A.length + 1) * 2) (pcs B)) (A.length * 2) (pcs [x]))
  have k2 := ((Kept.refl (· = b) w).drew.setRow (g := b) (fun _ => rfl) (splice (pcs A ++ (pcs B ++ rest)) ((A.length + 1) * 2) (pcs B)).toArray).setRow (g := b) (fun _ => rfl) (splice (splice (pcs A ++ (pcs B ++ rest)) ((A.length + 1) * 2) (pcs B)) (A.length * 2) (pcs [x])).toArray
  have hsp := splice_shift (pcs A) (pcs B) rest (pcs [x]) rfl (by simp [hB]; omega)
  rw [hA, show A.length * 2 + 2 = (A.length + 1) * 2 by omega, show pcs A ++ (pcs [x] ++ (pcs B ++ rest.drop 2)) = pcs (A ++ x :: B) ++ rest.drop 2 by simp [pcs_append, pcs_cons, pcs_nil]] at hsp
  have RES : Hid (∀ e, e = Ending.returned (.slice (some ⟨b, 0, none⟩) (A.length + B.length + 1) cap) → Inserted w _ (.slice (some ⟨b, 0, none⟩) (A.length + B.length) cap) e (A ++ x :: B)) := fun e he =>
    ⟨_, he, ⟨.inr ⟨b, cap, rest.drop 2, by simp; omega, by rw [← hsp]; exact h2, by simp; omega, by simp; omega, hm⟩, pcs_length _, pcs_ones _⟩, k2, fun j hj => .inl hj⟩
  clear h h0 h1 h2 k2 hsp hx hx1 hsl
  generalize (splice (splice (pcs A ++ (pcs B ++ rest)) ((A.length + 1) * 2) (pcs B)) (A.length * 2) (pcs [x])).toArray = Y at *
  generalize (splice (pcs A ++ (pcs B ++ rest)) ((A.length + 1) * 2) (pcs B)).toArray = X at *
  generalize A.length = a at *
  generalize B.length = c at *
  have hm' : cap ≤ 9223372036854775807 := hm
  have mn : Nat.min (c + 1) c = c := Nat.min_eq_right (by omega)
  rw [mn] at hcp1
  clear hA hB hm mn
  have e1 : ((a : Int) == (a : Int) + (c : Int)) = false := by simp; omega
  have e2 : ((a : Int) + 1).toNat = a + 1 := by omega
  have e3 : (0 : Int) ≤ (a : Int) + 1 := by omega
  have e4 : (a : Int) + 1 ≤ (a : Int) + (c : Int) + 1 := by omega
  have e5 : a + c + 1 - (a + 1) = c := by omega
  have e6 : a + c + 1 - a = c + 1 := by omega
  have e7 : ¬ cap = a := by omega
  have e8 : ¬ cap = a + 1 := by omega
  have e9 : IntKind.i64.wrap ((a : Int) + 1) = (a : Int) + 1 := IntWalk.i64_in _ (by omega)
  go_enter Try.func34, Try.ntmps34
  go_wp2_with (simp only [hov])
  go_region
  go_wp2
  go_ret
  exact RES.out _ rfl

theorem splice_over (A Z R X : List Value) (hX : X.length = 2) (h2 : 2 ≤ Z.length) : splice (A ++ (Z ++ R)) A.length X = A ++ (X ++ (Z.drop 2 ++ R)) := by
  unfold splice
  rw [List.take_append, List.take_of_length_le (by omega), Nat.sub_self, List.take_zero, List.append_nil, List.drop_append, List.drop_of_length_le (by omega), List.nil_append, hX, Nat.add_sub_cancel_left, List.drop_append_of_le_length h2]
theorem splice_fill (A X Z R B : List Value) (hX : X.length = 2) (hZ : Z.length = B.length) : splice (A ++ (X ++ (Z ++ R))) (A.length + 2) B = A ++ (X ++ (B ++ R)) := by
  unfold splice
  rw [List.take_append, List.take_of_length_le (by omega), Nat.add_sub_cancel_left, List.take_append, List.take_of_length_le (by omega), hX, Nat.sub_self, List.take_zero, List.append_nil,
    List.drop_append, List.drop_of_length_le (by omega), List.nil_append, show A.length + 2 + B.length - A.length = 2 + B.length by omega, List.drop_append, List.drop_of_length_le (by omega), List.nil_append, hX, Nat.add_sub_cancel_left, List.drop_append, List.drop_of_length_le (by omega), hZ, Nat.sub_self, List.drop_zero, List.nil_append, List.append_assoc]

set_option maxHeartbeats 1000000 in
theorem insert_grow (b : Nat) (A B : List (Int × Int)) (x : Int × Int) (vb : Nat) (w : World) (h : RowAt w b HT (pcs (A ++ B))) (hB0 : B ≠ []) (hx : RowAt w vb HT (pcs [x])) (small : A.length + B.length ≤ 100000) :
    Calls Try.prog 34 #[.slice (some ⟨b, 0, none⟩) (A.length + B.length) (A.length + B.length), .int .i64 (A.length : Nat), .slice (some ⟨vb, 0, none⟩) 1 1] w fun e w' =>
      Inserted w w' (.slice (some ⟨b, 0, none⟩) (A.length + B.length) (A.length + B.length)) e (A ++ x :: B) := by
  have hA := pcs_length A
  have hB := pcs_length B
  have hBl : 0 < B.length := List.length_pos_iff.2 hB0
  obtain ⟨i, hi, hi1, hi2, hi3⟩ : ∃ i, Try.prog.info? 54 = some i ∧ i.zero = some (.agg #[.int .i64 0, .int .i64 0]) ∧ i.size = 2 ∧ i.bytes = 16 := by
    have := infoH
    cases hq : Try.prog.info? 54 with
    | none => simp [hq] at this
    | some i => exact ⟨i, rfl, by simpa [hq] using this⟩
  have hb := h.lt
  have h0 : RowAt w.drew b HT (pcs A ++ (pcs B ++ [])) := by simpa [pcs_append] using h.drew
  have hold : (Builtin.firstCells i.size A.length (.slice (some ⟨b, 0, none⟩) A.length (A.length + B.length))).run Try.prog w.drew = .ok (pcs A).toArray w.drew := by
    rw [hi2]
    exact run_firstCells_some w.drew 2 A.length ⟨b, 0, none⟩ A.length _ (pcs A) hA (read_from (A := []) (rest := pcs B ++ []) h0 0 rfl)
  have hap := fun ty => Lib.run_append_grow_zeros (P := Try.prog) w 44 3 ty 54 i _ .i64 .i64 Try.underlying44 Try.underlying3 hi hi1 (some ⟨b, 0, none⟩) A.length (A.length + B.length) (pcs A) hold (B.length + 1) (by omega) (by omega) (by omega) (by omega) (by rw [hi3]; omega)
    (growslice_fits (by omega) (by rw [hi3]; omega))
  have hcap1 := grownCap_ge w (A.length + (B.length + 1)) (A.length + B.length) 54
  have hcap2 := grownCap_le_maxLen w (A.length + (B.length + 1)) (A.length + B.length) 54 (by simp [maxLen]; omega)
  generalize hcap : grownCap w (A.length + (B.length + 1)) (A.length + B.length) 54 = cap at *
  have zl1 := zrs_length (.agg #[.int .i64 0, .int .i64 0]) (B.length + 1)
  have zl2 := zrs_length (.agg #[.int .i64 0, .int .i64 0]) (cap - (A.length + (B.length + 1)))
  have ze : (pcs A).toArray ++ Builtin.zeroCells (Value.agg #[.int .i64 0, .int .i64 0]).cells (B.length + 1) ++ Builtin.zeroCells (Value.agg #[.int .i64 0, .int .i64 0]).cells (cap - (A.length + (B.length + 1))) = (pcs A ++ (zrs (.agg #[.int .i64 0, .int .i64 0]) (B.length + 1) ++ zrs (.agg #[.int .i64 0, .int .i64 0]) (cap - (A.length + (B.length + 1))))).toArray := by
    apply Array.ext'
    simp [zrs]
  rw [ze] at hap
  clear ze hcap
  generalize zrs (.agg #[.int .i64 0, .int .i64 0]) (B.length + 1) = Z at *
  generalize zrs (.agg #[.int .i64 0, .int .i64 0]) (cap - (A.length + (B.length + 1))) = R at *
  simp [Value.cells] at zl1 zl2
  have n0 : RowAt (w.drew.alloc (.cells (pcs A ++ (Z ++ R)).toArray 54)) w.heap.size HT (pcs A ++ (Z ++ R)) := RowAt.new w.drew HT _
  have k0 : Kept (fun _ => False) w (w.drew.alloc (.cells (pcs A ++ (Z ++ R)).toArray 54)) := ((Kept.refl _ w).drew).alloc _
  have hcp1 : ∀ ty dc, (Builtin.copy_ #[44, 44] ty #[.slice (some ⟨w.heap.size, A.length * 2, none⟩) (B.length + 1) dc, .slice (some ⟨vb, 0, none⟩) 1 1]).run Try.prog (w.drew.alloc (.cells (pcs A ++ (Z ++ R)).toArray 54)) = _ := fun ty dc =>
    copy_rows n0 _ ty Try.underlying44 sizeH (A.length * 2) (B.length + 1) dc ⟨vb, 0, none⟩ 1 1 (pcs [x]) (by rw [pcs_length]; congr 1 <;> exact (Nat.min_eq_left (by omega)).symm) (fun j u hu => by rw [Addr.add_lit, Nat.zero_add, (hx.keep k0 (by simp)).cell, hu]) (by simp [hA, zl1, pcs_length]; omega) (pcs_ones _)
  have hsp1 := splice_over (pcs A) Z R (pcs [x]) rfl (by omega)
  rw [hA] at hsp1
  rw [hsp1] at hcp1
  have n1 := n0.set (pcs A ++ (pcs [x] ++ (Z.drop 2 ++ R)))
  have k1 := k0.setRow (g := w.heap.size) (fun h => by omega) (pcs A ++ (pcs [x] ++ (Z.drop 2 ++ R))).toArray
  have h1 := (h.keep k1 (by simp)).drew
  have hcp2 : ∀ ty dc sc, (Builtin.copy_ #[44, 44] ty #[.slice (some ⟨w.heap.size, (A.length + 1) * 2, none⟩) B.length dc, .slice (some ⟨b, A.length * 2, none⟩) B.length sc]).run Try.prog ((w.drew.alloc (.cells (pcs A ++ (Z ++ R)).toArray 54)).setRow w.heap.size (pcs A ++ (pcs [x] ++ (Z.drop 2 ++ R))).toArray).drew = _ := fun ty dc sc =>
    copy_rows n1.drew _ ty Try.underlying44 sizeH ((A.length + 1) * 2) B.length dc ⟨b, A.length * 2, none⟩ B.length sc (pcs B) (by rw [hB]; congr 1; exact (Nat.min_self _).symm) (read_from (A := pcs A) (rest := []) (by simpa [pcs_append] using h1) _ hA.symm) (by simp [hA, hB, zl1, pcs_length]; omega) (pcs_ones _)
  have hsp2 := splice_fill (pcs A) (pcs [x]) (Z.drop 2) R (pcs B) rfl (by rw [List.length_drop]; omega)
  rw [hA, show A.length * 2 + 2 = (A.length + 1) * 2 by omega] at hsp2
  rw [hsp2, show Nat.min B.length B.length = B.length from Nat.min_self _] at hcp2
  have n2 := n1.drew.set (pcs A ++ (pcs [x] ++ (pcs B ++ R)))
  have k2 := k1.drew.setRow (g := w.heap.size) (fun h => by omega) (pcs A ++ (pcs [x] ++ (pcs B ++ R))).toArray
  have RES : Hid (∀ e, e = Ending.returned (.slice (some ⟨w.heap.size, 0, none⟩) (A.length + (B.length + 1)) cap) → Inserted w _ (.slice (some ⟨b, 0, none⟩) (A.length + B.length) (A.length + B.length)) e (A ++ x :: B)) := fun e he =>
    ⟨_, he, ⟨.inr ⟨w.heap.size, cap, R, by simp, by have := n2; rw [show pcs (A ++ x :: B) ++ R = pcs A ++ (pcs [x] ++ (pcs B ++ R)) by simp [pcs_append, pcs_cons, pcs_nil]]; exact this, by simp; omega, by simp; omega, hcap2⟩, pcs_length _, pcs_ones _⟩, (Kept.refl _ w).then k2 (fun _ _ h => h.elim), fun j hj => by simp [own] at hj; omega⟩
  clear h h0 h1 n0 n1 n2 k0 k1 k2 hsp1 hsp2 hx hold
  rw [show Nat.min 1 (B.length + 1) = 1 from Nat.min_eq_left (by omega)] at hcp1
  generalize (pcs A ++ (pcs [x] ++ (pcs B ++ R))).toArray = V2 at *
  generalize (pcs A ++ (pcs [x] ++ (Z.drop 2 ++ R))).toArray = V1 at *
  generalize Obj.cells (pcs A ++ (Z ++ R)).toArray 54 = V0 at *
  generalize A.length = a at *
  generalize B.length = c at *
  have hm' : cap ≤ 9223372036854775807 := hcap2
  have HA : Hid (∀ ty (D : Int), D = (c : Int) + 1 → (Builtin.append_ #[44, 3] ty #[.slice (some ⟨b, 0, none⟩) a (a + c), .int .i64 D]).run Try.prog w = .ok (.slice (some ⟨w.heap.size, 0, none⟩) (a + (c + 1)) cap) (w.drew.alloc V0)) := fun ty D hD => by
    rw [hD, show (c : Int) + 1 = ((c + 1 : Nat) : Int) by omega]
    exact hap ty
  have hcp1' : ∀ ty dc, (Builtin.copy_ #[44, 44] ty #[.slice (some ⟨w.heap.size, a * 2, none⟩) (c + 1) dc, .slice (some ⟨vb, 0, none⟩) 1 1]).run Try.prog (w.alloc V0).drew = .ok (goInt 1) ((w.alloc V0).setRow w.heap.size V1).drew := hcp1
  have hcp2' : ∀ ty dc sc, (Builtin.copy_ #[44, 44] ty #[.slice (some ⟨w.heap.size, (a + 1) * 2, none⟩) c dc, .slice (some ⟨b, a * 2, none⟩) c sc]).run Try.prog ((w.alloc V0).setRow w.heap.size V1).drew.drew = .ok (goInt c) (((w.alloc V0).setRow w.heap.size V1).setRow w.heap.size V2).drew.drew := hcp2
  clear hA hB hap zl1 zl2 hcap2 hi hi1 hi2 hi3 hcp1 hcp2
  have e1 : ((a : Int) == (a : Int) + (c : Int)) = false := by simp; omega
  have e2 : ((a : Int) + 1).toNat = a + 1 := by omega
  have e3 : (0 : Int) ≤ (a : Int) + 1 := by omega
  have e4 : (a : Int) + 1 ≤ (a : Int) + ((c : Int) + 1) := by omega
  have e5 : a + (c + 1) - (a + 1) = c := by omega
  have e6 : a + (c + 1) - a = c + 1 := by omega
  have e7 : ¬ cap = a := by omega
  have e8 : ¬ cap = a + 1 := by omega
  have e9 : IntKind.i64.wrap ((a : Int) + 1) = (a : Int) + 1 := IntWalk.i64_in _ (by omega)
  have e10 : ¬ a + c = a := by omega
  have e11 : a + c - a = c := by omega
  go_enter Try.func34, Try.ntmps34
  go_wp2_with (at_builtin; refine Lib.wpList_append_run _ rfl _ _ _ _ rfl _ _ rfl rfl _ _ (HA.out _ _ (by omega)) ?_)
  go_region
  go_wp2
  go_ret
  exact RES.out _ rfl
end Go.Proofs.Ytiloflgpflgjnaa
