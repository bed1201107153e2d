/-
  slices.Delete over modules; Add, Find, Remove (layer 18). Conditions: at most 16 modules, lists of at most 1000.
-/
import Derived.Test.YtiofplejpgahdaaTbE
import Derived.Test.YtiofplejpgahdaaErrV
namespace Go.Proofs.Ytiofplejpgahdaa
open Go.ChangeShapes Go.WideShapes Go.ChangeAt Go.RowKit

theorem zeroM : ∀ w, (zeroValue 41).run Try.prog w = .ok (.agg noRow.toArray) w := Try.zeroValue41
theorem noRow_len : noRow.length = 13 := rfl
theorem noRow_ones : Ones noRow := ones_md rfl rfl rfl rfl rfl
set_option maxRecDepth 100000 in
set_option maxHeartbeats 1000000 in
theorem mdelete_at (b cap a c : Nat) (A X B rest : List Value) (hA : A.length = a * 13) (hX : X.length = 13) (hB : B.length = c * 13) (oB : Ones B) (w : World) (h : RowAt w b MdT (A ++ (X ++ B) ++ rest)) (hl : (a + (c + 1)) * 13 + rest.length = cap * 13) (hm : cap ≤ maxLen) :
    Calls Try.prog 19 #[.slice (some ⟨b, 0, none⟩) (a + (c + 1)) cap, .int .i64 (a : Nat), .int .i64 ((a : Nat) + 1)] w fun e w' =>
      e = .returned (.slice (some ⟨b, 0, none⟩) (a + c) cap) ∧ (∃ rest', RowAt w' b MdT (A ++ B ++ rest') ∧ (a + c) * 13 + rest'.length = cap * 13) ∧ Kept (· = b) w w' := by
  have h0 : RowAt w.drew b MdT (A ++ (X ++ B ++ rest)) := by simpa using h.drew
  have h0' : RowAt w.drew b MdT ((A ++ X) ++ (B ++ rest)) := by simpa using h.drew
  obtain ⟨ad, hadE, hsrc⟩ : ∃ ad : Addr, (if cap = a + 1 then some (⟨b, 0, none⟩ : Addr) else some ⟨b, (a + 1) * 13, none⟩) = some ad ∧ Src Try.prog 13 55 (.slice (some ad) c (cap - (a + 1))) c B w.drew := by
    by_cases hc : cap = a + 1
    · obtain rfl : c = 0 := by omega
      obtain rfl : B = [] := List.eq_nil_of_length_eq_zero (by omega)
      exact ⟨⟨b, 0, none⟩, by simp [hc], Src.ofSlice _ Try.underlying55 _ _ _ _ (by simp) (by simp) oB⟩
    · exact ⟨⟨b, (a + 1) * 13, none⟩, by simp [hc], Src.ofSlice _ Try.underlying55 _ _ _ _ hB (read_from h0' _ (by simp [hA, hX]; omega)) oB⟩
  have hap : ∀ ty, (Builtin.append_ #[55, 55] ty #[.slice (some ⟨b, 0, none⟩) a cap, .slice (some ad) c (cap - (a + 1))]).run Try.prog w.drew = _ := fun ty => append_room h0 hA _ ty Try.underlying55 size_md hsrc (by simp [hB, hX]; omega) (by omega)
  have h1 := h0.set (A ++ B ++ (X ++ B ++ rest).drop B.length)
  have k1 : Kept (· = b) w (w.drew.setRow b (A ++ B ++ (X ++ B ++ rest).drop B.length).toArray) := (Kept.refl (· = b) w).drew.setRow (fun _ => rfl) _
  have hl1 : ((X ++ B ++ rest).drop B.length).length = 13 + rest.length := by simp; omega
  generalize (X ++ B ++ rest).drop B.length = r1 at *
  have hclr : ∀ ty cc, (Builtin.clear_ #[55] ty #[.slice (some ⟨b, (a + c) * 13, none⟩) 1 cc]).run Try.prog (w.drew.setRow b (A ++ B ++ r1).toArray) = _ := fun ty cc =>
    clear_rows h1 ty Try.underlying55 zeroM ((a + c) * 13) 1 cc (by show (a + c) * 13 + 1 * 13 ≤ _; simp [hA, hB, hl1]; omega) noRow_ones
  have hsp : splice (A ++ B ++ r1) ((a + c) * 13) (zrs (.agg noRow.toArray) 1) = A ++ B ++ (zrs (.agg noRow.toArray) 1 ++ r1.drop 13) := by
    have := splice_end (A ++ B) r1 (zrs (.agg noRow.toArray) 1)
    rw [List.length_append, hA, hB, ← Nat.add_mul] at this
    rw [this, zrs_length, List.append_assoc]
    rfl
  have h2 := h1.set (splice (A ++ B ++ r1) ((a + c) * 13) (zrs (.agg noRow.toArray) 1))
  have k2 := k1.setRow (g := b) (fun _ => rfl) (splice (A ++ B ++ r1) ((a + c) * 13) (zrs (.agg noRow.toArray) 1)).toArray
  have RES : Hid ((∃ rest', RowAt ((w.drew.setRow b (A ++ B ++ r1).toArray).setRow b (splice (A ++ B ++ r1) ((a + c) * 13) (zrs (.agg noRow.toArray) 1)).toArray) b MdT (A ++ B ++ rest') ∧ (a + c) * 13 + rest'.length = cap * 13) ∧ Kept (· = b) w ((w.drew.setRow b (A ++ B ++ r1).toArray).setRow b (splice (A ++ B ++ r1) ((a + c) * 13) (zrs (.agg noRow.toArray) 1)).toArray)) :=
    ⟨⟨zrs (.agg noRow.toArray) 1 ++ r1.drop 13, by rw [← hsp]; exact h2, by rw [List.length_append, zrs_length, List.length_drop, hl1]; show (a + c) * 13 + (1 * 13 + _) = _; omega⟩, k2⟩
  clear h h0 h0' h1 h2 k1 k2 hsp hsrc
  generalize (splice (A ++ B ++ r1) ((a + c) * 13) (zrs (.agg noRow.toArray) 1)).toArray = Y at *
  generalize (A ++ B ++ r1).toArray = X at *
  have HA := Lib.hid hap
  clear hap hA hB hl1
  have hm' : cap ≤ 9223372036854775807 := hm
  have e1 : ¬ ((a : Int) = (a : Int) + 1) := by omega
  have e2 : ((a : Int) + 1).toNat = a + 1 := by omega
  have e3 : (0 : Int) ≤ (a : Int) + 1 := by omega
  have e4 : (a : Int) + 1 ≤ ((a + (c + 1) : Nat) : Int) := by omega
  have e5 : a + (c + 1) - (a + 1) = c := by omega
  have e6 : a ≤ cap := by omega
  have e8 : a + (c + 1) - (a + c) = 1 := by omega
  have e7 : (a : Int) + 1 ≤ (a : Int) + ((c : Int) + 1) := by omega
  go_enter Try.func19, Try.ntmps19
  go_wp2_with fail
  go_region_law (refine step_append rfl (.tmp 22) (.tmp 25) 55 55 rfl _ _ (by simp [Act.eval, Act.put]) (by simp [Act.eval, Act.put]) (HA.out _) ?_)
  go_wp2
  go_ret
  exact ⟨rfl, RES.out⟩

/- what a call does: nothing below B, and nothing to rows of other types -/
structure Off (B : Nat) (w w' : World) : Prop where
  below : Below B w w'
  rows : ∀ (b : Nat) (t : TypeId) (cs : List Value), t ≠ TbT → t ≠ MdT → RowAt w b t cs → RowAt w' b t cs
theorem Off.of_below {B : Nat} {w w' : World} (h : Below w.heap.size w w') (hB : B ≤ w.heap.size) : Off B w w' := ⟨h.mono hB, fun _ _ _ _ _ hr => hr.keep (Kept.of_below (S := fun _ => False) h) fun e => e⟩
theorem Off.trans {B : Nat} {a b c : World} (h : Off B a b) (g : Off B b c) : Off B a c := ⟨h.below.trans g.below, fun k t cs h1 h2 hr => g.rows k t cs h1 h2 (h.rows k t cs h1 h2 hr)⟩
theorem Tab.notb {B lo : Nat} {w : World} {tb room : Nat} {v : Value} {L : List ModX} (h : Tab B lo w tb room v L) : ¬ own v tb := h.row.off h.head (by decide)
theorem Tab.other {B lo : Nat} {w : World} {tb room : Nat} {v : Value} {L : List ModX} (h : Tab B lo w tb room v L) {b : Nat} {t : TypeId} {cs : List Value} (hr : RowAt w b t cs) (ht : t ≠ MdT) : ¬ own v b := h.row.off hr fun e => ht e.symm
theorem Tab.mine {B lo : Nat} {w : World} {tb room : Nat} {v : Value} {L : List ModX} (h : Tab B lo w tb room v L) {u : Value} {t : TypeId} {k n : Nat} {cs : List Value} (g : SRow t k w u n cs) (ht : t ≠ MdT) (j : Nat) (hj : own u j) : ¬ own v j := by
  rcases h.row.is with ⟨e, _⟩ | ⟨b, cap, rest, e, hr, _⟩
  · rw [e]
    exact fun h => h
  · rw [e]
    intro e2
    have e2 : j = b := e2
    subst e2
    exact g.off hr ht hj
theorem mineTypes {t : TypeId} (h : t = InT ∨ t = StT ∨ t = XpT ∨ t = CmT) : t ≠ MdT ∧ t ≠ TbT := by rcases h with rfl | rfl | rfl | rfl <;> exact ⟨by decide, by decide⟩
theorem Tab.add {B lo : Nat} {w : World} {tb room : Nat} {v : Value} {L : List ModX} (h : Tab B lo w tb room v L) (y : ModX) (hy : ModIn lo w y) (hf : ModFew y) (hr : L.length < room) (hB : B ≤ w.heap.size) :
    ∃ v' w2, (Builtin.append_ #[55, 55] 55 #[v, .slice (some ⟨w.heap.size, 0, none⟩) 1 1]).run Try.prog (w.alloc (.cells (mrow y).toArray MdT)) = .ok v' w2 ∧
      (w2.cell? ⟨tb, 1, none⟩ = some v ∧ w2.frozen? ⟨tb, 1, none⟩ = false ∧ ∃ a n c, v' = .slice a n c) ∧ Tab B lo (w2.setCell ⟨tb, 1, none⟩ v') tb room v' (L ++ [y]) ∧ Off B w (w2.setCell ⟨tb, 1, none⟩ v') := by
  obtain ⟨v', w2, q0, q1, q2, q3⟩ := more_one (T := 55) Try.underlying55 info_md rfl (by decide) mrow_len h.row y hy.at_.ones (by have := h.len; omega)
  have hd2 := h.head.keep q2 h.notb
  have kp := kept_set w2 tb 1 v'
  have hd3 := hd2.setCell 1 v'
  have hle := h.len
  refine ⟨v', w2, q0, ⟨hd2.cell 1, hd2.free 1, ?_⟩, ⟨hd3, q1.keep kp fun j hj e => ?_, fun x hx => ?_, fun x hx => ?_, by simp; omega, h.most, h.low, fun j hj => ?_⟩, ⟨?_, fun b t cs h1 h2 hb => ?_⟩⟩
  · obtain ⟨a, c, e, _⟩ := q1.shape
    exact ⟨a, _, c, e⟩
  · subst e
    exact q1.off hd2 (by decide) hj
  · have hm : ModIn lo w x := by
      rcases List.mem_append.1 hx with h1 | h1
      · exact h.mods x h1
      · rw [List.mem_singleton.1 h1]
        exact hy
    refine (hm.keep q2 fun u t k n cs hs _ ht j hj => h.mine hs (mineTypes ht).1 j hj).keep kp fun u t k n cs hs _ ht j hj e => ?_
    subst e
    exact hs.off hd2 (mineTypes ht).2 hj
  · rcases List.mem_append.1 hx with h1 | h1
    · exact h.fewm x h1
    · rw [List.mem_singleton.1 h1]
      exact hf
  · rcases q3 j hj with h1 | h1
    · exact h.rlow j h1
    · omega
  · exact kp.below (q2.below (.refl _ _) hB fun j _ hj => h.rlow j hj) (Nat.le_trans hB q2.more) fun j _ e => by rw [e]; exact h.low
  · refine (hb.keep q2 (h.other hb h2)).keep kp fun e => h1 ?_
    subst e
    exact hb.type_eq h.head
theorem Tab.del {B lo : Nat} {w w2 : World} {tb room b n cap : Nat} {A C : List ModX} {x : ModX} (h : Tab B lo w tb room (.slice (some ⟨b, 0, none⟩) n cap) (A ++ x :: C)) (kp : Kept (· = b) w w2) {rest : List Value} (hr : RowAt w2 b MdT (rows mrow (A ++ C) ++ rest)) (hl : (A ++ C).length * 13 + rest.length = cap * 13) (hB : B ≤ w.heap.size) :
    (w2.cell? ⟨tb, 1, none⟩ = some (.slice (some ⟨b, 0, none⟩) n cap) ∧ w2.frozen? ⟨tb, 1, none⟩ = false) ∧ Tab B lo (w2.setCell ⟨tb, 1, none⟩ (.slice (some ⟨b, 0, none⟩) (A ++ C).length cap)) tb room (.slice (some ⟨b, 0, none⟩) (A ++ C).length cap) (A ++ C) ∧ Off B w (w2.setCell ⟨tb, 1, none⟩ (.slice (some ⟨b, 0, none⟩) (A ++ C).length cap)) := by
  have hd2 := h.head.keep kp h.notb
  have ks := kept_set w2 tb 1 (.slice (some ⟨b, 0, none⟩) (A ++ C).length cap)
  have hd3 := hd2.setCell 1 (.slice (some ⟨b, 0, none⟩) (A ++ C).length cap)
  have hone : Ones (rows mrow (A ++ C)) := fun u hu => by
    obtain ⟨y, hm, hy⟩ := List.mem_flatMap.1 hu
    exact h.row.one u (List.mem_flatMap.2 ⟨y, by rcases List.mem_append.1 hm with h1 | h1 <;> simp [h1], hy⟩)
  have hcap : cap ≤ maxLen := by
    obtain ⟨a', c', e', _, h2⟩ := h.row.shape
    cases e'
    exact h2
  have hsub : ∀ y ∈ A ++ C, y ∈ A ++ x :: C := fun y hm => by rcases List.mem_append.1 hm with h1 | h1 <;> simp [h1]
  have hfew := h.few
  have htb : tb ≠ b := fun e => h.notb e
  refine ⟨⟨hd2.cell 1, hd2.free 1⟩, ⟨hd3, ⟨.inr ⟨b, cap, rest, rfl, hr.keep ks fun e => htb e.symm, hl, by omega, hcap⟩, rows_length 13 mrow_len _, hone⟩, fun y hy => ?_, fun y hy => h.fewm y (hsub y hy), ?_, h.most, h.low, fun j hj => h.rlow j hj⟩, ⟨?_, fun b' t cs h1 h2 hb => ?_⟩⟩
  · refine ((h.mods y (hsub y hy)).keep kp fun u t k n cs hs _ ht j hj => h.mine hs (mineTypes ht).1 j hj).keep ks fun u t k n cs hs _ ht j hj e => ?_
    subst e
    exact hs.off hd2 (mineTypes ht).2 hj
  · simp at hfew ⊢
    omega
  · exact ks.below (kp.below (.refl _ _) hB fun j _ hj => h.rlow j hj) (Nat.le_trans hB kp.more) fun j _ e => by rw [e]; exact h.low
  · refine (hb.keep kp (h.other hb h2)).keep ks fun e => h1 ?_
    subst e
    exact hb.type_eq h.head
end Go.Proofs.Ytiofplejpgahdaa
