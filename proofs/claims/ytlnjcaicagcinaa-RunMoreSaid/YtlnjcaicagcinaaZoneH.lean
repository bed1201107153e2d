/-
  Contracts of slices.Clone over ints, clone, declared (layer 6). No conditions beyond those that each theorem names.
-/
import Derived.Test.YtlnjcaicagcinaaZoneG
namespace Go.Proofs.Ytlnjcaicagcinaa
open Go.ChangeShapes Go.WideShapes Go.ChangeAt Go.RowKit

set_option maxRecDepth 100000 in
theorem infoI : (Try.prog.info? 3).map (fun i => (i.zero, i.size, i.bytes)) = some (some (.int .i64 0), 1, 8) := by kernel_rfl

theorem SRow.sealed {w : World} {v : Value} {xs : List Int} (h : SRow 3 1 w v xs.length (ivs xs)) (hf : ∀ x ∈ xs, (Lit.int .i64 x).wf = true) : ∃ s : Sl, v = s.v ∧ IntsAt w s xs ∧ Sealed w s ∧ (∀ j, own s.v j → own v j) := by
  have h0 := h.is
  obtain ⟨s, rfl, hi⟩ := h.ints hf
  refine ⟨s, rfl, hi, ?_, fun j hj => hj⟩
  rcases h0 with ⟨e, _⟩ | ⟨b, cap, rest, e, hr, _⟩
  · left
    obtain ⟨a, n, c⟩ := s
    simp [Sl.v] at e
    simpa using e.2.1
  · right
    obtain ⟨a, n, c⟩ := s
    simp [Sl.v] at e
    exact ⟨b, _, by simpa using e.1, hr⟩

set_option maxRecDepth 100000 in
theorem iclone_any (s : Sl) (xs : List Int) (w : World) (h : IntsAt w s xs) (small : xs.length ≤ 1000) :
    Calls Try.prog 44 #[s.v] w fun e w' => ∃ s' : Sl, e = .returned s'.v ∧ IntsAt w' s' xs ∧ Sealed w' s' ∧ Kept (fun _ => False) w w' := by
  obtain ⟨a, n, cap⟩ := s
  have hl := h.len
  have hc := h.cap
  simp only at hl hc
  cases a with
  | none =>
    have h0 : cap = 0 := h.nil0 rfl
    have hn : n = 0 := by omega
    subst h0
    subst hn
    have hx : xs = [] := List.eq_nil_of_length_eq_zero (by omega)
    subst hx
    have hq := Lib.run_eql_slice_nil (P := Try.prog) w 36 3 none 0 0 0 0 Try.underlying36
    have RES : Hid (IntsAt w ⟨none, 0, 0⟩ []) := h
    clear h hl hc small
    show Calls Try.prog 44 #[.slice none 0 0] w _
    go_enter Try.func44, Try.ntmps44
    go_wp2_with fail
    go_ret
    exact ⟨⟨none, 0, 0⟩, rfl, RES.out, .inl rfl, Kept.refl _ _⟩
  | some ad =>
    have n0 : SRow 3 1 (w.alloc (.cells #[] 3)) (.slice (some ⟨w.heap.size, 0, none⟩) 0 0) 0 [] := ⟨.inr ⟨w.heap.size, 0, [], rfl, RowAt.new w 3 [], by simp, Nat.le_refl _, by simp [maxLen]⟩, rfl, fun _ h => by cases h⟩
    have k0 : Kept (fun _ => False) w (w.alloc (.cells #[] 3)) := (Kept.refl _ w).alloc _
    have hs := (h.on ((Below.refl _ _).alloc (Nat.le_refl _) (.cells #[] 3))).src (P := Try.prog) Try.underlying36
    obtain ⟨v', w', hr', q1, q2, q3, q4⟩ := n0.append (P := Try.prog) 36 36 Try.underlying36 infoI rfl (by omega) hs (.inr (by simp)) (by simp only; omega)
    have hq := Lib.run_eql_slice_nil (P := Try.prog) w 36 3 (some ad) n cap 0 0 Try.underlying36
    have q5 : SRow 3 1 w' v' (0 + n) ([] ++ ivs xs) := q1
    rw [List.nil_append, Nat.zero_add, hl] at q5
    obtain ⟨s', rfl, hi, hse, _⟩ := q5.sealed h.fit
    have RES : Hid (IntsAt w' s' xs ∧ Sealed w' s' ∧ Kept (fun _ => False) w w') :=
      ⟨hi, hse, k0.then q2 (fun k hk ht => by simp [own] at ht; omega)⟩
    clear h n0 k0 hs q1 q5 q2 q3 q4 hi hse hl
    show Calls Try.prog 44 #[.slice (some ad) n cap] w _
    go_enter Try.func44, Try.ntmps44
    go_wp2_with (at_builtin; refine Lib.wpList_append_run _ rfl _ _ _ _ rfl _ _ rfl rfl _ _ hr' ?_)
    go_ret
    exact ⟨s', rfl, RES.out⟩

abbrev No : Nat → Prop := fun _ => False
theorem Sl.mk_v (a : Option Addr) (n c : Nat) : (Sl.mk a n c).v = .slice a n c := rfl

theorem Sealed.keep {S : Nat → Prop} {w w' : World} {s : Sl} (h : Sealed w s) (k : Kept S w w') (hS : ∀ b cs, RowAt w b 3 cs → ¬ S b) : Sealed w' s := by
  rcases h with h0 | ⟨b, cs, ha, hr⟩
  · exact .inl h0
  · exact .inr ⟨b, cs, ha, hr.keep k (hS b cs hr)⟩
/- behind the two clones -/
theorem clone_end {w w2 : World} {B : Nat} {x : ZR} (p q : Sl) (r2 : RowAt w2 B ZT x.el.cs) (rz : RowAt w2 (B + 1) ZT zeros6) (i1 : IntsAt w2 p x.z.P) (s1 : Sealed w2 p) (i2 : IntsAt w2 q x.z.Q) (s2 : Sealed w2 q) (k : Kept No w w2) (hB : w.heap.size ≤ B) :
    Six ((w2.setCell ⟨B, 4, none⟩ p.v).setCell ⟨B, 5, none⟩ q.v) B 0 ⟨x.z, p, q⟩ ∧
    (Instr.storeAt ZT (.pointer (some ⟨B + 1, 0, none⟩)) (.agg #[.int .i64 x.z.b, .int .i64 x.z.d, .int .i64 x.z.r, .int .i64 x.z.e, p.v, q.v])).run Try.prog ((w2.setCell ⟨B, 4, none⟩ p.v).setCell ⟨B, 5, none⟩ q.v) =
      .ok () (((w2.setCell ⟨B, 4, none⟩ p.v).setCell ⟨B, 5, none⟩ q.v).setRow (B + 1) (ZR.el ⟨x.z, p, q⟩).cs.toArray) ∧
    Six (((w2.setCell ⟨B, 4, none⟩ p.v).setCell ⟨B, 5, none⟩ q.v).setRow (B + 1) (ZR.el ⟨x.z, p, q⟩).cs.toArray) (B + 1) 0 ⟨x.z, p, q⟩ ∧
    Stored (((w2.setCell ⟨B, 4, none⟩ p.v).setCell ⟨B, 5, none⟩ q.v).setRow (B + 1) (ZR.el ⟨x.z, p, q⟩).cs.toArray) ⟨x.z, p, q⟩ ∧
    Kept No w (((w2.setCell ⟨B, 4, none⟩ p.v).setCell ⟨B, 5, none⟩ q.v).setRow (B + 1) (ZR.el ⟨x.z, p, q⟩).cs.toArray) := by
  have r3 : RowAt _ B ZT (ZR.el ⟨x.z, p, q⟩).cs := (r2.setCell 4 p.v).setCell 5 q.v
  have k1 : Kept (fun j => j = B ∨ j = B + 1) w2 ((w2.setCell ⟨B, 4, none⟩ p.v).setCell ⟨B, 5, none⟩ q.v) :=
    ((Kept.refl _ _).setCell (p := ⟨B, 4, none⟩) (fun _ => .inl rfl) _).setCell (p := ⟨B, 5, none⟩) (fun _ => .inl rfl) _
  have k1' : Kept (fun j => j = B) w2 ((w2.setCell ⟨B, 4, none⟩ p.v).setCell ⟨B, 5, none⟩ q.v) :=
    Kept.setCell (S := fun j => j = B) (Kept.setCell (S := fun j => j = B) (Kept.refl _ _) (p := ⟨B, 4, none⟩) (fun _ => rfl) _) (p := ⟨B, 5, none⟩) (fun _ => rfl) _
  have rz3 := rz.keep k1' (by omega)
  have k2 := k1.setRow (g := B + 1) (fun _ => .inr rfl) (ZR.el ⟨x.z, p, q⟩).cs.toArray
  have st : Stored w2 ⟨x.z, p, q⟩ := ⟨i1, i2, s1, s2⟩
  refine ⟨cells_zone r3, store_zone rz3 rfl ⟨x.z, p, q⟩, cells_zone (rz3.set _), st.keep k2 fun b cs hr hb => ?_, k.then k2 fun j hj hb => by omega⟩
  rcases hb with rfl | rfl
  · exact (hr.ne_type r2 (by decide)) rfl
  · exact (hr.ne_type rz (by decide)) rfl

set_option maxRecDepth 100000 in
set_option maxHeartbeats 4000000 in
theorem clone_any (x : ZR) (w : World) (hp : IntsAt w x.p x.z.P) (hq : IntsAt w x.q x.z.Q) (sp : x.z.P.length ≤ 1000) (sq : x.z.Q.length ≤ 1000) :
    Calls Try.prog 29 #[x.v] w fun e w' => ∃ y : ZR, e = .returned y.v ∧ y.z = x.z ∧ Stored w' y ∧ Kept No w w' := by
  have HP : Hid (∀ W, Kept No w W → Calls Try.prog 44 #[x.p.v] W fun e w' => ∃ a n c, e = .returned (.slice a n c) ∧ IntsAt w' ⟨a, n, c⟩ x.z.P ∧ Sealed w' ⟨a, n, c⟩ ∧ Kept No W w') :=
    fun W hk => (iclone_any x.p x.z.P W (hp.on hk.none) sp).mono fun _ _ ⟨s, h⟩ => ⟨s.a, s.n, s.cap, h⟩
  have HQ : Hid (∀ W, Kept No w W → Calls Try.prog 44 #[x.q.v] W fun e w' => ∃ a n c, e = .returned (.slice a n c) ∧ IntsAt w' ⟨a, n, c⟩ x.z.Q ∧ Sealed w' ⟨a, n, c⟩ ∧ Kept No W w') :=
    fun W hk => (iclone_any x.q x.z.Q W (hq.on hk.none) sq).mono fun _ _ ⟨s, h⟩ => ⟨s.a, s.n, s.cap, h⟩
  clear hp hq sp sq
  show Calls Try.prog 29 #[.agg #[.int .i64 x.z.b, .int .i64 x.z.d, .int .i64 x.z.r, .int .i64 x.z.e, x.p.v, x.q.v]] w _
  obtain ⟨z, pa, qa⟩ := x
  obtain ⟨b, d, r, e, P, Q⟩ := z
  simp only at HP HQ ⊢
  have HX : Hid (∀ W, RowAt W w.heap.size ZT [.int .i64 b, .int .i64 d, .int .i64 r, .int .i64 e, pa.v, qa.v] → RowAt W w.heap.size ZT (ZR.el ⟨⟨b, d, r, e, P, Q⟩, pa, qa⟩).cs) := fun _ h => h
  generalize pa.v = pv at *
  generalize qa.v = qv at *
  go_enter Try.func29, Try.ntmps29
  go_wp2_with fail
  obtain ⟨W0, hW0⟩ : ∃ W0, W0 = (w.alloc (.cells #[.int .i64 b, .int .i64 d, .int .i64 r, .int .i64 e, pv, qv] ZT)).alloc (.cells #[.int .i64 0, .int .i64 0, .int .i64 0, .int .i64 0, .slice none 0 0, .slice none 0 0] ZT) := ⟨_, rfl⟩
  rw [← hW0]
  have K0 : Hid (Kept No w W0) := by rw [hW0]; exact ((Kept.refl _ _).alloc _).alloc _
  have r0 : RowAt W0 w.heap.size ZT [.int .i64 b, .int .i64 d, .int .i64 r, .int .i64 e, pv, qv] := by rw [hW0]; exact (RowAt.new w ZT _).keep (S := No) ((Kept.refl _ _).alloc _) (fun h => h)
  have R1 : Hid (∀ W, Kept No W0 W → RowAt W (w.heap.size + 1) ZT zeros6) := fun W hk => by
    have h := RowAt.new (w.alloc (.cells #[.int .i64 b, .int .i64 d, .int .i64 r, .int .i64 e, pv, qv] ZT)) ZT zeros6
    rw [show (w.alloc (.cells #[.int .i64 b, .int .i64 d, .int .i64 r, .int .i64 e, pv, qv] ZT)).heap.size = w.heap.size + 1 by simp] at h
    exact RowAt.keep (show RowAt W0 (w.heap.size + 1) ZT zeros6 by rw [hW0]; exact h) hk (fun h => h)
  have R0 : Hid (∀ W, Kept No W0 W → RowAt W w.heap.size ZT [.int .i64 b, .int .i64 d, .int .i64 r, .int .i64 e, pv, qv]) := fun W hk => r0.keep hk (fun h => h)
  have c4 := r0.cell 4
  have c5 := r0.cell 5
  simp only [List.getElem?_cons_succ, List.getElem?_cons_zero] at c4 c5
  clear hW0 r0
  go_region_with (first
    | (go_at_call 44; refine (HP.out _ (by first | exact K0.out | exact K0.out.drew)).mono ?_; rintro e1 w1 ⟨a1, n1, k1, rfl, hi1, hs1, hk1⟩;
       have j1 : Kept No W0 w1 := (by first | exact hk1 | exact ((Kept.refl _ _).drew).trans hk1);
       have d5 := (R0.out _ j1).cell 5;
       simp only [List.getElem?_cons_succ, List.getElem?_cons_zero] at d5;
       have J1 := Lib.hid j1; have I1 := Lib.hid hi1; have S1 := Lib.hid hs1; clear hi1 hs1 hk1 j1)
    | (go_at_call 44; refine (HQ.out _ (by first | exact K0.out.trans J1.out | exact K0.out.trans J1.out.drew)).mono ?_; rintro e2 w2 ⟨a2, n2, k2, rfl, hi2, hs2, hk2⟩;
       have j2 : Kept No w1 w2 := (by first | exact hk2 | exact ((Kept.refl _ _).drew).trans hk2);
       have r2 := R0.out _ (J1.out.trans j2);
       have d4 := r2.cell 4;
       have d6 := r2.cell 5;
       simp only [List.getElem?_cons_succ, List.getElem?_cons_zero] at d4 d6;
       have f2 := r2.free;
       have J2 := Lib.hid j2; have I2 := Lib.hid hi2; have S2 := Lib.hid hs2; clear hi2 hs2 hk2 j2 r2))
  all_goals
    clear c4 c5 d5 d4 d6 f2
    obtain ⟨⟨t0, t1, t2, t3, t4, t5⟩, hst, ⟨u0, u1, u2, u3, u4, u5⟩, hsd, hkk⟩ := clone_end ⟨a1, n1, k1⟩ ⟨a2, n2, k2⟩ (HX.out _ (R0.out _ (J1.out.trans J2.out))) (R1.out _ (J1.out.trans J2.out)) (I1.out.on J2.out.none) (S1.out.keep J2.out (fun _ _ _ h => h)) I2.out S2.out (K0.out.trans (J1.out.trans J2.out)) (Nat.le_refl _)
    simp only [Sl.mk_v, Nat.zero_add] at t0 t1 t2 t3 t4 t5 hst u0 u1 u2 u3 u4 u5 hsd hkk
    have HST := Lib.hid hst
    have HSD := Lib.hid hsd
    have HKK := Lib.hid hkk
    clear hst hsd hkk
    generalize (w2.setCell ⟨w.heap.size, 4, none⟩ (.slice a1 n1 k1)).setCell ⟨w.heap.size, 5, none⟩ (.slice a2 n2 k2) = wf at *
    go_wp2_with (refine wpList_store_run _ rfl _ _ _ rfl _ _ rfl rfl (by exact HST.out) ?_)
    exact bodyPost_ret (v := .agg #[.int .i64 b, .int .i64 d, .int .i64 r, .int .i64 e, .slice a1 n1 k1, .slice a2 n2 k2]) (by simp [results, Try.results29, go_sem, u0, u1, u2, u3, u4, u5]) rfl ⟨⟨⟨b, d, r, e, P, Q⟩, ⟨a1, n1, k1⟩, ⟨a2, n2, k2⟩⟩, rfl, rfl, HSD.out, HKK.out⟩
end Go.Proofs.Ytlnjcaicagcinaa
