/-
  The document's zones (dowelref05): MayZone. No conditions beyond those that the theorem names.
-/
import Derived.Test.YtlnjcaicagcinaaGreatRefU
namespace Go.Proofs.YtlnjcaicagcinaaGreat
open Go.ChangeShapes Go.WideShapes Go.ChangeAt Go.RowKit

theorem nodup_take (xs : List Int) : xs.Nodup ↔ ∀ i u, xs[i]? = some u → u ∉ xs.take i := by
  constructor
  · intro hn i u hu hm
    obtain ⟨hi, rfl⟩ := List.getElem?_eq_some_iff.1 hu
    have e : xs = xs.take i ++ xs[i] :: xs.drop (i + 1) := by rw [← List.drop_eq_getElem_cons hi, List.take_append_drop]
    rw [e] at hn
    exact (List.nodup_append.1 hn).2.2 _ hm xs[i] List.mem_cons_self rfl
  · intro h
    refine List.pairwise_iff_getElem.2 fun i j hi hj hij e => ?_
    refine h j xs[j] (List.getElem?_eq_getElem hj) ?_
    rw [← e]
    refine List.mem_iff_getElem?.2 ⟨i, ?_⟩
    rw [List.getElem?_take_of_lt hij, List.getElem?_eq_getElem hi]
theorem fine_cells (z : ZV) (hb : blockZ z = true) : (Fine z z.P z.Q ∧ Fine z z.Q z.P) ↔ cellsOk z := by
  have bz := (blockZ_iff z).1 hb
  have key : ∀ u : Int, (z.b ≤ u ∧ u < z.d ∧ u % 4 = 0) ↔ cellOk z u = true := fun u => by
    rw [cellOk_iff]
    omega
  constructor
  · rintro ⟨h1, h2⟩
    refine ⟨⟨(nodup_take _).2 fun i u hu => (h1 i u hu).2.1, fun u hu => ?_⟩, ⟨(nodup_take _).2 fun i u hu => (h2 i u hu).2.1, fun u hu => ?_⟩⟩
    · obtain ⟨i, hi⟩ := List.getElem?_of_mem hu
      exact ⟨(key u).1 (h1 i u hi).1, rfl⟩
    · obtain ⟨i, hi⟩ := List.getElem?_of_mem hu
      exact ⟨(key u).1 (h2 i u hi).1, by unfold upd; rw [if_neg (h2 i u hi).2.2]⟩
  · rintro ⟨h1, h2⟩
    refine ⟨fun i u hu => ⟨(key u).2 (h1.2 u (List.mem_of_getElem? hu)).1, (nodup_take _).1 h1.1 i u hu, fun hq => ?_⟩, fun i u hu => ⟨(key u).2 (h2.2 u (List.mem_of_getElem? hu)).1, (nodup_take _).1 h2.1 i u hu, ?_⟩⟩
    · exact (upd_ne (h2.2 u hq).2 (by decide)).1 (List.mem_of_getElem? hu)
    · exact (upd_ne (h2.2 u (List.mem_of_getElem? hu)).2 (by decide)).1
def MayZ (z : ZV) : Prop := blockZ z = true ∧ cellsOk z

set_option maxRecDepth 100000 in
set_option maxHeartbeats 4000000 in
theorem mayzone_any (x : ZR) (w : World) (hp : IntsAt w x.p x.z.P) (hq : IntsAt w x.q x.z.Q) (sp : x.z.P.length ≤ 100) (sq : x.z.Q.length ≤ 100) :
    Calls Tryz.prog 45 #[x.v] w fun e w' => ((MayZ x.z ∧ e = .returned (.bool true)) ∨ (¬ MayZ x.z ∧ e = .returned (.bool false))) ∧ Kept No w w' := by
  have HBZ := Lib.hid (blockZ_iff x.z)
  have NO : Hid (blockZ x.z ≠ true → ¬ MayZ x.z) := fun h hm => h hm.1
  have HFC := Lib.hid (fine_cells x.z)
  obtain ⟨W0, hW0⟩ : ∃ W0, W0 = w.alloc (.cells #[.int .i64 x.z.b, .int .i64 x.z.d, .int .i64 x.z.r, .int .i64 x.z.e, x.p.v, x.q.v] RZT) := ⟨_, rfl⟩
  have hr : RowAt W0 w.heap.size RZT x.el.cs := by rw [hW0]; exact RowAt.new w RZT x.el.cs
  have k0 : Kept No w W0 := by rw [hW0]; exact (Kept.refl _ _).alloc _
  have H6 : Hid (∀ W, Kept No W0 W → Six W w.heap.size 0 x) := fun W hk => cells_zone (t := RZT) (hr.keep hk (fun h => h))
  have HF1 : Hid (∀ W, Kept No W0 W → Calls Tryz.prog 78 #[x.v, x.p.v, x.q.v] W fun e w' => ((Fine x.z x.z.P x.z.Q ∧ e = .returned (.bool true)) ∨ (¬ Fine x.z x.z.P x.z.Q ∧ e = .returned (.bool false))) ∧ Kept No W w') := fun W hk =>
    fine_any x x.p x.q x.z.P x.z.Q W (hp.on (k0.trans hk).none) (hq.on (k0.trans hk).none) sp
  have HF2 : Hid (∀ W, Kept No W0 W → Calls Tryz.prog 78 #[x.v, x.q.v, x.p.v] W fun e w' => ((Fine x.z x.z.Q x.z.P ∧ e = .returned (.bool true)) ∨ (¬ Fine x.z x.z.Q x.z.P ∧ e = .returned (.bool false))) ∧ Kept No W w') := fun W hk =>
    fine_any x x.q x.p x.z.Q x.z.P W (hq.on (k0.trans hk).none) (hp.on (k0.trans hk).none) sq
  have K0 := Lib.hid k0
  have q1 := tm4n x.z.b
  have q2 := tm4n x.z.d
  have q3 := tm4n x.z.r
  have q4 := tm4n x.z.e
  obtain ⟨t0, t1, t2, t3, t4, t5⟩ := H6.out W0 (Kept.refl _ _)
  simp only [Nat.zero_add] at t1 t2 t3 t4 t5
  show Calls Tryz.prog 45 #[.agg #[.int .i64 x.z.b, .int .i64 x.z.d, .int .i64 x.z.r, .int .i64 x.z.e, x.p.v, x.q.v]] w _
  clear hp hq sp sq hr k0
  by_cases c1 : x.z.b < 272
  · have HNo := Lib.hid (NO.out (fun h => by have := HBZ.out.1 h; omega))
    go_enter Tryz.func45, Tryz.ntmps45
    go_wp2_with fail
    go_ret
    exact ⟨.inr ⟨HNo.out, rfl⟩, by rw [← hW0]; exact K0.out⟩
  have g1 : decide (x.z.b < 272) = false := by simpa using c1
  by_cases c2 : x.z.d < x.z.b
  · have HNo := Lib.hid (NO.out (fun h => by have := HBZ.out.1 h; omega))
    go_enter Tryz.func45, Tryz.ntmps45
    go_wp2_with fail
    go_ret
    exact ⟨.inr ⟨HNo.out, rfl⟩, by rw [← hW0]; exact K0.out⟩
  have g2 : decide (x.z.d < x.z.b) = false := by simpa using c2
  by_cases c3 : x.z.r < x.z.d
  · have HNo := Lib.hid (NO.out (fun h => by have := HBZ.out.1 h; omega))
    go_enter Tryz.func45, Tryz.ntmps45
    go_wp2_with fail
    go_ret
    exact ⟨.inr ⟨HNo.out, rfl⟩, by rw [← hW0]; exact K0.out⟩
  have g3 : decide (x.z.r < x.z.d) = false := by simpa using c3
  by_cases c4 : x.z.e < x.z.r
  · have HNo := Lib.hid (NO.out (fun h => by have := HBZ.out.1 h; omega))
    go_enter Tryz.func45, Tryz.ntmps45
    go_wp2_with fail
    go_ret
    exact ⟨.inr ⟨HNo.out, rfl⟩, by rw [← hW0]; exact K0.out⟩
  have g4 : decide (x.z.e < x.z.r) = false := by simpa using c4
  by_cases c5 : 65536 < x.z.e
  · have HNo := Lib.hid (NO.out (fun h => by have := HBZ.out.1 h; omega))
    go_enter Tryz.func45, Tryz.ntmps45
    go_wp2_with fail
    go_ret
    exact ⟨.inr ⟨HNo.out, rfl⟩, by rw [← hW0]; exact K0.out⟩
  have g5 : decide (65536 < x.z.e) = false := by simpa using c5
  by_cases c6 : x.z.b = x.z.e
  · have g6 : (x.z.b == x.z.e) = true := by simpa using c6
    have HNo := Lib.hid (NO.out (fun h => by have := HBZ.out.1 h; omega))
    clear c6
    go_enter Tryz.func45, Tryz.ntmps45
    go_wp2_with fail
    go_ret
    exact ⟨.inr ⟨HNo.out, rfl⟩, by rw [← hW0]; exact K0.out⟩
  have g6 : (x.z.b == x.z.e) = false := by simpa using c6
  cases m1 : aligned x.z.b with
  | false =>
    have HNo := Lib.hid (NO.out (fun h => by have := HBZ.out.1 h; simp [aligned] at m1; omega))
    rw [m1, Bool.not_false] at q1
    have p1 : (x.z.b % 4 != 0) = true := by simp [aligned] at m1; simpa using m1
    go_enter Tryz.func45, Tryz.ntmps45
    go_wp2_with fail
    go_ret
    exact ⟨.inr ⟨HNo.out, rfl⟩, by rw [← hW0]; exact K0.out⟩
  | true =>
    rw [m1, Bool.not_true] at q1
    have p1 : (x.z.b % 4 != 0) = false := by simp [aligned] at m1; simpa using m1
    cases m2 : aligned x.z.d with
    | false =>
      have HNo := Lib.hid (NO.out (fun h => by have := HBZ.out.1 h; simp [aligned] at m2; omega))
      rw [m2, Bool.not_false] at q2
      have p2 : (x.z.d % 4 != 0) = true := by simp [aligned] at m2; simpa using m2
      go_enter Tryz.func45, Tryz.ntmps45
      go_wp2_with fail
      go_ret
      exact ⟨.inr ⟨HNo.out, rfl⟩, by rw [← hW0]; exact K0.out⟩
    | true =>
      rw [m2, Bool.not_true] at q2
      have p2 : (x.z.d % 4 != 0) = false := by simp [aligned] at m2; simpa using m2
      cases m3 : aligned x.z.r with
      | false =>
        have HNo := Lib.hid (NO.out (fun h => by have := HBZ.out.1 h; simp [aligned] at m3; omega))
        rw [m3, Bool.not_false] at q3
        have p3 : (x.z.r % 4 != 0) = true := by simp [aligned] at m3; simpa using m3
        go_enter Tryz.func45, Tryz.ntmps45
        go_wp2_with fail
        go_ret
        exact ⟨.inr ⟨HNo.out, rfl⟩, by rw [← hW0]; exact K0.out⟩
      | true =>
        rw [m3, Bool.not_true] at q3
        have p3 : (x.z.r % 4 != 0) = false := by simp [aligned] at m3; simpa using m3
        cases m4 : aligned x.z.e with
        | false =>
          have HNo := Lib.hid (NO.out (fun h => by have := HBZ.out.1 h; simp [aligned] at m4; omega))
          rw [m4, Bool.not_false] at q4
          have p4 : (x.z.e % 4 != 0) = true := by simp [aligned] at m4; simpa using m4
          go_enter Tryz.func45, Tryz.ntmps45
          go_wp2_with fail
          go_ret
          exact ⟨.inr ⟨HNo.out, rfl⟩, by rw [← hW0]; exact K0.out⟩
        | true =>
          rw [m4, Bool.not_true] at q4
          have p4 : (x.z.e % 4 != 0) = false := by simp [aligned] at m4; simpa using m4
          have hbz : blockZ x.z = true := by
            refine HBZ.out.2 ?_
            simp [aligned] at m1 m2 m3 m4
            omega
          have HB := Lib.hid hbz
          clear hbz m1 m2 m3 m4 c6
          go_enter Tryz.func45, Tryz.ntmps45
          go_wp2_with fail
          rw [← hW0]
          clear hW0
          refine (HF1.out _ (Kept.refl _ _)).mono ?_
          rintro e w1 ⟨hres1, hk1⟩
          have K1 := Lib.hid hk1
          obtain ⟨u0, u1, u2, u3, u4, u5⟩ := H6.out w1 hk1
          simp only [Nat.zero_add] at u1 u2 u3 u4 u5
          obtain ⟨r1, rfl, hr1⟩ : ∃ r1 : Bool, e = .returned (.bool r1) ∧ (r1 = true ↔ Fine x.z x.z.P x.z.Q) := by
            rcases hres1 with ⟨h, rfl⟩ | ⟨h, rfl⟩
            · exact ⟨true, rfl, by simp [h]⟩
            · exact ⟨false, rfl, by simp [h]⟩
          have HR1 := Lib.hid hr1
          clear hk1 hres1 hr1
          go_wp2_with fail
          refine (HF2.out _ K1.out).mono ?_
          rintro e w2 ⟨hres2, hk2⟩
          have K2 := Lib.hid hk2
          obtain ⟨r2, rfl, hr2⟩ : ∃ r2 : Bool, e = .returned (.bool r2) ∧ (r2 = true ↔ Fine x.z x.z.Q x.z.P) := by
            rcases hres2 with ⟨h, rfl⟩ | ⟨h, rfl⟩
            · exact ⟨true, rfl, by simp [h]⟩
            · exact ⟨false, rfl, by simp [h]⟩
          have HR2 := Lib.hid hr2
          clear hk2 hres2 hr2
          cases r1 with
          | false =>
            have HNo : Hid (¬ MayZ x.z) := fun hm => by have := HR1.out.2 ((HFC.out HB.out).2 hm.2).1; cases this
            go_wp2_with fail
            go_ret
            exact ⟨.inr ⟨HNo.out, rfl⟩, K0.out.trans (K1.out.trans K2.out)⟩
          | true =>
            cases r2 with
            | false =>
              have HNo : Hid (¬ MayZ x.z) := fun hm => by have := HR2.out.2 ((HFC.out HB.out).2 hm.2).2; cases this
              go_wp2_with fail
              go_ret
              exact ⟨.inr ⟨HNo.out, rfl⟩, K0.out.trans (K1.out.trans K2.out)⟩
            | true =>
              have HYes : Hid (MayZ x.z) := ⟨HB.out, (HFC.out HB.out).1 ⟨HR1.out.1 rfl, HR2.out.1 rfl⟩⟩
              go_wp2_with fail
              go_ret
              exact ⟨.inl ⟨HYes.out, rfl⟩, K0.out.trans (K1.out.trans K2.out)⟩
end Go.Proofs.YtlnjcaicagcinaaGreat
