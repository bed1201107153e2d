/-
  The contract of Remove (layer 6). No conditions beyond those that each theorem names.
-/
import Derived.Test.YticancimnhnhbaaZoneJ
import Derived.Test.YticancimnhnhbaaZoneQ
namespace Go.Proofs.Yticancimnhnhbaa
open Go.ChangeShapes Go.WideShapes Go.ChangeAt Go.RowKit

theorem remove_end {w w4 w5 w8 : World} {zp mb n : Nat} {lv v' : Value} {A B : List ZR} {y : ZR} (h : ZAt w zp mb lv (A ++ y :: B) n)
    (k4 : Kept No w w4) (k5 : Kept (· = mb) w4 w5) (m5 : MapIs w5 mb n (upd (kindOf ((A ++ y :: B).map ZR.z)) (y.z.P ++ y.z.Q) 0))
    (hdel : SRow ZT 6 w8 v' (A ++ B).length (zcs (A ++ B))) (k8 : Kept (own lv) w5 w8) (ho : ∀ j, own v' j → own lv j) :
    ZAt (w8.setCell ⟨zp, 0, none⟩ v') zp mb v' (A ++ B) n ∧ Kept (Own3 zp mb lv) w (w8.setCell ⟨zp, 0, none⟩ v') := by
  have hnm : zp ≠ mb := h.head.ne_map h.cells
  have hlm : ∀ j, own lv j → j ≠ mb := fun j hj => by obtain ⟨ds, hr⟩ := h.list.own_row j hj; exact hr.ne_map h.cells
  have hlz : ∀ j, own lv j → j ≠ zp := fun j hj => by obtain ⟨ds, hr⟩ := h.list.own_row j hj; exact hr.ne_type h.head (by decide)
  have k48 : Kept (fun j => j = mb ∨ own lv j) w w8 := (((Kept.then (S := fun j => j = mb ∨ own lv j) (Kept.refl _ _) k4 (fun _ _ h => h.elim)).then k5 (fun _ _ h => .inl h)).then k8 (fun _ _ h => .inr h))
  have hh8 : RowAt w8 zp 72 [lv, .map (some mb)] := h.head.keep k48 (fun hj => by rcases hj with hj | hj; exact hnm hj; exact hlz zp hj rfl)
  have ks := kept_set w8 zp 0 v'
  have hvz : ∀ j, own v' j → j ≠ zp := fun j hj => hlz j (ho j hj)
  have k49 : Kept (Own3 zp mb lv) w (w8.setCell ⟨zp, 0, none⟩ v') := (Kept.then (S := Own3 zp mb lv) (Kept.refl _ _) k48 (fun _ _ h => .inr h)).then ks (fun _ _ h => .inl h)
  have k59 : Kept (fun j => own lv j ∨ j = zp) w5 (w8.setCell ⟨zp, 0, none⟩ v') := (Kept.then (S := fun j => own lv j ∨ j = zp) (Kept.refl _ _) k8 (fun _ _ h => .inl h)).then ks (fun _ _ h => .inr h)
  have gm := h.good
  rw [List.map_append, List.map_cons] at gm
  refine ⟨⟨hh8.setCell 0 v', hdel.keep ks (fun j hj => hvz j hj), ?_, ?_, fun u hu => ?_, ?_⟩, k49⟩
  · refine (m5.keep k59 ?_).ext fun u => ?_
    · rintro (hj | hj)
      · exact hlm mb hj rfl
      · exact hnm hj.symm
    · rw [List.map_append, List.map_append, List.map_cons, kindOf_without gm u]
      rfl
  · rw [List.map_append]
    exact gm.sub
  · refine (h.read u ?_).keep k49 fun b cs hr hj => ?_
    · simp at hu ⊢
      rcases hu with hu | hu <;> simp [hu]
    · rcases hj with hj | hj | hj
      · exact (hr.ne_type h.head (by decide)) hj
      · exact (hr.ne_map h.cells) hj
      · obtain ⟨ds, hr'⟩ := h.list.own_row b hj
        exact (hr.ne_type hr' (by decide)) rfl
  · have := h.small
    simp at this ⊢
    omega

theorem at_split {L : List ZR} {A B : List ZR} {y : ZR} {i : Nat} {a : Int} (e : L = A ++ y :: B) (hr : Rising L) (hy : y.z.b = a) (h1 : ∀ k x, L[k]? = some x → k < i → x.z.b < a) (h2 : ∀ k x, L[k]? = some x → i ≤ k → a ≤ x.z.b) : i = A.length := by
  have hyA : L[A.length]? = some y := by rw [e]; simp
  rcases Nat.lt_trichotomy i A.length with h | h | h
  · have hi : i < L.length := by rw [e]; simp; omega
    have hx : L[i]? = some L[i] := List.getElem?_eq_getElem hi
    have := h2 i _ hx (Nat.le_refl _)
    have := hr i A.length _ y hx hyA h
    omega
  · exact h
  · have := h1 _ y hyA h
    omega

set_option maxRecDepth 100000 in
set_option maxHeartbeats 2000000 in
theorem remove_no (zp mb : Nat) (lv : Value) (L : List ZR) (n : Nat) (a : Int) (w : World) (h : ZAt w zp mb lv L n) (hno : ∀ y ∈ L, y.z.b ≠ a) :
    Calls Try.prog 10 #[.pointer (some ⟨zp, 0, none⟩), .int .i64 a] w fun e w' => e = .returned (.bool false) ∧ Kept No w w' := by
  have HP := Lib.hid (zbelow_any zp mb lv L n a w h)
  have hlt := h.head.lt
  obtain ⟨sa, c, rfl, hc1, hc2⟩ := h.list.shape
  have H1 := Lib.hid h
  have HN := Lib.hid hno
  have hsm := h.small
  clear h hno
  generalize hn : L.length = N at *
  have HL := Lib.hid hn
  clear hn
  go_enter Try.func10, Try.ntmps10
  go_wp2_with fail
  refine HP.out.mono ?_
  rintro e w1 ⟨⟨i, rfl, hi, q1, q2⟩, hb⟩
  have h2 := H1.out.on hb
  have c0 := h2.h0
  have HB := Lib.hid (Kept.of_below (S := No) hb)
  by_cases hlt2 : i < N
  · obtain ⟨x, hx⟩ : ∃ x, L[i]? = some x := ⟨_, List.getElem?_eq_getElem (by rw [HL.out]; exact hlt2)⟩
    obtain ⟨b, cap, hv, hbl, hcap1, hcap2, hcs⟩ := h2.list.cell (by rw [HL.out]; omega)
    rw [HL.out] at hv
    cases hv
    obtain ⟨s0, s1, s2, s3, s4, s5⟩ := six_of rfl hcs hx
    have hq : (x.z.b == a) = false := by simpa using HN.out x (List.mem_of_getElem? hx)
    have hq' : (x.z.b != a) = true := by simp [bne, hq]
    have e1 : (i : Int) < (N : Int) := by omega
    have e2 : (0 : Int) ≤ (i : Int) := by omega
    have e3 : ((i : Int) == (N : Int)) = false := by simp; omega
    clear h2 hcs hx q1 q2 hb
    go_wp2_with fail
    go_ret
    exact ⟨rfl, HB.out⟩
  · have e3 : ((i : Int) == (N : Int)) = true := by simp; omega
    clear h2 q1 q2 hb
    go_wp2_with fail
    go_ret
    exact ⟨rfl, HB.out⟩

set_option maxRecDepth 100000 in
set_option maxHeartbeats 8000000 in
theorem remove_yes (zp mb : Nat) (lv : Value) (A B : List ZR) (y : ZR) (n : Nat) (w : World) (h : ZAt w zp mb lv (A ++ y :: B) n) (sp : y.z.P.length ≤ 100) (sq : y.z.Q.length ≤ 100) :
    Calls Try.prog 10 #[.pointer (some ⟨zp, 0, none⟩), .int .i64 y.z.b] w fun e w' => e = .returned (.bool true) ∧ (∃ v', ZAt w' zp mb v' (A ++ B) n ∧ ∀ j, own v' j → own lv j) ∧ Kept (Own3 zp mb lv) w w' := by
  obtain ⟨L, hL⟩ : ∃ L, L = A ++ y :: B := ⟨_, rfl⟩
  have hLn : L.length = A.length + (B.length + 1) := by rw [hL]; simp
  have h' : ZAt w zp mb lv L n := by rw [hL]; exact h
  have HP := Lib.hid (zbelow_any zp mb lv L n y.z.b w h')
  have hlt := h.head.lt
  obtain ⟨b, cap, hv, hbl, hcap1, hcap2, hcs⟩ := h'.list.cell (by omega)
  subst hv
  have hyA : L[A.length]? = some y := by rw [hL]; simp
  obtain ⟨s0, s1, s2, s3, s4, s5⟩ := six_of rfl hcs hyA
  have H1 : Hid (ZAt w zp mb (.slice (some ⟨b, 0, none⟩) L.length cap) (A ++ y :: B) n) := h
  have HG := Lib.hid h'.good.rising
  have hzm := h.head.ne_map h.cells
  have hsm := h'.small
  have hyr := h.read y (by simp)
  have HPQ : Hid (∀ W, Kept No w W → IntsAt W y.p y.z.P ∧ IntsAt W y.q y.z.Q) := fun W hk => ⟨hyr.ps.on hk.none, hyr.qs.on hk.none⟩
  have HT : Hid (∀ w', Kept No w w' → w'.cell? ⟨zp, 0, none⟩ = some (.slice (some ⟨b, 0, none⟩) L.length cap) ∧ (w'.cell? ⟨b, A.length * 6, none⟩ = some (.int .i64 y.z.b) ∧ w'.cell? ⟨b, A.length * 6 + 4, none⟩ = some y.p.v ∧ w'.cell? ⟨b, A.length * 6 + 5, none⟩ = some y.q.v) ∧ Kept No w w') := fun w' hk =>
    ⟨(hk.cell (p := ⟨zp, 0, none⟩) hlt (fun h => h)).trans h'.h0, ⟨(hk.cell (p := ⟨b, _, none⟩) hbl (fun h => h)).trans s0, (hk.cell (p := ⟨b, _, none⟩) hbl (fun h => h)).trans s4, (hk.cell (p := ⟨b, _, none⟩) hbl (fun h => h)).trans s5⟩, hk⟩
  have HC : Hid (∀ W vb, Kept No w W → RowAt W vb 28 [y.p.v, y.q.v] → Calls Try.prog 33 #[.slice (some ⟨vb, 0, none⟩) 2 2] W fun e w' => ∃ a m c, e = .returned (.slice a m c) ∧ IntsAt w' ⟨a, m, c⟩ (y.z.P ++ y.z.Q) ∧ Kept No W w') := fun W vb hk hr =>
    (concat_any vb y.p y.q y.z.P y.z.Q W hr (HPQ.out W hk).1 (HPQ.out W hk).2 sp sq).mono fun _ _ ⟨s, h⟩ => ⟨s.a, s.n, s.cap, h⟩
  have HL := Lib.hid hLn
  have HE := Lib.hid hL
  have hpl : (y.z.P ++ y.z.Q).length ≤ 200 := by simp; omega
  clear h h' hcs hyA hyr sp sq s0 s1 s2 s3 s4 s5 hL
  have HU : Hid (∀ W w8, Kept (· = mb) W w8 → Kept No w W → RowAt w8 zp 72 [.slice (some ⟨b, 0, none⟩) L.length cap, .map (some mb)] ∧ SRow ZT 6 w8 (.slice (some ⟨b, 0, none⟩) L.length cap) (A ++ y :: B).length (zcs (A ++ y :: B))) := fun W w8 h1 h2 => by
    have hz := H1.out.on h2.none
    exact ⟨hz.head.keep h1 (hz.head.ne_map hz.cells), hz.list.keep h1 (fun j hj => by obtain ⟨ds, hr⟩ := hz.list.own_row j hj; exact hr.ne_map hz.cells)⟩
  have HDl : Hid (∀ W w8, Kept (· = mb) W w8 → Kept No w W → Calls Try.prog 34 #[.slice (some ⟨b, 0, none⟩) L.length cap, .int .i64 (A.length : Nat), .int .i64 ((A.length : Nat) + 1)] w8 fun e w' =>
      e = .returned (.slice (some ⟨b, 0, none⟩) (A.length + B.length) cap) ∧ SRow ZT 6 w' (.slice (some ⟨b, 0, none⟩) (A.length + B.length) cap) (A ++ B).length (zcs (A ++ B)) ∧ Kept (own (.slice (some ⟨b, 0, none⟩) L.length cap)) w8 w') := fun W w8 h1 h2 => by
    have hl := (HU.out W w8 h1 h2).2
    rw [HL.out] at hl ⊢
    rcases hl.is with ⟨e, _⟩ | ⟨b', cap', rest, e, hr, hlen, hc1, hc2⟩
    · cases e
    · have e' := e
      simp only [Value.slice.injEq, Option.some.injEq, Addr.mk.injEq] at e'
      obtain ⟨⟨rfl, -, -⟩, -, rfl⟩ := e'
      have e1 : (A.map ZR.el).length = A.length := by simp
      have e2 : (B.map ZR.el).length = B.length := by simp
      have := zdelete_at b cap (A.map ZR.el) (B.map ZR.el) y.el rest w8 (by simpa [zcs] using hr) (by rw [e1, e2]; simpa using hlen) hc2
      rw [e1, e2] at this
      refine this.mono ?_
      rintro e w' ⟨rfl, ⟨rest', hr', hl'⟩, hk⟩
      refine ⟨rfl, ⟨.inr ⟨b, cap, rest', by simp, by simpa [zcs] using hr', by simpa using hl', by simp at hc1 ⊢; omega, hc2⟩, by rw [ecs_length]; simp, ecs_ones _⟩, ?_⟩
      exact Kept.then (S := own (.slice (some ⟨b, 0, none⟩) (A.length + (B.length + 1)) cap)) (Kept.refl _ _) hk (fun k _ h => h)
  obtain ⟨yz, ⟨pa, pn, pc⟩, ⟨qa, qn, qc⟩⟩ := y
  simp only [Sl.mk_v] at HT HC HP hpl ⊢
  generalize hN : L.length = N at *
  have HNN := Lib.hid hN
  generalize hAl : A.length = ia at *
  have HA := Lib.hid hAl
  have ea : ia < N := by omega
  clear hN hAl hLn
  go_enter Try.func10, Try.ntmps10
  go_wp2_with fail
  refine HP.out.mono ?_
  rintro e w1 ⟨⟨i, rfl, hi, q1, q2⟩, hb⟩
  obtain rfl : i = ia := by rw [← HA.out]; exact at_split HE.out HG.out rfl q1 q2
  have K1 : Hid (Kept No w w1) := Kept.of_below (S := No) hb
  obtain ⟨c0, ⟨s0, s4, s5⟩, -⟩ := HT.out w1 K1.out
  have e1 : (i : Int) < (N : Int) := by omega
  have e2 : (0 : Int) ≤ (i : Int) := by omega
  have e3 : ((i : Int) == (N : Int)) = false := by simp; omega
  have e4 : (yz.b != yz.b) = false := by simp
  clear q1 q2 hb
  go_wp2_with fail
  refine wp_region_held_drew (S := fun w' => w'.cell? ⟨zp, 0, none⟩ = some (.slice (some ⟨b, 0, none⟩) N cap) ∧ (w'.cell? ⟨b, i * 6, none⟩ = some (.int .i64 yz.b) ∧ w'.cell? ⟨b, i * 6 + 4, none⟩ = some (.slice pa pn pc) ∧ w'.cell? ⟨b, i * 6 + 5, none⟩ = some (.slice qa qn qc)) ∧ Kept No w w') (by kernel_rfl) ?_ (fun hHeld => ?_)
  · exact HT.out _ K1.out.drew
  refine wpAnyH_take (i := 0) (v := ?_) rfl (by kernel_rfl) (by kernel_rfl) (by kernel_rfl) (fun _ _ _ h => h) (Or.inl ⟨by rfl, ?_⟩) (by assumption) ?_
  rotate_left
  · intro w hSw
    (try dsimp only at hSw)
    go_simp
    (try with_reducible rfl)
  try simp only [Act.put, List.getElem_toArray, List.getElem_cons_zero, List.setIfInBounds_toArray, List.set_cons_zero, List.set_cons_succ]
  refine wpAnyH_take (i := 1) (v := ?_) rfl (by kernel_rfl) (by kernel_rfl) (by kernel_rfl) (fun _ _ _ h => h) (Or.inl ⟨by rfl, ?_⟩) (by assumption) ?_
  rotate_left
  · intro w hSw
    (try dsimp only at hSw)
    go_simp
    (try with_reducible rfl)
  try simp only [Act.put, List.getElem_toArray, List.getElem_cons_zero, List.getElem_cons_succ, List.setIfInBounds_toArray, List.set_cons_zero, List.set_cons_succ]
  refine wpAnyH_take (i := 2) (v := ?_) rfl (by kernel_rfl) (by kernel_rfl) (by kernel_rfl) (fun _ _ _ h => h) (Or.inl ⟨by rfl, ?_⟩) (by assumption) ?_
  rotate_left
  · intro w hSw
    (try dsimp only at hSw)
    go_simp
    (try with_reducible rfl)
  try simp only [Act.put, List.getElem_toArray, List.getElem_cons_zero, List.getElem_cons_succ, List.setIfInBounds_toArray, List.set_cons_zero, List.set_cons_succ]
  refine wpAnyH_take (i := 3) (v := ?_) rfl (by kernel_rfl) (by kernel_rfl) (by kernel_rfl) (fun _ _ _ h => h) (Or.inl ⟨by rfl, ?_⟩) (by assumption) ?_
  rotate_left
  · intro w hSw
    (try dsimp only at hSw)
    go_simp
    (try with_reducible rfl)
  try simp only [Act.put, List.getElem_toArray, List.getElem_cons_zero, List.getElem_cons_succ, List.setIfInBounds_toArray, List.set_cons_zero, List.set_cons_succ]
  refine wpAnyH_take (i := 4) (v := ?_) rfl (by kernel_rfl) (by kernel_rfl) (by kernel_rfl) (fun _ _ _ h => h) (Or.inl ⟨by rfl, ?_⟩) (by assumption) ?_
  rotate_left
  · intro w hSw
    (try dsimp only at hSw)
    go_simp
    (try with_reducible rfl)
  try simp only [Act.put, List.getElem_toArray, List.getElem_cons_zero, List.getElem_cons_succ, List.setIfInBounds_toArray, List.set_cons_zero, List.set_cons_succ]
  refine wpAnyH_take (i := 5) (v := ?_) rfl (by kernel_rfl) (by kernel_rfl) (by kernel_rfl) (fun _ _ _ h => h) (Or.inl ⟨by rfl, ?_⟩) (by assumption) ?_
  rotate_left
  · intro w hSw
    (try dsimp only at hSw)
    go_simp
    (try with_reducible rfl)
  try simp only [Act.put, List.getElem_toArray, List.getElem_cons_zero, List.getElem_cons_succ, List.setIfInBounds_toArray, List.set_cons_zero, List.set_cons_succ]
  refine wpAnyH_take (i := 6) (v := ?_) rfl (by kernel_rfl) (by kernel_rfl) (by kernel_rfl) (fun _ _ _ h => h) (Or.inl ⟨by rfl, ?_⟩) (by assumption) ?_
  rotate_left
  · intro w hSw
    (try dsimp only at hSw)
    go_simp
    (try with_reducible rfl)
  try simp only [Act.put, List.getElem_toArray, List.getElem_cons_zero, List.getElem_cons_succ, List.setIfInBounds_toArray, List.set_cons_zero, List.set_cons_succ]
  refine wpAnyH_take (i := 7) (v := ?_) rfl (by kernel_rfl) (by kernel_rfl) (by kernel_rfl) (fun _ _ _ h => h) (Or.inl ⟨by rfl, ?_⟩) (by assumption) ?_
  rotate_left
  · intro w hSw
    (try dsimp only at hSw)
    go_simp
    (try with_reducible rfl)
  try simp only [Act.put, List.getElem_toArray, List.getElem_cons_zero, List.getElem_cons_succ, List.setIfInBounds_toArray, List.set_cons_zero, List.set_cons_succ]
  refine wpAnyH_take (i := 8) (v := ?_) rfl (by kernel_rfl) (by kernel_rfl) (by kernel_rfl) (fun _ _ _ h => h) (Or.inl ⟨by rfl, ?_⟩) (by assumption) ?_
  rotate_left
  · intro w hSw
    (try dsimp only at hSw)
    go_simp
    (try with_reducible rfl)
  try simp only [Act.put, List.getElem_toArray, List.getElem_cons_zero, List.getElem_cons_succ, List.setIfInBounds_toArray, List.set_cons_zero, List.set_cons_succ]
  refine wpAnyH_take (i := 9) (v := ?_) rfl (by kernel_rfl) (by kernel_rfl) (by kernel_rfl) (fun _ _ _ h => h) (Or.inl ⟨by rfl, ?_⟩) (by assumption) ?_
  rotate_left
  · intro w hSw
    (try dsimp only at hSw)
    go_simp
    (try with_reducible rfl)
  try simp only [Act.put, List.getElem_toArray, List.getElem_cons_zero, List.getElem_cons_succ, List.setIfInBounds_toArray, List.set_cons_zero, List.set_cons_succ]
  refine wpAnyH_take (i := 10) (v := ?_) rfl (by kernel_rfl) (by kernel_rfl) (by kernel_rfl) (fun _ _ _ h => h) (Or.inl ⟨by rfl, ?_⟩) (by assumption) ?_
  rotate_left
  · intro w hSw
    (try dsimp only at hSw)
    go_simp
    (try with_reducible rfl)
  try simp only [Act.put, List.getElem_toArray, List.getElem_cons_zero, List.getElem_cons_succ, List.setIfInBounds_toArray, List.set_cons_zero, List.set_cons_succ]
  refine wpAnyH_take (i := 11) (v := ?_) rfl (by kernel_rfl) (by kernel_rfl) (by kernel_rfl) (fun _ _ _ h => h) (Or.inl ⟨by rfl, ?_⟩) (by assumption) ?_
  rotate_left
  · intro w hSw
    (try dsimp only at hSw)
    go_simp
    (try with_reducible rfl)
  try simp only [Act.put, List.getElem_toArray, List.getElem_cons_zero, List.getElem_cons_succ, List.setIfInBounds_toArray, List.set_cons_zero, List.set_cons_succ]
  refine wpAnyH_take (i := 12) (v := ?_) rfl (by kernel_rfl) (by kernel_rfl) (by kernel_rfl) (fun _ _ _ h => h) (Or.inl ⟨by rfl, ?_⟩) (by assumption) ?_
  rotate_left
  · intro w hSw
    (try dsimp only at hSw)
    go_simp
    (try with_reducible rfl)
  try simp only [Act.put, List.getElem_toArray, List.getElem_cons_zero, List.getElem_cons_succ, List.setIfInBounds_toArray, List.set_cons_zero, List.set_cons_succ]
  refine wpAnyH_take (i := 13) (v := ?_) rfl (by kernel_rfl) (by kernel_rfl) (by kernel_rfl) (fun _ _ _ h => h) (Or.inl ⟨by rfl, ?_⟩) (by assumption) ?_
  rotate_left
  · intro w hSw
    (try dsimp only at hSw)
    go_simp
    (try with_reducible rfl)
  try simp only [Act.put, List.getElem_toArray, List.getElem_cons_zero, List.getElem_cons_succ, List.setIfInBounds_toArray, List.set_cons_zero, List.set_cons_succ]
  refine wpAnyH_take (i := 14) (v := ?_) rfl (by kernel_rfl) (by kernel_rfl) (by kernel_rfl) (fun _ _ _ h => h) (Or.inl ⟨by rfl, ?_⟩) (by assumption) ?_
  rotate_left
  · intro w hSw
    (try dsimp only at hSw)
    go_simp
    (try with_reducible rfl)
  try simp only [Act.put, List.getElem_toArray, List.getElem_cons_zero, List.getElem_cons_succ, List.setIfInBounds_toArray, List.set_cons_zero, List.set_cons_succ]
  refine wpAnyH_take (i := 15) (v := ?_) rfl (by kernel_rfl) (by kernel_rfl) (by kernel_rfl) (fun _ _ _ h => h) (Or.inl ⟨by rfl, ?_⟩) (by assumption) ?_
  rotate_left
  · intro w hSw
    (try dsimp only at hSw)
    go_simp
    (try with_reducible rfl)
  try simp only [Act.put, List.getElem_toArray, List.getElem_cons_zero, List.getElem_cons_succ, List.setIfInBounds_toArray, List.set_cons_zero, List.set_cons_succ]
  refine wpAnyH_take (i := 19) (v := ?_) rfl (by kernel_rfl) (by kernel_rfl) (by kernel_rfl) (fun _ _ _ h => h) (Or.inl ⟨by rfl, ?_⟩) (by assumption) ?_
  rotate_left
  · intro w hSw
    (try dsimp only at hSw)
    go_simp
    (try with_reducible rfl)
  try simp only [Act.put, List.getElem_toArray, List.getElem_cons_zero, List.getElem_cons_succ, List.setIfInBounds_toArray, List.set_cons_zero, List.set_cons_succ]
  refine wpAnyH_ready (rs := [16]) (by kernel_rfl) (by simp) ?_
  refine AllReadyH.cons rfl (fun K hK => ?_) AllReadyH.nil
  go_simp
  refine hK.out _ _ ?_ (fun hHeld1 => ?_)
  · exact HT.out _ (hHeld.2.2.alloc _)
  clear hK K
  try simp only [Act.put, List.getElem_toArray, List.getElem_cons_zero, List.getElem_cons_succ, List.setIfInBounds_toArray, List.set_cons_zero, List.set_cons_succ]
  refine wpAnyH_ready (rs := [17]) (by kernel_rfl) (by simp) ?_
  refine AllReadyH.cons rfl (fun K hK => ?_) AllReadyH.nil
  go_simp
  refine (HC.out _ _ hHeld1.2.2 (RowAt.new _ _ _)).mono ?_
  rintro e2 w2 ⟨sa, sn, sc, rfl, hs2, hk2⟩
  first | show K _ _ | go_wp2_with fail
  refine hK.out _ _ ?_ (fun hHeld2 => ?_)
  · exact HT.out _ (hHeld1.2.2.trans hk2)
  clear hK K
  try simp only [Act.put, List.getElem_toArray, List.getElem_cons_zero, List.getElem_cons_succ, List.setIfInBounds_toArray, List.set_cons_zero, List.set_cons_succ]
  refine wpAnyH_take (i := 18) (v := ?_) rfl (by kernel_rfl) (by kernel_rfl) (by kernel_rfl) (fun _ _ _ h => h) (Or.inl ⟨by rfl, ?_⟩) (by assumption) ?_
  rotate_left
  · intro w hSw
    (try dsimp only at hSw)
    go_simp
    (try with_reducible rfl)
  try simp only [Act.put, List.getElem_toArray, List.getElem_cons_zero, List.getElem_cons_succ, List.setIfInBounds_toArray, List.set_cons_zero, List.set_cons_succ]
  refine wpAnyH_done (by kernel_rfl) ?_ _
  have K2 := Lib.hid hHeld2.2.2
  have HS2 := Lib.hid hs2
  have hm2 : MapIs w2 mb n (kindOf ((A ++ ⟨yz, ⟨pa, pn, pc⟩, ⟨qa, qn, qc⟩⟩ :: B).map ZR.z)) := (H1.out.on K2.out.none).cells
  have HM2 := Lib.hid hm2
  have hsc : sn ≤ sc ∧ sc ≤ maxLen := hs2.cap
  have hsn : sn ≤ 200 := by have := hs2.len; simp only at this; omega
  have HF := Lib.hid hs2.fit
  have HLn : Hid (sn = (yz.P ++ yz.Q).length) := hs2.len
  clear hHeld hHeld1 hHeld2 hs2 hk2 s0 s4 s5 c0 hm2 HPQ HT HC HP hpl
  generalize hfk : kindOf ((A ++ ⟨yz, ⟨pa, pn, pc⟩, ⟨qa, qn, qc⟩⟩ :: B).map ZR.z) = fk at *
  have HFK := Lib.hid hfk
  clear hfk
  generalize hxs : yz.P ++ yz.Q = xs at *
  have HXS := Lib.hid hxs
  clear hxs
  go_wp2_with fail
  go_loopw [49] (fun i' wr => ∃ k : Nat, k ≤ sn ∧ i' = .int .i64 k ∧ Hid (Kept (· = mb) w2 wr) ∧ Hid (MapIs wr mb n (upd fk (xs.take k) 0))) (fun i' _ => sn - (intOf i').toNat)
  case atStart => exact ⟨0, Nat.zero_le _, rfl, Kept.refl _ _, (HM2.out.ext (fun u => by simp [upd]) : MapIs _ _ _ _)⟩
  case round =>
    obtain ⟨k, hk, rfl, HK, HMr⟩ := hrel
    obtain ⟨hz, hl⟩ := HU.out w2 wr HK.out K2.out
    have c0 : wr.cell? ⟨zp, 0, none⟩ = some (.slice (some ⟨b, 0, none⟩) N cap) := by rw [hz.cell]; rfl
    have c1 : wr.cell? ⟨zp, 1, none⟩ = some (.map (some mb)) := by rw [hz.cell]; rfl
    by_cases hlt' : k < sn
    · obtain ⟨u, hu⟩ : ∃ u, xs[k]? = some u := ⟨_, List.getElem?_eq_getElem (by have := HLn.out; omega)⟩
      have huw := HF.out u (List.mem_of_getElem? hu)
      rcases (HS2.out.map_keep HM2.out HK.out).at_ with h0 | ⟨sb, so, ha, hsl, hsc'⟩
      · simp only at h0; omega
      · simp only at ha
        subst ha
        have hyc := hsc' k u hu
        have HX := Lib.hid hu
        obtain ⟨D, hown, hsay⟩ := HMr.out
        have HSY := Lib.hid hsay
        have e5 : (k : Int) < (sn : Int) := by omega
        have e6 : (0 : Int) ≤ (k : Int) := by omega
        clear hsc' hu hz hl hsay
        go_wp2_with (at_delete; refine wpList_delete_own _ rfl _ _ MT KT rfl KT lawI Try.underlying70 _ mb n D rfl hown _ _ rfl (keyI huw) ?_; intro w3 hown3 hturn3)
        have hk3 := kept_grown hturn3.grown
        go_roundw
        case rel =>
          exact ⟨k + 1, by omega, by go_num, (HK.out.trans hk3 : Kept _ _ _), (MapIs.ext ⟨_, hown3, HSY.out.del⟩ (fun z => (upd_take_succ HX.out z).symm) : MapIs _ _ _ _)⟩
        case measure => simp [intOf]; omega
    · obtain rfl : k = sn := by omega
      have hfull : xs.take k = xs := List.take_of_length_le (by have := HLn.out; omega)
      have hMr := HMr.out
      rw [hfull] at hMr
      have HMf := Lib.hid hMr
      have HD8 := HDl.out w2 wr HK.out K2.out
      have HD9 := Lib.hid HD8
      have e5 : ¬ (k : Int) < (k : Int) := by omega
      clear hfull hMr hz hl HD8
      go_wp2_with fail
      refine HD9.out.mono ?_
      rintro e w8 ⟨rfl, hdel, hk8⟩
      obtain ⟨hz, hl⟩ := HU.out w2 wr HK.out K2.out
      have hz8 := hz.keep hk8 (fun hj => by obtain ⟨ds, hr⟩ := hl.own_row zp hj; exact (hr.ne_type hz (by decide)) rfl)
      have c8 : w8.cell? ⟨zp, 0, none⟩ = some (.slice (some ⟨b, 0, none⟩) N cap) := by rw [hz8.cell]; rfl
      have f8 := hz8.free 0
      have hend := remove_end H1.out K2.out HK.out (by rw [HFK.out, HXS.out]; exact HMf.out) hdel hk8 (fun j hj => hj)
      have HEND := Lib.hid hend
      clear hz hl hz8 hend hdel hk8
      go_wp2_with fail
      go_ret
      exact ⟨rfl, ⟨_, HEND.out.1, fun j hj => hj⟩, HEND.out.2⟩
end Go.Proofs.Yticancimnhnhbaa
