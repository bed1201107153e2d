/-
  The contract of Add (layer 6), where a zone comes to the list. No conditions beyond those that each theorem names.
-/
import Derived.Test.YtlnjcaicagcinaaZoneJ
namespace Go.Proofs.Ytlnjcaicagcinaa
open Go.ChangeShapes Go.WideShapes Go.ChangeAt Go.RowKit



set_option maxRecDepth 100000 in
set_option maxHeartbeats 8000000 in
theorem add_yes (zp mb : Nat) (lv : Value) (L : List ZR) (n : Nat) (x : ZR) (w : World) (h : ZAt w zp mb lv L n) (hp : IntsAt w x.p x.z.P) (hq : IntsAt w x.q x.z.Q) (sp : x.z.P.length ≤ 100) (sq : x.z.Q.length ≤ 100) (few : L.length < 100) (nb : n ≤ 20000) (hb : blockZ x.z = true) (hme : (L.map ZR.z).any (meetsZ x.z) = false) (hc : cellsOk x.z) :
    Calls Try.prog 13 #[.pointer (some ⟨zp, 0, none⟩), x.v] w fun e w' => e = .returned errNil ∧ Added w w' zp mb lv L n x.z ∧ Kept (Own3 zp mb lv) w w' := by
  have hmf : ∀ (fn : Fn) (first cap : Array Value) (w : World), (Instr.makeFunc fn first cap).run Try.prog w = .ok (.func fn first cap) w := fun _ _ _ _ => rfl
  obtain ⟨W0, hW0⟩ : ∃ W0, W0 = w.alloc (.cells #[.int .i64 x.z.b, .int .i64 x.z.d, .int .i64 x.z.r, .int .i64 x.z.e, x.p.v, x.q.v] ZT) := ⟨_, rfl⟩
  have k0 : Kept No w W0 := by rw [hW0]; exact (Kept.refl _ _).alloc _
  have r0 : RowAt W0 w.heap.size ZT x.el.cs := by rw [hW0]; exact RowAt.new w ZT x.el.cs
  have hz0 : ZAt W0 zp mb lv L n := h.on k0.none
  have hp0 := hp.on k0.none
  have hq0 := hq.on k0.none
  have H6 : Hid (∀ W, Kept No W0 W → Six W w.heap.size 0 x) := fun W hk => (cells_zone r0).keep hk r0.lt (fun h => h)
  have HZ : Hid (∀ W, Kept No W0 W → ZAt W zp mb lv L n) := fun W hk => hz0.on hk.none
  have HB := Lib.hid (fun w => block_any x w)
  have K0 := Lib.hid k0
  show Calls Try.prog 13 #[.pointer (some ⟨zp, 0, none⟩), .agg #[.int .i64 x.z.b, .int .i64 x.z.d, .int .i64 x.z.r, .int .i64 x.z.e, x.p.v, x.q.v]] w _
  have HS : Hid (∀ w', Kept No W0 w' → (w'.cell? ⟨w.heap.size, 0, none⟩ = some (.int .i64 x.z.b) ∧ w'.cell? ⟨w.heap.size, 1, none⟩ = some (.int .i64 x.z.d) ∧ w'.cell? ⟨w.heap.size, 2, none⟩ = some (.int .i64 x.z.r) ∧ w'.cell? ⟨w.heap.size, 3, none⟩ = some (.int .i64 x.z.e) ∧ w'.cell? ⟨w.heap.size, 4, none⟩ = some x.p.v ∧ w'.cell? ⟨w.heap.size, 5, none⟩ = some x.q.v) ∧ Kept No W0 w') := fun w' hk => by
    obtain ⟨t0, t1, t2, t3, t4, t5⟩ := H6.out w' hk
    simp only [Nat.zero_add] at t1 t2 t3 t4 t5
    exact ⟨⟨t0, t1, t2, t3, t4, t5⟩, hk⟩
  have c0 := hz0.h0
  obtain ⟨sa, sc, hlv, hc1, hc2⟩ := h.list.shape
  subst hlv
  rw [hb] at HB
  have HT : Hid (∀ w', Kept No W0 w' → (w'.cell? ⟨w.heap.size, 0, none⟩ = some (.int .i64 x.z.b) ∧ w'.cell? ⟨w.heap.size, 1, none⟩ = some (.int .i64 x.z.d) ∧ w'.cell? ⟨w.heap.size, 2, none⟩ = some (.int .i64 x.z.r) ∧ w'.cell? ⟨w.heap.size, 3, none⟩ = some (.int .i64 x.z.e) ∧ w'.cell? ⟨w.heap.size, 4, none⟩ = some x.p.v ∧ w'.cell? ⟨w.heap.size, 5, none⟩ = some x.q.v) ∧ Kept No W0 w' ∧ w'.cell? ⟨zp, 0, none⟩ = some (.slice sa L.length sc) ∧ w'.cell? ⟨zp, 1, none⟩ = some (.map (some mb))) := fun w' hk => ⟨(HS.out w' hk).1, hk, (HZ.out w' hk).h0, (HZ.out w' hk).h1⟩
  have HC : Hid (∀ W, Kept No W0 W → Calls Try.prog 23 #[.slice sa L.length sc, .func (.func 24) #[x.v] #[]] W fun e w' => e = .returned (.bool ((L.map ZR.z).any (meetsZ x.z))) ∧ Below W.heap.size W w') := fun W hk =>
    (zcontains_any x _ L W (HZ.out W hk).list (by have := h.small; omega)).mono fun _ _ ⟨he, hb⟩ => ⟨by rw [he, List.any_map]; rfl, hb⟩
  have hzb := (blockZ_iff x.z).1 hb
  have HDc : Hid (∀ W, Kept No W0 W → Calls Try.prog 25 #[x.v] W fun e w' => Kept No W w' ∧
      ((cellsOk x.z ∧ ∃ mb', e = .returned (.tuple #[.map (some mb'), .bool true]) ∧ MapIs w' mb' 200 (own1 x.z) ∧ W.heap.size ≤ mb') ∨ (¬ cellsOk x.z ∧ e = .returned (.tuple #[.map none, .bool false])))) := fun W hk =>
    declared_any x W (hp0.on hk.none) (hq0.on hk.none) sp sq (by omega)
  have HM := Lib.hid hzb
  clear hzb
  rw [hme] at HC
  have HQ : Hid (∀ W, Kept No W0 W → IntsAt W x.p x.z.P ∧ IntsAt W x.q x.z.Q) := fun W hk => ⟨hp0.on hk.none, hq0.on hk.none⟩
  have HX := Lib.hid (And.intro hb (And.intro hme (And.intro hc (And.intro few (And.intro sp sq)))))
  clear h hp hq hz0 hp0 hq0 r0 k0 hb hme few sp sq
  go_enter Try.func13, Try.ntmps13
  go_wp2_with fail
  rw [← hW0]
  clear hW0
  refine wp_region_held_drew (S := fun w' => (w'.cell? ⟨w.heap.size, 0, none⟩ = some (.int .i64 x.z.b) ∧ w'.cell? ⟨w.heap.size, 1, none⟩ = some (.int .i64 x.z.d) ∧ w'.cell? ⟨w.heap.size, 2, none⟩ = some (.int .i64 x.z.r) ∧ w'.cell? ⟨w.heap.size, 3, none⟩ = some (.int .i64 x.z.e) ∧ w'.cell? ⟨w.heap.size, 4, none⟩ = some x.p.v ∧ w'.cell? ⟨w.heap.size, 5, none⟩ = some x.q.v) ∧ Kept No W0 w' ∧ w'.cell? ⟨zp, 0, none⟩ = some (.slice sa L.length sc) ∧ w'.cell? ⟨zp, 1, none⟩ = some (.map (some mb))) (by kernel_rfl) ?_ (fun hHeld => ?_)
  · exact HT.out _ (Kept.refl _ _).drew
  refine wpAnyH_take (i := 0) (v := ?_) rfl (by kernel_rfl) (by kernel_rfl) (by kernel_rfl) (fun _ _ _ h => h) (Or.inl ⟨by rfl, ?_⟩) (by assumption) ?_
  rotate_left
  · intro w hSw
    (try dsimp only at hSw)
    go_simp
    (try with_reducible rfl)
  try simp only [Act.put, List.getElem_toArray, List.getElem_cons_zero, List.setIfInBounds_toArray, List.set_cons_zero, List.set_cons_succ]
  refine wpAnyH_ready (rs := [1]) (by kernel_rfl) (by simp) ?_
  refine AllReadyH.cons rfl (fun K hK => ?_) AllReadyH.nil
  go_simp
  refine (HB.out _).mono ?_
  rintro e1 w1 ⟨rfl, hb1⟩
  first | show K _ _ | go_wp2_with fail
  refine hK.out _ _ ?_ (fun hHeld1 => ?_)
  · exact HT.out _ (hHeld.2.1.trans (.of_below hb1))
  clear hK K
  try simp only [Act.put, List.getElem_toArray, List.getElem_cons_zero, List.getElem_cons_succ, List.setIfInBounds_toArray, List.set_cons_zero, List.set_cons_succ]
  refine wpAnyH_take (i := 2) (v := ?_) rfl (by kernel_rfl) (by kernel_rfl) (by kernel_rfl) (fun _ _ _ h => h) (Or.inl ⟨by rfl, ?_⟩) (by assumption) ?_
  rotate_left
  · intro w hSw
    (try dsimp only at hSw)
    go_simp
    (try with_reducible rfl)
  try simp only [Act.put, List.getElem_toArray, List.getElem_cons_zero, List.getElem_cons_succ, List.setIfInBounds_toArray, List.set_cons_zero, List.set_cons_succ]
  refine wpAnyH_take (i := 3) (v := ?_) rfl (by kernel_rfl) (by kernel_rfl) (by kernel_rfl) (fun _ _ _ h => h) (Or.inl ⟨by rfl, ?_⟩) (by assumption) ?_
  rotate_left
  · intro w hSw
    (try dsimp only at hSw)
    go_simp
    (try with_reducible rfl)
  try simp only [Act.put, List.getElem_toArray, List.getElem_cons_zero, List.getElem_cons_succ, List.setIfInBounds_toArray, List.set_cons_zero, List.set_cons_succ]
  refine wpAnyH_take (i := 4) (v := ?_) rfl (by kernel_rfl) (by kernel_rfl) (by kernel_rfl) (fun _ _ _ h => h) (Or.inl ⟨by rfl, ?_⟩) (by assumption) ?_
  rotate_left
  · intro w hSw
    (try dsimp only at hSw)
    go_simp
    (try with_reducible rfl)
  try simp only [Act.put, List.getElem_toArray, List.getElem_cons_zero, List.getElem_cons_succ, List.setIfInBounds_toArray, List.set_cons_zero, List.set_cons_succ]
  refine wpAnyH_take (i := 5) (v := ?_) rfl (by kernel_rfl) (by kernel_rfl) (by kernel_rfl) (fun _ _ _ h => h) (Or.inl ⟨by rfl, ?_⟩) (by assumption) ?_
  rotate_left
  · intro w hSw
    (try dsimp only at hSw)
    go_simp
    (try with_reducible rfl)
  try simp only [Act.put, List.getElem_toArray, List.getElem_cons_zero, List.getElem_cons_succ, List.setIfInBounds_toArray, List.set_cons_zero, List.set_cons_succ]
  refine wpAnyH_take (i := 6) (v := ?_) rfl (by kernel_rfl) (by kernel_rfl) (by kernel_rfl) (fun _ _ _ h => h) (Or.inl ⟨by rfl, ?_⟩) (by assumption) ?_
  rotate_left
  · intro w hSw
    (try dsimp only at hSw)
    go_simp
    (try with_reducible rfl)
  try simp only [Act.put, List.getElem_toArray, List.getElem_cons_zero, List.getElem_cons_succ, List.setIfInBounds_toArray, List.set_cons_zero, List.set_cons_succ]
  refine wpAnyH_take (i := 7) (v := ?_) rfl (by kernel_rfl) (by kernel_rfl) (by kernel_rfl) (fun _ _ _ h => h) (Or.inl ⟨by rfl, ?_⟩) (by assumption) ?_
  rotate_left
  · intro w hSw
    (try dsimp only at hSw)
    go_simp
    (try with_reducible rfl)
  try simp only [Act.put, List.getElem_toArray, List.getElem_cons_zero, List.getElem_cons_succ, List.setIfInBounds_toArray, List.set_cons_zero, List.set_cons_succ]
  refine wpAnyH_take (i := 8) (v := ?_) rfl (by kernel_rfl) (by kernel_rfl) (by kernel_rfl) (fun _ _ _ h => h) (Or.inl ⟨by rfl, ?_⟩) (by assumption) ?_
  rotate_left
  · intro w hSw
    (try dsimp only at hSw)
    go_simp
    (try with_reducible rfl)
  try simp only [Act.put, List.getElem_toArray, List.getElem_cons_zero, List.getElem_cons_succ, List.setIfInBounds_toArray, List.set_cons_zero, List.set_cons_succ]
  refine wpAnyH_take (i := 9) (v := ?_) rfl (by kernel_rfl) (by kernel_rfl) (by kernel_rfl) (fun _ _ _ h => h) (Or.inl ⟨by rfl, ?_⟩) (by assumption) ?_
  rotate_left
  · intro w hSw
    (try dsimp only at hSw)
    go_simp
    (try with_reducible rfl)
  try simp only [Act.put, List.getElem_toArray, List.getElem_cons_zero, List.getElem_cons_succ, List.setIfInBounds_toArray, List.set_cons_zero, List.set_cons_succ]
  refine wpAnyH_ready (rs := [10]) (by kernel_rfl) (by simp) ?_
  refine AllReadyH.cons rfl (fun K hK => ?_) AllReadyH.nil
  go_simp
  refine (HC.out _ hHeld1.2.1).mono ?_
  rintro e2 w2 ⟨rfl, hb2⟩
  first | show K _ _ | go_wp2_with fail
  refine hK.out _ _ ?_ (fun hHeld2 => ?_)
  · exact HT.out _ (hHeld1.2.1.trans (.of_below hb2))
  clear hK K
  try simp only [Act.put, List.getElem_toArray, List.getElem_cons_zero, List.getElem_cons_succ, List.setIfInBounds_toArray, List.set_cons_zero, List.set_cons_succ]
  refine wpAnyH_take (i := 11) (v := ?_) rfl (by kernel_rfl) (by kernel_rfl) (by kernel_rfl) (fun _ _ _ h => h) (Or.inl ⟨by rfl, ?_⟩) (by assumption) ?_
  rotate_left
  · intro w hSw
    (try dsimp only at hSw)
    go_simp
    (try with_reducible rfl)
  try simp only [Act.put, List.getElem_toArray, List.getElem_cons_zero, List.getElem_cons_succ, List.setIfInBounds_toArray, List.set_cons_zero, List.set_cons_succ]
  refine wpAnyH_done (by kernel_rfl) ?_ _
  have K2 := Lib.hid hHeld2.2.1
  clear hHeld hHeld1 hHeld2 hb1 hb2
  obtain ⟨⟨t0, t1, t2, t3, t4, t5⟩, -, c0, c1⟩ := HT.out _ K2.out
  go_wp2_with fail
  refine (HDc.out _ K2.out).mono ?_
  rintro e3 w3 ⟨hk3, ⟨-, mb', rfl, hm3, hmb⟩ | ⟨hd, -⟩⟩
  rotate_left
  · exact absurd hc hd
  have hk03 := K2.out.trans hk3
  have hz3 := HZ.out w3 hk03
  have HCp := Lib.hid (copy_any mb mb' n 200 (kindOf (L.map ZR.z)) (own1 x.z) w3 hz3.cells hm3 (by have := (HZ.out _ K2.out).cells.lt; omega) (by omega))
  obtain ⟨⟨t0, t1, t2, t3, t4, t5⟩, -, c0, c1⟩ := HT.out _ hk03
  have K3 := Lib.hid hk03
  clear hk3 hk03 hz3 hm3 HDc HC HB hc
  go_wp2_with fail
  refine HCp.out.mono ?_
  rintro e4 w4 ⟨rfl, hk4, hm4⟩
  -- behind the copy: the map has the zone's cells, the list has not
  have hm4' : MapIs w4 mb (n + 200) (fun u => if own1 x.z u ≠ 0 then own1 x.z u else kindOf (L.map ZR.z) u) := hm4
  have H4 : Hid (∀ W, Kept No w4 W → (Six W w.heap.size 0 x ∧ IntsAt W x.p x.z.P ∧ IntsAt W x.q x.z.Q ∧ w.heap.size < W.heap.size) ∧ RowAt W zp 76 [.slice sa L.length sc, .map (some mb)] ∧ SRow ZT 6 W (.slice sa L.length sc) L.length (zcs L)) := fun W hk => by
    have hz3 := HZ.out w3 K3.out
    have k34 : Kept (· = mb) w3 W := hk4.then hk (fun _ _ h => h.elim)
    have hbx : w.heap.size < w3.heap.size := cell_lt t0
    have hbm : w.heap.size ≠ mb := by
      intro e
      have := (H6.out w3 K3.out).c0
      rw [e, hz3.cells.no_cell] at this
      cases this
    exact ⟨⟨(H6.out w3 K3.out).keep k34 hbx hbm, (HQ.out w3 K3.out).1.map_keep hz3.cells k34, (HQ.out w3 K3.out).2.map_keep hz3.cells k34, Nat.lt_of_lt_of_le hbx k34.more⟩,
      hz3.head.keep k34 (hz3.head.ne_map hz3.cells), hz3.list.keep k34 (fun j hj => by obtain ⟨ds, hr⟩ := hz3.list.own_row j hj; exact hr.ne_map hz3.cells)⟩
  have HBl : Hid (∀ W, Kept No w4 W → Calls Try.prog 28 #[.pointer (some ⟨zp, 0, none⟩), .int .i64 x.z.b] W fun e w' =>
      ∃ i : Nat, e = .returned (.int .i64 i) ∧ (i ≤ L.length ∧ Split (L.map ZR.z) ((L.take i).map ZR.z) ((L.drop i).map ZR.z) x.z.b) ∧ Kept No W w') := fun W hk =>
    (zbelow_raw zp _ _ L x.z.b W (H4.out W hk).2.1 (H4.out W hk).2.2 (HZ.out w3 K3.out).good.rising (by have := HX.out.2.2.2.1; omega)).mono fun _ _ ⟨⟨i, he, h1, h2, h3⟩, hb⟩ => ⟨i, he, ⟨h1, split_of h1 h2 h3⟩, .of_below hb⟩
  have HCl : Hid (∀ W, Kept No w4 W → Calls Try.prog 29 #[.agg #[.int .i64 x.z.b, .int .i64 x.z.d, .int .i64 x.z.r, .int .i64 x.z.e, x.p.v, x.q.v]] W fun e w' =>
      ∃ y : ZR, e = .returned (.agg #[.int .i64 y.z.b, .int .i64 y.z.d, .int .i64 y.z.r, .int .i64 y.z.e, y.p.v, y.q.v]) ∧ y.z = x.z ∧ Stored w' y ∧ Kept No W w') := fun W hk =>
    clone_any x W (H4.out W hk).1.2.1 (H4.out W hk).1.2.2.1 (by have := HX.out.2.2.2.2.1; omega) (by have := HX.out.2.2.2.2.2; omega)
  have HIn : Hid (∀ W (i : Nat) (vb : Nat) (y : ZR), Kept No w4 W → i ≤ L.length → RowAt W vb ZT y.el.cs → w4.heap.size ≤ vb → Calls Try.prog 27 #[.slice sa L.length sc, .int .i64 i, .slice (some ⟨vb, 0, none⟩) 1 1] W fun e w' =>
      ∃ a c, e = .returned (.slice a (L.length + 1) c) ∧ SRow ZT 6 w' (.slice a (L.length + 1) c) (L.take i ++ y :: L.drop i).length (zcs (L.take i ++ y :: L.drop i)) ∧ Kept (own (.slice sa L.length sc)) W w' ∧ ∀ j, own (.slice a (L.length + 1) c) j → own (.slice sa L.length sc) j ∨ W.heap.size ≤ j) := fun W i vb y hk hi hr hv => by
    have hl := (H4.out W hk).2.2
    have e1 : ((L.take i).map ZR.el).length = i := by simp; omega
    have e2 : ((L.drop i).map ZR.el).length = L.length - i := by simp
    have e3 : i + (L.length - i) = L.length := by omega
    have e4 : (L.take i).map ZR.el ++ (L.drop i).map ZR.el = L.map ZR.el := by rw [← List.map_append, List.take_append_drop]
    have hv4 := (H4.out w4 (Kept.refl _ _)).2.2
    have := zinsert_any (.slice sa L.length sc) ((L.take i).map ZR.el) ((L.drop i).map ZR.el) y.el vb W (by rw [e1, e2, e3, e4]; exact hl) (by rw [ecs_one]; exact hr) (fun ho => by have := hv4.own_lt vb ho; omega) (by rw [e1, e2]; have := HX.out.2.2.2.1; omega)
    rw [e1] at this
    refine this.mono ?_
    rintro e w' ⟨v', rfl, q1, q2, q3⟩
    have e5 : (L.take i).map ZR.el ++ y.el :: (L.drop i).map ZR.el = (L.take i ++ y :: L.drop i).map ZR.el := by simp
    have e6 : (L.take i ++ y :: L.drop i).length = L.length + 1 := by simp; omega
    rw [e5] at q1
    rw [List.length_map] at q1
    obtain ⟨a, c, rfl, -, -⟩ := q1.shape
    rw [e6] at q1 q3 ⊢
    exact ⟨a, c, rfl, q1, q2, q3⟩
  obtain ⟨⟨⟨t0, t1, t2, t3, t4, t5⟩, -⟩, hrz, hrl⟩ := H4.out w4 (Kept.refl _ _)
  simp only [Nat.zero_add] at t1 t2 t3 t4 t5
  have c0 : w4.cell? ⟨zp, 0, none⟩ = some (.slice sa L.length sc) := by rw [hrz.cell]; rfl
  have K4 := Lib.hid hk4
  have M4 := Lib.hid hm4'
  have HF : Hid (∀ w7 w8, Kept No w4 w7 → Kept (own (.slice sa L.length sc)) w7 w8 → w8.cell? ⟨zp, 0, none⟩ = some (.slice sa L.length sc) ∧ ∀ j, w8.frozen? ⟨zp, j, none⟩ = false) := fun w7 w8 h1 h2 => by
    obtain ⟨-, hrz, hrl⟩ := H4.out w7 h1
    have h8 := hrz.keep h2 (fun hj => by obtain ⟨ds, hr⟩ := hrl.own_row zp hj; exact (hr.ne_type hrz (by decide)) rfl)
    exact ⟨by rw [h8.cell]; rfl, h8.free⟩
  have HE : Hid (∀ (w7 w8 : World) (i : Nat) (y : ZR) (a : Option Addr) (c : Nat), Kept No w4 w7 → i ≤ L.length ∧ Split (L.map ZR.z) ((L.take i).map ZR.z) ((L.drop i).map ZR.z) x.z.b → y.z = x.z → Stored w7 y →
      SRow ZT 6 w8 (.slice a (L.length + 1) c) (L.take i ++ y :: L.drop i).length (zcs (L.take i ++ y :: L.drop i)) → Kept (own (.slice sa L.length sc)) w7 w8 → (∀ j, own (.slice a (L.length + 1) c) j → own (.slice sa L.length sc) j ∨ w7.heap.size ≤ j) →
      Added w (w8.setCell ⟨zp, 0, none⟩ (.slice a (L.length + 1) c)) zp mb (.slice sa L.length sc) L n x.z ∧ Kept (Own3 zp mb (.slice sa L.length sc)) w (w8.setCell ⟨zp, 0, none⟩ (.slice a (L.length + 1) c))) := fun w7 w8 i y a c k7 hi hyz hys q1 q2 q3 => by
    have e0 : L.take i ++ L.drop i = L := List.take_append_drop _ _
    obtain ⟨r1, r2, r3⟩ := add_end (x := x) (h := by rw [e0]; exact HZ.out w3 K3.out) hk4 (by rw [e0]; exact hm4') k7 hys hyz q1 q2 q3 (by rw [e0]; exact hi.2) HX.out.1 HX.out.2.2.1 (by rw [e0]; exact HX.out.2.1) (by rw [e0]; exact HX.out.2.2.2.1)
    have hmore : w.heap.size ≤ w3.heap.size := (K0.out.trans K3.out).more
    refine ⟨⟨L.take i, L.drop i, y, _, e0.symm, hi.2, hyz, r1, fun j hj => ?_⟩, (Kept.then (S := Own3 zp mb (.slice sa L.length sc)) (Kept.refl _ _) (K0.out.trans K3.out) (fun _ _ h => h.elim)).trans r2⟩
    rcases r3 j hj with h | h
    · exact .inl h
    · exact .inr (by omega)
  clear hk4 hm4 hm4' hrz hrl
  go_wp2_with fail
  go_region_with (first
    | (go_at_call 28; refine (HBl.out _ (by first | exact Kept.refl _ _ | exact (Kept.refl _ _).drew)).mono ?_; rintro e5 w5 ⟨i, rfl, hi, hk5⟩;
       have j5 : Kept No w4 w5 := (by first | exact hk5 | exact ((Kept.refl _ _).drew).trans hk5);
       obtain ⟨⟨⟨s0, s1, s2, s3, s4, s5⟩, -⟩, hrz5, -⟩ := H4.out w5 j5;
       simp only [Nat.zero_add] at s1 s2 s3 s4 s5;
       have c5 : w5.cell? ⟨zp, 0, none⟩ = some (.slice sa L.length sc) := (by rw [hrz5.cell]; rfl);
       have HI5 := Lib.hid hi; have J5 := Lib.hid j5; clear hi hk5 j5 hrz5)
    | (go_at_call 29; refine (HCl.out _ (by first | exact J5.out | exact J5.out.drew)).mono ?_; rintro e6 w6 ⟨y, rfl, hyz, hys, hk6⟩;
       have j6 : Kept No w4 w6 := (by first | exact J5.out.trans hk6 | exact J5.out.drew.trans hk6);
       obtain ⟨-, hrz6, -⟩ := H4.out w6 j6;
       have c6 : w6.cell? ⟨zp, 0, none⟩ = some (.slice sa L.length sc) := (by rw [hrz6.cell]; rfl);
       have l6 : zp < w6.heap.size := cell_lt c6; have n6 : zp ≠ w6.heap.size := (by omega); have YZ6 := Lib.hid hyz; have YS6 := Lib.hid hys; have J6 := Lib.hid j6; clear hyz hys hk6 j6 hrz6)
    | (go_at_call 27;
       refine (HIn.out _ i _ y (by first | exact J6.out.alloc _ | exact J6.out.drew.alloc _ | exact (J6.out.alloc _).drew | exact (J6.out.drew.alloc _).drew) HI5.out.1 (by first | exact RowAt.new w6 ZT y.el.cs | exact RowAt.new w6.drew ZT y.el.cs) J6.out.more).mono ?_;
       rintro e8 w8 ⟨a8, c8, rfl, q1, q2, q3⟩;
       obtain ⟨d8, f8⟩ := HF.out _ w8 (by first | exact J6.out.alloc _ | exact J6.out.drew.alloc _ | exact (J6.out.alloc _).drew | exact (J6.out.drew.alloc _).drew) q2;
       have FIN := Lib.hid (HE.out _ w8 i y a8 c8 (by first | exact J6.out.alloc _ | exact J6.out.drew.alloc _ | exact (J6.out.alloc _).drew | exact (J6.out.drew.alloc _).drew) HI5.out YZ6.out (YS6.out.keep (S := No) (by first | exact (Kept.refl _ _).alloc _ | exact (Kept.refl _ _).drew.alloc _ | exact ((Kept.refl _ _).alloc _).drew | exact ((Kept.refl _ _).drew.alloc _).drew) (fun _ _ _ h => h)) q1 q2 q3);
       clear q1 q2 q3))
  all_goals
    go_wp2_with fail
    go_ret
    exact ⟨rfl, FIN.out⟩
end Go.Proofs.Ytlnjcaicagcinaa
