/-
  The contract of Add (layer 6). No conditions beyond those that each theorem names.
-/
import Derived.Test.YtlnjcaicagcinaaZoneI
namespace Go.Proofs.Ytlnjcaicagcinaa
open Go.ChangeShapes Go.WideShapes Go.ChangeAt Go.RowKit

set_option maxRecDepth 100000 in
theorem zbelow_raw (zp : Nat) (lv mv : Value) (L : List ZR) (a : Int) (w : World) (hh : RowAt w zp 76 [lv, mv]) (hl : SRow ZT 6 w lv L.length (zcs L)) (hr : Rising L) (hs : L.length ≤ 100) :
    Calls Try.prog 28 #[.pointer (some ⟨zp, 0, none⟩), .int .i64 a] w fun e w' =>
      (∃ i : Nat, e = .returned (.int .i64 i) ∧ i ≤ L.length ∧ (∀ k x, L[k]? = some x → k < i → x.z.b < a) ∧ (∀ k x, L[k]? = some x → i ≤ k → a ≤ x.z.b)) ∧ Below w.heap.size w w' := by
  have c0 : w.cell? ⟨zp, 0, none⟩ = some lv := by rw [hh.cell]; rfl
  have hlt := hh.lt
  have HP := Lib.hid (search_any a lv L w hl (by omega) hr)
  obtain ⟨sa, c, rfl, hc1, hc2⟩ := hl.shape
  clear hl hr hh
  go_enter Try.func28, Try.ntmps28
  go_wp2_with fail
  refine HP.out.mono ?_
  rintro e w' ⟨⟨i, f, rfl, hr⟩, hb⟩
  have HR := Lib.hid hr
  clear hr
  go_wp2_with fail
  go_ret
  exact ⟨⟨i, rfl, HR.out⟩, hb⟩

theorem kind_over {A B : List ZV} {x : ZV} (g : Good (A ++ x :: B)) (y : Int) : (if own1 x y ≠ 0 then own1 x y else kindOf (A ++ B) y) = kindOf (A ++ x :: B) y := by
  have gx := g.cells x (by simp)
  rw [kindOf_mid g y]
  unfold own1 upd
  by_cases h1 : y ∈ x.Q
  · have := (upd_ne (gx.2.2 y h1).2 (by decide)).1
    simp [h1, this]
  · by_cases h2 : y ∈ x.P <;> simp [h1, h2]

def Own3 (zp mb : Nat) (lv : Value) : Nat → Prop := fun j => j = zp ∨ j = mb ∨ own lv j
theorem add_end {w3 w4 w7 w8 : World} {zp mb n : Nat} {lv v' : Value} {A B : List ZR} {x y : ZR} (h : ZAt w3 zp mb lv (A ++ B) n)
    (k4 : Kept (· = mb) w3 w4) (m4 : MapIs w4 mb (n + 200) (fun u => if own1 x.z u ≠ 0 then own1 x.z u else kindOf ((A ++ B).map ZR.z) u)) (k7 : Kept No w4 w7) (hy : Stored w7 y) (hyz : y.z = x.z)
    (hins : SRow ZT 6 w8 v' (A ++ y :: B).length (zcs (A ++ y :: B))) (k8 : Kept (own lv) w7 w8) (ho : ∀ j, own v' j → own lv j ∨ w7.heap.size ≤ j)
    (hs : Split ((A ++ B).map ZR.z) (A.map ZR.z) (B.map ZR.z) x.z.b) (hb : blockZ x.z = true) (hc : cellsOk x.z) (hm : ((A ++ B).map ZR.z).any (meetsZ x.z) = false) (few : (A ++ B).length < 100) :
    ZAt (w8.setCell ⟨zp, 0, none⟩ v') zp mb v' (A ++ y :: B) (n + 200) ∧ Kept (Own3 zp mb lv) w3 (w8.setCell ⟨zp, 0, none⟩ v') ∧ ∀ j, own v' j → own lv j ∨ w3.heap.size ≤ j := by
  have hnm : zp ≠ mb := h.head.ne_map h.cells
  have hlm : ∀ j, own lv j → j ≠ mb := fun j hj => by obtain ⟨ds, hr⟩ := h.list.own_row j hj; exact hr.ne_map h.cells
  have hlz : ∀ j, own lv j → j ≠ zp := fun j hj => by obtain ⟨ds, hr⟩ := h.list.own_row j hj; exact hr.ne_type h.head (by decide)
  have k38 : Kept (fun j => j = mb ∨ own lv j) w3 w8 := ((Kept.then (S := fun j => j = mb ∨ own lv j) (Kept.refl _ _) k4 (fun _ _ h => .inl h)).then k7 (fun _ _ h => h.elim)).then k8 (fun _ _ h => .inr h)
  have hh8 : RowAt w8 zp 76 [lv, .map (some mb)] := h.head.keep k38 (fun hj => by rcases hj with hj | hj; exact hnm hj; exact hlz zp hj rfl)
  have ks := kept_set w8 zp 0 v'
  have hvz : ∀ j, own v' j → j ≠ zp := fun j hj => by obtain ⟨ds, hr⟩ := hins.own_row j hj; exact hr.ne_type hh8 (by decide)
  have gz := hs.eq
  have good : Good ((A ++ y :: B).map ZR.z) := by
    rw [List.map_append, List.map_cons, hyz]
    exact h.good.add hs hb hc hm
  have k78 : Kept (fun j => own lv j ∨ j = zp) w7 (w8.setCell ⟨zp, 0, none⟩ v') := (Kept.then (S := fun j => own lv j ∨ j = zp) (Kept.refl _ _) k8 (fun _ _ h => .inl h)).then ks (fun _ _ h => .inr h)
  have k39 : Kept (Own3 zp mb lv) w3 (w8.setCell ⟨zp, 0, none⟩ v') := (Kept.then (S := Own3 zp mb lv) (Kept.refl _ _) k38 (fun _ _ h => .inr h)).then ks (fun _ _ h => .inl h)
  have k37 : Kept (fun j => j = mb) w3 w7 := k4.then k7 (fun _ _ h => h.elim)
  have head7 : RowAt w7 zp 76 [lv, .map (some mb)] := h.head.keep k37 hnm
  have list7 := h.list.keep k37 hlm
  refine ⟨⟨hh8.setCell 0 v', hins.keep ks (fun j hj => hvz j hj), ?_, good, fun u hu => ?_, ?_⟩, k39, fun j hj => ?_⟩
  · refine (m4.keep ((Kept.then (S := fun j => own lv j ∨ j = zp) (Kept.refl _ _) k7 (fun _ _ h => h.elim)).trans k78) ?_).ext fun u => ?_
    · rintro (hj | hj)
      · exact hlm mb hj rfl
      · exact hnm hj.symm
    · have e := kind_over (A := A.map ZR.z) (B := B.map ZR.z) (x := x.z) (by have := good; rw [List.map_append, List.map_cons, hyz] at this; exact this) u
      rw [List.map_append, e, List.map_append, List.map_cons, hyz]
  · have hcase : u ∈ A ++ B ∨ u = y := by
      rcases List.mem_append.1 hu with hu | hu
      · exact .inl (by simp [hu])
      · rcases List.mem_cons.1 hu with hu | hu
        · exact .inr hu
        · exact .inl (by simp [hu])
    rcases hcase with hu | rfl
    · refine (h.read u hu).keep k39 fun b cs hr hj => ?_
      rcases hj with hj | hj | hj
      · exact (hr.ne_type h.head (by decide)) hj
      · exact (hr.ne_map h.cells) hj
      · obtain ⟨ds, hr'⟩ := h.list.own_row b hj
        exact (hr.ne_type hr' (by decide)) rfl
    · refine hy.keep k78 fun b cs hr hj => ?_
      rcases hj with hj | hj
      · obtain ⟨ds, hr'⟩ := list7.own_row b hj
        exact (hr.ne_type hr' (by decide)) rfl
      · exact (hr.ne_type head7 (by decide)) hj
  · simp at few ⊢
    omega
  · rcases ho j hj with h1 | h1
    · exact .inl h1
    · exact .inr (Nat.le_trans k37.more h1)

def MayAdd (L : List ZV) (z : ZV) : Prop := blockZ z = true ∧ L.any (meetsZ z) = false ∧ cellsOk z
/- one zone more, where it belongs -/
def Added (w w' : World) (zp mb : Nat) (lv : Value) (L : List ZR) (n : Nat) (z : ZV) : Prop :=
  ∃ A B y v', L = A ++ B ∧ Split (L.map ZR.z) (A.map ZR.z) (B.map ZR.z) z.b ∧ y.z = z ∧ ZAt w' zp mb v' (A ++ y :: B) (n + 200) ∧ ∀ j, own v' j → own lv j ∨ w.heap.size ≤ j
def errNil : Value := .nilIface
def errArg : Value := .iface 72 (.int .i64 1)


set_option maxRecDepth 100000 in
set_option maxHeartbeats 4000000 in
theorem add_bad (zp mb : Nat) (lv : Value) (L : List ZR) (n : Nat) (x : ZR) (w : World) (h : ZAt w zp mb lv L n) (hp : IntsAt w x.p x.z.P) (hq : IntsAt w x.q x.z.Q) (hb : blockZ x.z = false) :
    Calls Try.prog 13 #[.pointer (some ⟨zp, 0, none⟩), x.v] w fun e w' => e = .returned errArg ∧ Kept No w w' := by
  have hmf : ∀ (fn : Fn) (first cap : Array Value) (w : World), (Instr.makeFunc fn first cap).run Try.prog w = .ok (.func fn first cap) w := fun _ _ _ _ => rfl
  obtain ⟨W0, hW0⟩ : ∃ W0, W0 = w.alloc (.cells #[.int .i64 x.z.b, .int .i64 x.z.d, .int .i64 x.z.r, .int .i64 x.z.e, x.p.v, x.q.v] ZT) := ⟨_, rfl⟩
  have k0 : Kept No w W0 := by rw [hW0]; exact (Kept.refl _ _).alloc _
  have r0 : RowAt W0 w.heap.size ZT x.el.cs := by rw [hW0]; exact RowAt.new w ZT x.el.cs
  have hz0 : ZAt W0 zp mb lv L n := h.on k0.none
  have hp0 := hp.on k0.none
  have hq0 := hq.on k0.none
  have H6 : Hid (∀ W, Kept No W0 W → Six W w.heap.size 0 x) := fun W hk => (cells_zone r0).keep hk r0.lt (fun h => h)
  have HZ : Hid (∀ W, Kept No W0 W → ZAt W zp mb lv L n) := fun W hk => hz0.on hk.none
  have HB := Lib.hid (fun w => block_any x w)
  have K0 := Lib.hid k0
  show Calls Try.prog 13 #[.pointer (some ⟨zp, 0, none⟩), .agg #[.int .i64 x.z.b, .int .i64 x.z.d, .int .i64 x.z.r, .int .i64 x.z.e, x.p.v, x.q.v]] w _
  have HS : Hid (∀ w', Kept No W0 w' → (w'.cell? ⟨w.heap.size, 0, none⟩ = some (.int .i64 x.z.b) ∧ w'.cell? ⟨w.heap.size, 1, none⟩ = some (.int .i64 x.z.d) ∧ w'.cell? ⟨w.heap.size, 2, none⟩ = some (.int .i64 x.z.r) ∧ w'.cell? ⟨w.heap.size, 3, none⟩ = some (.int .i64 x.z.e) ∧ w'.cell? ⟨w.heap.size, 4, none⟩ = some x.p.v ∧ w'.cell? ⟨w.heap.size, 5, none⟩ = some x.q.v) ∧ Kept No W0 w') := fun w' hk => by
    obtain ⟨t0, t1, t2, t3, t4, t5⟩ := H6.out w' hk
    simp only [Nat.zero_add] at t1 t2 t3 t4 t5
    exact ⟨⟨t0, t1, t2, t3, t4, t5⟩, hk⟩
  have c0 := hz0.h0
  obtain ⟨sa, sc, hlv, hc1, hc2⟩ := h.list.shape
  rw [hb] at HB
  clear h hp hq hz0 hp0 hq0 r0 k0 hb hc1 hc2 hlv
  go_enter Try.func13, Try.ntmps13
  go_wp2_with fail
  rw [← hW0]
  clear hW0
  refine wp_region_held_drew (S := fun w' => (w'.cell? ⟨w.heap.size, 0, none⟩ = some (.int .i64 x.z.b) ∧ w'.cell? ⟨w.heap.size, 1, none⟩ = some (.int .i64 x.z.d) ∧ w'.cell? ⟨w.heap.size, 2, none⟩ = some (.int .i64 x.z.r) ∧ w'.cell? ⟨w.heap.size, 3, none⟩ = some (.int .i64 x.z.e) ∧ w'.cell? ⟨w.heap.size, 4, none⟩ = some x.p.v ∧ w'.cell? ⟨w.heap.size, 5, none⟩ = some x.q.v) ∧ Kept No W0 w') (by kernel_rfl) ?_ (fun hHeld => ?_)
  · exact HS.out _ (Kept.refl _ _).drew
  refine wpAnyH_take (i := 0) (v := ?_) rfl (by kernel_rfl) (by kernel_rfl) (by kernel_rfl) (fun _ _ _ h => h) (Or.inl ⟨by rfl, ?_⟩) (by assumption) ?_
  rotate_left
  · intro w hSw
    (try dsimp only at hSw)
    go_simp
    (try with_reducible rfl)
  try simp only [Act.put, List.getElem_toArray, List.getElem_cons_zero, List.setIfInBounds_toArray, List.set_cons_zero, List.set_cons_succ]
  refine wpAnyH_ready (rs := [1]) (by kernel_rfl) (by simp) ?_
  refine AllReadyH.cons rfl (fun K hK => ?_) AllReadyH.nil
  go_simp
  refine (HB.out _).mono ?_
  rintro e1 w1 ⟨rfl, hb1⟩
  first | show K _ _ | go_wp2_with fail
  refine hK.out _ _ ?_ (fun hHeld1 => ?_)
  · exact HS.out _ (hHeld.2.trans (.of_below hb1))
  clear hK K
  try simp only [Act.put, List.getElem_toArray, List.getElem_cons_zero, List.getElem_cons_succ, List.setIfInBounds_toArray, List.set_cons_zero, List.set_cons_succ]
  refine wpAnyH_take (i := 2) (v := ?_) rfl (by kernel_rfl) (by kernel_rfl) (by kernel_rfl) (fun _ _ _ h => h) (Or.inl ⟨by rfl, ?_⟩) (by assumption) ?_
  rotate_left
  · intro w hSw
    (try dsimp only at hSw)
    go_simp
    (try with_reducible rfl)
  try simp only [Act.put, List.getElem_toArray, List.getElem_cons_zero, List.getElem_cons_succ, List.setIfInBounds_toArray, List.set_cons_zero, List.set_cons_succ]
  refine wpAnyH_take (i := 3) (v := ?_) rfl (by kernel_rfl) (by kernel_rfl) (by kernel_rfl) (fun _ _ _ h => h) (Or.inl ⟨by rfl, ?_⟩) (by assumption) ?_
  rotate_left
  · intro w hSw
    (try dsimp only at hSw)
    go_simp
    (try with_reducible rfl)
  try simp only [Act.put, List.getElem_toArray, List.getElem_cons_zero, List.getElem_cons_succ, List.setIfInBounds_toArray, List.set_cons_zero, List.set_cons_succ]
  refine wpAnyH_take (i := 4) (v := undef) rfl (by kernel_rfl) (by kernel_rfl) (by kernel_rfl) (fun _ _ _ h => h) (Or.inr ⟨by rfl, rfl⟩) (by assumption) ?_
  try simp only [Act.put, List.getElem_toArray, List.getElem_cons_zero, List.getElem_cons_succ, List.setIfInBounds_toArray, List.set_cons_zero, List.set_cons_succ]
  refine wpAnyH_take (i := 5) (v := undef) rfl (by kernel_rfl) (by kernel_rfl) (by kernel_rfl) (fun _ _ _ h => h) (Or.inr ⟨by rfl, rfl⟩) (by assumption) ?_
  try simp only [Act.put, List.getElem_toArray, List.getElem_cons_zero, List.getElem_cons_succ, List.setIfInBounds_toArray, List.set_cons_zero, List.set_cons_succ]
  refine wpAnyH_take (i := 6) (v := undef) rfl (by kernel_rfl) (by kernel_rfl) (by kernel_rfl) (fun _ _ _ h => h) (Or.inr ⟨by rfl, rfl⟩) (by assumption) ?_
  try simp only [Act.put, List.getElem_toArray, List.getElem_cons_zero, List.getElem_cons_succ, List.setIfInBounds_toArray, List.set_cons_zero, List.set_cons_succ]
  refine wpAnyH_take (i := 7) (v := undef) rfl (by kernel_rfl) (by kernel_rfl) (by kernel_rfl) (fun _ _ _ h => h) (Or.inr ⟨by rfl, rfl⟩) (by assumption) ?_
  try simp only [Act.put, List.getElem_toArray, List.getElem_cons_zero, List.getElem_cons_succ, List.setIfInBounds_toArray, List.set_cons_zero, List.set_cons_succ]
  refine wpAnyH_take (i := 8) (v := undef) rfl (by kernel_rfl) (by kernel_rfl) (by kernel_rfl) (fun _ _ _ h => h) (Or.inr ⟨by rfl, rfl⟩) (by assumption) ?_
  try simp only [Act.put, List.getElem_toArray, List.getElem_cons_zero, List.getElem_cons_succ, List.setIfInBounds_toArray, List.set_cons_zero, List.set_cons_succ]
  refine wpAnyH_take (i := 9) (v := undef) rfl (by kernel_rfl) (by kernel_rfl) (by kernel_rfl) (fun _ _ _ h => h) (Or.inr ⟨by rfl, rfl⟩) (by assumption) ?_
  try simp only [Act.put, List.getElem_toArray, List.getElem_cons_zero, List.getElem_cons_succ, List.setIfInBounds_toArray, List.set_cons_zero, List.set_cons_succ]
  refine wpAnyH_take (i := 10) (v := undef) rfl (by kernel_rfl) (by kernel_rfl) (by kernel_rfl) (fun _ _ _ h => h) (Or.inr ⟨by rfl, rfl⟩) (by assumption) ?_
  try simp only [Act.put, List.getElem_toArray, List.getElem_cons_zero, List.getElem_cons_succ, List.setIfInBounds_toArray, List.set_cons_zero, List.set_cons_succ]
  refine wpAnyH_take (i := 11) (v := ?_) rfl (by kernel_rfl) (by kernel_rfl) (by kernel_rfl) (fun _ _ _ h => h) (Or.inl ⟨by rfl, ?_⟩) (by assumption) ?_
  rotate_left
  · intro w hSw
    (try dsimp only at hSw)
    go_simp
    (try with_reducible rfl)
  try simp only [Act.put, List.getElem_toArray, List.getElem_cons_zero, List.getElem_cons_succ, List.setIfInBounds_toArray, List.set_cons_zero, List.set_cons_succ]
  refine wpAnyH_done (by kernel_rfl) ?_ _
  have K1 := Lib.hid hHeld1.2
  clear hHeld hHeld1 hb1
  go_wp2_with fail
  go_ret
  exact ⟨rfl, K0.out.trans K1.out⟩


set_option maxRecDepth 100000 in
set_option maxHeartbeats 4000000 in
theorem add_meet (zp mb : Nat) (lv : Value) (L : List ZR) (n : Nat) (x : ZR) (w : World) (h : ZAt w zp mb lv L n) (hp : IntsAt w x.p x.z.P) (hq : IntsAt w x.q x.z.Q) (sp : x.z.P.length ≤ 100) (sq : x.z.Q.length ≤ 100) (hb : blockZ x.z = true) (hme : (L.map ZR.z).any (meetsZ x.z) = true) :
    Calls Try.prog 13 #[.pointer (some ⟨zp, 0, none⟩), x.v] w fun e w' => e = .returned errArg ∧ Kept No w w' := by
  have hmf : ∀ (fn : Fn) (first cap : Array Value) (w : World), (Instr.makeFunc fn first cap).run Try.prog w = .ok (.func fn first cap) w := fun _ _ _ _ => rfl
  obtain ⟨W0, hW0⟩ : ∃ W0, W0 = w.alloc (.cells #[.int .i64 x.z.b, .int .i64 x.z.d, .int .i64 x.z.r, .int .i64 x.z.e, x.p.v, x.q.v] ZT) := ⟨_, rfl⟩
  have k0 : Kept No w W0 := by rw [hW0]; exact (Kept.refl _ _).alloc _
  have r0 : RowAt W0 w.heap.size ZT x.el.cs := by rw [hW0]; exact RowAt.new w ZT x.el.cs
  have hz0 : ZAt W0 zp mb lv L n := h.on k0.none
  have hp0 := hp.on k0.none
  have hq0 := hq.on k0.none
  have H6 : Hid (∀ W, Kept No W0 W → Six W w.heap.size 0 x) := fun W hk => (cells_zone r0).keep hk r0.lt (fun h => h)
  have HZ : Hid (∀ W, Kept No W0 W → ZAt W zp mb lv L n) := fun W hk => hz0.on hk.none
  have HB := Lib.hid (fun w => block_any x w)
  have K0 := Lib.hid k0
  show Calls Try.prog 13 #[.pointer (some ⟨zp, 0, none⟩), .agg #[.int .i64 x.z.b, .int .i64 x.z.d, .int .i64 x.z.r, .int .i64 x.z.e, x.p.v, x.q.v]] w _
  have HS : Hid (∀ w', Kept No W0 w' → (w'.cell? ⟨w.heap.size, 0, none⟩ = some (.int .i64 x.z.b) ∧ w'.cell? ⟨w.heap.size, 1, none⟩ = some (.int .i64 x.z.d) ∧ w'.cell? ⟨w.heap.size, 2, none⟩ = some (.int .i64 x.z.r) ∧ w'.cell? ⟨w.heap.size, 3, none⟩ = some (.int .i64 x.z.e) ∧ w'.cell? ⟨w.heap.size, 4, none⟩ = some x.p.v ∧ w'.cell? ⟨w.heap.size, 5, none⟩ = some x.q.v) ∧ Kept No W0 w') := fun w' hk => by
    obtain ⟨t0, t1, t2, t3, t4, t5⟩ := H6.out w' hk
    simp only [Nat.zero_add] at t1 t2 t3 t4 t5
    exact ⟨⟨t0, t1, t2, t3, t4, t5⟩, hk⟩
  have c0 := hz0.h0
  obtain ⟨sa, sc, hlv, hc1, hc2⟩ := h.list.shape
  subst hlv
  rw [hb] at HB
  have HT : Hid (∀ w', Kept No W0 w' → (w'.cell? ⟨w.heap.size, 0, none⟩ = some (.int .i64 x.z.b) ∧ w'.cell? ⟨w.heap.size, 1, none⟩ = some (.int .i64 x.z.d) ∧ w'.cell? ⟨w.heap.size, 2, none⟩ = some (.int .i64 x.z.r) ∧ w'.cell? ⟨w.heap.size, 3, none⟩ = some (.int .i64 x.z.e) ∧ w'.cell? ⟨w.heap.size, 4, none⟩ = some x.p.v ∧ w'.cell? ⟨w.heap.size, 5, none⟩ = some x.q.v) ∧ Kept No W0 w' ∧ w'.cell? ⟨zp, 0, none⟩ = some (.slice sa L.length sc) ∧ w'.cell? ⟨zp, 1, none⟩ = some (.map (some mb))) := fun w' hk => ⟨(HS.out w' hk).1, hk, (HZ.out w' hk).h0, (HZ.out w' hk).h1⟩
  have HC : Hid (∀ W, Kept No W0 W → Calls Try.prog 23 #[.slice sa L.length sc, .func (.func 24) #[x.v] #[]] W fun e w' => e = .returned (.bool ((L.map ZR.z).any (meetsZ x.z))) ∧ Below W.heap.size W w') := fun W hk =>
    (zcontains_any x _ L W (HZ.out W hk).list (by have := h.small; omega)).mono fun _ _ ⟨he, hb⟩ => ⟨by rw [he, List.any_map]; rfl, hb⟩
  have hzb := (blockZ_iff x.z).1 hb
  have HDc : Hid (∀ W, Kept No W0 W → Calls Try.prog 25 #[x.v] W fun e w' => Kept No W w' ∧
      ((cellsOk x.z ∧ ∃ mb', e = .returned (.tuple #[.map (some mb'), .bool true]) ∧ MapIs w' mb' 200 (own1 x.z) ∧ W.heap.size ≤ mb') ∨ (¬ cellsOk x.z ∧ e = .returned (.tuple #[.map none, .bool false])))) := fun W hk =>
    declared_any x W (hp0.on hk.none) (hq0.on hk.none) sp sq (by omega)
  have HM := Lib.hid hzb
  clear hzb
  rw [hme] at HC
  clear h hp hq hz0 hp0 hq0 r0 k0 hb hme HDc
  go_enter Try.func13, Try.ntmps13
  go_wp2_with fail
  rw [← hW0]
  clear hW0
  refine wp_region_held_drew (S := fun w' => (w'.cell? ⟨w.heap.size, 0, none⟩ = some (.int .i64 x.z.b) ∧ w'.cell? ⟨w.heap.size, 1, none⟩ = some (.int .i64 x.z.d) ∧ w'.cell? ⟨w.heap.size, 2, none⟩ = some (.int .i64 x.z.r) ∧ w'.cell? ⟨w.heap.size, 3, none⟩ = some (.int .i64 x.z.e) ∧ w'.cell? ⟨w.heap.size, 4, none⟩ = some x.p.v ∧ w'.cell? ⟨w.heap.size, 5, none⟩ = some x.q.v) ∧ Kept No W0 w' ∧ w'.cell? ⟨zp, 0, none⟩ = some (.slice sa L.length sc) ∧ w'.cell? ⟨zp, 1, none⟩ = some (.map (some mb))) (by kernel_rfl) ?_ (fun hHeld => ?_)
  · exact HT.out _ (Kept.refl _ _).drew
  refine wpAnyH_take (i := 0) (v := ?_) rfl (by kernel_rfl) (by kernel_rfl) (by kernel_rfl) (fun _ _ _ h => h) (Or.inl ⟨by rfl, ?_⟩) (by assumption) ?_
  rotate_left
  · intro w hSw
    (try dsimp only at hSw)
    go_simp
    (try with_reducible rfl)
  try simp only [Act.put, List.getElem_toArray, List.getElem_cons_zero, List.setIfInBounds_toArray, List.set_cons_zero, List.set_cons_succ]
  refine wpAnyH_ready (rs := [1]) (by kernel_rfl) (by simp) ?_
  refine AllReadyH.cons rfl (fun K hK => ?_) AllReadyH.nil
  go_simp
  refine (HB.out _).mono ?_
  rintro e1 w1 ⟨rfl, hb1⟩
  first | show K _ _ | go_wp2_with fail
  refine hK.out _ _ ?_ (fun hHeld1 => ?_)
  · exact HT.out _ (hHeld.2.1.trans (.of_below hb1))
  clear hK K
  try simp only [Act.put, List.getElem_toArray, List.getElem_cons_zero, List.getElem_cons_succ, List.setIfInBounds_toArray, List.set_cons_zero, List.set_cons_succ]
  refine wpAnyH_take (i := 2) (v := ?_) rfl (by kernel_rfl) (by kernel_rfl) (by kernel_rfl) (fun _ _ _ h => h) (Or.inl ⟨by rfl, ?_⟩) (by assumption) ?_
  rotate_left
  · intro w hSw
    (try dsimp only at hSw)
    go_simp
    (try with_reducible rfl)
  try simp only [Act.put, List.getElem_toArray, List.getElem_cons_zero, List.getElem_cons_succ, List.setIfInBounds_toArray, List.set_cons_zero, List.set_cons_succ]
  refine wpAnyH_take (i := 3) (v := ?_) rfl (by kernel_rfl) (by kernel_rfl) (by kernel_rfl) (fun _ _ _ h => h) (Or.inl ⟨by rfl, ?_⟩) (by assumption) ?_
  rotate_left
  · intro w hSw
    (try dsimp only at hSw)
    go_simp
    (try with_reducible rfl)
  try simp only [Act.put, List.getElem_toArray, List.getElem_cons_zero, List.getElem_cons_succ, List.setIfInBounds_toArray, List.set_cons_zero, List.set_cons_succ]
  refine wpAnyH_take (i := 4) (v := ?_) rfl (by kernel_rfl) (by kernel_rfl) (by kernel_rfl) (fun _ _ _ h => h) (Or.inl ⟨by rfl, ?_⟩) (by assumption) ?_
  rotate_left
  · intro w hSw
    (try dsimp only at hSw)
    go_simp
    (try with_reducible rfl)
  try simp only [Act.put, List.getElem_toArray, List.getElem_cons_zero, List.getElem_cons_succ, List.setIfInBounds_toArray, List.set_cons_zero, List.set_cons_succ]
  refine wpAnyH_take (i := 5) (v := ?_) rfl (by kernel_rfl) (by kernel_rfl) (by kernel_rfl) (fun _ _ _ h => h) (Or.inl ⟨by rfl, ?_⟩) (by assumption) ?_
  rotate_left
  · intro w hSw
    (try dsimp only at hSw)
    go_simp
    (try with_reducible rfl)
  try simp only [Act.put, List.getElem_toArray, List.getElem_cons_zero, List.getElem_cons_succ, List.setIfInBounds_toArray, List.set_cons_zero, List.set_cons_succ]
  refine wpAnyH_take (i := 6) (v := ?_) rfl (by kernel_rfl) (by kernel_rfl) (by kernel_rfl) (fun _ _ _ h => h) (Or.inl ⟨by rfl, ?_⟩) (by assumption) ?_
  rotate_left
  · intro w hSw
    (try dsimp only at hSw)
    go_simp
    (try with_reducible rfl)
  try simp only [Act.put, List.getElem_toArray, List.getElem_cons_zero, List.getElem_cons_succ, List.setIfInBounds_toArray, List.set_cons_zero, List.set_cons_succ]
  refine wpAnyH_take (i := 7) (v := ?_) rfl (by kernel_rfl) (by kernel_rfl) (by kernel_rfl) (fun _ _ _ h => h) (Or.inl ⟨by rfl, ?_⟩) (by assumption) ?_
  rotate_left
  · intro w hSw
    (try dsimp only at hSw)
    go_simp
    (try with_reducible rfl)
  try simp only [Act.put, List.getElem_toArray, List.getElem_cons_zero, List.getElem_cons_succ, List.setIfInBounds_toArray, List.set_cons_zero, List.set_cons_succ]
  refine wpAnyH_take (i := 8) (v := ?_) rfl (by kernel_rfl) (by kernel_rfl) (by kernel_rfl) (fun _ _ _ h => h) (Or.inl ⟨by rfl, ?_⟩) (by assumption) ?_
  rotate_left
  · intro w hSw
    (try dsimp only at hSw)
    go_simp
    (try with_reducible rfl)
  try simp only [Act.put, List.getElem_toArray, List.getElem_cons_zero, List.getElem_cons_succ, List.setIfInBounds_toArray, List.set_cons_zero, List.set_cons_succ]
  refine wpAnyH_take (i := 9) (v := ?_) rfl (by kernel_rfl) (by kernel_rfl) (by kernel_rfl) (fun _ _ _ h => h) (Or.inl ⟨by rfl, ?_⟩) (by assumption) ?_
  rotate_left
  · intro w hSw
    (try dsimp only at hSw)
    go_simp
    (try with_reducible rfl)
  try simp only [Act.put, List.getElem_toArray, List.getElem_cons_zero, List.getElem_cons_succ, List.setIfInBounds_toArray, List.set_cons_zero, List.set_cons_succ]
  refine wpAnyH_ready (rs := [10]) (by kernel_rfl) (by simp) ?_
  refine AllReadyH.cons rfl (fun K hK => ?_) AllReadyH.nil
  go_simp
  refine (HC.out _ hHeld1.2.1).mono ?_
  rintro e2 w2 ⟨rfl, hb2⟩
  first | show K _ _ | go_wp2_with fail
  refine hK.out _ _ ?_ (fun hHeld2 => ?_)
  · exact HT.out _ (hHeld1.2.1.trans (.of_below hb2))
  clear hK K
  try simp only [Act.put, List.getElem_toArray, List.getElem_cons_zero, List.getElem_cons_succ, List.setIfInBounds_toArray, List.set_cons_zero, List.set_cons_succ]
  refine wpAnyH_take (i := 11) (v := ?_) rfl (by kernel_rfl) (by kernel_rfl) (by kernel_rfl) (fun _ _ _ h => h) (Or.inl ⟨by rfl, ?_⟩) (by assumption) ?_
  rotate_left
  · intro w hSw
    (try dsimp only at hSw)
    go_simp
    (try with_reducible rfl)
  try simp only [Act.put, List.getElem_toArray, List.getElem_cons_zero, List.getElem_cons_succ, List.setIfInBounds_toArray, List.set_cons_zero, List.set_cons_succ]
  refine wpAnyH_done (by kernel_rfl) ?_ _
  have K2 := Lib.hid hHeld2.2.1
  clear hHeld hHeld1 hHeld2 hb1 hb2
  go_wp2_with fail
  go_ret
  exact ⟨rfl, K0.out.trans K2.out⟩

set_option maxRecDepth 100000 in
set_option maxHeartbeats 4000000 in
theorem add_decl (zp mb : Nat) (lv : Value) (L : List ZR) (n : Nat) (x : ZR) (w : World) (h : ZAt w zp mb lv L n) (hp : IntsAt w x.p x.z.P) (hq : IntsAt w x.q x.z.Q) (sp : x.z.P.length ≤ 100) (sq : x.z.Q.length ≤ 100) (hb : blockZ x.z = true) (hme : (L.map ZR.z).any (meetsZ x.z) = false) (hc : ¬ cellsOk x.z) :
    Calls Try.prog 13 #[.pointer (some ⟨zp, 0, none⟩), x.v] w fun e w' => e = .returned errArg ∧ Kept No w w' := by
  have hmf : ∀ (fn : Fn) (first cap : Array Value) (w : World), (Instr.makeFunc fn first cap).run Try.prog w = .ok (.func fn first cap) w := fun _ _ _ _ => rfl
  obtain ⟨W0, hW0⟩ : ∃ W0, W0 = w.alloc (.cells #[.int .i64 x.z.b, .int .i64 x.z.d, .int .i64 x.z.r, .int .i64 x.z.e, x.p.v, x.q.v] ZT) := ⟨_, rfl⟩
  have k0 : Kept No w W0 := by rw [hW0]; exact (Kept.refl _ _).alloc _
  have r0 : RowAt W0 w.heap.size ZT x.el.cs := by rw [hW0]; exact RowAt.new w ZT x.el.cs
  have hz0 : ZAt W0 zp mb lv L n := h.on k0.none
  have hp0 := hp.on k0.none
  have hq0 := hq.on k0.none
  have H6 : Hid (∀ W, Kept No W0 W → Six W w.heap.size 0 x) := fun W hk => (cells_zone r0).keep hk r0.lt (fun h => h)
  have HZ : Hid (∀ W, Kept No W0 W → ZAt W zp mb lv L n) := fun W hk => hz0.on hk.none
  have HB := Lib.hid (fun w => block_any x w)
  have K0 := Lib.hid k0
  show Calls Try.prog 13 #[.pointer (some ⟨zp, 0, none⟩), .agg #[.int .i64 x.z.b, .int .i64 x.z.d, .int .i64 x.z.r, .int .i64 x.z.e, x.p.v, x.q.v]] w _
  have HS : Hid (∀ w', Kept No W0 w' → (w'.cell? ⟨w.heap.size, 0, none⟩ = some (.int .i64 x.z.b) ∧ w'.cell? ⟨w.heap.size, 1, none⟩ = some (.int .i64 x.z.d) ∧ w'.cell? ⟨w.heap.size, 2, none⟩ = some (.int .i64 x.z.r) ∧ w'.cell? ⟨w.heap.size, 3, none⟩ = some (.int .i64 x.z.e) ∧ w'.cell? ⟨w.heap.size, 4, none⟩ = some x.p.v ∧ w'.cell? ⟨w.heap.size, 5, none⟩ = some x.q.v) ∧ Kept No W0 w') := fun w' hk => by
    obtain ⟨t0, t1, t2, t3, t4, t5⟩ := H6.out w' hk
    simp only [Nat.zero_add] at t1 t2 t3 t4 t5
    exact ⟨⟨t0, t1, t2, t3, t4, t5⟩, hk⟩
  have c0 := hz0.h0
  obtain ⟨sa, sc, hlv, hc1, hc2⟩ := h.list.shape
  subst hlv
  rw [hb] at HB
  have HT : Hid (∀ w', Kept No W0 w' → (w'.cell? ⟨w.heap.size, 0, none⟩ = some (.int .i64 x.z.b) ∧ w'.cell? ⟨w.heap.size, 1, none⟩ = some (.int .i64 x.z.d) ∧ w'.cell? ⟨w.heap.size, 2, none⟩ = some (.int .i64 x.z.r) ∧ w'.cell? ⟨w.heap.size, 3, none⟩ = some (.int .i64 x.z.e) ∧ w'.cell? ⟨w.heap.size, 4, none⟩ = some x.p.v ∧ w'.cell? ⟨w.heap.size, 5, none⟩ = some x.q.v) ∧ Kept No W0 w' ∧ w'.cell? ⟨zp, 0, none⟩ = some (.slice sa L.length sc) ∧ w'.cell? ⟨zp, 1, none⟩ = some (.map (some mb))) := fun w' hk => ⟨(HS.out w' hk).1, hk, (HZ.out w' hk).h0, (HZ.out w' hk).h1⟩
  have HC : Hid (∀ W, Kept No W0 W → Calls Try.prog 23 #[.slice sa L.length sc, .func (.func 24) #[x.v] #[]] W fun e w' => e = .returned (.bool ((L.map ZR.z).any (meetsZ x.z))) ∧ Below W.heap.size W w') := fun W hk =>
    (zcontains_any x _ L W (HZ.out W hk).list (by have := h.small; omega)).mono fun _ _ ⟨he, hb⟩ => ⟨by rw [he, List.any_map]; rfl, hb⟩
  have hzb := (blockZ_iff x.z).1 hb
  have HDc : Hid (∀ W, Kept No W0 W → Calls Try.prog 25 #[x.v] W fun e w' => Kept No W w' ∧
      ((cellsOk x.z ∧ ∃ mb', e = .returned (.tuple #[.map (some mb'), .bool true]) ∧ MapIs w' mb' 200 (own1 x.z) ∧ W.heap.size ≤ mb') ∨ (¬ cellsOk x.z ∧ e = .returned (.tuple #[.map none, .bool false])))) := fun W hk =>
    declared_any x W (hp0.on hk.none) (hq0.on hk.none) sp sq (by omega)
  have HM := Lib.hid hzb
  clear hzb
  rw [hme] at HC
  clear h hp hq hz0 hp0 hq0 r0 k0 hb hme
  go_enter Try.func13, Try.ntmps13
  go_wp2_with fail
  rw [← hW0]
  clear hW0
  refine wp_region_held_drew (S := fun w' => (w'.cell? ⟨w.heap.size, 0, none⟩ = some (.int .i64 x.z.b) ∧ w'.cell? ⟨w.heap.size, 1, none⟩ = some (.int .i64 x.z.d) ∧ w'.cell? ⟨w.heap.size, 2, none⟩ = some (.int .i64 x.z.r) ∧ w'.cell? ⟨w.heap.size, 3, none⟩ = some (.int .i64 x.z.e) ∧ w'.cell? ⟨w.heap.size, 4, none⟩ = some x.p.v ∧ w'.cell? ⟨w.heap.size, 5, none⟩ = some x.q.v) ∧ Kept No W0 w' ∧ w'.cell? ⟨zp, 0, none⟩ = some (.slice sa L.length sc) ∧ w'.cell? ⟨zp, 1, none⟩ = some (.map (some mb))) (by kernel_rfl) ?_ (fun hHeld => ?_)
  · exact HT.out _ (Kept.refl _ _).drew
  refine wpAnyH_take (i := 0) (v := ?_) rfl (by kernel_rfl) (by kernel_rfl) (by kernel_rfl) (fun _ _ _ h => h) (Or.inl ⟨by rfl, ?_⟩) (by assumption) ?_
  rotate_left
  · intro w hSw
    (try dsimp only at hSw)
    go_simp
    (try with_reducible rfl)
  try simp only [Act.put, List.getElem_toArray, List.getElem_cons_zero, List.setIfInBounds_toArray, List.set_cons_zero, List.set_cons_succ]
  refine wpAnyH_ready (rs := [1]) (by kernel_rfl) (by simp) ?_
  refine AllReadyH.cons rfl (fun K hK => ?_) AllReadyH.nil
  go_simp
  refine (HB.out _).mono ?_
  rintro e1 w1 ⟨rfl, hb1⟩
  first | show K _ _ | go_wp2_with fail
  refine hK.out _ _ ?_ (fun hHeld1 => ?_)
  · exact HT.out _ (hHeld.2.1.trans (.of_below hb1))
  clear hK K
  try simp only [Act.put, List.getElem_toArray, List.getElem_cons_zero, List.getElem_cons_succ, List.setIfInBounds_toArray, List.set_cons_zero, List.set_cons_succ]
  refine wpAnyH_take (i := 2) (v := ?_) rfl (by kernel_rfl) (by kernel_rfl) (by kernel_rfl) (fun _ _ _ h => h) (Or.inl ⟨by rfl, ?_⟩) (by assumption) ?_
  rotate_left
  · intro w hSw
    (try dsimp only at hSw)
    go_simp
    (try with_reducible rfl)
  try simp only [Act.put, List.getElem_toArray, List.getElem_cons_zero, List.getElem_cons_succ, List.setIfInBounds_toArray, List.set_cons_zero, List.set_cons_succ]
  refine wpAnyH_take (i := 3) (v := ?_) rfl (by kernel_rfl) (by kernel_rfl) (by kernel_rfl) (fun _ _ _ h => h) (Or.inl ⟨by rfl, ?_⟩) (by assumption) ?_
  rotate_left
  · intro w hSw
    (try dsimp only at hSw)
    go_simp
    (try with_reducible rfl)
  try simp only [Act.put, List.getElem_toArray, List.getElem_cons_zero, List.getElem_cons_succ, List.setIfInBounds_toArray, List.set_cons_zero, List.set_cons_succ]
  refine wpAnyH_take (i := 4) (v := ?_) rfl (by kernel_rfl) (by kernel_rfl) (by kernel_rfl) (fun _ _ _ h => h) (Or.inl ⟨by rfl, ?_⟩) (by assumption) ?_
  rotate_left
  · intro w hSw
    (try dsimp only at hSw)
    go_simp
    (try with_reducible rfl)
  try simp only [Act.put, List.getElem_toArray, List.getElem_cons_zero, List.getElem_cons_succ, List.setIfInBounds_toArray, List.set_cons_zero, List.set_cons_succ]
  refine wpAnyH_take (i := 5) (v := ?_) rfl (by kernel_rfl) (by kernel_rfl) (by kernel_rfl) (fun _ _ _ h => h) (Or.inl ⟨by rfl, ?_⟩) (by assumption) ?_
  rotate_left
  · intro w hSw
    (try dsimp only at hSw)
    go_simp
    (try with_reducible rfl)
  try simp only [Act.put, List.getElem_toArray, List.getElem_cons_zero, List.getElem_cons_succ, List.setIfInBounds_toArray, List.set_cons_zero, List.set_cons_succ]
  refine wpAnyH_take (i := 6) (v := ?_) rfl (by kernel_rfl) (by kernel_rfl) (by kernel_rfl) (fun _ _ _ h => h) (Or.inl ⟨by rfl, ?_⟩) (by assumption) ?_
  rotate_left
  · intro w hSw
    (try dsimp only at hSw)
    go_simp
    (try with_reducible rfl)
  try simp only [Act.put, List.getElem_toArray, List.getElem_cons_zero, List.getElem_cons_succ, List.setIfInBounds_toArray, List.set_cons_zero, List.set_cons_succ]
  refine wpAnyH_take (i := 7) (v := ?_) rfl (by kernel_rfl) (by kernel_rfl) (by kernel_rfl) (fun _ _ _ h => h) (Or.inl ⟨by rfl, ?_⟩) (by assumption) ?_
  rotate_left
  · intro w hSw
    (try dsimp only at hSw)
    go_simp
    (try with_reducible rfl)
  try simp only [Act.put, List.getElem_toArray, List.getElem_cons_zero, List.getElem_cons_succ, List.setIfInBounds_toArray, List.set_cons_zero, List.set_cons_succ]
  refine wpAnyH_take (i := 8) (v := ?_) rfl (by kernel_rfl) (by kernel_rfl) (by kernel_rfl) (fun _ _ _ h => h) (Or.inl ⟨by rfl, ?_⟩) (by assumption) ?_
  rotate_left
  · intro w hSw
    (try dsimp only at hSw)
    go_simp
    (try with_reducible rfl)
  try simp only [Act.put, List.getElem_toArray, List.getElem_cons_zero, List.getElem_cons_succ, List.setIfInBounds_toArray, List.set_cons_zero, List.set_cons_succ]
  refine wpAnyH_take (i := 9) (v := ?_) rfl (by kernel_rfl) (by kernel_rfl) (by kernel_rfl) (fun _ _ _ h => h) (Or.inl ⟨by rfl, ?_⟩) (by assumption) ?_
  rotate_left
  · intro w hSw
    (try dsimp only at hSw)
    go_simp
    (try with_reducible rfl)
  try simp only [Act.put, List.getElem_toArray, List.getElem_cons_zero, List.getElem_cons_succ, List.setIfInBounds_toArray, List.set_cons_zero, List.set_cons_succ]
  refine wpAnyH_ready (rs := [10]) (by kernel_rfl) (by simp) ?_
  refine AllReadyH.cons rfl (fun K hK => ?_) AllReadyH.nil
  go_simp
  refine (HC.out _ hHeld1.2.1).mono ?_
  rintro e2 w2 ⟨rfl, hb2⟩
  first | show K _ _ | go_wp2_with fail
  refine hK.out _ _ ?_ (fun hHeld2 => ?_)
  · exact HT.out _ (hHeld1.2.1.trans (.of_below hb2))
  clear hK K
  try simp only [Act.put, List.getElem_toArray, List.getElem_cons_zero, List.getElem_cons_succ, List.setIfInBounds_toArray, List.set_cons_zero, List.set_cons_succ]
  refine wpAnyH_take (i := 11) (v := ?_) rfl (by kernel_rfl) (by kernel_rfl) (by kernel_rfl) (fun _ _ _ h => h) (Or.inl ⟨by rfl, ?_⟩) (by assumption) ?_
  rotate_left
  · intro w hSw
    (try dsimp only at hSw)
    go_simp
    (try with_reducible rfl)
  try simp only [Act.put, List.getElem_toArray, List.getElem_cons_zero, List.getElem_cons_succ, List.setIfInBounds_toArray, List.set_cons_zero, List.set_cons_succ]
  refine wpAnyH_done (by kernel_rfl) ?_ _
  have K2 := Lib.hid hHeld2.2.1
  clear hHeld hHeld1 hHeld2 hb1 hb2
  obtain ⟨⟨t0, t1, t2, t3, t4, t5⟩, -, c0, c1⟩ := HT.out _ K2.out
  go_wp2_with fail
  refine (HDc.out _ K2.out).mono ?_
  rintro e3 w3 ⟨hk3, ⟨hd, -⟩ | ⟨-, rfl⟩⟩
  · exact absurd hd hc
  · have K3 := Lib.hid hk3
    clear hk3
    go_wp2_with fail
    go_ret
    exact ⟨rfl, K0.out.trans (K2.out.trans K3.out)⟩
end Go.Proofs.Ytlnjcaicagcinaa
