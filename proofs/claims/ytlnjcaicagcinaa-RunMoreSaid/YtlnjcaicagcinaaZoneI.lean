/-
  Contracts of declared and maps.Copy (layer 6). No conditions beyond those that each theorem names.
-/
import Derived.Test.YtlnjcaicagcinaaZoneH
namespace Go.Proofs.Ytlnjcaicagcinaa
open Go.ChangeShapes Go.WideShapes Go.ChangeAt Go.RowKit

theorem MapIs.ext_wf {w : World} {mb n : Nat} {f g : Int → Int} (h : MapIs w mb n f) (e : ∀ x, (Lit.int .i64 x).wf = true → f x = g x) : MapIs w mb n g := by
  obtain ⟨D, h1, h2⟩ := h
  refine ⟨D, h1, fun x hx => ?_⟩
  rw [← e x hx]
  exact h2 x hx
def over (f g : Int → Int) (left : Lit → Bool) (y : Int) : Int := if g y ≠ 0 ∧ left (.int .i64 y) = false then g y else f y

set_option maxRecDepth 100000 in
set_option maxHeartbeats 1000000 in
theorem copy_any (dst src nd ns : Nat) (f g : Int → Int) (w : World) (hd : MapIs w dst nd f) (hs : MapIs w src ns g) (hne : dst ≠ src) (small : nd + ns ≤ 100000) :
    Calls Try.prog 26 #[.map (some dst), .map (some src)] w fun e w' => e = .returned (.tuple #[]) ∧ Kept (· = dst) w w' ∧ MapIs w' dst (nd + ns) (fun y => if g y ≠ 0 then g y else f y) := by
  obtain ⟨D, hown, hsay⟩ := hs
  have hsz := World.ownsMap.size_le hown
  have hdl := hd.lt
  have hsl := World.ownsMap.lt hown
  have HD := Lib.hid hd
  have HY := Lib.hid hsay
  clear hd hsay
  go_enter Try.func26, Try.ntmps26
  go_wp2_with (at_range; refine wpList_range_own _ rfl _ MT rfl KT KT lawI Try.underlying73 _ src ns D rfl hown ?_; intro w0 hrg0 hg0 hs0)
  go_frame
  have k0 := kept_grown_none hg0
  have hd0 := HD.out.keep k0 (fun h => h)
  go_loopw [4, 5] (fun _ _ wr => ∃ (left : Lit → Bool) (cnt : Nat), wr.ranges Try.prog KT (plainElem (H := Unit) Try.prog KT) src w.heap.size ns D left cnt ∧ cnt ≤ Maps.size D ∧
      Hid (MapIs wr dst (nd + (Maps.size D - cnt)) (over f g left)) ∧ Hid (Kept (fun j => j = dst ∨ j = w.heap.size) w0 wr)) (fun _ _ wr => wr.rangeLeft src w.heap.size)
  case atStart =>
    refine ⟨_, _, hrg0, Nat.le_refl _, (MapIs.ext_wf (hd0.mono (by omega)) fun x hx => ?_ : MapIs _ _ _ _), Kept.refl _ _⟩
    have := (HY.out x hx).1
    unfold over
    rw [this]
    by_cases h : g x = 0 <;> simp [h]
  case round =>
    obtain ⟨left, cnt, hrg, hcs, HM, HK⟩ := hrel
    go_wp2_with (at_next; refine wpList_next_ranges_ii _ rfl _ rfl KT KT .i64 .i64 lawI Try.underlying3 Try.underlying3 src w.heap.size ns _ _ _ rfl hrg ?_ ?_)
    · intro hc0 hl0
      have HL := Lib.hid hl0
      clear hl0
      go_wp2_with fail
      go_end0
      refine ⟨rfl, (Kept.then (S := (· = dst)) (Kept.refl _ _) k0 (fun _ _ h => h.elim)).then HK.out (fun k hk hh => by rcases hh with h | h; exact h; omega), (HM.out.mono (by omega)).ext_wf fun x hx => ?_⟩
      unfold over
      rw [HL.out]
      simp
    · intro x c w1 cnt1 hwx hwc hlx hat hrg1 hlt hg1 hs1 hen
      have k1 := kept_grown hg1
      have hc0 : c ≠ 0 ∧ g x = c := by
        have h1 := HY.out x hwx
        have h2 := hat (.lit (.int .i64 0))
        rw [h1.2] at h2
        have h3 := Maps.has_true_of_atKey hat
        rw [h1.1] at h3
        cases h2
        exact ⟨by simpa using h3, rfl⟩
      obtain ⟨w2, hput, hM2, hK2, _⟩ := (HM.out.keep k1 (by omega)).put hwx hwc hc0.1 (by omega)
      have hg2 : w1.grownBy w2 (some dst) := ⟨hK2.still.1, hK2.still.2.1, hK2.still.2.2, hK2.more, fun i hi hn => hK2.rest i hi (fun e => hn (by rw [e]))⟩
      have hrg2 := hrg1.kept hg2 (fun e => hne (Option.some.inj e).symm) (fun e => by have := Option.some.inj e; omega)
      have HM2 := Lib.hid hM2
      have HK2 : Hid (Kept (fun j => j = dst ∨ j = w.heap.size) w0 w2) := (HK.out.then k1 (fun k hk h => .inr h)).then hK2 (fun k hk h => .inl h)
      have HR2 := Lib.hid hrg2
      have HC := Lib.hid hc0
      clear hM2 hK2 hg2 hrg2 hg1 k1 hat hc0
      go_wp2_with fail
      go_roundw
      case rel =>
        refine ⟨_, cnt1, HR2.out, by omega, (MapIs.ext_wf (HM2.out.mono (by omega)) fun y hy => ?_ : MapIs _ _ _ _), HK2⟩
        unfold over
        by_cases e : y = x
        · subst e
          have := HC.out
          rw [if_pos rfl, if_pos ⟨by rw [this.2]; exact this.1, by simp [WideAt.sameKey_self (a := .int .i64 y) trivial]⟩, this.2]
        · have hk : (Lit.int .i64 y).sameKey (.int .i64 x) = false := Maps.sameKey_ne (fun h => e (by cases h; rfl))
          rw [if_neg e]
          simp [hk]
      case measure => rw [HR2.out.left_eq, hrg.left_eq]; exact hlt

/- what declares gives: the cells of one zone -/
def own1 (z : ZV) : Int → Int := upd (upd (fun _ => 0) z.P 1) z.Q 2
set_option maxRecDepth 100000 in
set_option maxHeartbeats 2000000 in
theorem declared_any (x : ZR) (w : World) (hp : IntsAt w x.p x.z.P) (hq : IntsAt w x.q x.z.Q) (sp : x.z.P.length ≤ 100) (sq : x.z.Q.length ≤ 100) (hx : 0 ≤ x.z.b ∧ x.z.d ≤ 65536) :
    Calls Try.prog 25 #[x.v] w fun e w' => Kept No w w' ∧
      ((cellsOk x.z ∧ ∃ mb, e = .returned (.tuple #[.map (some mb), .bool true]) ∧ MapIs w' mb 200 (own1 x.z) ∧ w.heap.size ≤ mb) ∨ (¬ cellsOk x.z ∧ e = .returned (.tuple #[.map none, .bool false]))) := by
  have hmm := @run_makeMap Try.prog
  obtain ⟨W0, hW0⟩ : ∃ W0, W0 = (w.alloc (.cells #[.int .i64 x.z.b, .int .i64 x.z.d, .int .i64 x.z.r, .int .i64 x.z.e, x.p.v, x.q.v] ZT)).alloc (.map #[] 0) := ⟨_, rfl⟩
  have k0 : Kept No w W0 := by rw [hW0]; exact ((Kept.refl _ _).alloc _).alloc _
  have e0 : (w.alloc (.cells #[.int .i64 x.z.b, .int .i64 x.z.d, .int .i64 x.z.r, .int .i64 x.z.e, x.p.v, x.q.v] ZT)).heap.size = w.heap.size + 1 := by simp
  have hm0 : MapIs W0 (w.heap.size + 1) 0 (fun _ => 0) := by rw [hW0, ← e0]; exact MapIs.new _
  have r0 : RowAt W0 w.heap.size ZT x.el.cs := by rw [hW0]; exact (RowAt.new w ZT x.el.cs).keep (S := No) ((Kept.refl _ _).alloc _) (fun h => h)
  have hp0 := hp.on k0.none
  have hq0 := hq.on k0.none
  have H6 : Hid (∀ W, Kept (· = w.heap.size + 1) W0 W → Six W w.heap.size 0 x) := fun W hk => (cells_zone r0).keep hk r0.lt (by omega)
  have HP := Lib.hid (declare_any x x.p x.z.P (w.heap.size + 1) 0 (fun _ => 0) 1 W0 (.inl rfl) hp0 hm0 (by omega) hx)
  have HQ : Hid (∀ W, Kept (· = w.heap.size + 1) W0 W → MapIs W (w.heap.size + 1) (0 + x.z.P.length) (upd (fun _ => 0) x.z.P 1) → Calls Try.prog 38 #[x.v, .map (some (w.heap.size + 1)), x.q.v, .int .i64 2] W fun e w' =>
      Kept (· = w.heap.size + 1) W w' ∧ ((DeclOk x.z (upd (fun _ => 0) x.z.P 1) x.z.Q ∧ e = .returned (.bool true) ∧ MapIs w' (w.heap.size + 1) (0 + x.z.P.length + x.z.Q.length) (own1 x.z)) ∨ (¬ DeclOk x.z (upd (fun _ => 0) x.z.P 1) x.z.Q ∧ e = .returned (.bool false)))) :=
    fun W hk hM => declare_any x x.q x.z.Q (w.heap.size + 1) _ _ 2 W (.inr rfl) (hq0.map_keep hm0 hk) hM (by omega) hx
  have K0 := Lib.hid k0
  show Calls Try.prog 25 #[.agg #[.int .i64 x.z.b, .int .i64 x.z.d, .int .i64 x.z.r, .int .i64 x.z.e, x.p.v, x.q.v]] w _
  obtain ⟨t0, t1, t2, t3, t4, t5⟩ := H6.out W0 (Kept.refl _ _)
  simp only [Nat.zero_add] at t1 t2 t3 t4 t5
  clear hp hq hm0 r0 hp0 hq0 k0 e0
  go_enter Try.func25, Try.ntmps25
  go_wp2_with fail
  rw [← hW0]
  clear hW0
  refine HP.out.mono ?_
  rintro e w1 ⟨hk1, ⟨hd, rfl, hM⟩ | ⟨hd, rfl⟩⟩
  · obtain ⟨t0, t1, t2, t3, t4, t5⟩ := H6.out w1 hk1
    simp only [Nat.zero_add] at t1 t2 t3 t4 t5
    have HQ1 := Lib.hid (HQ.out w1 hk1 hM)
    have K1 := Lib.hid hk1
    have D1 := Lib.hid hd
    clear hk1 hM hd
    go_wp2_with fail
    refine HQ1.out.mono ?_
    rintro e w2 ⟨hk2, ⟨hd, rfl, hM⟩ | ⟨hd, rfl⟩⟩
    · have K2 := Lib.hid hk2
      have D2 := Lib.hid hd
      have M2 := Lib.hid hM
      clear hk2 hd hM
      go_wp2_with fail
      go_ret2
      exact ⟨K0.out.then (K1.out.trans K2.out) (fun k hk h => by omega), .inl ⟨⟨D1.out, D2.out⟩, w.heap.size + 1, rfl, M2.out.mono (by omega), by omega⟩⟩
    · have K2 := Lib.hid hk2
      have D2 := Lib.hid hd
      clear hk2 hd
      go_wp2_with fail
      go_ret2
      exact ⟨K0.out.then (K1.out.trans K2.out) (fun k hk h => by omega), .inr ⟨fun h => D2.out h.2, rfl⟩⟩
  · have K1 := Lib.hid hk1
    have D1 := Lib.hid hd
    clear hk1 hd
    go_wp2_with fail
    go_ret2
    exact ⟨K0.out.then K1.out (fun k hk h => by omega), .inr ⟨fun h => D1.out h.1, rfl⟩⟩
end Go.Proofs.Ytlnjcaicagcinaa
