/-
  The heap and the document's, side by side (HeapPlays): what each call does to both. No conditions beyond those that each theorem names.
-/
import Derived.Test.YtiloflgpflgjnaaBackB
import Derived.Test.YtiloflgpflgjnaaCode
import Derived.Test.YtiloflgpflgjnaaArgs
namespace Go.Proofs.Ytiloflgpflgjnaa
open Go.ChangeShapes Go.WideShapes Go.ChangeAt Go.RowKit

structure Play0 (w w' : World) (p m : Nat) (f t : Int) (v u tk : Value) (L : List (Int × Int)) (F : List Bool) (D : List (Int × Int)) : Prop where
  base : Back0 w w' p f t v tk L D
  ref : RefAt w' m f t u F
  away : ∀ j, rfoot m u j → ¬ foot p v j ∧ ¬ own tk j
  rmine : ∀ j, rfoot m u j → w.heap.size ≤ j
theorem Play0.turn {w w1 w2 : World} {p m : Nat} {f t : Int} {v v' u tk : Value} {L L' D : List (Int × Int)} {F : List Bool} (h : Play0 w w1 p m f t v u tk L F D) (hh : HeapAt w2 p f t v' L') (hm : Moved w1 w2 p v v') : Play0 w w2 p m f t v' u tk L' F D :=
  ⟨h.base.moved hh hm, h.ref.keep hm.1 (fun j hj => (h.away j hj).1), fun j hj => ⟨fun hf => by
    rcases hf with hf | hf
    · exact (h.away j hj).1 (.inl hf)
    · rcases hm.2 j hf with h1 | h1
      · exact (h.away j hj).1 (.inr h1)
      · have := h.ref.foot_lt j hj; omega, (h.away j hj).2⟩, h.rmine⟩
theorem Play0.still {w w1 w2 : World} {p m : Nat} {f t : Int} {v u tk : Value} {L D : List (Int × Int)} {F : List Bool} (h : Play0 w w1 p m f t v u tk L F D) (hb : Below w1.heap.size w1 w2) : Play0 w w2 p m f t v u tk L F D := h.turn (h.base.heap.below hb) (Moved.below hb p v)
theorem Play0.set {w w1 w2 : World} {p m : Nat} {f t : Int} {v u tk : Value} {L D : List (Int × Int)} {F F' : List Bool} (h : Play0 w w1 p m f t v u tk L F D) (hs : RefSet w1 w2 m f t u F') : Play0 w w2 p m f t v u tk L F' D :=
  ⟨⟨h.base.heap.keep hs.2 (fun j hj hu => (h.away j (.inr hu)).1 hj), h.base.row.keep hs.2 (fun j hj hu => (h.away j (.inr hu)).2 hj), h.base.apart, h.base.mine, hs.2.below h.base.below h.base.below.size (fun j _ hj => h.rmine j (.inr hj))⟩, hs.1, h.away, h.rmine⟩
theorem Play0.store {w w1 w2 : World} {p m : Nat} {f t : Int} {v u tk tk' : Value} {L D D' : List (Int × Int)} {F : List Bool} (h : Play0 w w1 p m f t v u tk L F D) (hs : SRow DT 4 w2 tk' D'.length (dcs D')) (hst : Stored w1 w2 tk tk') : Play0 w w2 p m f t v u tk' L F D' := by
  have fl := h.base.heap.foot_lt
  have rl := h.ref.foot_lt
  refine ⟨⟨h.base.heap.keep hst.1 (fun j hj hk => h.base.apart j hk hj), hs, fun j hj hf => ?_, fun j hj => ?_, hst.1.below h.base.below h.base.below.size (fun j _ hj => h.base.mine j (.inr hj))⟩, h.ref.keep hst.1 (fun j hj => (h.away j hj).2), fun j hj => ⟨(h.away j hj).1, fun hk => ?_⟩, h.rmine⟩
  · rcases hst.2 j hj with h1 | h1
    · exact h.base.apart j h1 hf
    · have := fl j hf; omega
  · rcases hj with hj | hj
    · exact h.base.mine j (.inl hj)
    · rcases hst.2 j hj with h1 | h1
      · exact h.base.mine j (.inr h1)
      · have := h.base.below.size; omega
  · rcases hst.2 j hk with h1 | h1
    · exact (h.away j hj).2 h1
    · have := rl j hj; omega
/- new memory is nobody's -/
theorem Play0.new {w w1 : World} {p m : Nat} {f t : Int} {v u tk : Value} {L D : List (Int × Int)} {F : List Bool} (h : Play0 w w1 p m f t v u tk L F D) {B : Nat} (hB : w1.heap.size ≤ B) : ¬ foot p v B ∧ ¬ rfoot m u B ∧ ¬ own tk B :=
  ⟨fun hf => by have := h.base.heap.foot_lt B hf; omega, fun hf => by have := h.ref.foot_lt B hf; omega, fun hf => by have := h.base.row.own_lt B hf; omega⟩

/- what may be given back, said by words -/
theorem may_held {f t a s : Int} {L : List (Int × Int)} {F : List Bool} {k n : Nat} (hT : Tidy f t L) (hF : Tells f F L) (hf : f % 4 = 0) (hl : f + 4 * (F.length : Int) = t) (h1 : a % 4 = 0) (h2 : 1 ≤ s ∧ s ≤ 65536) (h3 : f ≤ a ∧ a < t) (hk : (k : Int) = (a - f) / 4) (hn : (n : Int) = (s + 3) / 4) : MayGive f t L a s ↔ AllHeld F k n := by
  have hup : up4 s = 4 * (n : Int) := by unfold up4; omega
  unfold MayGive AllHeld
  rw [hup]
  constructor
  · rintro ⟨_, _, _, h5, h6⟩
    refine ⟨by omega, fun j j1 j2 hj => ?_⟩
    obtain ⟨y, hy, h7⟩ := (hF j).2 hj
    exact h6 y hy (by omega)
  · rintro ⟨h5, h6⟩
    refine ⟨h1, h2, h3.1, by omega, fun y hy hc => ?_⟩
    have ey := hT.each y hy
    have hq : ∃ j : Nat, f + 4 * (j : Int) = max y.1 a := ⟨((max y.1 a - f) / 4).toNat, by omega⟩
    obtain ⟨j, hj⟩ := hq
    refine h6 j (by omega) (by omega) ((hF j).1 ⟨y, hy, by omega⟩)
theorem not_may {f t a s : Int} {L : List (Int × Int)} (h : ¬ (a % 4 = 0 ∧ (1 ≤ s ∧ s ≤ 65536) ∧ f ≤ a ∧ a < t)) : ¬ MayGive f t L a s := fun hm => by
  have := up4_range s
  exact h ⟨hm.1, hm.2.1, hm.2.2.1, by have := hm.2.2.2.1; have := hm.2.1; omega⟩

theorem RefSet.refl {w : World} {m : Nat} {f t : Int} {u : Value} {F : List Bool} (h : RefAt w m f t u F) : RefSet w w m f t u F := ⟨h, Kept.refl _ _⟩

theorem play_back (m : Nat) (f t a s : Int) (u : Value) (F : List Bool) (L L' : List (Int × Int)) (c : Nat) (w : World) (h : RefAt w m f t u F) (hT : Tidy f t L) (hF : Tells f F L) (hf : f % 4 = 0) (hw : GiveWay f t L a s c L') :
    Calls Try.prog 11 #[.pointer (some ⟨m, 0, none⟩), .int .i64 a, .int .i64 s] w fun e w' => ∃ F', e = .returned (.int .i64 (c : Nat)) ∧ RefSet w w' m f t u F' ∧ Tells f F' L' := by
  by_cases hb : a % 4 = 0 ∧ (1 ≤ s ∧ s ≤ 65536) ∧ f ≤ a ∧ a < t
  · have hr := h.range
    obtain ⟨k, hk⟩ : ∃ k : Nat, (k : Int) = (a - f) / 4 := ⟨((a - f) / 4).toNat, by omega⟩
    obtain ⟨n, hn⟩ : ∃ n : Nat, (n : Int) = (s + 3) / 4 := ⟨((s + 3) / 4).toNat, by omega⟩
    have hi := may_held hT hF hf hr.2.2 hb.1 hb.2.1 hb.2.2 hk hn
    refine (refGive_in m f t a s u F k n w h hb.1 hb.2.1 hb.2.2 hk hn).mono ?_
    rintro e w' (⟨h1, rfl, rfl⟩ | ⟨h1, rfl, h2⟩)
    · rcases hw with ⟨rfl, rfl, _⟩ | ⟨_, h3, _⟩
      · exact ⟨F, rfl, RefSet.refl h, hF⟩
      · exact absurd (hi.1 h3) h1
    · rcases hw with ⟨_, _, h3⟩ | ⟨rfl, h3, A, M, B, lo, hi2, rfl, hj, rfl⟩
      · exact absurd (hi.2 h1) h3
      · have hup : up4 s = 4 * (n : Int) := by unfold up4; omega
        rw [hup] at hj
        exact ⟨_, rfl, h2, tells_join hF hj (by omega) h1.1⟩
  · refine (refGive_bad m f t a s u F w h hb).mono ?_
    rintro e w' ⟨rfl, rfl⟩
    rcases hw with ⟨rfl, rfl, _⟩ | ⟨_, h3, _⟩
    · exact ⟨F, rfl, RefSet.refl h, hF⟩
    · exact absurd h3 (not_may hb)

theorem play_took (m : Nat) (f t size a : Int) (u : Value) (F : List Bool) (L L' : List (Int × Int)) (c : Nat) (w : World) (h : RefAt w m f t u F) (hT : Tidy f t L) (hF : Tells f F L) (hf : f % 4 = 0) (hw : TakeWay L size c a L') :
    Calls Try.prog 13 #[.pointer (some ⟨m, 0, none⟩), .int .i64 size] w fun e w' => ∃ F', e = .returned (.tuple #[.int .i64 a, .int .i64 (c : Nat)]) ∧ RefSet w w' m f t u F' ∧ Tells f F' L' := by
  rcases hw with ⟨rfl, rfl, rfl, hs⟩ | ⟨rfl, rfl, rfl, hs, hL⟩ | ⟨rfl, hs, A, B, x, rfl, hA, hx, rfl, rfl⟩
  · refine (refTake_bad m size w hs).mono ?_
    rintro e w' ⟨rfl, rfl⟩
    exact ⟨F, rfl, RefSet.refl h, hF⟩
  · obtain ⟨n, hn⟩ : ∃ n : Nat, (n : Int) = (size + 3) / 4 := ⟨((size + 3) / 4).toNat, by omega⟩
    have hup : up4 size = 4 * (n : Int) := by unfold up4; omega
    rw [hup] at hL
    refine (refTake m f t size u F n w h hs hn).mono ?_
    rintro e w' (⟨rfl, rfl, _⟩ | ⟨s, _, h2, _⟩)
    · exact ⟨F, rfl, RefSet.refl h, hF⟩
    · exact absurd h2.1 (take_none hT hF hf (by omega) hL s)
  · obtain ⟨n, hn⟩ : ∃ n : Nat, (n : Int) = (size + 3) / 4 := ⟨((size + 3) / 4).toNat, by omega⟩
    have hup : up4 size = 4 * (n : Int) := by unfold up4; omega
    rw [hup] at hA hx ⊢
    obtain ⟨s, hs1, hs2⟩ := take_first hT hF hf (by omega) hA hx
    refine (refTake m f t size u F n w h hs hn).mono ?_
    rintro e w' (⟨_, _, h2⟩ | ⟨s', rfl, h2, h3⟩)
    · exact absurd hs2.1 (h2 s)
    · obtain rfl := first_eq hs2 h2
      exact ⟨_, by rw [hs1]; rfl, h3, tells_take hT hF (by omega) hx hs1 (window_fits hs2.1 (by omega))⟩

theorem code_any (c : Nat) (w : World) (h : c ≤ 13) : Calls Try.prog 9 #[errV c] w fun e w' => e = .returned (.int .i64 (c : Nat)) ∧ w = w' := by
  cases c with
  | zero => exact code_nil w
  | succ n => exact code_at (n + 1) w (by omega) h
theorem GiveWay.le {f t a s : Int} {L L' : List (Int × Int)} {c : Nat} (h : GiveWay f t L a s c L') : c ≤ 13 := by
  rcases h with ⟨rfl, _⟩ | ⟨rfl, _⟩ <;> omega
theorem TakeWay.le {size a : Int} {L L' : List (Int × Int)} {c : Nat} (h : TakeWay L size c a L') : c ≤ 13 := by
  rcases h with ⟨rfl, _⟩ | ⟨rfl, _⟩ | ⟨rfl, _⟩ <;> omega

theorem whole_tells {f t : Int} (hf : f % 4 = 0) (ht : t % 4 = 0) (hft : f ≤ t) : Tells f (List.replicate ((t - f) / 4).toNat true) (whole f t) := fun k => by
  rw [whole_covers, List.getElem?_replicate]
  split <;> simp <;> omega

/- deeds that came in -/
structure Deeds5 (w : World) (a : Option Addr) (n : Nat) (g o : Nat → Bool) (x y : Nat → Int) : Prop where
  cells : n = 0 ∨ ∃ b off, a = some ⟨b, off, none⟩ ∧ b < w.heap.size ∧ ∀ i, i < n → w.cell? ⟨b, off + i * 4, none⟩ = some (.bool (g i)) ∧ w.cell? ⟨b, off + i * 4 + 1, none⟩ = some (.bool (o i)) ∧ w.cell? ⟨b, off + i * 4 + 2, none⟩ = some (.int .i64 (x i)) ∧ w.cell? ⟨b, off + i * 4 + 3, none⟩ = some (.int .i64 (y i))
  xs : ∀ i, i < n → -9223372036854775808 ≤ x i ∧ x i ≤ 9223372036854775807

theorem deeds5_of {H : Type} {enc : TypeId × Value → H} {w : World} {base : Nat} {sp : Nat → Bool} {held : Bool} {a : Option Addr} {len cap : Nat} {d : DataW H} {p : List MemPlace}
    (h : DataW.Trod enc Try.prog w base sp held 22 (.slice a len cap) d p) : ∃ g o x y, Deeds5 w a len g o x y := by
  obtain ⟨_, _, h⟩ := elems_of Try.underlying22 (c := 4) (by kernel_rfl) (by decide) h
  rcases h with rfl | ⟨b, off, rfl, hb, hi⟩
  · exact ⟨fun _ => false, fun _ => false, fun _ => 0, fun _ => 0, .inl rfl, fun i hi => by omega⟩
  · have key : ∀ i, i < len → ∃ x : Bool × Bool × Int × Int, (w.cell? ⟨b, off + i * 4, none⟩ = some (.bool x.1) ∧ w.cell? ⟨b, off + i * 4 + 1, none⟩ = some (.bool x.2.1) ∧ w.cell? ⟨b, off + i * 4 + 2, none⟩ = some (.int .i64 x.2.2.1) ∧ w.cell? ⟨b, off + i * 4 + 3, none⟩ = some (.int .i64 x.2.2.2)) ∧ (-9223372036854775808 ≤ x.2.2.1 ∧ x.2.2.1 ≤ 9223372036854775807) := by
      intro i hil
      obtain ⟨cs, n, x, hl, hc, ht⟩ := hi i hil
      match cs, hl with
      | [c0, c1, c2, c3], _ =>
        obtain ⟨xs, n', _, _, _, hxl, hf⟩ := DataW.trod_struct Try.underlying33 ht
        match xs, hxl with
        | [y0, y1, y2, y3], _ =>
          obtain ⟨z0, e0, _⟩ := DataW.trod_bool Try.underlying4 (hf 0 _ rfl)
          obtain ⟨z1, e1, _⟩ := DataW.trod_bool Try.underlying4 (hf 1 _ rfl)
          obtain ⟨z2, e2, _, w2⟩ := DataW.trod_int Try.underlying3 (hf 2 _ rfl)
          obtain ⟨z3, e3, _, w3⟩ := DataW.trod_int Try.underlying3 (hf 3 _ rfl)
          have k3 : Try.prog.cellsOf 3 = 1 := by kernel_rfl
          have k4 : Try.prog.cellsOf 4 = 1 := by kernel_rfl
          simp [k4] at e0 e1
          simp [k3] at e2 e3
          subst e0 e1 e2 e3
          exact ⟨(z0, z1, z2, z3), ⟨hc 0 (by decide), hc 1 (by decide), hc 2 (by decide), hc 3 (by decide)⟩, bounds_i64 w2⟩
    obtain ⟨f, hf⟩ := Go.Deep.choose_lt key
    exact ⟨fun i => (f i).1, fun i => (f i).2.1, fun i => (f i).2.2.1, fun i => (f i).2.2.2, .inr ⟨b, off, rfl, hb, fun i h => (hf i h).1⟩, fun i h => (hf i h).2⟩
end Go.Proofs.Ytiloflgpflgjnaa
