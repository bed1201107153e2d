/-
  The document's zones (dowelref05): CanRun, Fits, Cell. No conditions beyond those that each theorem names.
-/
import Derived.Test.YtlnjcaicagcinaaRefP
import Derived.Test.YtlnjcaicagcinaaRefT
import Derived.Deep.RegionHeld3
import Derived.Test.YtlnjcaicagcinaaZoneY
import Derived.Test.YtlnjcaicagcinaaZoneT
namespace Go.Proofs.Ytlnjcaicagcinaa
open Go.ChangeShapes Go.WideShapes Go.ChangeAt Go.RowKit

def runs (a : Int) (x : ZR) : Bool := decide (x.z.r ≤ a ∧ a < x.z.e ∧ a % 4 = 0)
theorem any_runs {M : List ZR} (g : Good (M.map ZR.z)) (a : Int) : M.any (runs a) = canRun (M.map ZR.z) a := by
  unfold canRun
  rw [List.any_map, Bool.eq_iff_iff]
  simp only [Bool.and_eq_true, List.any_eq_true, Function.comp]
  constructor
  · rintro ⟨x, hx, h⟩
    have := zone_edges g hx
    simp only [runs, decide_eq_true_eq] at h
    refine ⟨by simp [aligned]; omega, x, hx, ?_⟩
    simp only [within, decide_eq_true_eq]
    omega
  · rintro ⟨ha, x, hx, h⟩
    simp [aligned] at ha
    simp only [within, decide_eq_true_eq] at h
    exact ⟨x, hx, by simp only [runs, decide_eq_true_eq]; omega⟩
theorem tm4n (a : Int) : (a.tmod 4 != 0) = !aligned a := by
  rw [← tm4]
  rfl

end Go.Proofs.Ytlnjcaicagcinaa

/-
  The document's zones (dowelref05): Fits, Cell. No conditions beyond those that each theorem names.
-/
namespace Go.Proofs.Ytlnjcaicagcinaa
open Go.ChangeShapes Go.WideShapes Go.ChangeAt Go.RowKit

theorem ahead_at (v : Int) (x : ZR) : within v 1 x.z.b x.z.r = decide (x.z.b ≤ v ∧ v < x.z.r) := by
  unfold within
  rw [Bool.eq_iff_iff]
  simp only [decide_eq_true_eq]
  omega

end Go.Proofs.Ytlnjcaicagcinaa

/-
  The document's zones (dowelref05): Cell. No conditions beyond those that the theorem names.
-/
namespace Go.Proofs.Ytlnjcaicagcinaa
open Go.ChangeShapes Go.WideShapes Go.ChangeAt Go.RowKit

theorem kind_at {M : List ZV} {k : Nat} {x : ZV} {y : Int} (hx : M[k]? = some x) (h : ∀ z ∈ M.take k, y ∉ z.P ∧ y ∉ z.Q) : kindOf M y = if y ∈ x.P then 1 else if y ∈ x.Q then 2 else kindOf (M.drop (k + 1)) y := by
  obtain ⟨hk, rfl⟩ := List.getElem?_eq_some_iff.1 hx
  have e : M = M.take k ++ M[k] :: M.drop (k + 1) := by rw [← List.drop_eq_getElem_cons hk, List.take_append_drop]
  have e2 : kindOf M y = kindOf (M.take k ++ M[k] :: M.drop (k + 1)) y := congrArg (fun l => kindOf l y) e
  rw [e2, kindOf_append, kindOf_zero h, if_pos rfl, kindOf_cons]

end Go.Proofs.Ytlnjcaicagcinaa

/-
  The document's zones (dowelref05): fine. No conditions beyond those that the theorem names.
-/
namespace Go.Proofs.Ytlnjcaicagcinaa
open Go.ChangeShapes Go.WideShapes Go.ChangeAt Go.RowKit

def fineAt (z : ZV) (xs ys : List Int) (i : Nat) (u : Int) : Prop := (z.b ≤ u ∧ u < z.d ∧ u % 4 = 0) ∧ u ∉ xs.take i ∧ u ∉ ys
def Fine (z : ZV) (xs ys : List Int) : Prop := ∀ i u, xs[i]? = some u → fineAt z xs ys i u


set_option maxRecDepth 100000 in
set_option maxHeartbeats 4000000 in
theorem fine_any (x : ZR) (s o : Sl) (xs ys : List Int) (w : World) (hs : IntsAt w s xs) (ho : IntsAt w o ys) (small : xs.length ≤ 100) :
    Calls Try.prog 45 #[x.v, s.v, o.v] w fun e w' => ((Fine x.z xs ys ∧ e = .returned (.bool true)) ∨ (¬ Fine x.z xs ys ∧ e = .returned (.bool false))) ∧ Kept No w w' := by
  obtain ⟨W0, hW0⟩ : ∃ W0, W0 = w.alloc (.cells #[.int .i64 x.z.b, .int .i64 x.z.d, .int .i64 x.z.r, .int .i64 x.z.e, x.p.v, x.q.v] RZT) := ⟨_, rfl⟩
  have hr : RowAt W0 w.heap.size RZT x.el.cs := by rw [hW0]; exact RowAt.new w RZT x.el.cs
  have k0 : Kept No w W0 := by rw [hW0]; exact (Kept.refl _ _).alloc _
  have HI : Hid (∀ W, Kept No W0 W → IntsAt W s xs ∧ IntsAt W o ys) := fun W hk => ⟨(hs.on k0.none).on hk.none, (ho.on k0.none).on hk.none⟩
  have H6 : Hid (∀ W, Kept No W0 W → W.cell? ⟨w.heap.size, 0, none⟩ = some (.int .i64 x.z.b) ∧ W.cell? ⟨w.heap.size, 1, none⟩ = some (.int .i64 x.z.d)) := fun W hk => by
    have h := hr.keep hk (fun h => h)
    exact ⟨h.cell 0, h.cell 1⟩
  have K0 := Lib.hid k0
  have hl : s.n = xs.length := hs.len
  have hc := hs.cap
  obtain ⟨sa, sn, sc⟩ := s
  simp only at hl hc
  have HL := Lib.hid hl
  have hsn : sn ≤ 100 := by omega
  clear hs ho k0 hr hl
  simp only [maxLen] at hc
  have HOV : Hid (∀ W, Kept No W0 W → ∀ u, Calls Try.prog 62 #[o.v, .int .i64 u] W fun e w' => e = .returned (.bool (decide (u ∈ ys))) ∧ W = w') := fun W hk u => is_any o ys u W (HI.out W hk).2
  have HSV : Hid (∀ W, Kept No W0 W → ∀ (k : Nat) u (b off : Nat), k < sn → sa = some ⟨b, off, none⟩ → Calls Try.prog 62 #[.slice (some ⟨b, off, none⟩) k sc, .int .i64 u] W fun e w' => e = .returned (.bool (decide (u ∈ xs.take k))) ∧ W = w') := fun W hk k u b off hkn hsa => by
    subst hsa
    have hi := (HI.out W hk).1
    refine is_any ⟨some ⟨b, off, none⟩, k, sc⟩ (xs.take k) u W ⟨by simp; have := HL.out; omega, ⟨by simp only; omega, by simp [maxLen]; omega⟩, fun h => by simp at h, ?_, fun y hy => hi.fit y (List.mem_of_mem_take hy)⟩
    rcases hi.at_ with h0 | ⟨b', off', e, hb, hcs⟩
    · simp only at h0; omega
    · simp only [Option.some.injEq, Addr.mk.injEq] at e
      obtain ⟨rfl, rfl, -⟩ := e
      exact .inr ⟨b, off, rfl, hb, fun j y hj => hcs j y (by
        obtain ⟨hjl, hjx⟩ := List.getElem?_eq_some_iff.1 hj
        rw [List.length_take] at hjl
        rw [List.getElem?_take_of_lt (by omega)] at hj
        exact hj)⟩
  show Calls Try.prog 45 #[.agg #[.int .i64 x.z.b, .int .i64 x.z.d, .int .i64 x.z.r, .int .i64 x.z.e, x.p.v, x.q.v], .slice sa sn sc, o.v] w _
  go_enter Try.func45, Try.ntmps45
  go_wp2_with fail
  rw [← hW0]
  clear hW0
  go_loopw [7] (fun i wr => ∃ k : Nat, k ≤ sn ∧ i = .int .i64 k ∧ Hid (Kept No W0 wr) ∧ Hid (∀ j u, j < k → xs[j]? = some u → fineAt x.z xs ys j u)) (fun i _ => sn - (intOf i).toNat)
  case atStart => exact ⟨0, Nat.zero_le _, rfl, Kept.refl _ _, fun j u hj => by omega⟩
  case round =>
    obtain ⟨k, hk, rfl, HK, HF⟩ := hrel
    by_cases hlt : k < sn
    · obtain ⟨u, hu⟩ : ∃ u, xs[k]? = some u := ⟨_, List.getElem?_eq_getElem (by rw [← HL.out]; exact hlt)⟩
      rcases (HI.out wr HK.out).1.at_ with h0 | ⟨b, off, ha, hb, hcs⟩
      · simp only at h0; omega
      · simp only at ha
        subst ha
        have hyc := hcs k u hu
        have HU := Lib.hid hu
        have e5 : (k : Int) < (sn : Int) := by omega
        have e6 : (0 : Int) ≤ (k : Int) := by omega
        have e7 : k ≤ sc := by omega
        have HS : Hid (∀ w', Kept No wr w' → (w'.cell? ⟨b, off + k, none⟩ = some (.int .i64 u) ∧ w'.cell? ⟨w.heap.size, 0, none⟩ = some (.int .i64 x.z.b) ∧ w'.cell? ⟨w.heap.size, 1, none⟩ = some (.int .i64 x.z.d)) ∧ Kept No wr w') := fun w' hk' =>
          ⟨⟨(hk'.cell (p := ⟨b, off + k, none⟩) hb (fun h => h)).trans hyc, H6.out w' (HK.out.trans hk')⟩, hk'⟩
        have HNF : Hid (¬ fineAt x.z xs ys k u → ¬ Fine x.z xs ys) := fun h hf => h (hf k u HU.out)
        clear hcs hu
        have q4 := tm4n u
        by_cases h1 : u < x.z.b
        · have hno := HNF.out (fun h => by have := h.1; omega)
          have HNo := Lib.hid hno
          clear hno q4
          go_wp2_with fail
          refine wp_region_held_drew (S := fun w' => (w'.cell? ⟨b, off + k, none⟩ = some (.int .i64 u) ∧ w'.cell? ⟨w.heap.size, 0, none⟩ = some (.int .i64 x.z.b) ∧ w'.cell? ⟨w.heap.size, 1, none⟩ = some (.int .i64 x.z.d)) ∧ Kept No wr w') (by kernel_rfl) ?_ (fun hHeld => ?_)
          · exact HS.out _ (Kept.refl _ _).drew
          refine wpAnyH_take (i := 0) (v := ?_) rfl (by kernel_rfl) (by kernel_rfl) (by kernel_rfl) (fun _ _ _ h => h) (Or.inl ⟨by rfl, ?_⟩) (by assumption) ?_
          rotate_left
          · intro w hSw
            (try dsimp only at hSw)
            go_simp
            (try with_reducible rfl)
          try simp only [Act.put, List.getElem_toArray, List.getElem_cons_zero, List.setIfInBounds_toArray, List.set_cons_zero, List.set_cons_succ]
          refine wpAnyH_take (i := 1) (v := ?_) rfl (by kernel_rfl) (by kernel_rfl) (by kernel_rfl) (fun _ _ _ h => h) (Or.inl ⟨by rfl, ?_⟩) (by assumption) ?_
          rotate_left
          · intro w hSw
            (try dsimp only at hSw)
            go_simp
            (try with_reducible rfl)
          try simp only [Act.put, List.getElem_toArray, List.getElem_cons_zero, List.getElem_cons_succ, List.setIfInBounds_toArray, List.set_cons_zero, List.set_cons_succ]
          refine wpAnyH_take (i := 2) (v := ?_) rfl (by kernel_rfl) (by kernel_rfl) (by kernel_rfl) (fun _ _ _ h => h) (Or.inl ⟨by rfl, ?_⟩) (by assumption) ?_
          rotate_left
          · intro w hSw
            (try dsimp only at hSw)
            go_simp
            (try with_reducible rfl)
          try simp only [Act.put, List.getElem_toArray, List.getElem_cons_zero, List.getElem_cons_succ, List.setIfInBounds_toArray, List.set_cons_zero, List.set_cons_succ]
          refine wpAnyH_take (i := 3) (v := ?_) rfl (by kernel_rfl) (by kernel_rfl) (by kernel_rfl) (fun _ _ _ h => h) (Or.inl ⟨by rfl, ?_⟩) (by assumption) ?_
          rotate_left
          · intro w hSw
            (try dsimp only at hSw)
            go_simp
            (try with_reducible rfl)
          try simp only [Act.put, List.getElem_toArray, List.getElem_cons_zero, List.getElem_cons_succ, List.setIfInBounds_toArray, List.set_cons_zero, List.set_cons_succ]
          refine wpAnyH_take (i := 4) (v := ?_) rfl (by kernel_rfl) (by kernel_rfl) (by kernel_rfl) (fun _ _ _ h => h) (Or.inl ⟨by rfl, ?_⟩) (by assumption) ?_
          rotate_left
          · intro w hSw
            (try dsimp only at hSw)
            go_simp
            (try with_reducible rfl)
          try simp only [Act.put, List.getElem_toArray, List.getElem_cons_zero, List.getElem_cons_succ, List.setIfInBounds_toArray, List.set_cons_zero, List.set_cons_succ]
          refine wpAnyH_take (i := 5) (v := ?_) rfl (by kernel_rfl) (by kernel_rfl) (by kernel_rfl) (fun _ _ _ h => h) (Or.inl ⟨by rfl, ?_⟩) (by assumption) ?_
          rotate_left
          · intro w hSw
            (try dsimp only at hSw)
            go_simp
            (try with_reducible rfl)
          try simp only [Act.put, List.getElem_toArray, List.getElem_cons_zero, List.getElem_cons_succ, List.setIfInBounds_toArray, List.set_cons_zero, List.set_cons_succ]
          refine wpAnyH_take (i := 6) (v := ?_) rfl (by kernel_rfl) (by kernel_rfl) (by kernel_rfl) (fun _ _ _ h => h) (Or.inl ⟨by rfl, ?_⟩) (by assumption) ?_
          rotate_left
          · intro w hSw
            (try dsimp only at hSw)
            go_simp
            (try with_reducible rfl)
          try simp only [Act.put, List.getElem_toArray, List.getElem_cons_zero, List.getElem_cons_succ, List.setIfInBounds_toArray, List.set_cons_zero, List.set_cons_succ]
          refine wpAnyH_take (i := 7) (v := ?_) rfl (by kernel_rfl) (by kernel_rfl) (by kernel_rfl) (fun _ _ _ h => h) (Or.inl ⟨by rfl, ?_⟩) (by assumption) ?_
          rotate_left
          · intro w hSw
            (try dsimp only at hSw)
            go_simp
            (try with_reducible rfl)
          try simp only [Act.put, List.getElem_toArray, List.getElem_cons_zero, List.getElem_cons_succ, List.setIfInBounds_toArray, List.set_cons_zero, List.set_cons_succ]
          refine wpAnyH_take (i := 8) (v := undef) rfl (by kernel_rfl) (by kernel_rfl) (by kernel_rfl) (fun _ _ _ h => h) (Or.inr ⟨by rfl, rfl⟩) (by assumption) ?_
          try simp only [Act.put, List.getElem_toArray, List.getElem_cons_zero, List.getElem_cons_succ, List.setIfInBounds_toArray, List.set_cons_zero, List.set_cons_succ]
          refine wpAnyH_take (i := 9) (v := undef) rfl (by kernel_rfl) (by kernel_rfl) (by kernel_rfl) (fun _ _ _ h => h) (Or.inr ⟨by rfl, rfl⟩) (by assumption) ?_
          try simp only [Act.put, List.getElem_toArray, List.getElem_cons_zero, List.getElem_cons_succ, List.setIfInBounds_toArray, List.set_cons_zero, List.set_cons_succ]
          refine wpAnyH_take (i := 10) (v := undef) rfl (by kernel_rfl) (by kernel_rfl) (by kernel_rfl) (fun _ _ _ h => h) (Or.inr ⟨by rfl, rfl⟩) (by assumption) ?_
          try simp only [Act.put, List.getElem_toArray, List.getElem_cons_zero, List.getElem_cons_succ, List.setIfInBounds_toArray, List.set_cons_zero, List.set_cons_succ]
          refine wpAnyH_take (i := 11) (v := undef) rfl (by kernel_rfl) (by kernel_rfl) (by kernel_rfl) (fun _ _ _ h => h) (Or.inr ⟨by rfl, rfl⟩) (by assumption) ?_
          try simp only [Act.put, List.getElem_toArray, List.getElem_cons_zero, List.getElem_cons_succ, List.setIfInBounds_toArray, List.set_cons_zero, List.set_cons_succ]
          refine wpAnyH_take (i := 12) (v := undef) rfl (by kernel_rfl) (by kernel_rfl) (by kernel_rfl) (fun _ _ _ h => h) (Or.inr ⟨by rfl, rfl⟩) (by assumption) ?_
          try simp only [Act.put, List.getElem_toArray, List.getElem_cons_zero, List.getElem_cons_succ, List.setIfInBounds_toArray, List.set_cons_zero, List.set_cons_succ]
          refine wpAnyH_take (i := 13) (v := undef) rfl (by kernel_rfl) (by kernel_rfl) (by kernel_rfl) (fun _ _ _ h => h) (Or.inr ⟨by rfl, rfl⟩) (by assumption) ?_
          try simp only [Act.put, List.getElem_toArray, List.getElem_cons_zero, List.getElem_cons_succ, List.setIfInBounds_toArray, List.set_cons_zero, List.set_cons_succ]
          refine wpAnyH_take (i := 14) (v := undef) rfl (by kernel_rfl) (by kernel_rfl) (by kernel_rfl) (fun _ _ _ h => h) (Or.inr ⟨by rfl, rfl⟩) (by assumption) ?_
          try simp only [Act.put, List.getElem_toArray, List.getElem_cons_zero, List.getElem_cons_succ, List.setIfInBounds_toArray, List.set_cons_zero, List.set_cons_succ]
          refine wpAnyH_take (i := 15) (v := ?_) rfl (by kernel_rfl) (by kernel_rfl) (by kernel_rfl) (fun _ _ _ h => h) (Or.inl ⟨by rfl, ?_⟩) (by assumption) ?_
          rotate_left
          · intro w hSw
            (try dsimp only at hSw)
            go_simp
            (try with_reducible rfl)
          try simp only [Act.put, List.getElem_toArray, List.getElem_cons_zero, List.getElem_cons_succ, List.setIfInBounds_toArray, List.set_cons_zero, List.set_cons_succ]
          refine wpAnyH_take (i := 16) (v := ?_) rfl (by kernel_rfl) (by kernel_rfl) (by kernel_rfl) (fun _ _ _ h => h) (Or.inl ⟨by rfl, ?_⟩) (by assumption) ?_
          rotate_left
          · intro w hSw
            (try dsimp only at hSw)
            go_simp
            (try with_reducible rfl)
          try simp only [Act.put, List.getElem_toArray, List.getElem_cons_zero, List.getElem_cons_succ, List.setIfInBounds_toArray, List.set_cons_zero, List.set_cons_succ]
          refine wpAnyH_take (i := 17) (v := undef) rfl (by kernel_rfl) (by kernel_rfl) (by kernel_rfl) (fun _ _ _ h => h) (Or.inr ⟨by rfl, rfl⟩) (by assumption) ?_
          try simp only [Act.put, List.getElem_toArray, List.getElem_cons_zero, List.getElem_cons_succ, List.setIfInBounds_toArray, List.set_cons_zero, List.set_cons_succ]
          refine wpAnyH_take (i := 18) (v := undef) rfl (by kernel_rfl) (by kernel_rfl) (by kernel_rfl) (fun _ _ _ h => h) (Or.inr ⟨by rfl, rfl⟩) (by assumption) ?_
          try simp only [Act.put, List.getElem_toArray, List.getElem_cons_zero, List.getElem_cons_succ, List.setIfInBounds_toArray, List.set_cons_zero, List.set_cons_succ]
          refine wpAnyH_take (i := 19) (v := undef) rfl (by kernel_rfl) (by kernel_rfl) (by kernel_rfl) (fun _ _ _ h => h) (Or.inr ⟨by rfl, rfl⟩) (by assumption) ?_
          try simp only [Act.put, List.getElem_toArray, List.getElem_cons_zero, List.getElem_cons_succ, List.setIfInBounds_toArray, List.set_cons_zero, List.set_cons_succ]
          refine wpAnyH_take (i := 20) (v := undef) rfl (by kernel_rfl) (by kernel_rfl) (by kernel_rfl) (fun _ _ _ h => h) (Or.inr ⟨by rfl, rfl⟩) (by assumption) ?_
          try simp only [Act.put, List.getElem_toArray, List.getElem_cons_zero, List.getElem_cons_succ, List.setIfInBounds_toArray, List.set_cons_zero, List.set_cons_succ]
          refine wpAnyH_take (i := 21) (v := undef) rfl (by kernel_rfl) (by kernel_rfl) (by kernel_rfl) (fun _ _ _ h => h) (Or.inr ⟨by rfl, rfl⟩) (by assumption) ?_
          try simp only [Act.put, List.getElem_toArray, List.getElem_cons_zero, List.getElem_cons_succ, List.setIfInBounds_toArray, List.set_cons_zero, List.set_cons_succ]
          refine wpAnyH_take (i := 22) (v := undef) rfl (by kernel_rfl) (by kernel_rfl) (by kernel_rfl) (fun _ _ _ h => h) (Or.inr ⟨by rfl, rfl⟩) (by assumption) ?_
          try simp only [Act.put, List.getElem_toArray, List.getElem_cons_zero, List.getElem_cons_succ, List.setIfInBounds_toArray, List.set_cons_zero, List.set_cons_succ]
          refine wpAnyH_take (i := 23) (v := ?_) rfl (by kernel_rfl) (by kernel_rfl) (by kernel_rfl) (fun _ _ _ h => h) (Or.inl ⟨by rfl, ?_⟩) (by assumption) ?_
          rotate_left
          · intro w hSw
            (try dsimp only at hSw)
            go_simp
            (try with_reducible rfl)
          try simp only [Act.put, List.getElem_toArray, List.getElem_cons_zero, List.getElem_cons_succ, List.setIfInBounds_toArray, List.set_cons_zero, List.set_cons_succ]
          refine wpAnyH_done (by kernel_rfl) ?_ _
          have K1 := Lib.hid hHeld.2
          clear hHeld
          go_wp2_with fail
          go_ret
          exact ⟨.inr ⟨HNo.out, rfl⟩, K0.out.trans (HK.out.trans K1.out)⟩
        · have g1 : decide (u < x.z.b) = false := by simpa using h1
          by_cases h2 : x.z.d ≤ u
          · have g2 : decide (x.z.d ≤ u) = true := by simpa using h2
            have hno := HNF.out (fun h => by have := h.1; omega)
            have HNo := Lib.hid hno
            clear hno q4
            go_wp2_with fail
            refine wp_region_held_drew (S := fun w' => (w'.cell? ⟨b, off + k, none⟩ = some (.int .i64 u) ∧ w'.cell? ⟨w.heap.size, 0, none⟩ = some (.int .i64 x.z.b) ∧ w'.cell? ⟨w.heap.size, 1, none⟩ = some (.int .i64 x.z.d)) ∧ Kept No wr w') (by kernel_rfl) ?_ (fun hHeld => ?_)
            · exact HS.out _ (Kept.refl _ _).drew
            refine wpAnyH_take (i := 0) (v := ?_) rfl (by kernel_rfl) (by kernel_rfl) (by kernel_rfl) (fun _ _ _ h => h) (Or.inl ⟨by rfl, ?_⟩) (by assumption) ?_
            rotate_left
            · intro w hSw
              (try dsimp only at hSw)
              go_simp
              (try with_reducible rfl)
            try simp only [Act.put, List.getElem_toArray, List.getElem_cons_zero, List.setIfInBounds_toArray, List.set_cons_zero, List.set_cons_succ]
            refine wpAnyH_take (i := 1) (v := ?_) rfl (by kernel_rfl) (by kernel_rfl) (by kernel_rfl) (fun _ _ _ h => h) (Or.inl ⟨by rfl, ?_⟩) (by assumption) ?_
            rotate_left
            · intro w hSw
              (try dsimp only at hSw)
              go_simp
              (try with_reducible rfl)
            try simp only [Act.put, List.getElem_toArray, List.getElem_cons_zero, List.getElem_cons_succ, List.setIfInBounds_toArray, List.set_cons_zero, List.set_cons_succ]
            refine wpAnyH_take (i := 2) (v := ?_) rfl (by kernel_rfl) (by kernel_rfl) (by kernel_rfl) (fun _ _ _ h => h) (Or.inl ⟨by rfl, ?_⟩) (by assumption) ?_
            rotate_left
            · intro w hSw
              (try dsimp only at hSw)
              go_simp
              (try with_reducible rfl)
            try simp only [Act.put, List.getElem_toArray, List.getElem_cons_zero, List.getElem_cons_succ, List.setIfInBounds_toArray, List.set_cons_zero, List.set_cons_succ]
            refine wpAnyH_take (i := 3) (v := ?_) rfl (by kernel_rfl) (by kernel_rfl) (by kernel_rfl) (fun _ _ _ h => h) (Or.inl ⟨by rfl, ?_⟩) (by assumption) ?_
            rotate_left
            · intro w hSw
              (try dsimp only at hSw)
              go_simp
              (try with_reducible rfl)
            try simp only [Act.put, List.getElem_toArray, List.getElem_cons_zero, List.getElem_cons_succ, List.setIfInBounds_toArray, List.set_cons_zero, List.set_cons_succ]
            refine wpAnyH_take (i := 4) (v := ?_) rfl (by kernel_rfl) (by kernel_rfl) (by kernel_rfl) (fun _ _ _ h => h) (Or.inl ⟨by rfl, ?_⟩) (by assumption) ?_
            rotate_left
            · intro w hSw
              (try dsimp only at hSw)
              go_simp
              (try with_reducible rfl)
            try simp only [Act.put, List.getElem_toArray, List.getElem_cons_zero, List.getElem_cons_succ, List.setIfInBounds_toArray, List.set_cons_zero, List.set_cons_succ]
            refine wpAnyH_take (i := 5) (v := ?_) rfl (by kernel_rfl) (by kernel_rfl) (by kernel_rfl) (fun _ _ _ h => h) (Or.inl ⟨by rfl, ?_⟩) (by assumption) ?_
            rotate_left
            · intro w hSw
              (try dsimp only at hSw)
              go_simp
              (try with_reducible rfl)
            try simp only [Act.put, List.getElem_toArray, List.getElem_cons_zero, List.getElem_cons_succ, List.setIfInBounds_toArray, List.set_cons_zero, List.set_cons_succ]
            refine wpAnyH_take (i := 6) (v := ?_) rfl (by kernel_rfl) (by kernel_rfl) (by kernel_rfl) (fun _ _ _ h => h) (Or.inl ⟨by rfl, ?_⟩) (by assumption) ?_
            rotate_left
            · intro w hSw
              (try dsimp only at hSw)
              go_simp
              (try with_reducible rfl)
            try simp only [Act.put, List.getElem_toArray, List.getElem_cons_zero, List.getElem_cons_succ, List.setIfInBounds_toArray, List.set_cons_zero, List.set_cons_succ]
            refine wpAnyH_take (i := 7) (v := ?_) rfl (by kernel_rfl) (by kernel_rfl) (by kernel_rfl) (fun _ _ _ h => h) (Or.inl ⟨by rfl, ?_⟩) (by assumption) ?_
            rotate_left
            · intro w hSw
              (try dsimp only at hSw)
              go_simp
              (try with_reducible rfl)
            try simp only [Act.put, List.getElem_toArray, List.getElem_cons_zero, List.getElem_cons_succ, List.setIfInBounds_toArray, List.set_cons_zero, List.set_cons_succ]
            refine wpAnyH_take (i := 8) (v := ?_) rfl (by kernel_rfl) (by kernel_rfl) (by kernel_rfl) (fun _ _ _ h => h) (Or.inl ⟨by rfl, ?_⟩) (by assumption) ?_
            rotate_left
            · intro w hSw
              (try dsimp only at hSw)
              go_simp
              (try with_reducible rfl)
            try simp only [Act.put, List.getElem_toArray, List.getElem_cons_zero, List.getElem_cons_succ, List.setIfInBounds_toArray, List.set_cons_zero, List.set_cons_succ]
            refine wpAnyH_take (i := 9) (v := ?_) rfl (by kernel_rfl) (by kernel_rfl) (by kernel_rfl) (fun _ _ _ h => h) (Or.inl ⟨by rfl, ?_⟩) (by assumption) ?_
            rotate_left
            · intro w hSw
              (try dsimp only at hSw)
              go_simp
              (try with_reducible rfl)
            try simp only [Act.put, List.getElem_toArray, List.getElem_cons_zero, List.getElem_cons_succ, List.setIfInBounds_toArray, List.set_cons_zero, List.set_cons_succ]
            refine wpAnyH_take (i := 10) (v := ?_) rfl (by kernel_rfl) (by kernel_rfl) (by kernel_rfl) (fun _ _ _ h => h) (Or.inl ⟨by rfl, ?_⟩) (by assumption) ?_
            rotate_left
            · intro w hSw
              (try dsimp only at hSw)
              go_simp
              (try with_reducible rfl)
            try simp only [Act.put, List.getElem_toArray, List.getElem_cons_zero, List.getElem_cons_succ, List.setIfInBounds_toArray, List.set_cons_zero, List.set_cons_succ]
            refine wpAnyH_take (i := 11) (v := ?_) rfl (by kernel_rfl) (by kernel_rfl) (by kernel_rfl) (fun _ _ _ h => h) (Or.inl ⟨by rfl, ?_⟩) (by assumption) ?_
            rotate_left
            · intro w hSw
              (try dsimp only at hSw)
              go_simp
              (try with_reducible rfl)
            try simp only [Act.put, List.getElem_toArray, List.getElem_cons_zero, List.getElem_cons_succ, List.setIfInBounds_toArray, List.set_cons_zero, List.set_cons_succ]
            refine wpAnyH_take (i := 12) (v := ?_) rfl (by kernel_rfl) (by kernel_rfl) (by kernel_rfl) (fun _ _ _ h => h) (Or.inl ⟨by rfl, ?_⟩) (by assumption) ?_
            rotate_left
            · intro w hSw
              (try dsimp only at hSw)
              go_simp
              (try with_reducible rfl)
            try simp only [Act.put, List.getElem_toArray, List.getElem_cons_zero, List.getElem_cons_succ, List.setIfInBounds_toArray, List.set_cons_zero, List.set_cons_succ]
            refine wpAnyH_take (i := 13) (v := ?_) rfl (by kernel_rfl) (by kernel_rfl) (by kernel_rfl) (fun _ _ _ h => h) (Or.inl ⟨by rfl, ?_⟩) (by assumption) ?_
            rotate_left
            · intro w hSw
              (try dsimp only at hSw)
              go_simp
              (try with_reducible rfl)
            try simp only [Act.put, List.getElem_toArray, List.getElem_cons_zero, List.getElem_cons_succ, List.setIfInBounds_toArray, List.set_cons_zero, List.set_cons_succ]
            refine wpAnyH_take (i := 14) (v := ?_) rfl (by kernel_rfl) (by kernel_rfl) (by kernel_rfl) (fun _ _ _ h => h) (Or.inl ⟨by rfl, ?_⟩) (by assumption) ?_
            rotate_left
            · intro w hSw
              (try dsimp only at hSw)
              go_simp
              (try with_reducible rfl)
            try simp only [Act.put, List.getElem_toArray, List.getElem_cons_zero, List.getElem_cons_succ, List.setIfInBounds_toArray, List.set_cons_zero, List.set_cons_succ]
            refine wpAnyH_take (i := 15) (v := ?_) rfl (by kernel_rfl) (by kernel_rfl) (by kernel_rfl) (fun _ _ _ h => h) (Or.inl ⟨by rfl, ?_⟩) (by assumption) ?_
            rotate_left
            · intro w hSw
              (try dsimp only at hSw)
              go_simp
              (try with_reducible rfl)
            try simp only [Act.put, List.getElem_toArray, List.getElem_cons_zero, List.getElem_cons_succ, List.setIfInBounds_toArray, List.set_cons_zero, List.set_cons_succ]
            refine wpAnyH_take (i := 16) (v := ?_) rfl (by kernel_rfl) (by kernel_rfl) (by kernel_rfl) (fun _ _ _ h => h) (Or.inl ⟨by rfl, ?_⟩) (by assumption) ?_
            rotate_left
            · intro w hSw
              (try dsimp only at hSw)
              go_simp
              (try with_reducible rfl)
            try simp only [Act.put, List.getElem_toArray, List.getElem_cons_zero, List.getElem_cons_succ, List.setIfInBounds_toArray, List.set_cons_zero, List.set_cons_succ]
            refine wpAnyH_take (i := 17) (v := undef) rfl (by kernel_rfl) (by kernel_rfl) (by kernel_rfl) (fun _ _ _ h => h) (Or.inr ⟨by rfl, rfl⟩) (by assumption) ?_
            try simp only [Act.put, List.getElem_toArray, List.getElem_cons_zero, List.getElem_cons_succ, List.setIfInBounds_toArray, List.set_cons_zero, List.set_cons_succ]
            refine wpAnyH_take (i := 18) (v := undef) rfl (by kernel_rfl) (by kernel_rfl) (by kernel_rfl) (fun _ _ _ h => h) (Or.inr ⟨by rfl, rfl⟩) (by assumption) ?_
            try simp only [Act.put, List.getElem_toArray, List.getElem_cons_zero, List.getElem_cons_succ, List.setIfInBounds_toArray, List.set_cons_zero, List.set_cons_succ]
            refine wpAnyH_take (i := 19) (v := undef) rfl (by kernel_rfl) (by kernel_rfl) (by kernel_rfl) (fun _ _ _ h => h) (Or.inr ⟨by rfl, rfl⟩) (by assumption) ?_
            try simp only [Act.put, List.getElem_toArray, List.getElem_cons_zero, List.getElem_cons_succ, List.setIfInBounds_toArray, List.set_cons_zero, List.set_cons_succ]
            refine wpAnyH_take (i := 20) (v := undef) rfl (by kernel_rfl) (by kernel_rfl) (by kernel_rfl) (fun _ _ _ h => h) (Or.inr ⟨by rfl, rfl⟩) (by assumption) ?_
            try simp only [Act.put, List.getElem_toArray, List.getElem_cons_zero, List.getElem_cons_succ, List.setIfInBounds_toArray, List.set_cons_zero, List.set_cons_succ]
            refine wpAnyH_take (i := 21) (v := undef) rfl (by kernel_rfl) (by kernel_rfl) (by kernel_rfl) (fun _ _ _ h => h) (Or.inr ⟨by rfl, rfl⟩) (by assumption) ?_
            try simp only [Act.put, List.getElem_toArray, List.getElem_cons_zero, List.getElem_cons_succ, List.setIfInBounds_toArray, List.set_cons_zero, List.set_cons_succ]
            refine wpAnyH_take (i := 22) (v := undef) rfl (by kernel_rfl) (by kernel_rfl) (by kernel_rfl) (fun _ _ _ h => h) (Or.inr ⟨by rfl, rfl⟩) (by assumption) ?_
            try simp only [Act.put, List.getElem_toArray, List.getElem_cons_zero, List.getElem_cons_succ, List.setIfInBounds_toArray, List.set_cons_zero, List.set_cons_succ]
            refine wpAnyH_take (i := 23) (v := ?_) rfl (by kernel_rfl) (by kernel_rfl) (by kernel_rfl) (fun _ _ _ h => h) (Or.inl ⟨by rfl, ?_⟩) (by assumption) ?_
            rotate_left
            · intro w hSw
              (try dsimp only at hSw)
              go_simp
              (try with_reducible rfl)
            try simp only [Act.put, List.getElem_toArray, List.getElem_cons_zero, List.getElem_cons_succ, List.setIfInBounds_toArray, List.set_cons_zero, List.set_cons_succ]
            refine wpAnyH_done (by kernel_rfl) ?_ _
            have K1 := Lib.hid hHeld.2
            clear hHeld
            go_wp2_with fail
            go_ret
            exact ⟨.inr ⟨HNo.out, rfl⟩, K0.out.trans (HK.out.trans K1.out)⟩
          · have g2 : decide (x.z.d ≤ u) = false := by simpa using h2
            cases h3 : aligned u with
            | false =>
              have hno := HNF.out (fun h => by have := h.1; simp [aligned] at h3; omega)
              have HNo := Lib.hid hno
              rw [h3] at q4
              clear hno h3
              go_wp2_with fail
              refine wp_region_held_drew (S := fun w' => (w'.cell? ⟨b, off + k, none⟩ = some (.int .i64 u) ∧ w'.cell? ⟨w.heap.size, 0, none⟩ = some (.int .i64 x.z.b) ∧ w'.cell? ⟨w.heap.size, 1, none⟩ = some (.int .i64 x.z.d)) ∧ Kept No wr w') (by kernel_rfl) ?_ (fun hHeld => ?_)
              · exact HS.out _ (Kept.refl _ _).drew
              refine wpAnyH_take (i := 0) (v := ?_) rfl (by kernel_rfl) (by kernel_rfl) (by kernel_rfl) (fun _ _ _ h => h) (Or.inl ⟨by rfl, ?_⟩) (by assumption) ?_
              rotate_left
              · intro w hSw
                (try dsimp only at hSw)
                go_simp
                (try with_reducible rfl)
              try simp only [Act.put, List.getElem_toArray, List.getElem_cons_zero, List.setIfInBounds_toArray, List.set_cons_zero, List.set_cons_succ]
              refine wpAnyH_take (i := 1) (v := ?_) rfl (by kernel_rfl) (by kernel_rfl) (by kernel_rfl) (fun _ _ _ h => h) (Or.inl ⟨by rfl, ?_⟩) (by assumption) ?_
              rotate_left
              · intro w hSw
                (try dsimp only at hSw)
                go_simp
                (try with_reducible rfl)
              try simp only [Act.put, List.getElem_toArray, List.getElem_cons_zero, List.getElem_cons_succ, List.setIfInBounds_toArray, List.set_cons_zero, List.set_cons_succ]
              refine wpAnyH_take (i := 2) (v := ?_) rfl (by kernel_rfl) (by kernel_rfl) (by kernel_rfl) (fun _ _ _ h => h) (Or.inl ⟨by rfl, ?_⟩) (by assumption) ?_
              rotate_left
              · intro w hSw
                (try dsimp only at hSw)
                go_simp
                (try with_reducible rfl)
              try simp only [Act.put, List.getElem_toArray, List.getElem_cons_zero, List.getElem_cons_succ, List.setIfInBounds_toArray, List.set_cons_zero, List.set_cons_succ]
              refine wpAnyH_take (i := 3) (v := ?_) rfl (by kernel_rfl) (by kernel_rfl) (by kernel_rfl) (fun _ _ _ h => h) (Or.inl ⟨by rfl, ?_⟩) (by assumption) ?_
              rotate_left
              · intro w hSw
                (try dsimp only at hSw)
                go_simp
                (try with_reducible rfl)
              try simp only [Act.put, List.getElem_toArray, List.getElem_cons_zero, List.getElem_cons_succ, List.setIfInBounds_toArray, List.set_cons_zero, List.set_cons_succ]
              refine wpAnyH_take (i := 4) (v := ?_) rfl (by kernel_rfl) (by kernel_rfl) (by kernel_rfl) (fun _ _ _ h => h) (Or.inl ⟨by rfl, ?_⟩) (by assumption) ?_
              rotate_left
              · intro w hSw
                (try dsimp only at hSw)
                go_simp
                (try with_reducible rfl)
              try simp only [Act.put, List.getElem_toArray, List.getElem_cons_zero, List.getElem_cons_succ, List.setIfInBounds_toArray, List.set_cons_zero, List.set_cons_succ]
              refine wpAnyH_take (i := 5) (v := ?_) rfl (by kernel_rfl) (by kernel_rfl) (by kernel_rfl) (fun _ _ _ h => h) (Or.inl ⟨by rfl, ?_⟩) (by assumption) ?_
              rotate_left
              · intro w hSw
                (try dsimp only at hSw)
                go_simp
                (try with_reducible rfl)
              try simp only [Act.put, List.getElem_toArray, List.getElem_cons_zero, List.getElem_cons_succ, List.setIfInBounds_toArray, List.set_cons_zero, List.set_cons_succ]
              refine wpAnyH_take (i := 6) (v := ?_) rfl (by kernel_rfl) (by kernel_rfl) (by kernel_rfl) (fun _ _ _ h => h) (Or.inl ⟨by rfl, ?_⟩) (by assumption) ?_
              rotate_left
              · intro w hSw
                (try dsimp only at hSw)
                go_simp
                (try with_reducible rfl)
              try simp only [Act.put, List.getElem_toArray, List.getElem_cons_zero, List.getElem_cons_succ, List.setIfInBounds_toArray, List.set_cons_zero, List.set_cons_succ]
              refine wpAnyH_take (i := 7) (v := ?_) rfl (by kernel_rfl) (by kernel_rfl) (by kernel_rfl) (fun _ _ _ h => h) (Or.inl ⟨by rfl, ?_⟩) (by assumption) ?_
              rotate_left
              · intro w hSw
                (try dsimp only at hSw)
                go_simp
                (try with_reducible rfl)
              try simp only [Act.put, List.getElem_toArray, List.getElem_cons_zero, List.getElem_cons_succ, List.setIfInBounds_toArray, List.set_cons_zero, List.set_cons_succ]
              refine wpAnyH_take (i := 8) (v := ?_) rfl (by kernel_rfl) (by kernel_rfl) (by kernel_rfl) (fun _ _ _ h => h) (Or.inl ⟨by rfl, ?_⟩) (by assumption) ?_
              rotate_left
              · intro w hSw
                (try dsimp only at hSw)
                go_simp
                (try with_reducible rfl)
              try simp only [Act.put, List.getElem_toArray, List.getElem_cons_zero, List.getElem_cons_succ, List.setIfInBounds_toArray, List.set_cons_zero, List.set_cons_succ]
              refine wpAnyH_take (i := 9) (v := ?_) rfl (by kernel_rfl) (by kernel_rfl) (by kernel_rfl) (fun _ _ _ h => h) (Or.inl ⟨by rfl, ?_⟩) (by assumption) ?_
              rotate_left
              · intro w hSw
                (try dsimp only at hSw)
                go_simp
                (try with_reducible rfl)
              try simp only [Act.put, List.getElem_toArray, List.getElem_cons_zero, List.getElem_cons_succ, List.setIfInBounds_toArray, List.set_cons_zero, List.set_cons_succ]
              refine wpAnyH_take (i := 10) (v := ?_) rfl (by kernel_rfl) (by kernel_rfl) (by kernel_rfl) (fun _ _ _ h => h) (Or.inl ⟨by rfl, ?_⟩) (by assumption) ?_
              rotate_left
              · intro w hSw
                (try dsimp only at hSw)
                go_simp
                (try with_reducible rfl)
              try simp only [Act.put, List.getElem_toArray, List.getElem_cons_zero, List.getElem_cons_succ, List.setIfInBounds_toArray, List.set_cons_zero, List.set_cons_succ]
              refine wpAnyH_take (i := 11) (v := ?_) rfl (by kernel_rfl) (by kernel_rfl) (by kernel_rfl) (fun _ _ _ h => h) (Or.inl ⟨by rfl, ?_⟩) (by assumption) ?_
              rotate_left
              · intro w hSw
                (try dsimp only at hSw)
                go_simp
                (try with_reducible rfl)
              try simp only [Act.put, List.getElem_toArray, List.getElem_cons_zero, List.getElem_cons_succ, List.setIfInBounds_toArray, List.set_cons_zero, List.set_cons_succ]
              refine wpAnyH_take (i := 12) (v := ?_) rfl (by kernel_rfl) (by kernel_rfl) (by kernel_rfl) (fun _ _ _ h => h) (Or.inl ⟨by rfl, ?_⟩) (by assumption) ?_
              rotate_left
              · intro w hSw
                (try dsimp only at hSw)
                go_simp
                (try with_reducible rfl)
              try simp only [Act.put, List.getElem_toArray, List.getElem_cons_zero, List.getElem_cons_succ, List.setIfInBounds_toArray, List.set_cons_zero, List.set_cons_succ]
              refine wpAnyH_take (i := 13) (v := ?_) rfl (by kernel_rfl) (by kernel_rfl) (by kernel_rfl) (fun _ _ _ h => h) (Or.inl ⟨by rfl, ?_⟩) (by assumption) ?_
              rotate_left
              · intro w hSw
                (try dsimp only at hSw)
                go_simp
                (try with_reducible rfl)
              try simp only [Act.put, List.getElem_toArray, List.getElem_cons_zero, List.getElem_cons_succ, List.setIfInBounds_toArray, List.set_cons_zero, List.set_cons_succ]
              refine wpAnyH_take (i := 14) (v := ?_) rfl (by kernel_rfl) (by kernel_rfl) (by kernel_rfl) (fun _ _ _ h => h) (Or.inl ⟨by rfl, ?_⟩) (by assumption) ?_
              rotate_left
              · intro w hSw
                (try dsimp only at hSw)
                go_simp
                (try with_reducible rfl)
              try simp only [Act.put, List.getElem_toArray, List.getElem_cons_zero, List.getElem_cons_succ, List.setIfInBounds_toArray, List.set_cons_zero, List.set_cons_succ]
              refine wpAnyH_take (i := 15) (v := ?_) rfl (by kernel_rfl) (by kernel_rfl) (by kernel_rfl) (fun _ _ _ h => h) (Or.inl ⟨by rfl, ?_⟩) (by assumption) ?_
              rotate_left
              · intro w hSw
                (try dsimp only at hSw)
                go_simp
                (try with_reducible rfl)
              try simp only [Act.put, List.getElem_toArray, List.getElem_cons_zero, List.getElem_cons_succ, List.setIfInBounds_toArray, List.set_cons_zero, List.set_cons_succ]
              refine wpAnyH_take (i := 16) (v := ?_) rfl (by kernel_rfl) (by kernel_rfl) (by kernel_rfl) (fun _ _ _ h => h) (Or.inl ⟨by rfl, ?_⟩) (by assumption) ?_
              rotate_left
              · intro w hSw
                (try dsimp only at hSw)
                go_simp
                (try with_reducible rfl)
              try simp only [Act.put, List.getElem_toArray, List.getElem_cons_zero, List.getElem_cons_succ, List.setIfInBounds_toArray, List.set_cons_zero, List.set_cons_succ]
              refine wpAnyH_take (i := 17) (v := ?_) rfl (by kernel_rfl) (by kernel_rfl) (by kernel_rfl) (fun _ _ _ h => h) (Or.inl ⟨by rfl, ?_⟩) (by assumption) ?_
              rotate_left
              · intro w hSw
                (try dsimp only at hSw)
                go_simp
                (try with_reducible rfl)
              try simp only [Act.put, List.getElem_toArray, List.getElem_cons_zero, List.getElem_cons_succ, List.setIfInBounds_toArray, List.set_cons_zero, List.set_cons_succ]
              refine wpAnyH_take (i := 18) (v := ?_) rfl (by kernel_rfl) (by kernel_rfl) (by kernel_rfl) (fun _ _ _ h => h) (Or.inl ⟨by rfl, ?_⟩) (by assumption) ?_
              rotate_left
              · intro w hSw
                (try dsimp only at hSw)
                go_simp
                (try with_reducible rfl)
              try simp only [Act.put, List.getElem_toArray, List.getElem_cons_zero, List.getElem_cons_succ, List.setIfInBounds_toArray, List.set_cons_zero, List.set_cons_succ]
              refine wpAnyH_take (i := 19) (v := ?_) rfl (by kernel_rfl) (by kernel_rfl) (by kernel_rfl) (fun _ _ _ h => h) (Or.inl ⟨by rfl, ?_⟩) (by assumption) ?_
              rotate_left
              · intro w hSw
                (try dsimp only at hSw)
                go_simp
                (try with_reducible rfl)
              try simp only [Act.put, List.getElem_toArray, List.getElem_cons_zero, List.getElem_cons_succ, List.setIfInBounds_toArray, List.set_cons_zero, List.set_cons_succ]
              refine wpAnyH_take (i := 20) (v := ?_) rfl (by kernel_rfl) (by kernel_rfl) (by kernel_rfl) (fun _ _ _ h => h) (Or.inl ⟨by rfl, ?_⟩) (by assumption) ?_
              rotate_left
              · intro w hSw
                (try dsimp only at hSw)
                go_simp
                (try with_reducible rfl)
              try simp only [Act.put, List.getElem_toArray, List.getElem_cons_zero, List.getElem_cons_succ, List.setIfInBounds_toArray, List.set_cons_zero, List.set_cons_succ]
              refine wpAnyH_take (i := 21) (v := ?_) rfl (by kernel_rfl) (by kernel_rfl) (by kernel_rfl) (fun _ _ _ h => h) (Or.inl ⟨by rfl, ?_⟩) (by assumption) ?_
              rotate_left
              · intro w hSw
                (try dsimp only at hSw)
                go_simp
                (try with_reducible rfl)
              try simp only [Act.put, List.getElem_toArray, List.getElem_cons_zero, List.getElem_cons_succ, List.setIfInBounds_toArray, List.set_cons_zero, List.set_cons_succ]
              refine wpAnyH_take (i := 22) (v := ?_) rfl (by kernel_rfl) (by kernel_rfl) (by kernel_rfl) (fun _ _ _ h => h) (Or.inl ⟨by rfl, ?_⟩) (by assumption) ?_
              rotate_left
              · intro w hSw
                (try dsimp only at hSw)
                go_simp
                (try with_reducible rfl)
              try simp only [Act.put, List.getElem_toArray, List.getElem_cons_zero, List.getElem_cons_succ, List.setIfInBounds_toArray, List.set_cons_zero, List.set_cons_succ]
              refine wpAnyH_take (i := 23) (v := ?_) rfl (by kernel_rfl) (by kernel_rfl) (by kernel_rfl) (fun _ _ _ h => h) (Or.inl ⟨by rfl, ?_⟩) (by assumption) ?_
              rotate_left
              · intro w hSw
                (try dsimp only at hSw)
                go_simp
                (try with_reducible rfl)
              try simp only [Act.put, List.getElem_toArray, List.getElem_cons_zero, List.getElem_cons_succ, List.setIfInBounds_toArray, List.set_cons_zero, List.set_cons_succ]
              refine wpAnyH_done (by kernel_rfl) ?_ _
              have K1 := Lib.hid hHeld.2
              clear hHeld
              go_wp2_with fail
              go_ret
              exact ⟨.inr ⟨HNo.out, rfl⟩, K0.out.trans (HK.out.trans K1.out)⟩
            | true =>
              have HAl := Lib.hid h3
              rw [h3] at q4
              clear h3
              go_wp2_with fail
              refine wp_region_held_drew (S := fun w' => (w'.cell? ⟨b, off + k, none⟩ = some (.int .i64 u) ∧ w'.cell? ⟨w.heap.size, 0, none⟩ = some (.int .i64 x.z.b) ∧ w'.cell? ⟨w.heap.size, 1, none⟩ = some (.int .i64 x.z.d)) ∧ Kept No wr w') (by kernel_rfl) ?_ (fun hHeld => ?_)
              · exact HS.out _ (Kept.refl _ _).drew
              refine wpAnyH_take (i := 0) (v := ?_) rfl (by kernel_rfl) (by kernel_rfl) (by kernel_rfl) (fun _ _ _ h => h) (Or.inl ⟨by rfl, ?_⟩) (by assumption) ?_
              rotate_left
              · intro w hSw
                (try dsimp only at hSw)
                go_simp
                (try with_reducible rfl)
              try simp only [Act.put, List.getElem_toArray, List.getElem_cons_zero, List.setIfInBounds_toArray, List.set_cons_zero, List.set_cons_succ]
              refine wpAnyH_take (i := 1) (v := ?_) rfl (by kernel_rfl) (by kernel_rfl) (by kernel_rfl) (fun _ _ _ h => h) (Or.inl ⟨by rfl, ?_⟩) (by assumption) ?_
              rotate_left
              · intro w hSw
                (try dsimp only at hSw)
                go_simp
                (try with_reducible rfl)
              try simp only [Act.put, List.getElem_toArray, List.getElem_cons_zero, List.getElem_cons_succ, List.setIfInBounds_toArray, List.set_cons_zero, List.set_cons_succ]
              refine wpAnyH_take (i := 2) (v := ?_) rfl (by kernel_rfl) (by kernel_rfl) (by kernel_rfl) (fun _ _ _ h => h) (Or.inl ⟨by rfl, ?_⟩) (by assumption) ?_
              rotate_left
              · intro w hSw
                (try dsimp only at hSw)
                go_simp
                (try with_reducible rfl)
              try simp only [Act.put, List.getElem_toArray, List.getElem_cons_zero, List.getElem_cons_succ, List.setIfInBounds_toArray, List.set_cons_zero, List.set_cons_succ]
              refine wpAnyH_take (i := 3) (v := ?_) rfl (by kernel_rfl) (by kernel_rfl) (by kernel_rfl) (fun _ _ _ h => h) (Or.inl ⟨by rfl, ?_⟩) (by assumption) ?_
              rotate_left
              · intro w hSw
                (try dsimp only at hSw)
                go_simp
                (try with_reducible rfl)
              try simp only [Act.put, List.getElem_toArray, List.getElem_cons_zero, List.getElem_cons_succ, List.setIfInBounds_toArray, List.set_cons_zero, List.set_cons_succ]
              refine wpAnyH_take (i := 4) (v := ?_) rfl (by kernel_rfl) (by kernel_rfl) (by kernel_rfl) (fun _ _ _ h => h) (Or.inl ⟨by rfl, ?_⟩) (by assumption) ?_
              rotate_left
              · intro w hSw
                (try dsimp only at hSw)
                go_simp
                (try with_reducible rfl)
              try simp only [Act.put, List.getElem_toArray, List.getElem_cons_zero, List.getElem_cons_succ, List.setIfInBounds_toArray, List.set_cons_zero, List.set_cons_succ]
              refine wpAnyH_take (i := 5) (v := ?_) rfl (by kernel_rfl) (by kernel_rfl) (by kernel_rfl) (fun _ _ _ h => h) (Or.inl ⟨by rfl, ?_⟩) (by assumption) ?_
              rotate_left
              · intro w hSw
                (try dsimp only at hSw)
                go_simp
                (try with_reducible rfl)
              try simp only [Act.put, List.getElem_toArray, List.getElem_cons_zero, List.getElem_cons_succ, List.setIfInBounds_toArray, List.set_cons_zero, List.set_cons_succ]
              refine wpAnyH_take (i := 6) (v := ?_) rfl (by kernel_rfl) (by kernel_rfl) (by kernel_rfl) (fun _ _ _ h => h) (Or.inl ⟨by rfl, ?_⟩) (by assumption) ?_
              rotate_left
              · intro w hSw
                (try dsimp only at hSw)
                go_simp
                (try with_reducible rfl)
              try simp only [Act.put, List.getElem_toArray, List.getElem_cons_zero, List.getElem_cons_succ, List.setIfInBounds_toArray, List.set_cons_zero, List.set_cons_succ]
              refine wpAnyH_take (i := 7) (v := ?_) rfl (by kernel_rfl) (by kernel_rfl) (by kernel_rfl) (fun _ _ _ h => h) (Or.inl ⟨by rfl, ?_⟩) (by assumption) ?_
              rotate_left
              · intro w hSw
                (try dsimp only at hSw)
                go_simp
                (try with_reducible rfl)
              try simp only [Act.put, List.getElem_toArray, List.getElem_cons_zero, List.getElem_cons_succ, List.setIfInBounds_toArray, List.set_cons_zero, List.set_cons_succ]
              refine wpAnyH_take (i := 8) (v := ?_) rfl (by kernel_rfl) (by kernel_rfl) (by kernel_rfl) (fun _ _ _ h => h) (Or.inl ⟨by rfl, ?_⟩) (by assumption) ?_
              rotate_left
              · intro w hSw
                (try dsimp only at hSw)
                go_simp
                (try with_reducible rfl)
              try simp only [Act.put, List.getElem_toArray, List.getElem_cons_zero, List.getElem_cons_succ, List.setIfInBounds_toArray, List.set_cons_zero, List.set_cons_succ]
              refine wpAnyH_take (i := 9) (v := ?_) rfl (by kernel_rfl) (by kernel_rfl) (by kernel_rfl) (fun _ _ _ h => h) (Or.inl ⟨by rfl, ?_⟩) (by assumption) ?_
              rotate_left
              · intro w hSw
                (try dsimp only at hSw)
                go_simp
                (try with_reducible rfl)
              try simp only [Act.put, List.getElem_toArray, List.getElem_cons_zero, List.getElem_cons_succ, List.setIfInBounds_toArray, List.set_cons_zero, List.set_cons_succ]
              refine wpAnyH_take (i := 10) (v := ?_) rfl (by kernel_rfl) (by kernel_rfl) (by kernel_rfl) (fun _ _ _ h => h) (Or.inl ⟨by rfl, ?_⟩) (by assumption) ?_
              rotate_left
              · intro w hSw
                (try dsimp only at hSw)
                go_simp
                (try with_reducible rfl)
              try simp only [Act.put, List.getElem_toArray, List.getElem_cons_zero, List.getElem_cons_succ, List.setIfInBounds_toArray, List.set_cons_zero, List.set_cons_succ]
              refine wpAnyH_take (i := 11) (v := ?_) rfl (by kernel_rfl) (by kernel_rfl) (by kernel_rfl) (fun _ _ _ h => h) (Or.inl ⟨by rfl, ?_⟩) (by assumption) ?_
              rotate_left
              · intro w hSw
                (try dsimp only at hSw)
                go_simp
                (try with_reducible rfl)
              try simp only [Act.put, List.getElem_toArray, List.getElem_cons_zero, List.getElem_cons_succ, List.setIfInBounds_toArray, List.set_cons_zero, List.set_cons_succ]
              refine wpAnyH_take (i := 12) (v := ?_) rfl (by kernel_rfl) (by kernel_rfl) (by kernel_rfl) (fun _ _ _ h => h) (Or.inl ⟨by rfl, ?_⟩) (by assumption) ?_
              rotate_left
              · intro w hSw
                (try dsimp only at hSw)
                go_simp
                (try with_reducible rfl)
              try simp only [Act.put, List.getElem_toArray, List.getElem_cons_zero, List.getElem_cons_succ, List.setIfInBounds_toArray, List.set_cons_zero, List.set_cons_succ]
              refine wpAnyH_take (i := 13) (v := ?_) rfl (by kernel_rfl) (by kernel_rfl) (by kernel_rfl) (fun _ _ _ h => h) (Or.inl ⟨by rfl, ?_⟩) (by assumption) ?_
              rotate_left
              · intro w hSw
                (try dsimp only at hSw)
                go_simp
                (try with_reducible rfl)
              try simp only [Act.put, List.getElem_toArray, List.getElem_cons_zero, List.getElem_cons_succ, List.setIfInBounds_toArray, List.set_cons_zero, List.set_cons_succ]
              refine wpAnyH_take (i := 14) (v := ?_) rfl (by kernel_rfl) (by kernel_rfl) (by kernel_rfl) (fun _ _ _ h => h) (Or.inl ⟨by rfl, ?_⟩) (by assumption) ?_
              rotate_left
              · intro w hSw
                (try dsimp only at hSw)
                go_simp
                (try with_reducible rfl)
              try simp only [Act.put, List.getElem_toArray, List.getElem_cons_zero, List.getElem_cons_succ, List.setIfInBounds_toArray, List.set_cons_zero, List.set_cons_succ]
              refine wpAnyH_take (i := 15) (v := ?_) rfl (by kernel_rfl) (by kernel_rfl) (by kernel_rfl) (fun _ _ _ h => h) (Or.inl ⟨by rfl, ?_⟩) (by assumption) ?_
              rotate_left
              · intro w hSw
                (try dsimp only at hSw)
                go_simp
                (try with_reducible rfl)
              try simp only [Act.put, List.getElem_toArray, List.getElem_cons_zero, List.getElem_cons_succ, List.setIfInBounds_toArray, List.set_cons_zero, List.set_cons_succ]
              refine wpAnyH_take (i := 16) (v := ?_) rfl (by kernel_rfl) (by kernel_rfl) (by kernel_rfl) (fun _ _ _ h => h) (Or.inl ⟨by rfl, ?_⟩) (by assumption) ?_
              rotate_left
              · intro w hSw
                (try dsimp only at hSw)
                go_simp
                (try with_reducible rfl)
              try simp only [Act.put, List.getElem_toArray, List.getElem_cons_zero, List.getElem_cons_succ, List.setIfInBounds_toArray, List.set_cons_zero, List.set_cons_succ]
              refine wpAnyH_take (i := 17) (v := ?_) rfl (by kernel_rfl) (by kernel_rfl) (by kernel_rfl) (fun _ _ _ h => h) (Or.inl ⟨by rfl, ?_⟩) (by assumption) ?_
              rotate_left
              · intro w hSw
                (try dsimp only at hSw)
                go_simp
                (try with_reducible rfl)
              try simp only [Act.put, List.getElem_toArray, List.getElem_cons_zero, List.getElem_cons_succ, List.setIfInBounds_toArray, List.set_cons_zero, List.set_cons_succ]
              refine wpAnyH_take (i := 18) (v := ?_) rfl (by kernel_rfl) (by kernel_rfl) (by kernel_rfl) (fun _ _ _ h => h) (Or.inl ⟨by rfl, ?_⟩) (by assumption) ?_
              rotate_left
              · intro w hSw
                (try dsimp only at hSw)
                go_simp
                (try with_reducible rfl)
              try simp only [Act.put, List.getElem_toArray, List.getElem_cons_zero, List.getElem_cons_succ, List.setIfInBounds_toArray, List.set_cons_zero, List.set_cons_succ]
              refine wpAnyH_take (i := 19) (v := ?_) rfl (by kernel_rfl) (by kernel_rfl) (by kernel_rfl) (fun _ _ _ h => h) (Or.inl ⟨by rfl, ?_⟩) (by assumption) ?_
              rotate_left
              · intro w hSw
                (try dsimp only at hSw)
                go_simp
                (try with_reducible rfl)
              try simp only [Act.put, List.getElem_toArray, List.getElem_cons_zero, List.getElem_cons_succ, List.setIfInBounds_toArray, List.set_cons_zero, List.set_cons_succ]
              refine wpAnyH_take (i := 20) (v := ?_) rfl (by kernel_rfl) (by kernel_rfl) (by kernel_rfl) (fun _ _ _ h => h) (Or.inl ⟨by rfl, ?_⟩) (by assumption) ?_
              rotate_left
              · intro w hSw
                (try dsimp only at hSw)
                go_simp
                (try with_reducible rfl)
              try simp only [Act.put, List.getElem_toArray, List.getElem_cons_zero, List.getElem_cons_succ, List.setIfInBounds_toArray, List.set_cons_zero, List.set_cons_succ]
              refine wpAnyH_take (i := 21) (v := ?_) rfl (by kernel_rfl) (by kernel_rfl) (by kernel_rfl) (fun _ _ _ h => h) (Or.inl ⟨by rfl, ?_⟩) (by assumption) ?_
              rotate_left
              · intro w hSw
                (try dsimp only at hSw)
                go_simp
                (try with_reducible rfl)
              try simp only [Act.put, List.getElem_toArray, List.getElem_cons_zero, List.getElem_cons_succ, List.setIfInBounds_toArray, List.set_cons_zero, List.set_cons_succ]
              refine wpAnyH_take (i := 22) (v := ?_) rfl (by kernel_rfl) (by kernel_rfl) (by kernel_rfl) (fun _ _ _ h => h) (Or.inl ⟨by rfl, ?_⟩) (by assumption) ?_
              rotate_left
              · intro w hSw
                (try dsimp only at hSw)
                go_simp
                (try with_reducible rfl)
              try simp only [Act.put, List.getElem_toArray, List.getElem_cons_zero, List.getElem_cons_succ, List.setIfInBounds_toArray, List.set_cons_zero, List.set_cons_succ]
              refine wpAnyH_take (i := 23) (v := ?_) rfl (by kernel_rfl) (by kernel_rfl) (by kernel_rfl) (fun _ _ _ h => h) (Or.inl ⟨by rfl, ?_⟩) (by assumption) ?_
              rotate_left
              · intro w hSw
                (try dsimp only at hSw)
                go_simp
                (try with_reducible rfl)
              try simp only [Act.put, List.getElem_toArray, List.getElem_cons_zero, List.getElem_cons_succ, List.setIfInBounds_toArray, List.set_cons_zero, List.set_cons_succ]
              refine wpAnyH_done (by kernel_rfl) ?_ _
              have K1 := Lib.hid hHeld.2
              clear hHeld
              go_wp2_with fail
              refine wp_region_held_drew (S := fun w' => (w'.cell? ⟨b, off + k, none⟩ = some (.int .i64 u) ∧ w'.cell? ⟨w.heap.size, 0, none⟩ = some (.int .i64 x.z.b) ∧ w'.cell? ⟨w.heap.size, 1, none⟩ = some (.int .i64 x.z.d)) ∧ Kept No wr w') (by kernel_rfl) ?_ (fun hHeld => ?_)
              · exact HS.out _ (K1.out.drew)
              refine wpAnyH_take (i := 0) (v := ?_) rfl (by kernel_rfl) (by kernel_rfl) (by kernel_rfl) (fun _ _ _ h => h) (Or.inl ⟨by rfl, ?_⟩) (by assumption) ?_
              rotate_left
              · intro w hSw
                (try dsimp only at hSw)
                go_simp
                (try with_reducible rfl)
              try simp only [Act.put, List.getElem_toArray, List.getElem_cons_zero, List.setIfInBounds_toArray, List.set_cons_zero, List.set_cons_succ]
              refine wpAnyH_take (i := 1) (v := ?_) rfl (by kernel_rfl) (by kernel_rfl) (by kernel_rfl) (fun _ _ _ h => h) (Or.inl ⟨by rfl, ?_⟩) (by assumption) ?_
              rotate_left
              · intro w hSw
                (try dsimp only at hSw)
                go_simp
                (try with_reducible rfl)
              try simp only [Act.put, List.getElem_toArray, List.getElem_cons_zero, List.getElem_cons_succ, List.setIfInBounds_toArray, List.set_cons_zero, List.set_cons_succ]
              refine wpAnyH_take (i := 2) (v := ?_) rfl (by kernel_rfl) (by kernel_rfl) (by kernel_rfl) (fun _ _ _ h => h) (Or.inl ⟨by rfl, ?_⟩) (by assumption) ?_
              rotate_left
              · intro w hSw
                (try dsimp only at hSw)
                go_simp
                (try with_reducible rfl)
              try simp only [Act.put, List.getElem_toArray, List.getElem_cons_zero, List.getElem_cons_succ, List.setIfInBounds_toArray, List.set_cons_zero, List.set_cons_succ]
              refine wpAnyH_take (i := 3) (v := ?_) rfl (by kernel_rfl) (by kernel_rfl) (by kernel_rfl) (fun _ _ _ h => h) (Or.inl ⟨by rfl, ?_⟩) (by assumption) ?_
              rotate_left
              · intro w hSw
                (try dsimp only at hSw)
                go_simp
                (try with_reducible rfl)
              try simp only [Act.put, List.getElem_toArray, List.getElem_cons_zero, List.getElem_cons_succ, List.setIfInBounds_toArray, List.set_cons_zero, List.set_cons_succ]
              refine wpAnyH_take (i := 4) (v := ?_) rfl (by kernel_rfl) (by kernel_rfl) (by kernel_rfl) (fun _ _ _ h => h) (Or.inl ⟨by rfl, ?_⟩) (by assumption) ?_
              rotate_left
              · intro w hSw
                (try dsimp only at hSw)
                go_simp
                (try with_reducible rfl)
              try simp only [Act.put, List.getElem_toArray, List.getElem_cons_zero, List.getElem_cons_succ, List.setIfInBounds_toArray, List.set_cons_zero, List.set_cons_succ]
              refine wpAnyH_take (i := 5) (v := ?_) rfl (by kernel_rfl) (by kernel_rfl) (by kernel_rfl) (fun _ _ _ h => h) (Or.inl ⟨by rfl, ?_⟩) (by assumption) ?_
              rotate_left
              · intro w hSw
                (try dsimp only at hSw)
                go_simp
                (try with_reducible rfl)
              try simp only [Act.put, List.getElem_toArray, List.getElem_cons_zero, List.getElem_cons_succ, List.setIfInBounds_toArray, List.set_cons_zero, List.set_cons_succ]
              refine wpAnyH_take (i := 6) (v := ?_) rfl (by kernel_rfl) (by kernel_rfl) (by kernel_rfl) (fun _ _ _ h => h) (Or.inl ⟨by rfl, ?_⟩) (by assumption) ?_
              rotate_left
              · intro w hSw
                (try dsimp only at hSw)
                go_simp
                (try with_reducible rfl)
              try simp only [Act.put, List.getElem_toArray, List.getElem_cons_zero, List.getElem_cons_succ, List.setIfInBounds_toArray, List.set_cons_zero, List.set_cons_succ]
              refine wpAnyH_ready (rs := [7]) (by kernel_rfl) (by simp) ?_
              refine AllReadyH.cons rfl (fun K hK => ?_) AllReadyH.nil
              go_simp
              refine (HSV.out _ (HK.out.trans hHeld.2) k u b off hlt rfl).mono ?_
              rintro e1 w1 ⟨rfl, rfl⟩
              first | show K _ _ | go_wp2_with fail
              refine hK.out _ _ ?_ (fun hHeld1 => ?_)
              · exact hHeld
              clear hK K
              try simp only [Act.put, List.getElem_toArray, List.getElem_cons_zero, List.getElem_cons_succ, List.setIfInBounds_toArray, List.set_cons_zero, List.set_cons_succ]
              refine wpAnyH_take (i := 8) (v := ?_) rfl (by kernel_rfl) (by kernel_rfl) (by kernel_rfl) (fun _ _ _ h => h) (Or.inl ⟨by rfl, ?_⟩) (by assumption) ?_
              rotate_left
              · intro w hSw
                (try dsimp only at hSw)
                go_simp
                (try with_reducible rfl)
              try simp only [Act.put, List.getElem_toArray, List.getElem_cons_zero, List.getElem_cons_succ, List.setIfInBounds_toArray, List.set_cons_zero, List.set_cons_succ]
              refine wpAnyH_done (by kernel_rfl) ?_ _
              have K2 := Lib.hid hHeld1.2
              clear hHeld hHeld1
              have hs2 := HS.out _ K2.out
              obtain ⟨⟨d0, -, -⟩, -⟩ := hs2
              have HOu := Lib.hid (HOV.out _ (HK.out.trans K2.out) u)
              have HQ1 : Hid (decide (u ∈ xs.take k) = decide (u ∈ xs.take k)) := rfl
              generalize hr1 : decide (u ∈ xs.take k) = r1 at *
              generalize hr2 : decide (u ∈ ys) = r2 at *
              have HR1 := Lib.hid hr1
              have HR2 := Lib.hid hr2
              clear hr1 hr2 HQ1
              go_wp2_with fail
              refine HOu.out.mono ?_
              rintro e1 w1 ⟨rfl, rfl⟩
              cases r1 with
              | true =>
                have hno := HNF.out (fun h => h.2.1 (by simpa using HR1.out))
                have HNo := Lib.hid hno
                clear hno
                go_wp2_with fail
                go_ret
                exact ⟨.inr ⟨HNo.out, rfl⟩, K0.out.trans (HK.out.trans K2.out)⟩
              | false =>
                cases r2 with
                | true =>
                  have hno := HNF.out (fun h => h.2.2 (by simpa using HR2.out))
                  have HNo := Lib.hid hno
                  clear hno
                  go_wp2_with fail
                  go_ret
                  exact ⟨.inr ⟨HNo.out, rfl⟩, K0.out.trans (HK.out.trans K2.out)⟩
                | false =>
                  have HOK : Hid (fineAt x.z xs ys k u) := ⟨by have := HAl.out; simp [aligned] at this; omega, by simpa using HR1.out, by simpa using HR2.out⟩
                  go_wp2_with fail
                  go_roundw
                  case rel =>
                    refine ⟨k + 1, by omega, by go_num, (HK.out.trans K2.out : Kept _ _ _), (show Hid _ from fun j u' hj hu' => ?_)⟩
                    rcases Nat.lt_or_ge j k with h | h
                    · exact HF.out j u' h hu'
                    · obtain rfl : j = k := by omega
                      have := HU.out
                      rw [hu'] at this
                      cases this
                      exact HOK.out
                  case measure => simp [intOf]; omega
    · obtain rfl : k = sn := by omega
      have e5 : ¬ (k : Int) < (k : Int) := by omega
      go_wp2_with fail
      go_ret
      refine ⟨.inl ⟨fun j u hj => HF.out j u (by have := (List.getElem?_eq_some_iff.1 hj).1; have := HL.out; omega) hj, rfl⟩, K0.out.trans HK.out⟩
end Go.Proofs.Ytlnjcaicagcinaa

/-
  The document's zones (dowelref05): MayZone. No conditions beyond those that the theorem names.
-/
namespace Go.Proofs.Ytlnjcaicagcinaa
open Go.ChangeShapes Go.WideShapes Go.ChangeAt Go.RowKit

theorem nodup_take (xs : List Int) : xs.Nodup ↔ ∀ i u, xs[i]? = some u → u ∉ xs.take i := by
  constructor
  · intro hn i u hu hm
    obtain ⟨hi, rfl⟩ := List.getElem?_eq_some_iff.1 hu
    have e : xs = xs.take i ++ xs[i] :: xs.drop (i + 1) := by rw [← List.drop_eq_getElem_cons hi, List.take_append_drop]
    rw [e] at hn
    exact (List.nodup_append.1 hn).2.2 _ hm xs[i] List.mem_cons_self rfl
  · intro h
    refine List.pairwise_iff_getElem.2 fun i j hi hj hij e => ?_
    refine h j xs[j] (List.getElem?_eq_getElem hj) ?_
    rw [← e]
    refine List.mem_iff_getElem?.2 ⟨i, ?_⟩
    rw [List.getElem?_take_of_lt hij, List.getElem?_eq_getElem hi]
theorem fine_cells (z : ZV) (hb : blockZ z = true) : (Fine z z.P z.Q ∧ Fine z z.Q z.P) ↔ cellsOk z := by
  have bz := (blockZ_iff z).1 hb
  have key : ∀ u : Int, (z.b ≤ u ∧ u < z.d ∧ u % 4 = 0) ↔ cellOk z u = true := fun u => by
    rw [cellOk_iff]
    omega
  constructor
  · rintro ⟨h1, h2⟩
    refine ⟨⟨(nodup_take _).2 fun i u hu => (h1 i u hu).2.1, fun u hu => ?_⟩, ⟨(nodup_take _).2 fun i u hu => (h2 i u hu).2.1, fun u hu => ?_⟩⟩
    · obtain ⟨i, hi⟩ := List.getElem?_of_mem hu
      exact ⟨(key u).1 (h1 i u hi).1, rfl⟩
    · obtain ⟨i, hi⟩ := List.getElem?_of_mem hu
      exact ⟨(key u).1 (h2 i u hi).1, by unfold upd; rw [if_neg (h2 i u hi).2.2]⟩
  · rintro ⟨h1, h2⟩
    refine ⟨fun i u hu => ⟨(key u).2 (h1.2 u (List.mem_of_getElem? hu)).1, (nodup_take _).1 h1.1 i u hu, fun hq => ?_⟩, fun i u hu => ⟨(key u).2 (h2.2 u (List.mem_of_getElem? hu)).1, (nodup_take _).1 h2.1 i u hu, ?_⟩⟩
    · exact (upd_ne (h2.2 u hq).2 (by decide)).1 (List.mem_of_getElem? hu)
    · exact (upd_ne (h2.2 u (List.mem_of_getElem? hu)).2 (by decide)).1
def MayZ (z : ZV) : Prop := blockZ z = true ∧ cellsOk z

set_option maxRecDepth 100000 in
set_option maxHeartbeats 4000000 in
theorem mayzone_any (x : ZR) (w : World) (hp : IntsAt w x.p x.z.P) (hq : IntsAt w x.q x.z.Q) (sp : x.z.P.length ≤ 100) (sq : x.z.Q.length ≤ 100) :
    Calls Try.prog 30 #[x.v] w fun e w' => ((MayZ x.z ∧ e = .returned (.bool true)) ∨ (¬ MayZ x.z ∧ e = .returned (.bool false))) ∧ Kept No w w' := by
  have HBZ := Lib.hid (blockZ_iff x.z)
  have NO : Hid (blockZ x.z ≠ true → ¬ MayZ x.z) := fun h hm => h hm.1
  have HFC := Lib.hid (fine_cells x.z)
  obtain ⟨W0, hW0⟩ : ∃ W0, W0 = w.alloc (.cells #[.int .i64 x.z.b, .int .i64 x.z.d, .int .i64 x.z.r, .int .i64 x.z.e, x.p.v, x.q.v] RZT) := ⟨_, rfl⟩
  have hr : RowAt W0 w.heap.size RZT x.el.cs := by rw [hW0]; exact RowAt.new w RZT x.el.cs
  have k0 : Kept No w W0 := by rw [hW0]; exact (Kept.refl _ _).alloc _
  have H6 : Hid (∀ W, Kept No W0 W → Six W w.heap.size 0 x) := fun W hk => cells_zone (t := RZT) (hr.keep hk (fun h => h))
  have HF1 : Hid (∀ W, Kept No W0 W → Calls Try.prog 45 #[x.v, x.p.v, x.q.v] W fun e w' => ((Fine x.z x.z.P x.z.Q ∧ e = .returned (.bool true)) ∨ (¬ Fine x.z x.z.P x.z.Q ∧ e = .returned (.bool false))) ∧ Kept No W w') := fun W hk =>
    fine_any x x.p x.q x.z.P x.z.Q W (hp.on (k0.trans hk).none) (hq.on (k0.trans hk).none) sp
  have HF2 : Hid (∀ W, Kept No W0 W → Calls Try.prog 45 #[x.v, x.q.v, x.p.v] W fun e w' => ((Fine x.z x.z.Q x.z.P ∧ e = .returned (.bool true)) ∨ (¬ Fine x.z x.z.Q x.z.P ∧ e = .returned (.bool false))) ∧ Kept No W w') := fun W hk =>
    fine_any x x.q x.p x.z.Q x.z.P W (hq.on (k0.trans hk).none) (hp.on (k0.trans hk).none) sq
  have K0 := Lib.hid k0
  have q1 := tm4n x.z.b
  have q2 := tm4n x.z.d
  have q3 := tm4n x.z.r
  have q4 := tm4n x.z.e
  obtain ⟨t0, t1, t2, t3, t4, t5⟩ := H6.out W0 (Kept.refl _ _)
  simp only [Nat.zero_add] at t1 t2 t3 t4 t5
  show Calls Try.prog 30 #[.agg #[.int .i64 x.z.b, .int .i64 x.z.d, .int .i64 x.z.r, .int .i64 x.z.e, x.p.v, x.q.v]] w _
  clear hp hq sp sq hr k0
  by_cases c1 : x.z.b < 272
  · have HNo := Lib.hid (NO.out (fun h => by have := HBZ.out.1 h; omega))
    go_enter Try.func30, Try.ntmps30
    go_wp2_with fail
    go_ret
    exact ⟨.inr ⟨HNo.out, rfl⟩, by rw [← hW0]; exact K0.out⟩
  have g1 : decide (x.z.b < 272) = false := by simpa using c1
  by_cases c2 : x.z.d < x.z.b
  · have HNo := Lib.hid (NO.out (fun h => by have := HBZ.out.1 h; omega))
    go_enter Try.func30, Try.ntmps30
    go_wp2_with fail
    go_ret
    exact ⟨.inr ⟨HNo.out, rfl⟩, by rw [← hW0]; exact K0.out⟩
  have g2 : decide (x.z.d < x.z.b) = false := by simpa using c2
  by_cases c3 : x.z.r < x.z.d
  · have HNo := Lib.hid (NO.out (fun h => by have := HBZ.out.1 h; omega))
    go_enter Try.func30, Try.ntmps30
    go_wp2_with fail
    go_ret
    exact ⟨.inr ⟨HNo.out, rfl⟩, by rw [← hW0]; exact K0.out⟩
  have g3 : decide (x.z.r < x.z.d) = false := by simpa using c3
  by_cases c4 : x.z.e < x.z.r
  · have HNo := Lib.hid (NO.out (fun h => by have := HBZ.out.1 h; omega))
    go_enter Try.func30, Try.ntmps30
    go_wp2_with fail
    go_ret
    exact ⟨.inr ⟨HNo.out, rfl⟩, by rw [← hW0]; exact K0.out⟩
  have g4 : decide (x.z.e < x.z.r) = false := by simpa using c4
  by_cases c5 : 65536 < x.z.e
  · have HNo := Lib.hid (NO.out (fun h => by have := HBZ.out.1 h; omega))
    go_enter Try.func30, Try.ntmps30
    go_wp2_with fail
    go_ret
    exact ⟨.inr ⟨HNo.out, rfl⟩, by rw [← hW0]; exact K0.out⟩
  have g5 : decide (65536 < x.z.e) = false := by simpa using c5
  by_cases c6 : x.z.b = x.z.e
  · have g6 : (x.z.b == x.z.e) = true := by simpa using c6
    have HNo := Lib.hid (NO.out (fun h => by have := HBZ.out.1 h; omega))
    clear c6
    go_enter Try.func30, Try.ntmps30
    go_wp2_with fail
    go_ret
    exact ⟨.inr ⟨HNo.out, rfl⟩, by rw [← hW0]; exact K0.out⟩
  have g6 : (x.z.b == x.z.e) = false := by simpa using c6
  cases m1 : aligned x.z.b with
  | false =>
    have HNo := Lib.hid (NO.out (fun h => by have := HBZ.out.1 h; simp [aligned] at m1; omega))
    rw [m1, Bool.not_false] at q1
    have p1 : (x.z.b % 4 != 0) = true := by simp [aligned] at m1; simpa using m1
    go_enter Try.func30, Try.ntmps30
    go_wp2_with fail
    go_ret
    exact ⟨.inr ⟨HNo.out, rfl⟩, by rw [← hW0]; exact K0.out⟩
  | true =>
    rw [m1, Bool.not_true] at q1
    have p1 : (x.z.b % 4 != 0) = false := by simp [aligned] at m1; simpa using m1
    cases m2 : aligned x.z.d with
    | false =>
      have HNo := Lib.hid (NO.out (fun h => by have := HBZ.out.1 h; simp [aligned] at m2; omega))
      rw [m2, Bool.not_false] at q2
      have p2 : (x.z.d % 4 != 0) = true := by simp [aligned] at m2; simpa using m2
      go_enter Try.func30, Try.ntmps30
      go_wp2_with fail
      go_ret
      exact ⟨.inr ⟨HNo.out, rfl⟩, by rw [← hW0]; exact K0.out⟩
    | true =>
      rw [m2, Bool.not_true] at q2
      have p2 : (x.z.d % 4 != 0) = false := by simp [aligned] at m2; simpa using m2
      cases m3 : aligned x.z.r with
      | false =>
        have HNo := Lib.hid (NO.out (fun h => by have := HBZ.out.1 h; simp [aligned] at m3; omega))
        rw [m3, Bool.not_false] at q3
        have p3 : (x.z.r % 4 != 0) = true := by simp [aligned] at m3; simpa using m3
        go_enter Try.func30, Try.ntmps30
        go_wp2_with fail
        go_ret
        exact ⟨.inr ⟨HNo.out, rfl⟩, by rw [← hW0]; exact K0.out⟩
      | true =>
        rw [m3, Bool.not_true] at q3
        have p3 : (x.z.r % 4 != 0) = false := by simp [aligned] at m3; simpa using m3
        cases m4 : aligned x.z.e with
        | false =>
          have HNo := Lib.hid (NO.out (fun h => by have := HBZ.out.1 h; simp [aligned] at m4; omega))
          rw [m4, Bool.not_false] at q4
          have p4 : (x.z.e % 4 != 0) = true := by simp [aligned] at m4; simpa using m4
          go_enter Try.func30, Try.ntmps30
          go_wp2_with fail
          go_ret
          exact ⟨.inr ⟨HNo.out, rfl⟩, by rw [← hW0]; exact K0.out⟩
        | true =>
          rw [m4, Bool.not_true] at q4
          have p4 : (x.z.e % 4 != 0) = false := by simp [aligned] at m4; simpa using m4
          have hbz : blockZ x.z = true := by
            refine HBZ.out.2 ?_
            simp [aligned] at m1 m2 m3 m4
            omega
          have HB := Lib.hid hbz
          clear hbz m1 m2 m3 m4 c6
          go_enter Try.func30, Try.ntmps30
          go_wp2_with fail
          rw [← hW0]
          clear hW0
          refine (HF1.out _ (Kept.refl _ _)).mono ?_
          rintro e w1 ⟨hres1, hk1⟩
          have K1 := Lib.hid hk1
          obtain ⟨u0, u1, u2, u3, u4, u5⟩ := H6.out w1 hk1
          simp only [Nat.zero_add] at u1 u2 u3 u4 u5
          obtain ⟨r1, rfl, hr1⟩ : ∃ r1 : Bool, e = .returned (.bool r1) ∧ (r1 = true ↔ Fine x.z x.z.P x.z.Q) := by
            rcases hres1 with ⟨h, rfl⟩ | ⟨h, rfl⟩
            · exact ⟨true, rfl, by simp [h]⟩
            · exact ⟨false, rfl, by simp [h]⟩
          have HR1 := Lib.hid hr1
          clear hk1 hres1 hr1
          go_wp2_with fail
          refine (HF2.out _ K1.out).mono ?_
          rintro e w2 ⟨hres2, hk2⟩
          have K2 := Lib.hid hk2
          obtain ⟨r2, rfl, hr2⟩ : ∃ r2 : Bool, e = .returned (.bool r2) ∧ (r2 = true ↔ Fine x.z x.z.Q x.z.P) := by
            rcases hres2 with ⟨h, rfl⟩ | ⟨h, rfl⟩
            · exact ⟨true, rfl, by simp [h]⟩
            · exact ⟨false, rfl, by simp [h]⟩
          have HR2 := Lib.hid hr2
          clear hk2 hres2 hr2
          cases r1 with
          | false =>
            have HNo : Hid (¬ MayZ x.z) := fun hm => by have := HR1.out.2 ((HFC.out HB.out).2 hm.2).1; cases this
            go_wp2_with fail
            go_ret
            exact ⟨.inr ⟨HNo.out, rfl⟩, K0.out.trans (K1.out.trans K2.out)⟩
          | true =>
            cases r2 with
            | false =>
              have HNo : Hid (¬ MayZ x.z) := fun hm => by have := HR2.out.2 ((HFC.out HB.out).2 hm.2).2; cases this
              go_wp2_with fail
              go_ret
              exact ⟨.inr ⟨HNo.out, rfl⟩, K0.out.trans (K1.out.trans K2.out)⟩
            | true =>
              have HYes : Hid (MayZ x.z) := ⟨HB.out, (HFC.out HB.out).1 ⟨HR1.out.1 rfl, HR2.out.1 rfl⟩⟩
              go_wp2_with fail
              go_ret
              exact ⟨.inl ⟨HYes.out, rfl⟩, K0.out.trans (K1.out.trans K2.out)⟩
end Go.Proofs.Ytlnjcaicagcinaa

/-
  The document's zones (dowelref05): Ints; a zone as the document's. No conditions beyond those that each theorem names.
-/
namespace Go.Proofs.Ytlnjcaicagcinaa
open Go.ChangeShapes Go.WideShapes Go.ChangeAt Go.RowKit

theorem store_rzone {w : World} {b : Nat} {t : TypeId} {cs : List Value} (h : RowAt w b t cs) (hl : cs.length = 6) (x : ZR) :
    (Instr.storeAt RZT (.pointer (some ⟨b, 0, none⟩)) (.agg #[.int .i64 x.z.b, .int .i64 x.z.d, .int .i64 x.z.r, .int .i64 x.z.e, x.p.v, x.q.v])).run Try.prog w = .ok () (w.setRow b x.el.cs.toArray) := by
  have := store_el (P := Try.prog) h 0 x.el RZT sizeR x.v rfl (by omega)
  rw [splice_all _ _ (by rw [hl, x.el.len])] at this
  exact this

set_option maxRecDepth 100000 in
set_option maxHeartbeats 1000000 in
theorem as6_any (x : ZR) (w : World) : Calls Try.prog 15 #[x.v] w fun e w' => e = .returned (.agg #[.int .i64 x.z.b, .int .i64 x.z.d, .int .i64 x.z.r, .int .i64 x.z.e, x.p.v, x.q.v]) ∧ Kept No w w' := by
  obtain ⟨W0, hW0⟩ : ∃ W0, W0 = (w.alloc (.cells #[.int .i64 x.z.b, .int .i64 x.z.d, .int .i64 x.z.r, .int .i64 x.z.e, x.p.v, x.q.v] ZT)).alloc (.cells #[.int .i64 0, .int .i64 0, .int .i64 0, .int .i64 0, .slice none 0 0, .slice none 0 0] RZT) := ⟨_, rfl⟩
  have e0 : (w.alloc (.cells #[.int .i64 x.z.b, .int .i64 x.z.d, .int .i64 x.z.r, .int .i64 x.z.e, x.p.v, x.q.v] ZT)).heap.size = w.heap.size + 1 := by simp
  have r0 : RowAt W0 w.heap.size ZT x.el.cs := by rw [hW0]; exact (RowAt.new w ZT x.el.cs).keep (S := No) ((Kept.refl _ _).alloc _) (fun h => h)
  have r1 : RowAt W0 (w.heap.size + 1) RZT zeros6 := by
    have := RowAt.new (w.alloc (.cells #[.int .i64 x.z.b, .int .i64 x.z.d, .int .i64 x.z.r, .int .i64 x.z.e, x.p.v, x.q.v] ZT)) RZT zeros6
    rw [e0] at this
    rw [hW0]
    exact this
  have k0 : Kept No w W0 := by rw [hW0]; exact ((Kept.refl _ _).alloc _).alloc _
  obtain ⟨t0, t1, t2, t3, t4, t5⟩ := cells_zone r0
  simp only [Nat.zero_add] at t1 t2 t3 t4 t5
  have HS := Lib.hid (store_rzone r1 rfl x)
  have hk : Kept No w (W0.setRow (w.heap.size + 1) x.el.cs.toArray) := k0.then (kept_row W0 (w.heap.size + 1) x.el.cs.toArray) (fun j hj h => by omega)
  have HK := Lib.hid hk
  clear hk k0 e0
  obtain ⟨u0, u1, u2, u3, u4, u5⟩ := cells_zone (r1.set x.el.cs)
  simp only [Nat.zero_add] at u1 u2 u3 u4 u5
  clear r0 r1
  obtain ⟨z, ⟨pa, pn, pc⟩, ⟨qa, qn, qc⟩⟩ := x
  simp only [Sl.mk_v] at t0 t1 t2 t3 t4 t5 HS u0 u1 u2 u3 u4 u5 hW0
  subst hW0
  show Calls Try.prog 15 #[.agg #[.int .i64 z.b, .int .i64 z.d, .int .i64 z.r, .int .i64 z.e, .slice pa pn pc, .slice qa qn qc]] w _
  go_enter Try.func15, Try.ntmps15
  go_wp2_with (refine wpList_store_run _ rfl _ _ _ rfl _ _ rfl rfl (by exact HS.out) ?_)
  exact bodyPost_ret (v := .agg #[.int .i64 z.b, .int .i64 z.d, .int .i64 z.r, .int .i64 z.e, .slice pa pn pc, .slice qa qn qc]) (by simp [results, Try.results15, go_sem, u0, u1, u2, u3, u4, u5]) rfl ⟨rfl, HK.out⟩
end Go.Proofs.Ytlnjcaicagcinaa

/-
  The document's zones (dowelref05): Add. No conditions beyond those that the theorem names.
-/
namespace Go.Proofs.Ytlnjcaicagcinaa
open Go.ChangeShapes Go.WideShapes Go.ChangeAt Go.RowKit

theorem Made.more {w wr : World} {v : Value} {M X : List ZR} {vx : Value} (h : Made w wr v M) (hs : Src Try.prog 6 52 vx X.length (zcs X) wr) (hm : 0 < X.length ∨ v ≠ .slice none 0 0) (small : M.length + X.length ≤ 1000) (ty : TypeId) :
    ∃ v' w', (Builtin.append_ #[52, 52] ty #[v, vx]).run Try.prog wr = .ok v' w' ∧ Made w w' v' (M ++ X) := by
  obtain ⟨v', w', e1, e2, e3, e4, _⟩ := h.row.append (P := Try.prog) 52 ty Try.underlying52 infoR rfl (by omega) hs hm (by omega)
  refine ⟨v', w', e1, ⟨?_, h.kept.then e3 (fun j hj ho => by have := h.new j ho; omega), fun j hj => ?_⟩⟩
  · have : zcs (M ++ X) = zcs M ++ zcs X := by simp [zcs, ecs_append]
    rw [List.length_append, this]
    exact e2
  · rcases e4 j hj with ho | ho
    · exact h.new j ho
    · exact Nat.le_trans h.kept.more ho
theorem Made.empty (w wr : World) (k : Kept No w wr) : Made w (wr.alloc (.cells #[] RZT)) (.slice (some ⟨wr.heap.size, 0, none⟩) 0 0) [] :=
  ⟨⟨.inr ⟨wr.heap.size, 0, [], rfl, RowAt.new wr RZT [], by simp, Nat.le_refl _, by simp [maxLen]⟩, rfl, fun _ h => by cases h⟩, k.alloc _, fun j hj => by have hj' : j = wr.heap.size := hj; have := k.more; omega⟩
theorem Made.pos {w wr : World} {v : Value} {M : List ZR} (h : Made w wr v M) (hm : 0 < M.length) : v ≠ .slice none 0 0 := by
  rintro rfl
  rcases h.row.is with ⟨_, h0⟩ | ⟨b, cap, rest, e, _⟩
  · omega
  · cases e

/- pieces of a list, handed to append -/
theorem src_front {w : World} {b N cap : Nat} {M : List ZR} (h : SRow RZT 6 w (.slice (some ⟨b, 0, none⟩) N cap) N (zcs M)) (hN : M.length = N) (c : Nat) (hc : c ≤ N) (cap' : Nat) :
    Src Try.prog 6 52 (.slice (some ⟨b, 0, none⟩) c cap') (M.take c).length (zcs (M.take c)) w := by
  have hl : (M.take c).length = c := by rw [List.length_take]; omega
  rw [hl]
  refine Src.ofSlice w Try.underlying52 _ _ _ _ (by rw [ecs_length, List.length_map, hl]) (fun j u hu => ?_) (ecs_ones _)
  rcases Nat.eq_zero_or_pos N with h0 | h0
  · have : M = [] := List.eq_nil_of_length_eq_zero (by omega)
    subst this
    simp [zcs, ecs_nil] at hu
  · obtain ⟨b', cap', hv, _, _, _, hcs⟩ := h.cell h0
    cases hv
    have hj := (List.getElem?_eq_some_iff.1 hu).1
    rw [ecs_length, List.length_map, hl] at hj
    rw [Addr.add_lit, Nat.zero_add, hcs j (by omega)]
    have e : zcs M = zcs (M.take c) ++ zcs (M.drop c) := by rw [← ecs_append, ← List.map_append, List.take_append_drop]
    rw [e, List.getElem?_append_left (by rw [ecs_length, List.length_map, hl]; exact hj), hu]
theorem src_back {w : World} {b N cap : Nat} {M : List ZR} (h : SRow RZT 6 w (.slice (some ⟨b, 0, none⟩) N cap) N (zcs M)) (hN : M.length = N) (c : Nat) (hc : c ≤ N) (cap' : Nat) :
    Src Try.prog 6 52 (.slice (some ⟨b, c * 6, none⟩) (N - c) cap') (M.drop c).length (zcs (M.drop c)) w := by
  have hl : (M.drop c).length = N - c := by rw [List.length_drop]; omega
  have hl' : (M.take c).length = c := by rw [List.length_take]; omega
  rw [hl]
  refine Src.ofSlice w Try.underlying52 _ _ _ _ (by rw [ecs_length, List.length_map, hl]) (fun j u hu => ?_) (ecs_ones _)
  have hj := (List.getElem?_eq_some_iff.1 hu).1
  rw [ecs_length, List.length_map, hl] at hj
  obtain ⟨b', cap', hv, _, _, _, hcs⟩ := h.cell (by omega)
  cases hv
  rw [Addr.add_lit, hcs _ (by omega)]
  have e : zcs M = zcs (M.take c) ++ zcs (M.drop c) := by rw [← ecs_append, ← List.map_append, List.take_append_drop]
  rw [e, List.getElem?_append_right (by rw [ecs_length, List.length_map, hl']; omega), ecs_length, List.length_map, hl', Nat.add_sub_cancel_left, hu]
theorem src_none (w : World) (v : Value) (c : Nat) (hv : v = .slice none 0 c) : Src Try.prog 6 52 v ([] : List ZR).length (zcs []) w := by
  subst hv
  exact Src.ofNil w Try.underlying52 c

theorem src_empty (w : World) (a : Addr) (cap : Nat) : Src Try.prog 6 52 (.slice (some a) 0 cap) ([] : List ZR).length (zcs []) w :=
  Src.ofSlice w Try.underlying52 _ _ _ _ rfl (fun j u hu => by simp [zcs, ecs_nil] at hu) (ecs_ones _)
theorem Made.base {w W0 w' : World} {v : Value} {M : List ZR} (h : Made W0 w' v M) (k : Kept No w W0) : Made w w' v M := ⟨h.row, k.trans h.kept, fun j hj => Nat.le_trans k.more (h.new j hj)⟩

/- what the rounds have found -/
structure AddRel (W0 wr : World) (z : ZV) (M : List ZR) (k c : Nat) : Prop where
  kept : Kept No W0 wr
  apart : ∀ j y, j < k → M[j]? = some y → meetsZ z y.z = false
  le : c ≤ k
  lo : ∀ j y, M[j]? = some y → j < c → y.z.b < z.b
  hi : ∀ j y, M[j]? = some y → c ≤ j → j < k → z.b ≤ y.z.b

theorem AddRel.step {W0 wr w' : World} {z : ZV} {M : List ZR} {k c : Nat} (h : AddRel W0 wr z M k c) (hr : Rising M) {y : ZR} (hy : M[k]? = some y) (hm : meetsZ z y.z = false) (hk : Kept No wr w') :
    AddRel W0 w' z M (k + 1) (if y.z.b < z.b then k + 1 else c) := by
  refine ⟨h.kept.trans hk, fun j u hj hu => ?_, ?_, fun j u hu hj => ?_, fun j u hu hj hk' => ?_⟩
  · rcases Nat.lt_or_ge j k with h1 | h1
    · exact h.apart j u h1 hu
    · obtain rfl : j = k := by omega
      rw [hy] at hu
      cases hu
      exact hm
  · split
    · omega
    · have := h.le; omega
  · split at hj
    · rename_i hlt
      rcases Nat.lt_or_ge j k with h1 | h1
      · have := hr j k u y hu hy h1; omega
      · obtain rfl : j = k := by omega
        rw [hy] at hu
        cases hu
        exact hlt
    · exact h.lo j u hu hj
  · split at hj
    · omega
    · rename_i hlt
      rcases Nat.lt_or_ge j k with h1 | h1
      · exact h.hi j u hu hj h1
      · obtain rfl : j = k := by omega
        rw [hy] at hu
        cases hu
        omega

def RAdded (w w' : World) (e : Ending) (v : Value) (M : List ZR) (x : ZR) : Prop :=
  (MayAdd (M.map ZR.z) x.z ∧ ∃ v' A B, M = A ++ B ∧ Split (M.map ZR.z) (A.map ZR.z) (B.map ZR.z) x.z.b ∧ e = .returned (.tuple #[v', .bool true]) ∧ Made w w' v' (A ++ x :: B)) ∨
  (¬ MayAdd (M.map ZR.z) x.z ∧ e = .returned (.tuple #[v, .bool false]) ∧ Kept No w w')

set_option maxRecDepth 100000 in
set_option maxHeartbeats 8000000 in
theorem radd_any (x : ZR) (v : Value) (M : List ZR) (w : World) (h : RefAt w v M) (g : Good (M.map ZR.z)) (small : M.length ≤ 100) (hp : IntsAt w x.p x.z.P) (hq : IntsAt w x.q x.z.Q) (sp : x.z.P.length ≤ 100) (sq : x.z.Q.length ≤ 100) :
    Calls Try.prog 14 #[v, x.v] w fun e w' => RAdded w w' e v M x := by
  unfold RAdded
  obtain ⟨sa, c, rfl, hc1, hc2⟩ := h.row.shape
  obtain ⟨W0, hW0⟩ : ∃ W0, W0 = w.alloc (.cells #[.int .i64 x.z.b, .int .i64 x.z.d, .int .i64 x.z.r, .int .i64 x.z.e, x.p.v, x.q.v] RZT) := ⟨_, rfl⟩
  have hr : RowAt W0 w.heap.size RZT x.el.cs := by rw [hW0]; exact RowAt.new w RZT x.el.cs
  have k0 : Kept No w W0 := by rw [hW0]; exact (Kept.refl _ _).alloc _
  have H6 : Hid (∀ W, Kept No W0 W → Six W w.heap.size 0 x) := fun W hk => cells_zone (t := RZT) (hr.keep hk (fun h => h))
  have HR : Hid (∀ W, Kept No W0 W → SRow RZT 6 W (.slice sa M.length c) M.length (zcs M)) := fun W hk => h.row.keep (k0.trans hk) (fun _ _ h => h)
  have HMZ := Lib.hid (mayzone_any x W0 (hp.on k0.none) (hq.on k0.none) sp sq)
  have K0 := Lib.hid k0
  have HRis := Lib.hid g.rising
  obtain ⟨t0, t1, t2, t3, t4, t5⟩ := H6.out W0 (Kept.refl _ _)
  simp only [Nat.zero_add] at t1 t2 t3 t4 t5
  show Calls Try.prog 14 #[.slice sa M.length c, .agg #[.int .i64 x.z.b, .int .i64 x.z.d, .int .i64 x.z.r, .int .i64 x.z.e, x.p.v, x.q.v]] w _
  clear h g hp hq sp sq hr k0
  generalize hN : M.length = N at *
  have HN := Lib.hid hN
  clear hN
  go_enter Try.func14, Try.ntmps14
  go_wp2_with fail
  rw [← hW0]
  clear hW0
  refine HMZ.out.mono ?_
  rintro e w1 ⟨⟨hmz, rfl⟩ | ⟨hmz, rfl⟩, hk1⟩
  rotate_left
  · have HNo : Hid (¬ MayAdd (M.map ZR.z) x.z) := fun hm => hmz ⟨hm.1, hm.2.2⟩
    have K1 := Lib.hid hk1
    clear hmz hk1
    go_wp2_with fail
    go_ret2
    exact .inr ⟨HNo.out, rfl, K0.out.trans K1.out⟩
  have K1 := Lib.hid hk1
  have HMay := Lib.hid hmz
  clear hmz hk1 t0 t1 t2 t3 t4 t5
  go_wp2_with fail
  go_loopw [7, 8] (fun at_ i wr => ∃ k c' : Nat, k ≤ N ∧ i = .int .i64 k ∧ at_ = .int .i64 c' ∧ Hid (AddRel W0 wr x.z M k c')) (fun _ i _ => N - (intOf i).toNat)
  case atStart => exact ⟨0, 0, Nat.zero_le _, rfl, rfl, (⟨K1.out, fun j y hj => by omega, Nat.le_refl _, fun j y _ hj => by omega, fun j y _ _ hj => by omega⟩ : AddRel _ _ _ _ _ _)⟩
  case round =>
    obtain ⟨k, c', hk, rfl, rfl, HA⟩ := hrel
    by_cases hlt : k < N
    · obtain ⟨y, hy⟩ : ∃ y, M[k]? = some y := ⟨_, List.getElem?_eq_getElem (by rw [HN.out]; exact hlt)⟩
      obtain ⟨b, cap, hv, hbl, hcap1, hcap2, hcs⟩ := (HR.out wr HA.out.kept).cell (by omega)
      cases hv
      have hy6 := six_of HN.out hcs hy
      have HS : Hid (∀ w', Kept No wr w' → (w'.cell? ⟨b, k * 6, none⟩ = some (.int .i64 y.z.b) ∧ w'.cell? ⟨b, k * 6 + 3, none⟩ = some (.int .i64 y.z.e) ∧ w'.cell? ⟨w.heap.size, 0, none⟩ = some (.int .i64 x.z.b) ∧ w'.cell? ⟨w.heap.size, 3, none⟩ = some (.int .i64 x.z.e)) ∧ Kept No wr w') := fun w' hk' => by
        have a1 := hy6.keep hk' hbl (fun h => h)
        have a2 := H6.out w' (HA.out.kept.trans hk')
        have a3 := a2.c3
        simp only [Nat.zero_add] at a3
        exact ⟨⟨a1.c0, a1.c3, a2.c0, a3⟩, hk'⟩
      have HY := Lib.hid hy
      have e5 : (k : Int) < (N : Int) := by omega
      have e6 : (0 : Int) ≤ (k : Int) := by omega
      have hkn : k ≤ 100 := by omega
      clear hy hcs hy6
      by_cases h1 : y.z.b < x.z.e
      · by_cases h2 : x.z.b < y.z.e
        · have HNo : Hid (¬ MayAdd (M.map ZR.z) x.z) := fun hm => by
            have := List.any_eq_false.1 hm.2.1 y.z (List.mem_map.2 ⟨y, List.mem_of_getElem? HY.out, rfl⟩)
            exact this (by simp [meetsZ, h1, h2])
          have g1 : decide (y.z.b < x.z.e) = true := by simpa using h1
          have g2 : decide (x.z.b < y.z.e) = true := by simpa using h2
          go_wp2_with fail
          refine wp_region_held_drew (S := fun w' => (w'.cell? ⟨b, k * 6, none⟩ = some (.int .i64 y.z.b) ∧ w'.cell? ⟨b, k * 6 + 3, none⟩ = some (.int .i64 y.z.e) ∧ w'.cell? ⟨w.heap.size, 0, none⟩ = some (.int .i64 x.z.b) ∧ w'.cell? ⟨w.heap.size, 3, none⟩ = some (.int .i64 x.z.e)) ∧ Kept No wr w') (by kernel_rfl) ?_ (fun hHeld => ?_)
          · exact HS.out _ (Kept.refl _ _).drew
          refine wpAnyH_take (i := 0) (v := ?_) rfl (by kernel_rfl) (by kernel_rfl) (by kernel_rfl) (fun _ _ _ h => h) (Or.inl ⟨by rfl, ?_⟩) (by assumption) ?_
          rotate_left
          · intro w hSw
            (try dsimp only at hSw)
            go_simp
            (try with_reducible rfl)
          try simp only [Act.put, List.getElem_toArray, List.getElem_cons_zero, List.setIfInBounds_toArray, List.set_cons_zero, List.set_cons_succ]
          refine wpAnyH_take (i := 1) (v := ?_) rfl (by kernel_rfl) (by kernel_rfl) (by kernel_rfl) (fun _ _ _ h => h) (Or.inl ⟨by rfl, ?_⟩) (by assumption) ?_
          rotate_left
          · intro w hSw
            (try dsimp only at hSw)
            go_simp
            (try with_reducible rfl)
          try simp only [Act.put, List.getElem_toArray, List.getElem_cons_zero, List.getElem_cons_succ, List.setIfInBounds_toArray, List.set_cons_zero, List.set_cons_succ]
          refine wpAnyH_take (i := 2) (v := ?_) rfl (by kernel_rfl) (by kernel_rfl) (by kernel_rfl) (fun _ _ _ h => h) (Or.inl ⟨by rfl, ?_⟩) (by assumption) ?_
          rotate_left
          · intro w hSw
            (try dsimp only at hSw)
            go_simp
            (try with_reducible rfl)
          try simp only [Act.put, List.getElem_toArray, List.getElem_cons_zero, List.getElem_cons_succ, List.setIfInBounds_toArray, List.set_cons_zero, List.set_cons_succ]
          refine wpAnyH_take (i := 3) (v := ?_) rfl (by kernel_rfl) (by kernel_rfl) (by kernel_rfl) (fun _ _ _ h => h) (Or.inl ⟨by rfl, ?_⟩) (by assumption) ?_
          rotate_left
          · intro w hSw
            (try dsimp only at hSw)
            go_simp
            (try with_reducible rfl)
          try simp only [Act.put, List.getElem_toArray, List.getElem_cons_zero, List.getElem_cons_succ, List.setIfInBounds_toArray, List.set_cons_zero, List.set_cons_succ]
          refine wpAnyH_take (i := 4) (v := ?_) rfl (by kernel_rfl) (by kernel_rfl) (by kernel_rfl) (fun _ _ _ h => h) (Or.inl ⟨by rfl, ?_⟩) (by assumption) ?_
          rotate_left
          · intro w hSw
            (try dsimp only at hSw)
            go_simp
            (try with_reducible rfl)
          try simp only [Act.put, List.getElem_toArray, List.getElem_cons_zero, List.getElem_cons_succ, List.setIfInBounds_toArray, List.set_cons_zero, List.set_cons_succ]
          refine wpAnyH_take (i := 5) (v := ?_) rfl (by kernel_rfl) (by kernel_rfl) (by kernel_rfl) (fun _ _ _ h => h) (Or.inl ⟨by rfl, ?_⟩) (by assumption) ?_
          rotate_left
          · intro w hSw
            (try dsimp only at hSw)
            go_simp
            (try with_reducible rfl)
          try simp only [Act.put, List.getElem_toArray, List.getElem_cons_zero, List.getElem_cons_succ, List.setIfInBounds_toArray, List.set_cons_zero, List.set_cons_succ]
          refine wpAnyH_take (i := 6) (v := ?_) rfl (by kernel_rfl) (by kernel_rfl) (by kernel_rfl) (fun _ _ _ h => h) (Or.inl ⟨by rfl, ?_⟩) (by assumption) ?_
          rotate_left
          · intro w hSw
            (try dsimp only at hSw)
            go_simp
            (try with_reducible rfl)
          try simp only [Act.put, List.getElem_toArray, List.getElem_cons_zero, List.getElem_cons_succ, List.setIfInBounds_toArray, List.set_cons_zero, List.set_cons_succ]
          refine wpAnyH_take (i := 7) (v := ?_) rfl (by kernel_rfl) (by kernel_rfl) (by kernel_rfl) (fun _ _ _ h => h) (Or.inl ⟨by rfl, ?_⟩) (by assumption) ?_
          rotate_left
          · intro w hSw
            (try dsimp only at hSw)
            go_simp
            (try with_reducible rfl)
          try simp only [Act.put, List.getElem_toArray, List.getElem_cons_zero, List.getElem_cons_succ, List.setIfInBounds_toArray, List.set_cons_zero, List.set_cons_succ]
          refine wpAnyH_take (i := 8) (v := ?_) rfl (by kernel_rfl) (by kernel_rfl) (by kernel_rfl) (fun _ _ _ h => h) (Or.inl ⟨by rfl, ?_⟩) (by assumption) ?_
          rotate_left
          · intro w hSw
            (try dsimp only at hSw)
            go_simp
            (try with_reducible rfl)
          try simp only [Act.put, List.getElem_toArray, List.getElem_cons_zero, List.getElem_cons_succ, List.setIfInBounds_toArray, List.set_cons_zero, List.set_cons_succ]
          refine wpAnyH_take (i := 9) (v := ?_) rfl (by kernel_rfl) (by kernel_rfl) (by kernel_rfl) (fun _ _ _ h => h) (Or.inl ⟨by rfl, ?_⟩) (by assumption) ?_
          rotate_left
          · intro w hSw
            (try dsimp only at hSw)
            go_simp
            (try with_reducible rfl)
          try simp only [Act.put, List.getElem_toArray, List.getElem_cons_zero, List.getElem_cons_succ, List.setIfInBounds_toArray, List.set_cons_zero, List.set_cons_succ]
          refine wpAnyH_take (i := 10) (v := ?_) rfl (by kernel_rfl) (by kernel_rfl) (by kernel_rfl) (fun _ _ _ h => h) (Or.inl ⟨by rfl, ?_⟩) (by assumption) ?_
          rotate_left
          · intro w hSw
            (try dsimp only at hSw)
            go_simp
            (try with_reducible rfl)
          try simp only [Act.put, List.getElem_toArray, List.getElem_cons_zero, List.getElem_cons_succ, List.setIfInBounds_toArray, List.set_cons_zero, List.set_cons_succ]
          refine wpAnyH_take (i := 11) (v := ?_) rfl (by kernel_rfl) (by kernel_rfl) (by kernel_rfl) (fun _ _ _ h => h) (Or.inl ⟨by rfl, ?_⟩) (by assumption) ?_
          rotate_left
          · intro w hSw
            (try dsimp only at hSw)
            go_simp
            (try with_reducible rfl)
          try simp only [Act.put, List.getElem_toArray, List.getElem_cons_zero, List.getElem_cons_succ, List.setIfInBounds_toArray, List.set_cons_zero, List.set_cons_succ]
          refine wpAnyH_take (i := 12) (v := ?_) rfl (by kernel_rfl) (by kernel_rfl) (by kernel_rfl) (fun _ _ _ h => h) (Or.inl ⟨by rfl, ?_⟩) (by assumption) ?_
          rotate_left
          · intro w hSw
            (try dsimp only at hSw)
            go_simp
            (try with_reducible rfl)
          try simp only [Act.put, List.getElem_toArray, List.getElem_cons_zero, List.getElem_cons_succ, List.setIfInBounds_toArray, List.set_cons_zero, List.set_cons_succ]
          refine wpAnyH_take (i := 13) (v := ?_) rfl (by kernel_rfl) (by kernel_rfl) (by kernel_rfl) (fun _ _ _ h => h) (Or.inl ⟨by rfl, ?_⟩) (by assumption) ?_
          rotate_left
          · intro w hSw
            (try dsimp only at hSw)
            go_simp
            (try with_reducible rfl)
          try simp only [Act.put, List.getElem_toArray, List.getElem_cons_zero, List.getElem_cons_succ, List.setIfInBounds_toArray, List.set_cons_zero, List.set_cons_succ]
          refine wpAnyH_take (i := 14) (v := ?_) rfl (by kernel_rfl) (by kernel_rfl) (by kernel_rfl) (fun _ _ _ h => h) (Or.inl ⟨by rfl, ?_⟩) (by assumption) ?_
          rotate_left
          · intro w hSw
            (try dsimp only at hSw)
            go_simp
            (try with_reducible rfl)
          try simp only [Act.put, List.getElem_toArray, List.getElem_cons_zero, List.getElem_cons_succ, List.setIfInBounds_toArray, List.set_cons_zero, List.set_cons_succ]
          refine wpAnyH_take (i := 15) (v := ?_) rfl (by kernel_rfl) (by kernel_rfl) (by kernel_rfl) (fun _ _ _ h => h) (Or.inl ⟨by rfl, ?_⟩) (by assumption) ?_
          rotate_left
          · intro w hSw
            (try dsimp only at hSw)
            go_simp
            (try with_reducible rfl)
          try simp only [Act.put, List.getElem_toArray, List.getElem_cons_zero, List.getElem_cons_succ, List.setIfInBounds_toArray, List.set_cons_zero, List.set_cons_succ]
          refine wpAnyH_take (i := 16) (v := ?_) rfl (by kernel_rfl) (by kernel_rfl) (by kernel_rfl) (fun _ _ _ h => h) (Or.inl ⟨by rfl, ?_⟩) (by assumption) ?_
          rotate_left
          · intro w hSw
            (try dsimp only at hSw)
            go_simp
            (try with_reducible rfl)
          try simp only [Act.put, List.getElem_toArray, List.getElem_cons_zero, List.getElem_cons_succ, List.setIfInBounds_toArray, List.set_cons_zero, List.set_cons_succ]
          refine wpAnyH_take (i := 17) (v := ?_) rfl (by kernel_rfl) (by kernel_rfl) (by kernel_rfl) (fun _ _ _ h => h) (Or.inl ⟨by rfl, ?_⟩) (by assumption) ?_
          rotate_left
          · intro w hSw
            (try dsimp only at hSw)
            go_simp
            (try with_reducible rfl)
          try simp only [Act.put, List.getElem_toArray, List.getElem_cons_zero, List.getElem_cons_succ, List.setIfInBounds_toArray, List.set_cons_zero, List.set_cons_succ]
          refine wpAnyH_done (by kernel_rfl) ?_ _
          have K2 := Lib.hid hHeld.2
          clear hHeld
          go_wp2_with fail
          go_ret2
          exact .inr ⟨HNo.out, rfl, K0.out.trans (HA.out.kept.trans K2.out)⟩
        · have HMt : Hid (meetsZ x.z y.z = false) := by show _ = _; simp [meetsZ]; omega
          have g1 : decide (y.z.b < x.z.e) = true := by simpa using h1
          have g2 : decide (x.z.b < y.z.e) = false := by simpa using h2
          go_wp2_with fail
          refine wp_region_held_drew (S := fun w' => (w'.cell? ⟨b, k * 6, none⟩ = some (.int .i64 y.z.b) ∧ w'.cell? ⟨b, k * 6 + 3, none⟩ = some (.int .i64 y.z.e) ∧ w'.cell? ⟨w.heap.size, 0, none⟩ = some (.int .i64 x.z.b) ∧ w'.cell? ⟨w.heap.size, 3, none⟩ = some (.int .i64 x.z.e)) ∧ Kept No wr w') (by kernel_rfl) ?_ (fun hHeld => ?_)
          · exact HS.out _ (Kept.refl _ _).drew
          refine wpAnyH_take (i := 0) (v := ?_) rfl (by kernel_rfl) (by kernel_rfl) (by kernel_rfl) (fun _ _ _ h => h) (Or.inl ⟨by rfl, ?_⟩) (by assumption) ?_
          rotate_left
          · intro w hSw
            (try dsimp only at hSw)
            go_simp
            (try with_reducible rfl)
          try simp only [Act.put, List.getElem_toArray, List.getElem_cons_zero, List.setIfInBounds_toArray, List.set_cons_zero, List.set_cons_succ]
          refine wpAnyH_take (i := 1) (v := ?_) rfl (by kernel_rfl) (by kernel_rfl) (by kernel_rfl) (fun _ _ _ h => h) (Or.inl ⟨by rfl, ?_⟩) (by assumption) ?_
          rotate_left
          · intro w hSw
            (try dsimp only at hSw)
            go_simp
            (try with_reducible rfl)
          try simp only [Act.put, List.getElem_toArray, List.getElem_cons_zero, List.getElem_cons_succ, List.setIfInBounds_toArray, List.set_cons_zero, List.set_cons_succ]
          refine wpAnyH_take (i := 2) (v := ?_) rfl (by kernel_rfl) (by kernel_rfl) (by kernel_rfl) (fun _ _ _ h => h) (Or.inl ⟨by rfl, ?_⟩) (by assumption) ?_
          rotate_left
          · intro w hSw
            (try dsimp only at hSw)
            go_simp
            (try with_reducible rfl)
          try simp only [Act.put, List.getElem_toArray, List.getElem_cons_zero, List.getElem_cons_succ, List.setIfInBounds_toArray, List.set_cons_zero, List.set_cons_succ]
          refine wpAnyH_take (i := 3) (v := ?_) rfl (by kernel_rfl) (by kernel_rfl) (by kernel_rfl) (fun _ _ _ h => h) (Or.inl ⟨by rfl, ?_⟩) (by assumption) ?_
          rotate_left
          · intro w hSw
            (try dsimp only at hSw)
            go_simp
            (try with_reducible rfl)
          try simp only [Act.put, List.getElem_toArray, List.getElem_cons_zero, List.getElem_cons_succ, List.setIfInBounds_toArray, List.set_cons_zero, List.set_cons_succ]
          refine wpAnyH_take (i := 4) (v := ?_) rfl (by kernel_rfl) (by kernel_rfl) (by kernel_rfl) (fun _ _ _ h => h) (Or.inl ⟨by rfl, ?_⟩) (by assumption) ?_
          rotate_left
          · intro w hSw
            (try dsimp only at hSw)
            go_simp
            (try with_reducible rfl)
          try simp only [Act.put, List.getElem_toArray, List.getElem_cons_zero, List.getElem_cons_succ, List.setIfInBounds_toArray, List.set_cons_zero, List.set_cons_succ]
          refine wpAnyH_take (i := 5) (v := ?_) rfl (by kernel_rfl) (by kernel_rfl) (by kernel_rfl) (fun _ _ _ h => h) (Or.inl ⟨by rfl, ?_⟩) (by assumption) ?_
          rotate_left
          · intro w hSw
            (try dsimp only at hSw)
            go_simp
            (try with_reducible rfl)
          try simp only [Act.put, List.getElem_toArray, List.getElem_cons_zero, List.getElem_cons_succ, List.setIfInBounds_toArray, List.set_cons_zero, List.set_cons_succ]
          refine wpAnyH_take (i := 6) (v := ?_) rfl (by kernel_rfl) (by kernel_rfl) (by kernel_rfl) (fun _ _ _ h => h) (Or.inl ⟨by rfl, ?_⟩) (by assumption) ?_
          rotate_left
          · intro w hSw
            (try dsimp only at hSw)
            go_simp
            (try with_reducible rfl)
          try simp only [Act.put, List.getElem_toArray, List.getElem_cons_zero, List.getElem_cons_succ, List.setIfInBounds_toArray, List.set_cons_zero, List.set_cons_succ]
          refine wpAnyH_take (i := 7) (v := ?_) rfl (by kernel_rfl) (by kernel_rfl) (by kernel_rfl) (fun _ _ _ h => h) (Or.inl ⟨by rfl, ?_⟩) (by assumption) ?_
          rotate_left
          · intro w hSw
            (try dsimp only at hSw)
            go_simp
            (try with_reducible rfl)
          try simp only [Act.put, List.getElem_toArray, List.getElem_cons_zero, List.getElem_cons_succ, List.setIfInBounds_toArray, List.set_cons_zero, List.set_cons_succ]
          refine wpAnyH_take (i := 8) (v := ?_) rfl (by kernel_rfl) (by kernel_rfl) (by kernel_rfl) (fun _ _ _ h => h) (Or.inl ⟨by rfl, ?_⟩) (by assumption) ?_
          rotate_left
          · intro w hSw
            (try dsimp only at hSw)
            go_simp
            (try with_reducible rfl)
          try simp only [Act.put, List.getElem_toArray, List.getElem_cons_zero, List.getElem_cons_succ, List.setIfInBounds_toArray, List.set_cons_zero, List.set_cons_succ]
          refine wpAnyH_take (i := 9) (v := ?_) rfl (by kernel_rfl) (by kernel_rfl) (by kernel_rfl) (fun _ _ _ h => h) (Or.inl ⟨by rfl, ?_⟩) (by assumption) ?_
          rotate_left
          · intro w hSw
            (try dsimp only at hSw)
            go_simp
            (try with_reducible rfl)
          try simp only [Act.put, List.getElem_toArray, List.getElem_cons_zero, List.getElem_cons_succ, List.setIfInBounds_toArray, List.set_cons_zero, List.set_cons_succ]
          refine wpAnyH_take (i := 10) (v := ?_) rfl (by kernel_rfl) (by kernel_rfl) (by kernel_rfl) (fun _ _ _ h => h) (Or.inl ⟨by rfl, ?_⟩) (by assumption) ?_
          rotate_left
          · intro w hSw
            (try dsimp only at hSw)
            go_simp
            (try with_reducible rfl)
          try simp only [Act.put, List.getElem_toArray, List.getElem_cons_zero, List.getElem_cons_succ, List.setIfInBounds_toArray, List.set_cons_zero, List.set_cons_succ]
          refine wpAnyH_take (i := 11) (v := ?_) rfl (by kernel_rfl) (by kernel_rfl) (by kernel_rfl) (fun _ _ _ h => h) (Or.inl ⟨by rfl, ?_⟩) (by assumption) ?_
          rotate_left
          · intro w hSw
            (try dsimp only at hSw)
            go_simp
            (try with_reducible rfl)
          try simp only [Act.put, List.getElem_toArray, List.getElem_cons_zero, List.getElem_cons_succ, List.setIfInBounds_toArray, List.set_cons_zero, List.set_cons_succ]
          refine wpAnyH_take (i := 12) (v := ?_) rfl (by kernel_rfl) (by kernel_rfl) (by kernel_rfl) (fun _ _ _ h => h) (Or.inl ⟨by rfl, ?_⟩) (by assumption) ?_
          rotate_left
          · intro w hSw
            (try dsimp only at hSw)
            go_simp
            (try with_reducible rfl)
          try simp only [Act.put, List.getElem_toArray, List.getElem_cons_zero, List.getElem_cons_succ, List.setIfInBounds_toArray, List.set_cons_zero, List.set_cons_succ]
          refine wpAnyH_take (i := 13) (v := ?_) rfl (by kernel_rfl) (by kernel_rfl) (by kernel_rfl) (fun _ _ _ h => h) (Or.inl ⟨by rfl, ?_⟩) (by assumption) ?_
          rotate_left
          · intro w hSw
            (try dsimp only at hSw)
            go_simp
            (try with_reducible rfl)
          try simp only [Act.put, List.getElem_toArray, List.getElem_cons_zero, List.getElem_cons_succ, List.setIfInBounds_toArray, List.set_cons_zero, List.set_cons_succ]
          refine wpAnyH_take (i := 14) (v := ?_) rfl (by kernel_rfl) (by kernel_rfl) (by kernel_rfl) (fun _ _ _ h => h) (Or.inl ⟨by rfl, ?_⟩) (by assumption) ?_
          rotate_left
          · intro w hSw
            (try dsimp only at hSw)
            go_simp
            (try with_reducible rfl)
          try simp only [Act.put, List.getElem_toArray, List.getElem_cons_zero, List.getElem_cons_succ, List.setIfInBounds_toArray, List.set_cons_zero, List.set_cons_succ]
          refine wpAnyH_take (i := 15) (v := ?_) rfl (by kernel_rfl) (by kernel_rfl) (by kernel_rfl) (fun _ _ _ h => h) (Or.inl ⟨by rfl, ?_⟩) (by assumption) ?_
          rotate_left
          · intro w hSw
            (try dsimp only at hSw)
            go_simp
            (try with_reducible rfl)
          try simp only [Act.put, List.getElem_toArray, List.getElem_cons_zero, List.getElem_cons_succ, List.setIfInBounds_toArray, List.set_cons_zero, List.set_cons_succ]
          refine wpAnyH_take (i := 16) (v := ?_) rfl (by kernel_rfl) (by kernel_rfl) (by kernel_rfl) (fun _ _ _ h => h) (Or.inl ⟨by rfl, ?_⟩) (by assumption) ?_
          rotate_left
          · intro w hSw
            (try dsimp only at hSw)
            go_simp
            (try with_reducible rfl)
          try simp only [Act.put, List.getElem_toArray, List.getElem_cons_zero, List.getElem_cons_succ, List.setIfInBounds_toArray, List.set_cons_zero, List.set_cons_succ]
          refine wpAnyH_take (i := 17) (v := ?_) rfl (by kernel_rfl) (by kernel_rfl) (by kernel_rfl) (fun _ _ _ h => h) (Or.inl ⟨by rfl, ?_⟩) (by assumption) ?_
          rotate_left
          · intro w hSw
            (try dsimp only at hSw)
            go_simp
            (try with_reducible rfl)
          try simp only [Act.put, List.getElem_toArray, List.getElem_cons_zero, List.getElem_cons_succ, List.setIfInBounds_toArray, List.set_cons_zero, List.set_cons_succ]
          refine wpAnyH_done (by kernel_rfl) ?_ _
          have K2 := Lib.hid hHeld.2
          clear hHeld
          go_wp2_with fail
          refine wp_region_held_drew (S := fun w' => (w'.cell? ⟨b, k * 6, none⟩ = some (.int .i64 y.z.b) ∧ w'.cell? ⟨b, k * 6 + 3, none⟩ = some (.int .i64 y.z.e) ∧ w'.cell? ⟨w.heap.size, 0, none⟩ = some (.int .i64 x.z.b) ∧ w'.cell? ⟨w.heap.size, 3, none⟩ = some (.int .i64 x.z.e)) ∧ Kept No wr w') (by kernel_rfl) ?_ (fun hHeld => ?_)
          · exact HS.out _ K2.out.drew
          refine wpAnyH_take (i := 0) (v := ?_) rfl (by kernel_rfl) (by kernel_rfl) (by kernel_rfl) (fun _ _ _ h => h) (Or.inl ⟨by rfl, ?_⟩) (by assumption) ?_
          rotate_left
          · intro w hSw
            (try dsimp only at hSw)
            go_simp
            (try with_reducible rfl)
          try simp only [Act.put, List.getElem_toArray, List.getElem_cons_zero, List.setIfInBounds_toArray, List.set_cons_zero, List.set_cons_succ]
          refine wpAnyH_take (i := 1) (v := ?_) rfl (by kernel_rfl) (by kernel_rfl) (by kernel_rfl) (fun _ _ _ h => h) (Or.inl ⟨by rfl, ?_⟩) (by assumption) ?_
          rotate_left
          · intro w hSw
            (try dsimp only at hSw)
            go_simp
            (try with_reducible rfl)
          try simp only [Act.put, List.getElem_toArray, List.getElem_cons_zero, List.getElem_cons_succ, List.setIfInBounds_toArray, List.set_cons_zero, List.set_cons_succ]
          refine wpAnyH_take (i := 2) (v := ?_) rfl (by kernel_rfl) (by kernel_rfl) (by kernel_rfl) (fun _ _ _ h => h) (Or.inl ⟨by rfl, ?_⟩) (by assumption) ?_
          rotate_left
          · intro w hSw
            (try dsimp only at hSw)
            go_simp
            (try with_reducible rfl)
          try simp only [Act.put, List.getElem_toArray, List.getElem_cons_zero, List.getElem_cons_succ, List.setIfInBounds_toArray, List.set_cons_zero, List.set_cons_succ]
          refine wpAnyH_take (i := 3) (v := ?_) rfl (by kernel_rfl) (by kernel_rfl) (by kernel_rfl) (fun _ _ _ h => h) (Or.inl ⟨by rfl, ?_⟩) (by assumption) ?_
          rotate_left
          · intro w hSw
            (try dsimp only at hSw)
            go_simp
            (try with_reducible rfl)
          try simp only [Act.put, List.getElem_toArray, List.getElem_cons_zero, List.getElem_cons_succ, List.setIfInBounds_toArray, List.set_cons_zero, List.set_cons_succ]
          refine wpAnyH_take (i := 4) (v := ?_) rfl (by kernel_rfl) (by kernel_rfl) (by kernel_rfl) (fun _ _ _ h => h) (Or.inl ⟨by rfl, ?_⟩) (by assumption) ?_
          rotate_left
          · intro w hSw
            (try dsimp only at hSw)
            go_simp
            (try with_reducible rfl)
          try simp only [Act.put, List.getElem_toArray, List.getElem_cons_zero, List.getElem_cons_succ, List.setIfInBounds_toArray, List.set_cons_zero, List.set_cons_succ]
          refine wpAnyH_take (i := 5) (v := ?_) rfl (by kernel_rfl) (by kernel_rfl) (by kernel_rfl) (fun _ _ _ h => h) (Or.inl ⟨by rfl, ?_⟩) (by assumption) ?_
          rotate_left
          · intro w hSw
            (try dsimp only at hSw)
            go_simp
            (try with_reducible rfl)
          try simp only [Act.put, List.getElem_toArray, List.getElem_cons_zero, List.getElem_cons_succ, List.setIfInBounds_toArray, List.set_cons_zero, List.set_cons_succ]
          refine wpAnyH_take (i := 6) (v := ?_) rfl (by kernel_rfl) (by kernel_rfl) (by kernel_rfl) (fun _ _ _ h => h) (Or.inl ⟨by rfl, ?_⟩) (by assumption) ?_
          rotate_left
          · intro w hSw
            (try dsimp only at hSw)
            go_simp
            (try with_reducible rfl)
          try simp only [Act.put, List.getElem_toArray, List.getElem_cons_zero, List.getElem_cons_succ, List.setIfInBounds_toArray, List.set_cons_zero, List.set_cons_succ]
          refine wpAnyH_take (i := 7) (v := ?_) rfl (by kernel_rfl) (by kernel_rfl) (by kernel_rfl) (fun _ _ _ h => h) (Or.inl ⟨by rfl, ?_⟩) (by assumption) ?_
          rotate_left
          · intro w hSw
            (try dsimp only at hSw)
            go_simp
            (try with_reducible rfl)
          try simp only [Act.put, List.getElem_toArray, List.getElem_cons_zero, List.getElem_cons_succ, List.setIfInBounds_toArray, List.set_cons_zero, List.set_cons_succ]
          refine wpAnyH_done (by kernel_rfl) ?_ _
          have K3 := Lib.hid hHeld.2
          clear hHeld
          have hst := HA.out.step HRis.out HY.out HMt.out K3.out
          by_cases h3 : y.z.b < x.z.b
          · rw [if_pos h3] at hst
            have HST := Lib.hid hst
            have g3 : decide (y.z.b < x.z.b) = true := by simpa using h3
            clear hst
            go_wp2_with fail
            go_roundw
            case rel => exact ⟨k + 1, k + 1, by omega, by go_num, by go_num, HST⟩
            case measure => simp [intOf]; omega
          · rw [if_neg h3] at hst
            have HST := Lib.hid hst
            have g3 : decide (y.z.b < x.z.b) = false := by simpa using h3
            clear hst
            go_wp2_with fail
            go_roundw
            case rel => exact ⟨k + 1, c', by omega, by go_num, rfl, HST⟩
            case measure => simp [intOf]; omega
      · have HMt : Hid (meetsZ x.z y.z = false) := by show _ = _; simp [meetsZ]; omega
        have g1 : decide (y.z.b < x.z.e) = false := by simpa using h1
        go_wp2_with fail
        refine wp_region_held_drew (S := fun w' => (w'.cell? ⟨b, k * 6, none⟩ = some (.int .i64 y.z.b) ∧ w'.cell? ⟨b, k * 6 + 3, none⟩ = some (.int .i64 y.z.e) ∧ w'.cell? ⟨w.heap.size, 0, none⟩ = some (.int .i64 x.z.b) ∧ w'.cell? ⟨w.heap.size, 3, none⟩ = some (.int .i64 x.z.e)) ∧ Kept No wr w') (by kernel_rfl) ?_ (fun hHeld => ?_)
        · exact HS.out _ (Kept.refl _ _).drew
        refine wpAnyH_take (i := 0) (v := ?_) rfl (by kernel_rfl) (by kernel_rfl) (by kernel_rfl) (fun _ _ _ h => h) (Or.inl ⟨by rfl, ?_⟩) (by assumption) ?_
        rotate_left
        · intro w hSw
          (try dsimp only at hSw)
          go_simp
          (try with_reducible rfl)
        try simp only [Act.put, List.getElem_toArray, List.getElem_cons_zero, List.setIfInBounds_toArray, List.set_cons_zero, List.set_cons_succ]
        refine wpAnyH_take (i := 1) (v := ?_) rfl (by kernel_rfl) (by kernel_rfl) (by kernel_rfl) (fun _ _ _ h => h) (Or.inl ⟨by rfl, ?_⟩) (by assumption) ?_
        rotate_left
        · intro w hSw
          (try dsimp only at hSw)
          go_simp
          (try with_reducible rfl)
        try simp only [Act.put, List.getElem_toArray, List.getElem_cons_zero, List.getElem_cons_succ, List.setIfInBounds_toArray, List.set_cons_zero, List.set_cons_succ]
        refine wpAnyH_take (i := 2) (v := ?_) rfl (by kernel_rfl) (by kernel_rfl) (by kernel_rfl) (fun _ _ _ h => h) (Or.inl ⟨by rfl, ?_⟩) (by assumption) ?_
        rotate_left
        · intro w hSw
          (try dsimp only at hSw)
          go_simp
          (try with_reducible rfl)
        try simp only [Act.put, List.getElem_toArray, List.getElem_cons_zero, List.getElem_cons_succ, List.setIfInBounds_toArray, List.set_cons_zero, List.set_cons_succ]
        refine wpAnyH_take (i := 3) (v := ?_) rfl (by kernel_rfl) (by kernel_rfl) (by kernel_rfl) (fun _ _ _ h => h) (Or.inl ⟨by rfl, ?_⟩) (by assumption) ?_
        rotate_left
        · intro w hSw
          (try dsimp only at hSw)
          go_simp
          (try with_reducible rfl)
        try simp only [Act.put, List.getElem_toArray, List.getElem_cons_zero, List.getElem_cons_succ, List.setIfInBounds_toArray, List.set_cons_zero, List.set_cons_succ]
        refine wpAnyH_take (i := 4) (v := ?_) rfl (by kernel_rfl) (by kernel_rfl) (by kernel_rfl) (fun _ _ _ h => h) (Or.inl ⟨by rfl, ?_⟩) (by assumption) ?_
        rotate_left
        · intro w hSw
          (try dsimp only at hSw)
          go_simp
          (try with_reducible rfl)
        try simp only [Act.put, List.getElem_toArray, List.getElem_cons_zero, List.getElem_cons_succ, List.setIfInBounds_toArray, List.set_cons_zero, List.set_cons_succ]
        refine wpAnyH_take (i := 5) (v := ?_) rfl (by kernel_rfl) (by kernel_rfl) (by kernel_rfl) (fun _ _ _ h => h) (Or.inl ⟨by rfl, ?_⟩) (by assumption) ?_
        rotate_left
        · intro w hSw
          (try dsimp only at hSw)
          go_simp
          (try with_reducible rfl)
        try simp only [Act.put, List.getElem_toArray, List.getElem_cons_zero, List.getElem_cons_succ, List.setIfInBounds_toArray, List.set_cons_zero, List.set_cons_succ]
        refine wpAnyH_take (i := 6) (v := ?_) rfl (by kernel_rfl) (by kernel_rfl) (by kernel_rfl) (fun _ _ _ h => h) (Or.inl ⟨by rfl, ?_⟩) (by assumption) ?_
        rotate_left
        · intro w hSw
          (try dsimp only at hSw)
          go_simp
          (try with_reducible rfl)
        try simp only [Act.put, List.getElem_toArray, List.getElem_cons_zero, List.getElem_cons_succ, List.setIfInBounds_toArray, List.set_cons_zero, List.set_cons_succ]
        refine wpAnyH_take (i := 7) (v := ?_) rfl (by kernel_rfl) (by kernel_rfl) (by kernel_rfl) (fun _ _ _ h => h) (Or.inl ⟨by rfl, ?_⟩) (by assumption) ?_
        rotate_left
        · intro w hSw
          (try dsimp only at hSw)
          go_simp
          (try with_reducible rfl)
        try simp only [Act.put, List.getElem_toArray, List.getElem_cons_zero, List.getElem_cons_succ, List.setIfInBounds_toArray, List.set_cons_zero, List.set_cons_succ]
        refine wpAnyH_take (i := 8) (v := ?_) rfl (by kernel_rfl) (by kernel_rfl) (by kernel_rfl) (fun _ _ _ h => h) (Or.inl ⟨by rfl, ?_⟩) (by assumption) ?_
        rotate_left
        · intro w hSw
          (try dsimp only at hSw)
          go_simp
          (try with_reducible rfl)
        try simp only [Act.put, List.getElem_toArray, List.getElem_cons_zero, List.getElem_cons_succ, List.setIfInBounds_toArray, List.set_cons_zero, List.set_cons_succ]
        refine wpAnyH_take (i := 9) (v := undef) rfl (by kernel_rfl) (by kernel_rfl) (by kernel_rfl) (fun _ _ _ h => h) (Or.inr ⟨by rfl, rfl⟩) (by assumption) ?_
        try simp only [Act.put, List.getElem_toArray, List.getElem_cons_zero, List.getElem_cons_succ, List.setIfInBounds_toArray, List.set_cons_zero, List.set_cons_succ]
        refine wpAnyH_take (i := 10) (v := undef) rfl (by kernel_rfl) (by kernel_rfl) (by kernel_rfl) (fun _ _ _ h => h) (Or.inr ⟨by rfl, rfl⟩) (by assumption) ?_
        try simp only [Act.put, List.getElem_toArray, List.getElem_cons_zero, List.getElem_cons_succ, List.setIfInBounds_toArray, List.set_cons_zero, List.set_cons_succ]
        refine wpAnyH_take (i := 11) (v := undef) rfl (by kernel_rfl) (by kernel_rfl) (by kernel_rfl) (fun _ _ _ h => h) (Or.inr ⟨by rfl, rfl⟩) (by assumption) ?_
        try simp only [Act.put, List.getElem_toArray, List.getElem_cons_zero, List.getElem_cons_succ, List.setIfInBounds_toArray, List.set_cons_zero, List.set_cons_succ]
        refine wpAnyH_take (i := 12) (v := undef) rfl (by kernel_rfl) (by kernel_rfl) (by kernel_rfl) (fun _ _ _ h => h) (Or.inr ⟨by rfl, rfl⟩) (by assumption) ?_
        try simp only [Act.put, List.getElem_toArray, List.getElem_cons_zero, List.getElem_cons_succ, List.setIfInBounds_toArray, List.set_cons_zero, List.set_cons_succ]
        refine wpAnyH_take (i := 13) (v := undef) rfl (by kernel_rfl) (by kernel_rfl) (by kernel_rfl) (fun _ _ _ h => h) (Or.inr ⟨by rfl, rfl⟩) (by assumption) ?_
        try simp only [Act.put, List.getElem_toArray, List.getElem_cons_zero, List.getElem_cons_succ, List.setIfInBounds_toArray, List.set_cons_zero, List.set_cons_succ]
        refine wpAnyH_take (i := 14) (v := undef) rfl (by kernel_rfl) (by kernel_rfl) (by kernel_rfl) (fun _ _ _ h => h) (Or.inr ⟨by rfl, rfl⟩) (by assumption) ?_
        try simp only [Act.put, List.getElem_toArray, List.getElem_cons_zero, List.getElem_cons_succ, List.setIfInBounds_toArray, List.set_cons_zero, List.set_cons_succ]
        refine wpAnyH_take (i := 15) (v := undef) rfl (by kernel_rfl) (by kernel_rfl) (by kernel_rfl) (fun _ _ _ h => h) (Or.inr ⟨by rfl, rfl⟩) (by assumption) ?_
        try simp only [Act.put, List.getElem_toArray, List.getElem_cons_zero, List.getElem_cons_succ, List.setIfInBounds_toArray, List.set_cons_zero, List.set_cons_succ]
        refine wpAnyH_take (i := 16) (v := undef) rfl (by kernel_rfl) (by kernel_rfl) (by kernel_rfl) (fun _ _ _ h => h) (Or.inr ⟨by rfl, rfl⟩) (by assumption) ?_
        try simp only [Act.put, List.getElem_toArray, List.getElem_cons_zero, List.getElem_cons_succ, List.setIfInBounds_toArray, List.set_cons_zero, List.set_cons_succ]
        refine wpAnyH_take (i := 17) (v := ?_) rfl (by kernel_rfl) (by kernel_rfl) (by kernel_rfl) (fun _ _ _ h => h) (Or.inl ⟨by rfl, ?_⟩) (by assumption) ?_
        rotate_left
        · intro w hSw
          (try dsimp only at hSw)
          go_simp
          (try with_reducible rfl)
        try simp only [Act.put, List.getElem_toArray, List.getElem_cons_zero, List.getElem_cons_succ, List.setIfInBounds_toArray, List.set_cons_zero, List.set_cons_succ]
        refine wpAnyH_done (by kernel_rfl) ?_ _
        have K2 := Lib.hid hHeld.2
        clear hHeld
        go_wp2_with fail
        refine wp_region_held_drew (S := fun w' => (w'.cell? ⟨b, k * 6, none⟩ = some (.int .i64 y.z.b) ∧ w'.cell? ⟨b, k * 6 + 3, none⟩ = some (.int .i64 y.z.e) ∧ w'.cell? ⟨w.heap.size, 0, none⟩ = some (.int .i64 x.z.b) ∧ w'.cell? ⟨w.heap.size, 3, none⟩ = some (.int .i64 x.z.e)) ∧ Kept No wr w') (by kernel_rfl) ?_ (fun hHeld => ?_)
        · exact HS.out _ K2.out.drew
        refine wpAnyH_take (i := 0) (v := ?_) rfl (by kernel_rfl) (by kernel_rfl) (by kernel_rfl) (fun _ _ _ h => h) (Or.inl ⟨by rfl, ?_⟩) (by assumption) ?_
        rotate_left
        · intro w hSw
          (try dsimp only at hSw)
          go_simp
          (try with_reducible rfl)
        try simp only [Act.put, List.getElem_toArray, List.getElem_cons_zero, List.setIfInBounds_toArray, List.set_cons_zero, List.set_cons_succ]
        refine wpAnyH_take (i := 1) (v := ?_) rfl (by kernel_rfl) (by kernel_rfl) (by kernel_rfl) (fun _ _ _ h => h) (Or.inl ⟨by rfl, ?_⟩) (by assumption) ?_
        rotate_left
        · intro w hSw
          (try dsimp only at hSw)
          go_simp
          (try with_reducible rfl)
        try simp only [Act.put, List.getElem_toArray, List.getElem_cons_zero, List.getElem_cons_succ, List.setIfInBounds_toArray, List.set_cons_zero, List.set_cons_succ]
        refine wpAnyH_take (i := 2) (v := ?_) rfl (by kernel_rfl) (by kernel_rfl) (by kernel_rfl) (fun _ _ _ h => h) (Or.inl ⟨by rfl, ?_⟩) (by assumption) ?_
        rotate_left
        · intro w hSw
          (try dsimp only at hSw)
          go_simp
          (try with_reducible rfl)
        try simp only [Act.put, List.getElem_toArray, List.getElem_cons_zero, List.getElem_cons_succ, List.setIfInBounds_toArray, List.set_cons_zero, List.set_cons_succ]
        refine wpAnyH_take (i := 3) (v := ?_) rfl (by kernel_rfl) (by kernel_rfl) (by kernel_rfl) (fun _ _ _ h => h) (Or.inl ⟨by rfl, ?_⟩) (by assumption) ?_
        rotate_left
        · intro w hSw
          (try dsimp only at hSw)
          go_simp
          (try with_reducible rfl)
        try simp only [Act.put, List.getElem_toArray, List.getElem_cons_zero, List.getElem_cons_succ, List.setIfInBounds_toArray, List.set_cons_zero, List.set_cons_succ]
        refine wpAnyH_take (i := 4) (v := ?_) rfl (by kernel_rfl) (by kernel_rfl) (by kernel_rfl) (fun _ _ _ h => h) (Or.inl ⟨by rfl, ?_⟩) (by assumption) ?_
        rotate_left
        · intro w hSw
          (try dsimp only at hSw)
          go_simp
          (try with_reducible rfl)
        try simp only [Act.put, List.getElem_toArray, List.getElem_cons_zero, List.getElem_cons_succ, List.setIfInBounds_toArray, List.set_cons_zero, List.set_cons_succ]
        refine wpAnyH_take (i := 5) (v := ?_) rfl (by kernel_rfl) (by kernel_rfl) (by kernel_rfl) (fun _ _ _ h => h) (Or.inl ⟨by rfl, ?_⟩) (by assumption) ?_
        rotate_left
        · intro w hSw
          (try dsimp only at hSw)
          go_simp
          (try with_reducible rfl)
        try simp only [Act.put, List.getElem_toArray, List.getElem_cons_zero, List.getElem_cons_succ, List.setIfInBounds_toArray, List.set_cons_zero, List.set_cons_succ]
        refine wpAnyH_take (i := 6) (v := ?_) rfl (by kernel_rfl) (by kernel_rfl) (by kernel_rfl) (fun _ _ _ h => h) (Or.inl ⟨by rfl, ?_⟩) (by assumption) ?_
        rotate_left
        · intro w hSw
          (try dsimp only at hSw)
          go_simp
          (try with_reducible rfl)
        try simp only [Act.put, List.getElem_toArray, List.getElem_cons_zero, List.getElem_cons_succ, List.setIfInBounds_toArray, List.set_cons_zero, List.set_cons_succ]
        refine wpAnyH_take (i := 7) (v := ?_) rfl (by kernel_rfl) (by kernel_rfl) (by kernel_rfl) (fun _ _ _ h => h) (Or.inl ⟨by rfl, ?_⟩) (by assumption) ?_
        rotate_left
        · intro w hSw
          (try dsimp only at hSw)
          go_simp
          (try with_reducible rfl)
        try simp only [Act.put, List.getElem_toArray, List.getElem_cons_zero, List.getElem_cons_succ, List.setIfInBounds_toArray, List.set_cons_zero, List.set_cons_succ]
        refine wpAnyH_done (by kernel_rfl) ?_ _
        have K3 := Lib.hid hHeld.2
        clear hHeld
        have hst := HA.out.step HRis.out HY.out HMt.out K3.out
        by_cases h3 : y.z.b < x.z.b
        · rw [if_pos h3] at hst
          have HST := Lib.hid hst
          have g3 : decide (y.z.b < x.z.b) = true := by simpa using h3
          clear hst
          go_wp2_with fail
          go_roundw
          case rel => exact ⟨k + 1, k + 1, by omega, by go_num, by go_num, HST⟩
          case measure => simp [intOf]; omega
        · rw [if_neg h3] at hst
          have HST := Lib.hid hst
          have g3 : decide (y.z.b < x.z.b) = false := by simpa using h3
          clear hst
          go_wp2_with fail
          go_roundw
          case rel => exact ⟨k + 1, c', by omega, by go_num, rfl, HST⟩
          case measure => simp [intOf]; omega
    · obtain rfl : k = N := by omega
      have e5 : ¬ (k : Int) < (k : Int) := by omega
      have hsp : Split (M.map ZR.z) ((M.take c').map ZR.z) ((M.drop c').map ZR.z) x.z.b :=
        split_of (by rw [HN.out]; exact HA.out.le) (fun j y hy hj => HA.out.lo j y hy hj) (fun j y hy hj => HA.out.hi j y hy hj (by have := (List.getElem?_eq_some_iff.1 hy).1; rw [HN.out] at this; exact this))
      have hyes : MayAdd (M.map ZR.z) x.z := ⟨HMay.out.1, by
        rw [List.any_eq_false]
        intro z hz
        obtain ⟨y, hy, rfl⟩ := List.mem_map.1 hz
        obtain ⟨j, hj⟩ := List.getElem?_of_mem hy
        have := HA.out.apart j y (by have := (List.getElem?_eq_some_iff.1 hj).1; rw [HN.out] at this; exact this) hj
        rw [this]
        decide, HMay.out.2⟩
      have HSP := Lib.hid hsp
      have HYes := Lib.hid hyes
      clear hsp hyes
      have hm0 := Made.empty W0 wr HA.out.kept
      have hrow := HR.out _ hm0.kept
      rcases hrow.is with ⟨e, hk0⟩ | ⟨b, cap, rest, e, _, _, hcc, _⟩
      · cases e
        obtain rfl : c' = 0 := by have := HA.out.le; omega
        obtain ⟨v1, w1', ha1, hm1⟩ := hm0.more (X := []) (src_none _ (.slice none 0 0) 0 rfl) (.inr (by simp)) (by simp) 52
        obtain ⟨s0, s1, s2, s3, s4, s5⟩ := H6.out w1' hm1.kept
        simp only [Nat.zero_add] at s1 s2 s3 s4 s5
        obtain ⟨v2, w2, ha2, hm2⟩ := hm1.push x (by simp) 52
        obtain ⟨v3, w3, ha3, hm3⟩ := hm2.more (X := []) (src_none _ (.slice none 0 0) 0 rfl) (.inr (hm2.pos (by simp))) (by simp) 52
        have HA1 := Lib.hid ha1
        have HA2 := Lib.hid ha2
        have HA3 := Lib.hid ha3
        have HM3 := Lib.hid hm3
        have e7 : M = [] := List.eq_nil_of_length_eq_zero (by rw [HN.out])
        have HE := Lib.hid e7
        clear ha1 ha2 ha3 hm0 hm1 hm2 hm3 hrow e7
        go_wp2_with (at_builtin; first | refine Lib.wpList_append_run _ rfl (.tmp 50) (.tmp 53) _ _ rfl (.slice (some ⟨wr.heap.size, 0, none⟩) 0 0) (.slice none 0 0) (by simp [Act.eval]) (by simp [Act.eval]) _ _ HA1.out ?_ | refine Lib.wpList_append_run _ rfl (.tmp 55) (.tmp 57) _ _ rfl v1 (.slice (some ⟨w1'.heap.size, 0, none⟩) 1 1) (by simp [Act.eval]) (by simp [Act.eval]) _ _ HA2.out ?_ | refine Lib.wpList_append_run _ rfl (.tmp 59) (.tmp 62) _ _ rfl v2 (.slice none 0 0) (by simp [Act.eval]) (by simp [Act.eval]) _ _ HA3.out ?_)
        go_ret2
        exact .inl ⟨HYes.out, v3, [], [], by rw [HE.out]; rfl, by have := HSP.out; rw [HE.out] at this ⊢; exact this, rfl, (by simpa using HM3.out.base K0.out)⟩
      · cases e
        have hle : c' ≤ k := HA.out.le
        have f1 : (c' : Int) ≤ (k : Int) := by omega
        have f2 : (0 : Int) ≤ (c' : Int) := by omega
        have f3 : c' ≤ c := by omega
        have f4 : (k : Int) - (c' : Int) = ((k - c' : Nat) : Int) := by omega
        have hlt' : (M.take c').length = c' := by rw [List.length_take, HN.out]; omega
        have hld : (M.drop c').length = k - c' := by rw [List.length_drop, HN.out]
        obtain ⟨v1, w1', ha1, hm1⟩ := hm0.more (src_front hrow HN.out c' hle c) (.inr (by simp)) (by simp; omega) 52
        obtain ⟨s0, s1, s2, s3, s4, s5⟩ := H6.out w1' hm1.kept
        simp only [Nat.zero_add] at s1 s2 s3 s4 s5
        obtain ⟨v2, w2, ha2, hm2⟩ := hm1.push x (by simp; omega) 52
        have hrow2 := HR.out _ hm2.kept
        have HA1 := Lib.hid ha1
        have HA2 := Lib.hid ha2
        have HM2 := Lib.hid hm2
        by_cases hcap : c = c'
        · have hd : M.drop c' = [] := List.eq_nil_of_length_eq_zero (by rw [hld]; omega)
          have hck : c' = k := by omega
          subst hck
          subst hcap
          obtain ⟨v3, w3, ha3, hm3⟩ := hm2.more (X := []) (src_empty _ ⟨b, 0, none⟩ 0) (.inr (hm2.pos (by simp))) (by simp; omega) 52
          have HA3 := Lib.hid ha3
          have HM3 := Lib.hid hm3
          have HD := Lib.hid hd
          clear ha1 ha2 ha3 hm0 hm1 hm2 hm3 hrow hrow2 hd hld hlt' f4
          go_wp2_with (at_builtin; first | refine Lib.wpList_append_run _ rfl (.tmp 50) (.tmp 53) _ _ rfl (.slice (some ⟨wr.heap.size, 0, none⟩) 0 0) (.slice (some ⟨b, 0, none⟩) c c) (by simp [Act.eval]) (by simp [Act.eval]) _ _ HA1.out ?_ | refine Lib.wpList_append_run _ rfl (.tmp 55) (.tmp 57) _ _ rfl v1 (.slice (some ⟨w1'.heap.size, 0, none⟩) 1 1) (by simp [Act.eval]) (by simp [Act.eval]) _ _ HA2.out ?_ | refine Lib.wpList_append_run _ rfl (.tmp 59) (.tmp 62) _ _ rfl v2 (.slice (some ⟨b, 0, none⟩) 0 0) (by simp [Act.eval]) (by simp [Act.eval]) _ _ HA3.out ?_)
          go_ret2
          exact .inl ⟨HYes.out, v3, M.take c, M.drop c, (List.take_append_drop _ _).symm, HSP.out, rfl, (by rw [HD.out]; simpa using HM3.out.base K0.out)⟩
        · have hMl : M.length ≤ 100 := by rw [HN.out]; exact small
          obtain ⟨v3, w3, ha3, hm3⟩ := hm2.more (src_back hrow2 HN.out c' hle (c - c')) (.inr (hm2.pos (by simp))) (by simp only [List.length_append, List.length_cons, List.length_nil, List.length_take, List.length_drop]; omega) 52
          have HA3 := Lib.hid ha3
          have HM3 := Lib.hid hm3
          clear ha1 ha2 ha3 hm0 hm1 hm2 hm3 hrow hrow2 hld hlt' hMl
          go_wp2_with (at_builtin; first | refine Lib.wpList_append_run _ rfl (.tmp 50) (.tmp 53) _ _ rfl (.slice (some ⟨wr.heap.size, 0, none⟩) 0 0) (.slice (some ⟨b, 0, none⟩) c' c) (by simp [Act.eval]) (by simp [Act.eval]) _ _ HA1.out ?_ | refine Lib.wpList_append_run _ rfl (.tmp 55) (.tmp 57) _ _ rfl v1 (.slice (some ⟨w1'.heap.size, 0, none⟩) 1 1) (by simp [Act.eval]) (by simp [Act.eval]) _ _ HA2.out ?_ | refine Lib.wpList_append_run _ rfl (.tmp 59) (.tmp 62) _ _ rfl v2 (.slice (some ⟨b, c' * 6, none⟩) (k - c') (c - c')) (by simp [Act.eval]) (by simp [Act.eval]) _ _ HA3.out ?_)
          go_ret2
          exact .inl ⟨HYes.out, v3, M.take c', M.drop c', (List.take_append_drop _ _).symm, HSP.out, rfl, (by simpa using HM3.out.base K0.out)⟩
end Go.Proofs.Ytlnjcaicagcinaa

/-
  The walk of ZonePlays (layer 6), under way. No conditions.
-/
namespace Go.Proofs.Ytlnjcaicagcinaa
open Go.ChangeShapes Go.WideShapes Go.ChangeAt Go.RowKit

/- both sides, in a world -/
structure Both (w wr : World) (zp mb : Nat) (L M : List ZR) (m : Value) (n : Nat) : Prop where
  zoo : Zoo w.heap.size w wr zp mb L n
  row : SRow RZT 6 wr m M.length (zcs M)
  ints : ∀ x ∈ M, IntsAt w x.p x.z.P ∧ IntsAt w x.q x.z.Q
  same : M.map ZR.z = L.map ZR.z
theorem Both.still {w wr w' : World} {zp mb n : Nat} {L M : List ZR} {m : Value} (h : Both w wr zp mb L M m n) (k : Kept No wr w') : Both w w' zp mb L M m n :=
  ⟨h.zoo.on k.none, h.row.keep k (fun _ _ h => h), h.ints, h.same⟩
theorem Both.ref {w wr : World} {zp mb n : Nat} {L M : List ZR} {m : Value} (h : Both w wr zp mb L M m n) : RefAt wr m M := ⟨h.row, fun x hx => ⟨(h.ints x hx).1.on h.zoo.below, (h.ints x hx).2.on h.zoo.below⟩⟩
theorem Both.good {w wr : World} {zp mb n : Nat} {L M : List ZR} {m : Value} (h : Both w wr zp mb L M m n) : Good (M.map ZR.z) := by rw [h.same]; exact h.zoo.good
theorem Both.len {w wr : World} {zp mb n : Nat} {L M : List ZR} {m : Value} (h : Both w wr zp mb L M m n) : M.length = L.length := by have := congrArg List.length h.same; simpa using this
theorem Zoo.more {B : Nat} {w0 w : World} {zp mb n n' : Nat} {L : List ZR} (h : Zoo B w0 w zp mb L n) (hn : n ≤ n') : Zoo B w0 w zp mb L n' := by
  obtain ⟨lv, h1, h2⟩ := h.is
  exact ⟨⟨lv, ⟨h1.head, h1.list, h1.cells.mono hn, h1.good, h1.read, h1.small⟩, h2⟩, h.lz, h.lm, h.below, h.few⟩
theorem Both.more {w wr : World} {zp mb n n' : Nat} {L M : List ZR} {m : Value} (h : Both w wr zp mb L M m n) (hn : n ≤ n') : Both w wr zp mb L M m n' := ⟨h.zoo.more hn, h.row, h.ints, h.same⟩
/- the document's Add, then the program's -/
theorem Both.added {w wr w3 w4 : World} {zp mb n n' : Nat} {L M A B L' : List ZR} {x : ZR} {m v' : Value} (h : Both w wr zp mb L M m n) (hM : M = A ++ B) (hx : IntsAt w x.p x.z.P ∧ IntsAt w x.q x.z.Q) (hm : Made wr w3 v' (A ++ x :: B)) (hs : Spares w3 w4) (hz : Zoo w.heap.size w w4 zp mb L' n') (e : (A ++ x :: B).map ZR.z = L'.map ZR.z) : Both w w4 zp mb L' (A ++ x :: B) v' n' := by
  refine ⟨hz, hm.row.spared hs, fun u hu => ?_, e⟩
  have hc : u ∈ M ∨ u = x := by
    rw [hM]
    simp at hu ⊢
    rcases hu with hu | hu | hu <;> simp [hu]
  rcases hc with hu | rfl
  · exact h.ints u hu
  · exact hx

def PlaysRel (w wr : World) (zp mb n : Nat) (m i : Value) : Prop := ∃ k : Nat, k ≤ n ∧ i = .int .i64 k ∧ ∃ L M, Both w wr zp mb L M m (k * 200) ∧ L.length ≤ k
theorem Both.pload {w wr : World} {zp mb n : Nat} {L M : List ZR} {m : Value} (h : Both w wr zp mb L M m n) (a k : Int) : Calls Try.prog 71 #[.pointer (some ⟨zp, 0, none⟩), .int .i64 a, .int .i64 k] wr fun e w' => e = .returned (.bool (canLoad (L.map ZR.z) a k)) ∧ Both w w' zp mb L M m n := by
  obtain ⟨lv, hz, ho⟩ := h.zoo.is
  exact (canload_any zp mb lv L n a k wr hz).mono fun _ _ ⟨he, hb⟩ => ⟨he, h.still (.of_below hb)⟩
theorem Both.pstore {w wr : World} {zp mb n : Nat} {L M : List ZR} {m : Value} (h : Both w wr zp mb L M m n) (a k : Int) : Calls Try.prog 72 #[.pointer (some ⟨zp, 0, none⟩), .int .i64 a, .int .i64 k] wr fun e w' => e = .returned (.bool (canStore (L.map ZR.z) a k)) ∧ Both w w' zp mb L M m n := by
  obtain ⟨lv, hz, ho⟩ := h.zoo.is
  exact (canstore_any zp mb lv L n a k wr hz).mono fun _ _ ⟨he, hb⟩ => ⟨he, h.still (.of_below hb)⟩
theorem Both.prun {w wr : World} {zp mb n : Nat} {L M : List ZR} {m : Value} (h : Both w wr zp mb L M m n) (a : Int) : Calls Try.prog 47 #[.pointer (some ⟨zp, 0, none⟩), .int .i64 a] wr fun e w' => e = .returned (.bool (canRun (L.map ZR.z) a)) ∧ Both w w' zp mb L M m n := by
  obtain ⟨lv, hz, ho⟩ := h.zoo.is
  exact (canrun_any zp mb lv L n a wr hz).mono fun _ _ ⟨he, hb⟩ => ⟨he, h.still (.of_below hb)⟩
theorem Both.pcell {w wr : World} {zp mb n : Nat} {L M : List ZR} {m : Value} (h : Both w wr zp mb L M m n) (a : Int) (ha : (Lit.int .i64 a).wf = true) : Calls Try.prog 74 #[.pointer (some ⟨zp, 0, none⟩), .int .i64 a] wr fun e w' => e = .returned (.int .i64 (kindOf (L.map ZR.z) (a - a % 4))) ∧ Both w w' zp mb L M m n := by
  obtain ⟨lv, hz, ho⟩ := h.zoo.is
  exact (zcell_any zp mb lv L n a wr hz ha).mono fun _ _ ⟨he, hb⟩ => ⟨he, hb ▸ h⟩
theorem Both.pfits {w wr : World} {zp mb n : Nat} {L M : List ZR} {m : Value} (h : Both w wr zp mb L M m n) (k u : Int) : Calls Try.prog 73 #[.pointer (some ⟨zp, 0, none⟩), .int .i64 k, .int .i64 u] wr fun e w' => e = .returned (.bool (fitsZ (L.map ZR.z) k u)) ∧ Both w w' zp mb L M m n := by
  obtain ⟨lv, hz, ho⟩ := h.zoo.is
  exact (zfits_any zp mb lv L n k u wr hz).mono fun _ _ ⟨he, hb⟩ => ⟨he, h.still (.of_below hb)⟩
end Go.Proofs.Ytlnjcaicagcinaa

/-
  Zones made behind other calls (layer 6). No conditions beyond those that each theorem names.
-/
namespace Go.Proofs.Ytlnjcaicagcinaa
open Go.ChangeShapes Go.WideShapes Go.ChangeAt Go.RowKit

theorem Zoo.base {w w1 w2 : World} {zp mb n : Nat} {L : List ZR} (h : Zoo w1.heap.size w1 w2 zp mb L n) (hb : Below w.heap.size w w1) : Zoo w.heap.size w w2 zp mb L n := by
  obtain ⟨lv, hz, ho⟩ := h.is
  exact ⟨⟨lv, hz, fun j hj => Nat.le_trans hb.size (ho j hj)⟩, Nat.le_trans hb.size h.lz, Nat.le_trans hb.size h.lm, hb.trans (h.below.mono hb.size), h.few⟩
end Go.Proofs.Ytlnjcaicagcinaa
