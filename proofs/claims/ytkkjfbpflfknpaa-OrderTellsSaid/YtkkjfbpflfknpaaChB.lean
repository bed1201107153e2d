/-
  The program's Walk (layer 13). Conditions: code has at most 900000 words.
-/
import Derived.Test.YtkkjfbpflfknpaaChA
import Derived.Test.YtkkjfbpflfknpaaErr
import Derived.Deep.DeepCutAuto
import Derived.Deep.RegionHeld3
namespace Go.Proofs.Ytkkjfbpflfknpaa
open Go.ChangeShapes Go.WideShapes Go.ChangeAt Go.RowKit

abbrev CT : TypeId := 117
abbrev CS : TypeId := 102
/- words, as they are read -/
def wRow (x : Nat) : List Value := [.int .u32 (x : Nat)]
structure WordsAt (w : World) (v : Value) (code : List Nat) : Prop where
  els : ElsAt 1 wRow w v code
  fit : ∀ x ∈ code, x < 4294967296
theorem WordsAt.on {w w' : World} {v : Value} {code : List Nat} (h : WordsAt w v code) (hb : Below w.heap.size w w') : WordsAt w' v code := ⟨h.els.on hb, h.fit⟩
theorem WordsAt.cell {w : World} {a : Option Addr} {n cap : Nat} {code : List Nat} (h : WordsAt w (.slice a n cap) code) {k : Nat} (hk : k < n) :
    ∃ b off x, a = some ⟨b, off, none⟩ ∧ n = code.length ∧ b < w.heap.size ∧ code[k]? = some x ∧ x < 4294967296 ∧ w.cell? ⟨b, off + k, none⟩ = some (.int .u32 (x : Nat)) := by
  have hn : n = code.length := by
    obtain ⟨_, _, _, e, h1, _⟩ := h.els.is
    cases e
    exact h1
  have hx := List.getElem?_eq_getElem (show k < code.length by omega)
  obtain ⟨b, off, cap', e, hl, hc⟩ := h.els.cell1 hx (c0 := .int .u32 ((code[k] : Nat) : Int)) rfl
  cases e
  exact ⟨b, off, _, rfl, hn, hl, hx, h.fit _ (List.getElem_mem _), hc⟩
theorem WordsAt.len {w : World} {a : Option Addr} {n cap : Nat} {code : List Nat} (h : WordsAt w (.slice a n cap) code) : n = code.length := by
  obtain ⟨_, _, _, e, h1, _⟩ := h.els.is
  cases e
  exact h1
/- references in a row of their own -/
theorem info_cref : (Try.prog.info? CT).map (fun i => (i.zero, i.size, i.bytes)) = some (some (.agg #[.int .i64 0, .int .i64 0, .int .i64 0]), 3, 24) := by kernel_rfl
/- an answer of Walk -/
def WalkWay (E : TypeId) (w w' : World) (v : Value) (r : List RefD) : Prop := SRow E 3 w' v r.length (rows refRow r) ∧ (∀ j, own v j → w.heap.size ≤ j) ∧ Below w.heap.size w w'
theorem WalkWay.on {E : TypeId} {w wr w' : World} {v : Value} {r : List RefD} (h : WalkWay E w wr v r) (hb : Below wr.heap.size wr w') : WalkWay E w w' v r :=
  ⟨h.1.keep (Kept.of_below (S := fun _ => False) hb) (fun _ _ e => e), h.2.1, below_on h.2.2 hb h.2.2.size⟩
def WalkTold (E : TypeId) (yes no : Value) (w : World) (ans : Option (List RefD)) (e : Ending) (w' : World) : Prop :=
  match ans with
  | some r => ∃ v, e = .returned (.tuple #[v, yes]) ∧ WalkWay E w w' v r
  | none => e = .returned (.tuple #[.slice none 0 0, no]) ∧ Below w.heap.size w w'
theorem WalkTold.yes {E : TypeId} {yes no : Value} {w w' : World} {r : List RefD} {v : Value} {ans : Option (List RefD)} (h : WalkWay E w w' v r) (ha : ans = some r) : WalkTold E yes no w ans (.returned (.tuple #[v, yes])) w' := by
  subst ha
  exact ⟨v, rfl, h⟩
theorem WalkTold.no {E : TypeId} {yes no : Value} {w w' : World} {ans : Option (List RefD)} (h : Below w.heap.size w w') (ha : ans = none) : WalkTold E yes no w ans (.returned (.tuple #[.slice none 0 0, no])) w' := by
  subst ha
  exact ⟨rfl, h⟩
/- while it walks -/
structure Goes (E : TypeId) (w : World) (code : List Nat) (op : Int) (ans : Option (List RefD)) (v : Value) (wr : World) (p : Int) (acc : List RefD) : Prop where
  row : SRow E 3 wr v acc.length (rows refRow acc)
  fresh : ∀ j, own v j → w.heap.size ≤ j
  below : Below w.heap.size w wr
  rest : walkG code op p acc = ans
  few : (acc.length : Int) + p < code.length ∨ acc = []
theorem Goes.on {E : TypeId} {w : World} {code : List Nat} {op : Int} {ans : Option (List RefD)} {v : Value} {wr w' : World} {p : Int} {acc : List RefD} (h : Goes E w code op ans v wr p acc) (hb : Below wr.heap.size wr w') : Goes E w code op ans v w' p acc :=
  ⟨h.row.keep (Kept.of_below (S := fun _ => False) hb) (fun _ _ e => e), h.fresh, below_on h.below hb h.below.size, h.rest, h.few⟩
theorem Goes.small {E : TypeId} {w : World} {code : List Nat} {op : Int} {ans : Option (List RefD)} {v : Value} {wr : World} {k : Nat} {acc : List RefD} (h : Goes E w code op ans v wr k acc) (hk : k < code.length) : acc.length + k < code.length := by
  rcases h.few with h1 | h1
  · omega
  · rw [h1]; simp; omega
/- one reference more -/
theorem Goes.more {E : TypeId} {w : World} {code : List Nat} {op : Int} {ans : Option (List RefD)} {v v' : Value} {wr w' : World} {k : Nat} {acc : List RefD} {x : Nat} (h : Goes E w code op ans v wr k acc) (_ : k < code.length)
    (h1 : SRow E 3 w' v' (acc ++ [refOf k x]).length (rows refRow (acc ++ [refOf k x]))) (h2 : Grew wr w' v v') : WalkWay E w w' v' (acc ++ [refOf k x]) :=
  ⟨h1, fun j hj => by
    rcases h2.2 j hj with e | e
    · exact h.fresh j e
    · exact Nat.le_trans h.below.size e, h2.1.below h.below h.below.size fun j _ hj => h.fresh j hj⟩
theorem Goes.next {E : TypeId} {w : World} {code : List Nat} {op : Int} {ans : Option (List RefD)} {v v' : Value} {wr w' : World} {k : Nat} {acc : List RefD} {x d : Nat} (h : Goes E w code op ans v wr k acc) (hk : k < code.length)
    (h3 : WalkWay E w w' v' (acc ++ [refOf k x])) (hd : 0 < d) (h4 : walkG code op ((k : Int) - d) (acc ++ [refOf k x]) = ans) : Goes E w code op ans v' w' ((k : Int) - d) (acc ++ [refOf k x]) :=
  ⟨h3.1, h3.2.1, h3.2.2, h4, .inl (by have := h.small hk; simp; omega)⟩

theorem refs_ones (x : RefD) : Ones (refRow x) := refRow_one x
set_option maxRecDepth 100000 in
set_option maxHeartbeats 2000000 in
theorem walk_any (a : Option Addr) (n cap : Nat) (code : List Nat) (head op : Int) (w : World) (h : WordsAt w (.slice a n cap) code) (hn : n ≤ 900000) (hh : (Lit.int .i64 head).wf = true) :
    Calls Try.prog 46 #[.slice a n cap, .int .i64 head, .int .i64 op] w fun e w' => WalkTold CT .nilIface formV w (walkV code head op) e w' := by
  have hb := bounds_i64 hh
  unfold walkV
  by_cases h0 : head = 0
  · rw [if_pos h0]
    subst h0
    clear hh hb h
    go_enter Try.func46, Try.ntmps46
    go_wp2_with fail
    go_ret2
    exact WalkTold.yes ⟨SRow.nil _ _ _, fun j hj => hj.elim, Below.refl _ _⟩ rfl
  · rw [if_neg h0]
    by_cases h1 : head < 0
    · rw [if_pos h1]
      clear hh hb h0 h
      go_enter Try.func46, Try.ntmps46
      go_wp2_with fail
      go_ret2
      exact WalkTold.no (Below.refl _ _) rfl
    · rw [if_neg h1]
      have e0 : (head == 0) = false := by simp [h0]
      have HC := Lib.hid h
      have HL := Lib.hid h.len
      obtain ⟨ans, hans⟩ : ∃ ans, ans = walkG code op (head - 1) [] := ⟨_, rfl⟩
      rw [← hans]
      have HG : Hid (Goes CT w code op ans (.slice none 0 0) w (head - 1) []) := ⟨SRow.nil _ _ _, fun j hj => hj.elim, Below.refl _ _, hans.symm, .inr rfl⟩
      have i1 : 1 ≤ head := by omega
      have i2 : head ≤ 9223372036854775807 := by omega
      clear hh hb h hans
      go_enter Try.func46, Try.ntmps46
      go_wp2_with fail
      go_loopw [8, 9] (fun v i wr => ∃ (p : Int) (acc : List RefD), -300 ≤ p ∧ p ≤ 9223372036854775807 ∧ i = .int .i64 p ∧ Goes CT w code op ans v wr p acc) (fun _ i _ => (intOf i + 1).toNat)
      case atStart => exact ⟨head - 1, [], by omega, by omega, rfl, HG.out⟩
      case round =>
        obtain ⟨p, acc, hp1, hp2, rfl, hg⟩ := hrel
        have HR := Lib.hid hg
        clear hg HG
        by_cases hin : 0 ≤ p ∧ p < (n : Int)
        · obtain ⟨k, rfl⟩ := Int.eq_ofNat_of_zero_le hin.1
          have hk : k < n := by omega
          obtain ⟨b, off, x, rfl, _, hbw, hx, hx4, hc⟩ := HC.out.cell hk
          have HX := Lib.hid hx
          have i3 : (k : Int) < (n : Int) := by omega
          have i4 : (0 : Int) ≤ (k : Int) := by omega
          have HK : Hid (k < n) := hk
          have HI : Hid (∀ w : World, Calls Try.prog 58 #[.slice (some ⟨b, off, none⟩) n cap, .int .i64 k] w fun e w' => e = .returned (.bool true) ∧ w = w') := fun w => isIn_yes _ n cap k w hk
          have hc1 : wr.cell? ⟨b, off + k, none⟩ = some (.int .u32 (x : Nat)) := (HR.out.below.cell (p := ⟨b, off + k, none⟩) hbw).trans hc
          have HB : Hid (b < w.heap.size) := hbw
          clear hin hbw hc hx hk
          clear ‹n = code.length›
          go_wp2_with fail
          refine (HI.out _).mono ?_
          rintro e w' ⟨rfl, rfl⟩
          by_cases hrf : Refers x op
          · have HRF := Lib.hid hrf
            obtain ⟨m, hm⟩ : ∃ m, m = getN x 6 4 := ⟨_, rfl⟩
            obtain ⟨en, hen⟩ : ∃ en, en = getN x 0 6 := ⟨_, rfl⟩
            obtain ⟨d, hd⟩ : ∃ d, d = getN x 10 8 := ⟨_, rfl⟩
            have HP1 : Hid (∀ w : World, Calls Try.prog 60 #[.int .u32 x, .int .i64 6, .int .i64 4] w fun e w' => e = .returned (.int .i64 (m : Nat)) ∧ Drawn w w') := fun w => by rw [hm]; exact part_any x 6 4 w hx4 (by decide) (by decide)
            have HP2 : Hid (∀ w : World, Calls Try.prog 60 #[.int .u32 x, .int .i64 0, .int .i64 6] w fun e w' => e = .returned (.int .i64 (en : Nat)) ∧ Drawn w w') := fun w => by rw [hen]; exact part_any x 0 6 w hx4 (by decide) (by decide)
            have HP3 : Hid (∀ w : World, Calls Try.prog 60 #[.int .u32 x, .int .i64 10, .int .i64 8] w fun e w' => e = .returned (.int .i64 (d : Nat)) ∧ Drawn w w') := fun w => by rw [hd]; exact part_any x 10 8 w hx4 (by decide) (by decide)
            have HREF : Hid (refOf k x = ⟨(k : Int), m, en⟩ ∧ downN x = d) := ⟨by rw [hm, hen]; rfl, hd.symm⟩
            have hd256 : d < 256 := by have := downN_lt x; rw [hd]; exact this
            clear hrf hm hen hd
            go_wp2_with fail
            refine (refers_yes x op _ hx4 HRF.out).mono ?_
            rintro e w1 ⟨rfl, hb1⟩
            have HG1 := Lib.hid (HR.out.on hb1)
            have hc2 : w1.cell? ⟨b, off + k, none⟩ = some (.int .u32 (x : Nat)) := (hb1.cell (p := ⟨b, off + k, none⟩) (cell_lt hc1)).trans hc1
            clear hb1 hc1 HR
            go_wp2_with fail
            refine wp_region_held_drew (S := fun w' => w'.cell? ⟨b, off + k, none⟩ = some (.int .u32 (x : Nat))) (by kernel_rfl) ?_ (fun hHeld => ?_)
            · exact hc2
            refine wpAnyH_take (i := 0) (v := ?_) rfl (by kernel_rfl) (by kernel_rfl) (by kernel_rfl) (fun _ _ _ h => h) (Or.inl ⟨by rfl, ?_⟩) (by assumption) ?_
            rotate_left
            · intro w hSw
              (try dsimp only at hSw)
              go_simp
              (try with_reducible rfl)
            try simp only [Act.put, List.getElem_toArray, List.getElem_cons_zero, List.setIfInBounds_toArray, List.set_cons_zero, List.set_cons_succ]
            refine wpAnyH_take (i := 1) (v := ?_) rfl (by kernel_rfl) (by kernel_rfl) (by kernel_rfl) (fun _ _ _ h => h) (Or.inl ⟨by rfl, ?_⟩) (by assumption) ?_
            rotate_left
            · intro w hSw
              (try dsimp only at hSw)
              go_simp
              (try with_reducible rfl)
            try simp only [Act.put, List.getElem_toArray, List.getElem_cons_zero, List.getElem_cons_succ, List.setIfInBounds_toArray, List.set_cons_zero, List.set_cons_succ]
            refine wpAnyH_take (i := 2) (v := ?_) rfl (by kernel_rfl) (by kernel_rfl) (by kernel_rfl) (fun _ _ _ h => h) (Or.inl ⟨by rfl, ?_⟩) (by assumption) ?_
            rotate_left
            · intro w hSw
              (try dsimp only at hSw)
              go_simp
              (try with_reducible rfl)
            try simp only [Act.put, List.getElem_toArray, List.getElem_cons_zero, List.getElem_cons_succ, List.setIfInBounds_toArray, List.set_cons_zero, List.set_cons_succ]
            refine wpAnyH_take (i := 3) (v := ?_) rfl (by kernel_rfl) (by kernel_rfl) (by kernel_rfl) (fun _ _ _ h => h) (Or.inl ⟨by rfl, ?_⟩) (by assumption) ?_
            rotate_left
            · intro w hSw
              (try dsimp only at hSw)
              go_simp
              (try with_reducible rfl)
            try simp only [Act.put, List.getElem_toArray, List.getElem_cons_zero, List.getElem_cons_succ, List.setIfInBounds_toArray, List.set_cons_zero, List.set_cons_succ]
            refine wpAnyH_take (i := 4) (v := ?_) rfl (by kernel_rfl) (by kernel_rfl) (by kernel_rfl) (fun _ _ _ h => h) (Or.inl ⟨by rfl, ?_⟩) (by assumption) ?_
            rotate_left
            · intro w hSw
              (try dsimp only at hSw)
              go_simp
              (try with_reducible rfl)
            try simp only [Act.put, List.getElem_toArray, List.getElem_cons_zero, List.getElem_cons_succ, List.setIfInBounds_toArray, List.set_cons_zero, List.set_cons_succ]
            refine wpAnyH_take (i := 5) (v := ?_) rfl (by kernel_rfl) (by kernel_rfl) (by kernel_rfl) (fun _ _ _ h => h) (Or.inl ⟨by rfl, ?_⟩) (by assumption) ?_
            rotate_left
            · intro w hSw
              (try dsimp only at hSw)
              go_simp
              (try with_reducible rfl)
            try simp only [Act.put, List.getElem_toArray, List.getElem_cons_zero, List.getElem_cons_succ, List.setIfInBounds_toArray, List.set_cons_zero, List.set_cons_succ]
            refine wpAnyH_take (i := 7) (v := ?_) rfl (by kernel_rfl) (by kernel_rfl) (by kernel_rfl) (fun _ _ _ h => h) (Or.inl ⟨by rfl, ?_⟩) (by assumption) ?_
            rotate_left
            · intro w hSw
              (try dsimp only at hSw)
              go_simp
              (try with_reducible rfl)
            try simp only [Act.put, List.getElem_toArray, List.getElem_cons_zero, List.getElem_cons_succ, List.setIfInBounds_toArray, List.set_cons_zero, List.set_cons_succ]
            refine wpAnyH_take (i := 8) (v := ?_) rfl (by kernel_rfl) (by kernel_rfl) (by kernel_rfl) (fun _ _ _ h => h) (Or.inl ⟨by rfl, ?_⟩) (by assumption) ?_
            rotate_left
            · intro w hSw
              (try dsimp only at hSw)
              go_simp
              (try with_reducible rfl)
            try simp only [Act.put, List.getElem_toArray, List.getElem_cons_zero, List.getElem_cons_succ, List.setIfInBounds_toArray, List.set_cons_zero, List.set_cons_succ]
            refine wpAnyH_take (i := 9) (v := ?_) rfl (by kernel_rfl) (by kernel_rfl) (by kernel_rfl) (fun _ _ _ h => h) (Or.inl ⟨by rfl, ?_⟩) (by assumption) ?_
            rotate_left
            · intro w hSw
              (try dsimp only at hSw)
              go_simp
              (try with_reducible rfl)
            try simp only [Act.put, List.getElem_toArray, List.getElem_cons_zero, List.getElem_cons_succ, List.setIfInBounds_toArray, List.set_cons_zero, List.set_cons_succ]
            refine wpAnyH_take (i := 10) (v := ?_) rfl (by kernel_rfl) (by kernel_rfl) (by kernel_rfl) (fun _ _ _ h => h) (Or.inl ⟨by rfl, ?_⟩) (by assumption) ?_
            rotate_left
            · intro w hSw
              (try dsimp only at hSw)
              go_simp
              (try with_reducible rfl)
            try simp only [Act.put, List.getElem_toArray, List.getElem_cons_zero, List.getElem_cons_succ, List.setIfInBounds_toArray, List.set_cons_zero, List.set_cons_succ]
            refine wpAnyH_ready (rs := [6]) (by kernel_rfl) (by simp) ?_
            refine AllReadyH.cons rfl (fun K hK => ?_) AllReadyH.nil
            go_simp
            refine (HP1.out _).mono ?_
            rintro e w2 ⟨rfl, hd2⟩
            first | show K _ _ | go_wp2_with fail
            refine hK.out _ _ ?_ (fun hHeld1 => ?_)
            · exact (hd2.cell _).trans hHeld
            clear hK K
            try simp only [Act.put, List.getElem_toArray, List.getElem_cons_zero, List.getElem_cons_succ, List.setIfInBounds_toArray, List.set_cons_zero, List.set_cons_succ]
            refine wpAnyH_ready (rs := [11]) (by kernel_rfl) (by simp) ?_
            refine AllReadyH.cons rfl (fun K hK => ?_) AllReadyH.nil
            go_simp
            refine (HP2.out _).mono ?_
            rintro e w3 ⟨rfl, hd3⟩
            first | show K _ _ | go_wp2_with fail
            refine hK.out _ _ ?_ (fun hHeld2 => ?_)
            · exact (hd3.cell _).trans hHeld1
            clear hK K
            try simp only [Act.put, List.getElem_toArray, List.getElem_cons_zero, List.getElem_cons_succ, List.setIfInBounds_toArray, List.set_cons_zero, List.set_cons_succ]
            refine wpAnyH_take (i := 12) (v := ?_) rfl (by kernel_rfl) (by kernel_rfl) (by kernel_rfl) (fun _ _ _ h => h) (Or.inl ⟨by rfl, ?_⟩) (by assumption) ?_
            rotate_left
            · intro w hSw
              (try dsimp only at hSw)
              go_simp
              (try with_reducible rfl)
            try simp only [Act.put, List.getElem_toArray, List.getElem_cons_zero, List.getElem_cons_succ, List.setIfInBounds_toArray, List.set_cons_zero, List.set_cons_succ]
            refine wpAnyH_ready (rs := [13]) (by kernel_rfl) (by simp) ?_
            refine AllReadyH.cons rfl (fun K hK => ?_) AllReadyH.nil
            go_simp
            refine hK.out _ _ ?_ (fun hHeld3 => ?_)
            · exact (((Below.refl _ _).alloc (Nat.le_refl _) _).cell (p := ⟨b, off + k, none⟩) (cell_lt hHeld2)).trans hHeld2
            clear hK K
            try simp only [Act.put, List.getElem_toArray, List.getElem_cons_zero, List.getElem_cons_succ, List.setIfInBounds_toArray, List.set_cons_zero, List.set_cons_succ]
            refine wpAnyH_ready (rs := [14]) (by kernel_rfl) (by simp) ?_
            refine AllReadyH.cons rfl (fun K hK => ?_) AllReadyH.nil
            have hG3 := HG1.out.on ((((Drawn.of_n w1 1).trans hd2).trans hd3).below _)
            obtain ⟨v4, w4, hr4, hs4, hg4⟩ := more_el (T := CS) Try.underlying102 info_cref rfl (by decide) refRow_len refs_ones hG3.row (RefD.mk (k : Int) m en) (by have := hG3.small (by have := HL.out; have := HK.out; omega); have := HL.out; omega)
            refine step_append rfl (.tmp 32) (.tmp 45) CS CS rfl _ _ (by simp [Act.eval]) (by simp [Act.eval]) hr4 ?_
            refine hK.out _ _ ?_ (fun hHeld4 => ?_)
            · exact (hg4.1.cell (p := ⟨b, off + k, none⟩) (cell_lt hHeld2) (fun hj => by have h1 : w.heap.size ≤ b := hG3.fresh b hj; have := HB.out; omega)).trans hHeld2
            clear hK K
            try simp only [Act.put, List.getElem_toArray, List.getElem_cons_zero, List.getElem_cons_succ, List.setIfInBounds_toArray, List.set_cons_zero, List.set_cons_succ]
            refine wpAnyH_take (i := 15) (v := ?_) rfl (by kernel_rfl) (by kernel_rfl) (by kernel_rfl) (fun _ _ _ h => h) (Or.inl ⟨by rfl, ?_⟩) (by assumption) ?_
            rotate_left
            · intro w hSw
              (try dsimp only at hSw)
              go_simp
              (try with_reducible rfl)
            try simp only [Act.put, List.getElem_toArray, List.getElem_cons_zero, List.getElem_cons_succ, List.setIfInBounds_toArray, List.set_cons_zero, List.set_cons_succ]
            refine wpAnyH_done (by kernel_rfl) ?_ _
            have HKL : Hid (k < code.length) := by have := HL.out; have := HK.out; exact show k < code.length by omega
            have HW4 : Hid (WalkWay CT w w4 v4 (acc ++ [refOf k x])) := hG3.more HKL.out (by rw [HREF.out.1]; exact hs4) hg4
            have HG3 := Lib.hid hG3
            clear hs4 hg4 hr4 hG3 hd2 hd3 hHeld hHeld1 hHeld2 hHeld3 hc2 HP1 HP2 HI
            go_wp2_with fail
            refine (HP3.out _).mono ?_
            rintro e w5 ⟨rfl, hd5⟩
            have HW5 := Lib.hid (HW4.out.on (hd5.below _))
            have HG5 : Hid (d ≠ 0 → Goes CT w code op ans v4 w5 ((k : Int) - d) (acc ++ [refOf k x])) := fun hd0 => HG3.out.next HKL.out HW5.out (by omega) (by rw [← HREF.out.2, ← walk_on HX.out HRF.out (by rw [HREF.out.2]; exact hd0)]; exact HG3.out.rest)
            clear hd5 HW4 hHeld4 HP3
            by_cases hd0 : d = 0
            · have RES : Hid (ans = some (acc ++ [refOf k x])) := HG3.out.rest.symm.trans (walk_last HX.out HRF.out (HREF.out.2.trans hd0))
              subst hd0
              clear HG5 HG3 HG1 HREF
              go_wp2_with fail
              go_ret2
              exact WalkTold.yes HW5.out RES.out
            · have t1 : (((d : Nat) : Int) == 0) = false := by simp; omega
              have HG6 := Lib.hid (HG5.out hd0)
              clear HG5 HG3 HG1 HW5
              go_wp2_with fail
              go_roundw
              case rel => exact ⟨(k : Int) - d, _, by omega, by omega, by go_num, HG6.out⟩
              case measure => simp [intOf]; omega
          · have RES : Hid (ans = none) := HR.out.rest.symm.trans (walk_bad HX.out hrf)
            have HRF := Lib.hid hrf
            clear hrf
            go_wp2_with fail
            refine (refers_no x op _ hx4 HRF.out).mono ?_
            rintro e w1 ⟨rfl, hb1⟩
            have RB := Lib.hid (HR.out.on hb1).below
            clear hb1 hc1 HR
            go_wp2_with fail
            go_ret2
            exact WalkTold.no RB.out RES.out
        · have RES : Hid (ans = none) := HR.out.rest.symm.trans (walk_out (by have := HL.out; omega))
          have RB := Lib.hid HR.out.below
          have HI : Hid (∀ w : World, Calls Try.prog 58 #[.slice a n cap, .int .i64 p] w fun e w' => e = .returned (.bool false) ∧ w = w') := fun w => isIn_no _ n cap p w (by omega)
          clear hin HR
          go_wp2_with fail
          refine (HI.out _).mono ?_
          rintro e w' ⟨rfl, rfl⟩
          go_wp2_with fail
          go_ret2
          exact WalkTold.no RB.out RES.out
end Go.Proofs.Ytkkjfbpflfknpaa
