/-
  The examples at the head of layer 17's statements (up): true. No conditions.
-/
import Derived.Test.YtjdahhckofjjhaaReA
namespace Go.Proofs.Ytjdahhckofjjhaa
open Go.ChangeShapes Go.WideShapes Go.ChangeAt Go.RowKit

theorem none_words (w : World) : ElsAt 1 wordRow w (.slice none 0 0) [] := ⟨none, 0, 0, rfl, rfl, Nat.le_refl _, Nat.zero_le _, fun _ => rfl, .inl rfl⟩
theorem one_word (wr : World) (x : Nat) : ElsAt 1 wordRow (wr.alloc (.cells #[.int .u32 (x : Nat)] WdT)) (.slice (some ⟨wr.heap.size, 0, none⟩) 1 1) [x] := by
  have hr : RowAt (wr.alloc (.cells #[.int .u32 (x : Nat)] WdT)) wr.heap.size WdT [.int .u32 (x : Nat)] := RowAt.new wr WdT _
  have hs : SRow WdT 1 (wr.alloc (.cells #[.int .u32 (x : Nat)] WdT)) (.slice (some ⟨wr.heap.size, 0, none⟩) 1 1) [x].length (rows wordRow [x]) :=
    ⟨.inr ⟨_, 1, [], rfl, hr, rfl, Nat.le_refl _, by simp [maxLen]⟩, rfl, wordRow_one x⟩
  exact hs.els wordRow_len
theorem one_fix (wr : World) (t : TypeId) (a b : Int) : ElsAt 2 fixRow (wr.alloc (.cells #[.int .i64 a, .int .i64 b] t)) (.slice (some ⟨wr.heap.size, 0, none⟩) 1 1) [(a, b)] := by
  have hr : RowAt (wr.alloc (.cells #[.int .i64 a, .int .i64 b] t)) wr.heap.size t [.int .i64 a, .int .i64 b] := RowAt.new wr t _
  have hs : SRow t 2 (wr.alloc (.cells #[.int .i64 a, .int .i64 b] t)) (.slice (some ⟨wr.heap.size, 0, none⟩) 1 1) [(a, b)].length (rows fixRow [(a, b)]) :=
    ⟨.inr ⟨_, 1, [], rfl, hr, rfl, Nat.le_refl _, by simp [maxLen]⟩, rfl, fixRow_one (a, b)⟩
  exact hs.els fixRow_len
theorem insP_call : InsP 1405091840 := by
  unfold InsP MayP isOpP isRegP isNumP
  decide
theorem may_call2 : MayP (getN 1405091840 26 6 : Nat) (getN 1405091840 22 4 : Nat) (getN 1405091840 18 4 : Nat) 2 := by
  unfold MayP isOpP isRegP isNumP
  decide
theorem link_ex : linkV 400 [1405091840] [(0, 412)] = some [1405091842] := by
  have h := link_on (from_ := 400) (code := [1405091840]) (l := []) (tg := 412) (k := 0) (x := 1405091840) (n := 2) rfl insP_call (by decide) may_call2
  have e : newW 1405091840 2 = 1405091842 := by decide
  rw [e] at h
  exact h.trans (by rw [linkV]; rfl)
theorem link_nil : linkV 0 [] [(0, 0)] = none := link_out (.inr (by decide))
set_option maxRecDepth 100000 in
set_option maxHeartbeats 4000000 in
theorem up17 (w : World) : Calls Try.prog 5 #[] w fun e w' => e = .returned (.bool true) ∧ Below w.heap.size w w' := by
  have HP1 : Hid (∀ w : World, Calls Try.prog 8 #[.agg #[.int .i64 20, .int .i64 15, .int .i64 0, .int .i64 0]] w fun e w' => e = .returned (.int .u32 ((1405091840 : Nat) : Int)) ∧ Below w.heap.size w w') := fun w => by
    have := refPutIns_any 20 15 0 0 w (by decide) (by decide) (by decide) (by decide) (by decide)
    rw [show insN 20 15 0 (lowN 0) = 1405091840 by decide] at this
    exact this
  have HP2 : Hid (∀ w : World, Calls Try.prog 8 #[.agg #[.int .i64 20, .int .i64 15, .int .i64 0, .int .i64 2]] w fun e w' => e = .returned (.int .u32 ((1405091842 : Nat) : Int)) ∧ Below w.heap.size w w') := fun w => by
    have := refPutIns_any 20 15 0 2 w (by decide) (by decide) (by decide) (by decide) (by decide)
    rw [show insN 20 15 0 (lowN 2) = 1405091842 by decide] at this
    exact this
  have HL1 : Hid (∀ (v u : Value) (w : World), ElsAt 1 wordRow w v [1405091840] → ElsAt 2 fixRow w u [(0, 412)] → Calls Try.prog 6 #[v, .int .i64 400, u] w fun e w' => LinkTold .nilIface formV w (some [1405091842]) e w') := fun v u w h g => by
    have := plink_any v u [1405091840] 400 [(0, 412)] w h (by decide) g (by decide) (by decide) (by decide) (by decide) (fun i x hx => by cases i with | zero => simp at hx; subst hx; decide | succ i => simp at hx)
    rw [link_ex] at this
    exact this
  have HL2 : Hid (∀ (u : Value) (w : World), ElsAt 2 fixRow w u [(0, 0)] → Calls Try.prog 6 #[.slice none 0 0, .int .i64 0, u] w fun e w' => LinkTold .nilIface formV w none e w') := fun u w g => by
    have := plink_any (.slice none 0 0) u [] 0 [(0, 0)] w (none_words w) (fun x hx => by cases hx) g (by decide) (by decide) (by decide) (by decide) (fun i x hx => by cases i with | zero => simp at hx; subst hx; decide | succ i => simp at hx)
    rw [link_nil] at this
    exact this
  have q1 := form_eql
  go_enter Try.func5, Try.ntmps5
  go_wp2_with fail
  refine (HP1.out _).mono ?_
  rintro e w1 ⟨rfl, hb1⟩
  have hwd := one_word w1 1405091840
  have hfx := one_fix (w1.alloc (.cells #[.int .u32 ((1405091840 : Nat) : Int)] WdT)) RxT 0 412
  rw [show (w1.alloc (.cells #[.int .u32 ((1405091840 : Nat) : Int)] WdT)).heap.size = w1.heap.size + 1 by simp] at hfx
  have hbx : Below (w1.alloc (.cells #[.int .u32 ((1405091840 : Nat) : Int)] WdT)).heap.size (w1.alloc (.cells #[.int .u32 ((1405091840 : Nat) : Int)] WdT)) ((w1.alloc (.cells #[.int .u32 ((1405091840 : Nat) : Int)] WdT)).alloc (.cells #[.int .i64 0, .int .i64 412] RxT)) := (Below.refl _ _).alloc (Nat.le_refl _) _
  have HCL := Lib.hid (HL1.out _ _ _ (hwd.on hbx) hfx)
  have HB2 : Hid (Below w.heap.size w ((w1.alloc (.cells #[.int .u32 ((1405091840 : Nat) : Int)] WdT)).alloc (.cells #[.int .i64 0, .int .i64 412] RxT))) := by
    have h1 : Below w.heap.size w (w1.alloc (.cells #[.int .u32 ((1405091840 : Nat) : Int)] WdT)) := below_on hb1 ((Below.refl _ _).alloc (Nat.le_refl _) _) hb1.size
    exact below_on h1 hbx h1.size
  clear hb1 hwd hfx hbx HP1 HL1
  go_wp2_with fail
  refine HCL.out.mono ?_
  rintro e w3 ⟨⟨v3, rfl, he3, _⟩, hb3⟩
  have HB3 := Lib.hid (below_on HB2.out hb3 HB2.out.size)
  obtain ⟨b3, off3, cap3, e3, hlt3, g3⟩ := he3.cell1 (i := 0) (x := 1405091842) (c0 := .int .u32 ((1405091842 : Nat) : Int)) rfl rfl
  subst e3
  have g3' : w3.cell? ⟨b3, off3, none⟩ = some (.int .u32 ((1405091842 : Nat) : Int)) := g3
  clear hb3 he3 HB2 HCL g3
  have HC2 := Lib.hid (HL2.out _ _ (one_fix w3 RxT 0 0))
  have hbx : Below w3.heap.size w3 (w3.alloc (.cells #[.int .i64 0, .int .i64 0] RxT)) := (Below.refl _ _).alloc (Nat.le_refl _) _
  have HB4 := Lib.hid (below_on HB3.out hbx HB3.out.size)
  have g4 := (hbx.cell (p := ⟨b3, off3, none⟩) hlt3).trans g3'
  have hlt4 := Nat.lt_of_lt_of_le hlt3 hbx.size
  clear hbx HB3 g3' hlt3 HL2
  go_wp2_with fail
  refine HC2.out.mono ?_
  rintro e w5 ⟨rfl, hb5⟩
  have HB5 := Lib.hid (below_on HB4.out hb5 HB4.out.size)
  have g5 := (hb5.cell (p := ⟨b3, off3, none⟩) hlt4).trans g4
  have hlt5 := Nat.lt_of_lt_of_le hlt4 hb5.size
  clear hb5 HB4 g4 hlt4 HC2
  go_wp2_with fail
  refine wp_region_held_drew (S := fun w' => w'.cell? ⟨b3, off3, none⟩ = some (.int .u32 1405091842) ∧ Below w.heap.size w w') (by kernel_rfl) ?_ (fun hHeld => ?_)
  · exact ⟨g5, below_on HB5.out ((Drawn.of_n w5 1).below _) HB5.out.size⟩
  refine wpAnyH_take (i := 0) (v := ?_) rfl (by kernel_rfl) (by kernel_rfl) (by kernel_rfl) (fun _ _ _ h => h) (Or.inl ⟨by rfl, ?_⟩) (by assumption) ?_
  rotate_left
  · intro w hSw
    (try dsimp only at hSw)
    go_simp
    (try with_reducible rfl)
  try simp only [Act.put, List.getElem_toArray, List.getElem_cons_zero, List.setIfInBounds_toArray, List.set_cons_zero, List.set_cons_succ]
  refine wpAnyH_take (i := 1) (v := ?_) rfl (by kernel_rfl) (by kernel_rfl) (by kernel_rfl) (fun _ _ _ h => h) (Or.inl ⟨by rfl, ?_⟩) (by assumption) ?_
  rotate_left
  · intro w hSw
    (try dsimp only at hSw)
    go_simp
    (try with_reducible rfl)
  try simp only [Act.put, List.getElem_toArray, List.getElem_cons_zero, List.getElem_cons_succ, List.setIfInBounds_toArray, List.set_cons_zero, List.set_cons_succ]
  refine wpAnyH_take (i := 2) (v := ?_) rfl (by kernel_rfl) (by kernel_rfl) (by kernel_rfl) (fun _ _ _ h => h) (Or.inl ⟨by rfl, ?_⟩) (by assumption) ?_
  rotate_left
  · intro w hSw
    have g6 := hSw.1
    (try dsimp only at hSw)
    go_simp
    (try with_reducible rfl)
  try simp only [Act.put, List.getElem_toArray, List.getElem_cons_zero, List.getElem_cons_succ, List.setIfInBounds_toArray, List.set_cons_zero, List.set_cons_succ]
  refine wpAnyH_take (i := 3) (v := ?_) rfl (by kernel_rfl) (by kernel_rfl) (by kernel_rfl) (fun _ _ _ h => h) (Or.inl ⟨by rfl, ?_⟩) (by assumption) ?_
  rotate_left
  · intro w hSw
    (try dsimp only at hSw)
    go_simp
    (try with_reducible rfl)
  try simp only [Act.put, List.getElem_toArray, List.getElem_cons_zero, List.getElem_cons_succ, List.setIfInBounds_toArray, List.set_cons_zero, List.set_cons_succ]
  refine wpAnyH_ready (rs := [4]) (by kernel_rfl) (by simp) ?_
  refine AllReadyH.cons rfl (fun K hK => ?_) AllReadyH.nil
  go_simp
  refine (HP2.out _).mono ?_
  rintro e w7 ⟨rfl, hb7⟩
  first | show K _ _ | go_wp2_with fail
  refine hK.out _ _ ?_ (fun hHeld1 => ?_)
  · exact ⟨(hb7.cell (p := ⟨b3, off3, none⟩) (cell_lt hHeld.1)).trans hHeld.1, below_on hHeld.2 hb7 hHeld.2.size⟩
  clear hK K
  try simp only [Act.put, List.getElem_toArray, List.getElem_cons_zero, List.getElem_cons_succ, List.setIfInBounds_toArray, List.set_cons_zero, List.set_cons_succ]
  refine wpAnyH_take (i := 5) (v := ?_) rfl (by kernel_rfl) (by kernel_rfl) (by kernel_rfl) (fun _ _ _ h => h) (Or.inl ⟨by rfl, ?_⟩) (by assumption) ?_
  rotate_left
  · intro w hSw
    (try dsimp only at hSw)
    go_simp
    (try with_reducible rfl)
  try simp only [Act.put, List.getElem_toArray, List.getElem_cons_zero, List.getElem_cons_succ, List.setIfInBounds_toArray, List.set_cons_zero, List.set_cons_succ]
  refine wpAnyH_take (i := 6) (v := ?_) rfl (by kernel_rfl) (by kernel_rfl) (by kernel_rfl) (fun _ _ _ h => h) (Or.inl ⟨by rfl, ?_⟩) (by assumption) ?_
  rotate_left
  · intro w hSw
    (try dsimp only at hSw)
    go_simp
    (try with_reducible rfl)
  try simp only [Act.put, List.getElem_toArray, List.getElem_cons_zero, List.getElem_cons_succ, List.setIfInBounds_toArray, List.set_cons_zero, List.set_cons_succ]
  refine wpAnyH_take (i := 7) (v := ?_) rfl (by kernel_rfl) (by kernel_rfl) (by kernel_rfl) (fun _ _ _ h => h) (Or.inl ⟨by rfl, ?_⟩) (by assumption) ?_
  rotate_left
  · intro w hSw
    (try dsimp only at hSw)
    go_simp
    (try with_reducible rfl)
  try simp only [Act.put, List.getElem_toArray, List.getElem_cons_zero, List.getElem_cons_succ, List.setIfInBounds_toArray, List.set_cons_zero, List.set_cons_succ]
  refine wpAnyH_take (i := 8) (v := ?_) rfl (by kernel_rfl) (by kernel_rfl) (by kernel_rfl) (fun _ _ _ h => h) (Or.inl ⟨by rfl, ?_⟩) (by assumption) ?_
  rotate_left
  · intro w hSw
    (try dsimp only at hSw)
    go_simp
    (try with_reducible rfl)
  try simp only [Act.put, List.getElem_toArray, List.getElem_cons_zero, List.getElem_cons_succ, List.setIfInBounds_toArray, List.set_cons_zero, List.set_cons_succ]
  refine wpAnyH_take (i := 9) (v := ?_) rfl (by kernel_rfl) (by kernel_rfl) (by kernel_rfl) (fun _ _ _ h => h) (Or.inl ⟨by rfl, ?_⟩) (by assumption) ?_
  rotate_left
  · intro w hSw
    have q2 := form_eql w
    (try dsimp only at hSw)
    go_simp
    (try with_reducible rfl)
  try simp only [Act.put, List.getElem_toArray, List.getElem_cons_zero, List.getElem_cons_succ, List.setIfInBounds_toArray, List.set_cons_zero, List.set_cons_succ]
  refine wpAnyH_take (i := 10) (v := ?_) rfl (by kernel_rfl) (by kernel_rfl) (by kernel_rfl) (fun _ _ _ h => h) (Or.inl ⟨by rfl, ?_⟩) (by assumption) ?_
  rotate_left
  · intro w hSw
    (try dsimp only at hSw)
    go_simp
    (try with_reducible rfl)
  try simp only [Act.put, List.getElem_toArray, List.getElem_cons_zero, List.getElem_cons_succ, List.setIfInBounds_toArray, List.set_cons_zero, List.set_cons_succ]
  refine wpAnyH_take (i := 11) (v := ?_) rfl (by kernel_rfl) (by kernel_rfl) (by kernel_rfl) (fun _ _ _ h => h) (Or.inl ⟨by rfl, ?_⟩) (by assumption) ?_
  rotate_left
  · intro w hSw
    (try dsimp only at hSw)
    go_simp
    (try with_reducible rfl)
  try simp only [Act.put, List.getElem_toArray, List.getElem_cons_zero, List.getElem_cons_succ, List.setIfInBounds_toArray, List.set_cons_zero]
  refine wpAnyH_done (by kernel_rfl) ?_ _
  go_wp2_with fail
  go_ret
  exact ⟨rfl, hHeld1.2⟩
end Go.Proofs.Ytjdahhckofjjhaa
