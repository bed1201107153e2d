/-
  The program's writers of an object's elements (layer 12). No conditions beyond those that each theorem names. (Written by wip/tools/obj-x.py.)
-/
import Derived.Test.YthgnklgejlebhaaBioP
import Derived.Test.YthgnklgejlebhaaObjB
namespace Go.Proofs.Ythgnklgejlebhaa
open Go.ChangeShapes Go.WideShapes Go.ChangeAt Go.RowKit

/- what a writer does: bytes behind those that are there -/
abbrev Wrote (w : World) (v : Value) (l : List Nat) (e : Ending) (w' : World) : Prop := ∃ v', e = .returned v' ∧ Bs w' v' l ∧ Grew w w' v v'
theorem outN_1 (n : Nat) : outN n 1 = numB n 1 := rfl
theorem outN_2 (n : Nat) : outN n 2 = numB n 2 := rfl
theorem outN_4 (n : Nat) : outN n 4 = numB n 4 := rfl
theorem Grew.off {w w' : World} {v v' : Value} {B : Nat} (hg : Grew w w' v v') (h0 : ∀ j, own v j → ¬ j = B) (hB : B < w.heap.size) : ∀ j, own v' j → ¬ j = B := fun j hj e => by
  rcases hg.2 j hj with h | h
  · exact h0 j h e
  · omega
theorem Bs.fresh {w : World} {v : Value} {l : List Nat} (h : Bs w v l) (o : Obj) : Bs (w.alloc o) v l := h.keep (S := fun _ => False) ((Kept.refl _ w).alloc o) (fun _ _ h => h)

set_option maxRecDepth 100000 in
theorem wbyte_any (v : Value) (l : List Nat) (n : Int) (w : World) (h : Bs w v l) (small : l.length ≤ 500000) :
    Calls Try.prog 41 #[v, .int .i64 n] w fun e w' => Wrote w v (l ++ numZ n 1) e w' := by
  have H : Hid (Calls Try.prog 36 #[v, .int .u32 (((n % 4294967296).toNat : Nat) : Int), .int .i64 1] w fun e w' => Wrote w v (l ++ numZ n 1) e w') := bput_any v l (n % 4294967296).toNat 1 w h (by omega) small
  have e1 : (((n % 4294967296).toNat : Nat) : Int) = n % 4294967296 := by omega
  rw [e1] at H
  have e2 : IntKind.u32.wrap n = n % 4294967296 := IntKind.wrap_u32 n
  clear h small e1
  generalize n % 4294967296 = z at *
  go_enter Try.func41, Try.ntmps41
  go_wp2_with fail
  refine H.out.mono ?_
  rintro e w1 ⟨v', rfl, hb⟩
  have RES := Lib.hid hb
  clear hb H
  go_wp2_with fail
  go_ret
  exact ⟨_, rfl, RES.out⟩

set_option maxRecDepth 100000 in
theorem wplace_any (v : Value) (l : List Nat) (n : Int) (w : World) (h : Bs w v l) (small : l.length ≤ 500000) :
    Calls Try.prog 49 #[v, .int .i64 n] w fun e w' => Wrote w v (l ++ numZ n 2) e w' := by
  have H : Hid (Calls Try.prog 36 #[v, .int .u32 (((n % 4294967296).toNat : Nat) : Int), .int .i64 2] w fun e w' => Wrote w v (l ++ numZ n 2) e w') := bput_any v l (n % 4294967296).toNat 2 w h (by omega) small
  have e1 : (((n % 4294967296).toNat : Nat) : Int) = n % 4294967296 := by omega
  rw [e1] at H
  have e2 : IntKind.u32.wrap n = n % 4294967296 := IntKind.wrap_u32 n
  clear h small e1
  generalize n % 4294967296 = z at *
  go_enter Try.func49, Try.ntmps49
  go_wp2_with fail
  refine H.out.mono ?_
  rintro e w1 ⟨v', rfl, hb⟩
  have RES := Lib.hid hb
  clear hb H
  go_wp2_with fail
  go_ret
  exact ⟨_, rfl, RES.out⟩

set_option maxRecDepth 100000 in
theorem wword_any (v : Value) (l : List Nat) (n : Nat) (w : World) (h : Bs w v l) (hn : n < 4294967296) (small : l.length ≤ 500000) :
    Calls Try.prog 43 #[v, .int .u32 (n : Nat)] w fun e w' => Wrote w v (l ++ numB n 4) e w' := by
  have H : Hid (Calls Try.prog 36 #[v, .int .u32 (n : Nat), .int .i64 4] w fun e w' => Wrote w v (l ++ numB n 4) e w') := bput_any v l n 4 w h hn small
  clear h hn small
  go_enter Try.func43, Try.ntmps43
  go_wp2_with fail
  refine H.out.mono ?_
  rintro e w1 ⟨v', rfl, hb⟩
  have RES := Lib.hid hb
  clear hb H
  go_wp2_with fail
  go_ret
  exact ⟨_, rfl, RES.out⟩

set_option maxRecDepth 100000 in
set_option maxHeartbeats 1000000 in
theorem wimp_any (v : Value) (l : List Nat) (s : ByteArray) (n : Nat) (w : World) (h : Bs w v l) (hn : n < 4294967296) (small : l.length ≤ 400000) :
    Calls Try.prog 38 #[v, .agg #[.string s, .int .u32 (n : Nat)]] w fun e w' => Wrote w v (l ++ impB (s, n)) e w' := by
  have HX : Hid (RowAt (w.alloc (.cells #[.string s, .int .u32 (n : Nat)] 53)) w.heap.size 53 [.string s, .int .u32 (n : Nat)] ∧ Bs (w.alloc (.cells #[.string s, .int .u32 (n : Nat)] 53)) v l ∧ Kept (own v) w (w.alloc (.cells #[.string s, .int .u32 (n : Nat)] 53)) ∧ (∀ j, own v j → j < w.heap.size) ∧ w.heap.size < (w.alloc (.cells #[.string s, .int .u32 (n : Nat)] 53)).heap.size) := ⟨RowAt.new w _ _, h.fresh _, (Kept.refl _ w).alloc _, h.own_lt, by simp⟩
  have HN := Lib.hid hn
  have HS := Lib.hid small
  clear h small hn
  go_enter Try.func38, Try.ntmps38
  go_upto_region 1 with fail
  generalize (w.alloc (.cells #[.string s, .int .u32 (n : Nat)] 53)) = w0 at *
  obtain ⟨B, hB⟩ : ∃ B, B = w.heap.size := ⟨_, rfl⟩
  have HNEW : Hid (∀ j, w.heap.size ≤ j → B ≤ j) := fun j hj => by omega
  rw [← hB] at HX ⊢
  have HWB := Lib.hid hB
  clear hB
  refine wp_region_held_drew (S := fun w' => w'.cell? ⟨B, 0, none⟩ = some (.string s) ∧ w'.cell? ⟨B, 1, none⟩ = some (.int .u32 (n : Nat))) (by kernel_rfl) ?_ (fun hHeld => ?_)
  · exact ⟨HX.out.1.drew.cell 0, HX.out.1.drew.cell 1⟩
  refine wpAnyH_take (i := 0) (v := ?_) rfl (by kernel_rfl) (by kernel_rfl) (by kernel_rfl) (fun _ _ _ h => h) (Or.inl ⟨by rfl, ?_⟩) (by assumption) ?_
  rotate_left
  · intro w hSw
    (try dsimp only at hSw)
    go_simp
    (try with_reducible rfl)
  try simp only [Act.put, List.getElem_toArray, List.getElem_cons_zero, List.setIfInBounds_toArray, List.set_cons_zero, List.set_cons_succ]
  refine wpAnyH_take (i := 1) (v := ?_) rfl (by kernel_rfl) (by kernel_rfl) (by kernel_rfl) (fun _ _ _ h => h) (Or.inl ⟨by rfl, ?_⟩) (by assumption) ?_
  rotate_left
  · intro w hSw
    (try dsimp only at hSw)
    go_simp
    (try with_reducible rfl)
  try simp only [Act.put, List.getElem_toArray, List.getElem_cons_zero, List.getElem_cons_succ, List.setIfInBounds_toArray, List.set_cons_zero, List.set_cons_succ]
  refine wpAnyH_take (i := 2) (v := ?_) rfl (by kernel_rfl) (by kernel_rfl) (by kernel_rfl) (fun _ _ _ h => h) (Or.inl ⟨by rfl, ?_⟩) (by assumption) ?_
  rotate_left
  · intro w hSw
    (try dsimp only at hSw)
    go_simp
    (try with_reducible rfl)
  try simp only [Act.put, List.getElem_toArray, List.getElem_cons_zero, List.getElem_cons_succ, List.setIfInBounds_toArray, List.set_cons_zero, List.set_cons_succ]
  refine wpAnyH_take (i := 4) (v := ?_) rfl (by kernel_rfl) (by kernel_rfl) (by kernel_rfl) (fun _ _ _ h => h) (Or.inl ⟨by rfl, ?_⟩) (by assumption) ?_
  rotate_left
  · intro w hSw
    (try dsimp only at hSw)
    go_simp
    (try with_reducible rfl)
  try simp only [Act.put, List.getElem_toArray, List.getElem_cons_zero, List.getElem_cons_succ, List.setIfInBounds_toArray, List.set_cons_zero, List.set_cons_succ]
  refine wpAnyH_take (i := 5) (v := ?_) rfl (by kernel_rfl) (by kernel_rfl) (by kernel_rfl) (fun _ _ _ h => h) (Or.inl ⟨by rfl, ?_⟩) (by assumption) ?_
  rotate_left
  · intro w hSw
    (try dsimp only at hSw)
    go_simp
    (try with_reducible rfl)
  try simp only [Act.put, List.getElem_toArray, List.getElem_cons_zero, List.getElem_cons_succ, List.setIfInBounds_toArray, List.set_cons_zero, List.set_cons_succ]
  refine wpAnyH_ready (rs := [3]) (by kernel_rfl) (by simp) ?_
  refine AllReadyH.cons rfl (fun K hK => ?_) AllReadyH.nil
  go_simp
  refine (btext_any v (l) s _ (HX.out.2.1.keep (S := fun _ => False) ((Kept.refl _ w0).drew) (fun _ _ h => h)) (by have := HS.out; omega)).mono ?_
  rintro e w1 ⟨v1, rfl, hb, hg⟩
  have HB1 := Lib.hid hb
  have HG1 := Lib.hid hg
  have HO1 : Hid (∀ j, own v1 j → ¬ j = B) := hg.off (fun j hj e => absurd (HX.out.2.2.2.1 j hj) (by omega)) (HX.out.2.2.2.2)
  clear hb hg
  first | show K _ _ | go_wp2_with fail
  refine hK.out _ _ ?_ (fun hHeld1 => ?_)
  · exact ⟨(HG1.out.1.cell (p := ⟨B, 0, none⟩) (cell_lt hHeld.1) (fun e => absurd (HX.out.2.2.2.1 B e) (by omega))).trans hHeld.1, (HG1.out.1.cell (p := ⟨B, 1, none⟩) (cell_lt hHeld.2) (fun e => absurd (HX.out.2.2.2.1 B e) (by omega))).trans hHeld.2⟩
  clear hK K
  try simp only [Act.put, List.getElem_toArray, List.getElem_cons_zero, List.getElem_cons_succ, List.setIfInBounds_toArray, List.set_cons_zero, List.set_cons_succ]
  refine wpAnyH_ready (rs := [6]) (by kernel_rfl) (by simp) ?_
  refine AllReadyH.cons rfl (fun K hK => ?_) AllReadyH.nil
  go_simp
  refine (bput_any v1 (l ++ textB (sb s)) n 4 _ HB1.out HN.out (by have h0 := HS.out; have h1 := textB_len (sb s); simp only [List.length_append]; omega)).mono ?_
  rintro e w2 ⟨v2, rfl, hb, hg⟩
  have HB2 := Lib.hid hb
  have HG2 := Lib.hid hg
  have HO2 : Hid (∀ j, own v2 j → ¬ j = B) := hg.off (HO1.out) (Nat.lt_of_lt_of_le HX.out.2.2.2.2 (HG1.out.1.more))
  clear hb hg
  first | show K _ _ | go_wp2_with fail
  refine hK.out _ _ ?_ (fun hHeld2 => ?_)
  · exact ⟨(HG2.out.1.cell (p := ⟨B, 0, none⟩) (cell_lt hHeld1.1) (fun e => HO1.out B e rfl)).trans hHeld1.1, (HG2.out.1.cell (p := ⟨B, 1, none⟩) (cell_lt hHeld1.2) (fun e => HO1.out B e rfl)).trans hHeld1.2⟩
  clear hK K
  try simp only [Act.put, List.getElem_toArray, List.getElem_cons_zero, List.getElem_cons_succ, List.setIfInBounds_toArray, List.set_cons_zero, List.set_cons_succ]
  refine wpAnyH_take (i := 7) (v := ?_) rfl (by kernel_rfl) (by kernel_rfl) (by kernel_rfl) (fun _ _ _ h => h) (Or.inl ⟨by rfl, ?_⟩) (by assumption) ?_
  rotate_left
  · intro w hSw
    (try dsimp only at hSw)
    go_simp
    (try with_reducible rfl)
  try simp only [Act.put, List.getElem_toArray, List.getElem_cons_zero, List.getElem_cons_succ, List.setIfInBounds_toArray, List.set_cons_zero, List.set_cons_succ]
  refine wpAnyH_done (by kernel_rfl) ?_ _
  have RES : Hid (Bs w2 v2 (l ++ impB (s, n)) ∧ Grew w w2 v v2) := by
    have hb := HB2.out
    have hg := (HG1.out.trans HG2.out)
    refine ⟨?_, (HX.out.2.2.1.drew).trans hg.1, fun j hj => ?_⟩
    · show Bs _ _ _
      simp only [impB]
      simpa [List.append_assoc, outN_4] using hb
    · rcases hg.2 j hj with h | h
      · exact .inl h
      · have h1 := HX.out.2.2.2.2
        have h2 : w0.heap.size ≤ j := h
        have h3 := HWB.out
        exact .inr (by omega)
  clear HX HNEW HWB HS HB1 HG1 HO1 HB2 HG2 HO2 hHeld hHeld1 hHeld2
  go_wp2_with fail
  go_ret
  exact ⟨_, rfl, RES.out⟩

set_option maxRecDepth 100000 in
set_option maxHeartbeats 1000000 in
theorem wcmd_any (v : Value) (l : List Nat) (s : ByteArray) (n : Int) (w : World) (h : Bs w v l)  (small : l.length ≤ 400000) :
    Calls Try.prog 45 #[v, .agg #[.string s, .int .i64 n]] w fun e w' => Wrote w v (l ++ cmdB (s, n)) e w' := by
  have HX : Hid (RowAt (w.alloc (.cells #[.string s, .int .i64 n] 57)) w.heap.size 57 [.string s, .int .i64 n] ∧ Bs (w.alloc (.cells #[.string s, .int .i64 n] 57)) v l ∧ Kept (own v) w (w.alloc (.cells #[.string s, .int .i64 n] 57)) ∧ (∀ j, own v j → j < w.heap.size) ∧ w.heap.size < (w.alloc (.cells #[.string s, .int .i64 n] 57)).heap.size) := ⟨RowAt.new w _ _, h.fresh _, (Kept.refl _ w).alloc _, h.own_lt, by simp⟩
  have HS := Lib.hid small
  clear h small
  go_enter Try.func45, Try.ntmps45
  go_upto_region 1 with fail
  generalize (w.alloc (.cells #[.string s, .int .i64 n] 57)) = w0 at *
  obtain ⟨B, hB⟩ : ∃ B, B = w.heap.size := ⟨_, rfl⟩
  have HNEW : Hid (∀ j, w.heap.size ≤ j → B ≤ j) := fun j hj => by omega
  rw [← hB] at HX ⊢
  have HWB := Lib.hid hB
  clear hB
  refine wp_region_held_drew (S := fun w' => w'.cell? ⟨B, 0, none⟩ = some (.string s) ∧ w'.cell? ⟨B, 1, none⟩ = some (.int .i64 n)) (by kernel_rfl) ?_ (fun hHeld => ?_)
  · exact ⟨HX.out.1.drew.cell 0, HX.out.1.drew.cell 1⟩
  refine wpAnyH_take (i := 0) (v := ?_) rfl (by kernel_rfl) (by kernel_rfl) (by kernel_rfl) (fun _ _ _ h => h) (Or.inl ⟨by rfl, ?_⟩) (by assumption) ?_
  rotate_left
  · intro w hSw
    (try dsimp only at hSw)
    go_simp
    (try with_reducible rfl)
  try simp only [Act.put, List.getElem_toArray, List.getElem_cons_zero, List.setIfInBounds_toArray, List.set_cons_zero, List.set_cons_succ]
  refine wpAnyH_take (i := 1) (v := ?_) rfl (by kernel_rfl) (by kernel_rfl) (by kernel_rfl) (fun _ _ _ h => h) (Or.inl ⟨by rfl, ?_⟩) (by assumption) ?_
  rotate_left
  · intro w hSw
    (try dsimp only at hSw)
    go_simp
    (try with_reducible rfl)
  try simp only [Act.put, List.getElem_toArray, List.getElem_cons_zero, List.getElem_cons_succ, List.setIfInBounds_toArray, List.set_cons_zero, List.set_cons_succ]
  refine wpAnyH_take (i := 2) (v := ?_) rfl (by kernel_rfl) (by kernel_rfl) (by kernel_rfl) (fun _ _ _ h => h) (Or.inl ⟨by rfl, ?_⟩) (by assumption) ?_
  rotate_left
  · intro w hSw
    (try dsimp only at hSw)
    go_simp
    (try with_reducible rfl)
  try simp only [Act.put, List.getElem_toArray, List.getElem_cons_zero, List.getElem_cons_succ, List.setIfInBounds_toArray, List.set_cons_zero, List.set_cons_succ]
  refine wpAnyH_take (i := 4) (v := ?_) rfl (by kernel_rfl) (by kernel_rfl) (by kernel_rfl) (fun _ _ _ h => h) (Or.inl ⟨by rfl, ?_⟩) (by assumption) ?_
  rotate_left
  · intro w hSw
    (try dsimp only at hSw)
    go_simp
    (try with_reducible rfl)
  try simp only [Act.put, List.getElem_toArray, List.getElem_cons_zero, List.getElem_cons_succ, List.setIfInBounds_toArray, List.set_cons_zero, List.set_cons_succ]
  refine wpAnyH_take (i := 5) (v := ?_) rfl (by kernel_rfl) (by kernel_rfl) (by kernel_rfl) (fun _ _ _ h => h) (Or.inl ⟨by rfl, ?_⟩) (by assumption) ?_
  rotate_left
  · intro w hSw
    (try dsimp only at hSw)
    go_simp
    (try with_reducible rfl)
  try simp only [Act.put, List.getElem_toArray, List.getElem_cons_zero, List.getElem_cons_succ, List.setIfInBounds_toArray, List.set_cons_zero, List.set_cons_succ]
  refine wpAnyH_ready (rs := [3]) (by kernel_rfl) (by simp) ?_
  refine AllReadyH.cons rfl (fun K hK => ?_) AllReadyH.nil
  go_simp
  refine (btext_any v (l) s _ (HX.out.2.1.keep (S := fun _ => False) ((Kept.refl _ w0).drew) (fun _ _ h => h)) (by have := HS.out; omega)).mono ?_
  rintro e w1 ⟨v1, rfl, hb, hg⟩
  have HB1 := Lib.hid hb
  have HG1 := Lib.hid hg
  have HO1 : Hid (∀ j, own v1 j → ¬ j = B) := hg.off (fun j hj e => absurd (HX.out.2.2.2.1 j hj) (by omega)) (HX.out.2.2.2.2)
  clear hb hg
  first | show K _ _ | go_wp2_with fail
  refine hK.out _ _ ?_ (fun hHeld1 => ?_)
  · exact ⟨(HG1.out.1.cell (p := ⟨B, 0, none⟩) (cell_lt hHeld.1) (fun e => absurd (HX.out.2.2.2.1 B e) (by omega))).trans hHeld.1, (HG1.out.1.cell (p := ⟨B, 1, none⟩) (cell_lt hHeld.2) (fun e => absurd (HX.out.2.2.2.1 B e) (by omega))).trans hHeld.2⟩
  clear hK K
  try simp only [Act.put, List.getElem_toArray, List.getElem_cons_zero, List.getElem_cons_succ, List.setIfInBounds_toArray, List.set_cons_zero, List.set_cons_succ]
  refine wpAnyH_ready (rs := [6]) (by kernel_rfl) (by simp) ?_
  refine AllReadyH.cons rfl (fun K hK => ?_) AllReadyH.nil
  go_simp
  refine (wplace_any v1 (l ++ textB (sb s)) n _ HB1.out (by have h0 := HS.out; have h1 := textB_len (sb s); simp only [List.length_append]; omega)).mono ?_
  rintro e w2 ⟨v2, rfl, hb, hg⟩
  have HB2 := Lib.hid hb
  have HG2 := Lib.hid hg
  have HO2 : Hid (∀ j, own v2 j → ¬ j = B) := hg.off (HO1.out) (Nat.lt_of_lt_of_le HX.out.2.2.2.2 (HG1.out.1.more))
  clear hb hg
  first | show K _ _ | go_wp2_with fail
  refine hK.out _ _ ?_ (fun hHeld2 => ?_)
  · exact ⟨(HG2.out.1.cell (p := ⟨B, 0, none⟩) (cell_lt hHeld1.1) (fun e => HO1.out B e rfl)).trans hHeld1.1, (HG2.out.1.cell (p := ⟨B, 1, none⟩) (cell_lt hHeld1.2) (fun e => HO1.out B e rfl)).trans hHeld1.2⟩
  clear hK K
  try simp only [Act.put, List.getElem_toArray, List.getElem_cons_zero, List.getElem_cons_succ, List.setIfInBounds_toArray, List.set_cons_zero, List.set_cons_succ]
  refine wpAnyH_take (i := 7) (v := ?_) rfl (by kernel_rfl) (by kernel_rfl) (by kernel_rfl) (fun _ _ _ h => h) (Or.inl ⟨by rfl, ?_⟩) (by assumption) ?_
  rotate_left
  · intro w hSw
    (try dsimp only at hSw)
    go_simp
    (try with_reducible rfl)
  try simp only [Act.put, List.getElem_toArray, List.getElem_cons_zero, List.getElem_cons_succ, List.setIfInBounds_toArray, List.set_cons_zero, List.set_cons_succ]
  refine wpAnyH_done (by kernel_rfl) ?_ _
  have RES : Hid (Bs w2 v2 (l ++ cmdB (s, n)) ∧ Grew w w2 v v2) := by
    have hb := HB2.out
    have hg := (HG1.out.trans HG2.out)
    refine ⟨?_, (HX.out.2.2.1.drew).trans hg.1, fun j hj => ?_⟩
    · show Bs _ _ _
      simp only [cmdB]
      simpa [List.append_assoc, outN_4] using hb
    · rcases hg.2 j hj with h | h
      · exact .inl h
      · have h1 := HX.out.2.2.2.2
        have h2 : w0.heap.size ≤ j := h
        have h3 := HWB.out
        exact .inr (by omega)
  clear HX HNEW HWB HS HB1 HG1 HO1 HB2 HG2 HO2 hHeld hHeld1 hHeld2
  go_wp2_with fail
  go_ret
  exact ⟨_, rfl, RES.out⟩

set_option maxRecDepth 100000 in
set_option maxHeartbeats 1000000 in
theorem wexp_any (v : Value) (l : List Nat) (s n : Int) (w : World) (h : Bs w v l)  (small : l.length ≤ 400000) :
    Calls Try.prog 47 #[v, .agg #[.int .i64 s, .int .i64 n]] w fun e w' => Wrote w v (l ++ expB (s, n)) e w' := by
  have HX : Hid (RowAt (w.alloc (.cells #[.int .i64 s, .int .i64 n] 59)) w.heap.size 59 [.int .i64 s, .int .i64 n] ∧ Bs (w.alloc (.cells #[.int .i64 s, .int .i64 n] 59)) v l ∧ Kept (own v) w (w.alloc (.cells #[.int .i64 s, .int .i64 n] 59)) ∧ (∀ j, own v j → j < w.heap.size) ∧ w.heap.size < (w.alloc (.cells #[.int .i64 s, .int .i64 n] 59)).heap.size) := ⟨RowAt.new w _ _, h.fresh _, (Kept.refl _ w).alloc _, h.own_lt, by simp⟩
  have HS := Lib.hid small
  clear h small
  go_enter Try.func47, Try.ntmps47
  go_upto_region 1 with fail
  generalize (w.alloc (.cells #[.int .i64 s, .int .i64 n] 59)) = w0 at *
  obtain ⟨B, hB⟩ : ∃ B, B = w.heap.size := ⟨_, rfl⟩
  have HNEW : Hid (∀ j, w.heap.size ≤ j → B ≤ j) := fun j hj => by omega
  rw [← hB] at HX ⊢
  have HWB := Lib.hid hB
  clear hB
  refine wp_region_held_drew (S := fun w' => w'.cell? ⟨B, 0, none⟩ = some (.int .i64 s) ∧ w'.cell? ⟨B, 1, none⟩ = some (.int .i64 n)) (by kernel_rfl) ?_ (fun hHeld => ?_)
  · exact ⟨HX.out.1.drew.cell 0, HX.out.1.drew.cell 1⟩
  refine wpAnyH_take (i := 0) (v := ?_) rfl (by kernel_rfl) (by kernel_rfl) (by kernel_rfl) (fun _ _ _ h => h) (Or.inl ⟨by rfl, ?_⟩) (by assumption) ?_
  rotate_left
  · intro w hSw
    (try dsimp only at hSw)
    go_simp
    (try with_reducible rfl)
  try simp only [Act.put, List.getElem_toArray, List.getElem_cons_zero, List.setIfInBounds_toArray, List.set_cons_zero, List.set_cons_succ]
  refine wpAnyH_take (i := 1) (v := ?_) rfl (by kernel_rfl) (by kernel_rfl) (by kernel_rfl) (fun _ _ _ h => h) (Or.inl ⟨by rfl, ?_⟩) (by assumption) ?_
  rotate_left
  · intro w hSw
    (try dsimp only at hSw)
    go_simp
    (try with_reducible rfl)
  try simp only [Act.put, List.getElem_toArray, List.getElem_cons_zero, List.getElem_cons_succ, List.setIfInBounds_toArray, List.set_cons_zero, List.set_cons_succ]
  refine wpAnyH_take (i := 2) (v := ?_) rfl (by kernel_rfl) (by kernel_rfl) (by kernel_rfl) (fun _ _ _ h => h) (Or.inl ⟨by rfl, ?_⟩) (by assumption) ?_
  rotate_left
  · intro w hSw
    (try dsimp only at hSw)
    go_simp
    (try with_reducible rfl)
  try simp only [Act.put, List.getElem_toArray, List.getElem_cons_zero, List.getElem_cons_succ, List.setIfInBounds_toArray, List.set_cons_zero, List.set_cons_succ]
  refine wpAnyH_take (i := 4) (v := ?_) rfl (by kernel_rfl) (by kernel_rfl) (by kernel_rfl) (fun _ _ _ h => h) (Or.inl ⟨by rfl, ?_⟩) (by assumption) ?_
  rotate_left
  · intro w hSw
    (try dsimp only at hSw)
    go_simp
    (try with_reducible rfl)
  try simp only [Act.put, List.getElem_toArray, List.getElem_cons_zero, List.getElem_cons_succ, List.setIfInBounds_toArray, List.set_cons_zero, List.set_cons_succ]
  refine wpAnyH_take (i := 5) (v := ?_) rfl (by kernel_rfl) (by kernel_rfl) (by kernel_rfl) (fun _ _ _ h => h) (Or.inl ⟨by rfl, ?_⟩) (by assumption) ?_
  rotate_left
  · intro w hSw
    (try dsimp only at hSw)
    go_simp
    (try with_reducible rfl)
  try simp only [Act.put, List.getElem_toArray, List.getElem_cons_zero, List.getElem_cons_succ, List.setIfInBounds_toArray, List.set_cons_zero, List.set_cons_succ]
  refine wpAnyH_ready (rs := [3]) (by kernel_rfl) (by simp) ?_
  refine AllReadyH.cons rfl (fun K hK => ?_) AllReadyH.nil
  go_simp
  refine (wbyte_any v (l) s _ (HX.out.2.1.keep (S := fun _ => False) ((Kept.refl _ w0).drew) (fun _ _ h => h)) (by have := HS.out; omega)).mono ?_
  rintro e w1 ⟨v1, rfl, hb, hg⟩
  have HB1 := Lib.hid hb
  have HG1 := Lib.hid hg
  have HO1 : Hid (∀ j, own v1 j → ¬ j = B) := hg.off (fun j hj e => absurd (HX.out.2.2.2.1 j hj) (by omega)) (HX.out.2.2.2.2)
  clear hb hg
  first | show K _ _ | go_wp2_with fail
  refine hK.out _ _ ?_ (fun hHeld1 => ?_)
  · exact ⟨(HG1.out.1.cell (p := ⟨B, 0, none⟩) (cell_lt hHeld.1) (fun e => absurd (HX.out.2.2.2.1 B e) (by omega))).trans hHeld.1, (HG1.out.1.cell (p := ⟨B, 1, none⟩) (cell_lt hHeld.2) (fun e => absurd (HX.out.2.2.2.1 B e) (by omega))).trans hHeld.2⟩
  clear hK K
  try simp only [Act.put, List.getElem_toArray, List.getElem_cons_zero, List.getElem_cons_succ, List.setIfInBounds_toArray, List.set_cons_zero, List.set_cons_succ]
  refine wpAnyH_ready (rs := [6]) (by kernel_rfl) (by simp) ?_
  refine AllReadyH.cons rfl (fun K hK => ?_) AllReadyH.nil
  go_simp
  refine (wplace_any v1 (l ++ numZ s 1) n _ HB1.out (by have h0 := HS.out; have h1 := numZ_len s 1; simp only [List.length_append]; omega)).mono ?_
  rintro e w2 ⟨v2, rfl, hb, hg⟩
  have HB2 := Lib.hid hb
  have HG2 := Lib.hid hg
  have HO2 : Hid (∀ j, own v2 j → ¬ j = B) := hg.off (HO1.out) (Nat.lt_of_lt_of_le HX.out.2.2.2.2 (HG1.out.1.more))
  clear hb hg
  first | show K _ _ | go_wp2_with fail
  refine hK.out _ _ ?_ (fun hHeld2 => ?_)
  · exact ⟨(HG2.out.1.cell (p := ⟨B, 0, none⟩) (cell_lt hHeld1.1) (fun e => HO1.out B e rfl)).trans hHeld1.1, (HG2.out.1.cell (p := ⟨B, 1, none⟩) (cell_lt hHeld1.2) (fun e => HO1.out B e rfl)).trans hHeld1.2⟩
  clear hK K
  try simp only [Act.put, List.getElem_toArray, List.getElem_cons_zero, List.getElem_cons_succ, List.setIfInBounds_toArray, List.set_cons_zero, List.set_cons_succ]
  refine wpAnyH_take (i := 7) (v := ?_) rfl (by kernel_rfl) (by kernel_rfl) (by kernel_rfl) (fun _ _ _ h => h) (Or.inl ⟨by rfl, ?_⟩) (by assumption) ?_
  rotate_left
  · intro w hSw
    (try dsimp only at hSw)
    go_simp
    (try with_reducible rfl)
  try simp only [Act.put, List.getElem_toArray, List.getElem_cons_zero, List.getElem_cons_succ, List.setIfInBounds_toArray, List.set_cons_zero, List.set_cons_succ]
  refine wpAnyH_done (by kernel_rfl) ?_ _
  have RES : Hid (Bs w2 v2 (l ++ expB (s, n)) ∧ Grew w w2 v v2) := by
    have hb := HB2.out
    have hg := (HG1.out.trans HG2.out)
    refine ⟨?_, (HX.out.2.2.1.drew).trans hg.1, fun j hj => ?_⟩
    · show Bs _ _ _
      simp only [expB]
      simpa [List.append_assoc, outN_4] using hb
    · rcases hg.2 j hj with h | h
      · exact .inl h
      · have h1 := HX.out.2.2.2.2
        have h2 : w0.heap.size ≤ j := h
        have h3 := HWB.out
        exact .inr (by omega)
  clear HX HNEW HWB HS HB1 HG1 HO1 HB2 HG2 HO2 hHeld hHeld1 hHeld2
  go_wp2_with fail
  go_ret
  exact ⟨_, rfl, RES.out⟩

set_option maxRecDepth 100000 in
set_option maxHeartbeats 1000000 in
theorem wtype_any (v : Value) (l : List Nat) (s n m : Int) (w : World) (h : Bs w v l)  (small : l.length ≤ 400000) :
    Calls Try.prog 40 #[v, .agg #[.int .i64 s, .int .i64 n, .int .i64 m]] w fun e w' => Wrote w v (l ++ typeB (s, n, m)) e w' := by
  have HX : Hid (RowAt (w.alloc (.cells #[.int .i64 s, .int .i64 n, .int .i64 m] 55)) w.heap.size 55 [.int .i64 s, .int .i64 n, .int .i64 m] ∧ Bs (w.alloc (.cells #[.int .i64 s, .int .i64 n, .int .i64 m] 55)) v l ∧ Kept (own v) w (w.alloc (.cells #[.int .i64 s, .int .i64 n, .int .i64 m] 55)) ∧ (∀ j, own v j → j < w.heap.size) ∧ w.heap.size < (w.alloc (.cells #[.int .i64 s, .int .i64 n, .int .i64 m] 55)).heap.size) := ⟨RowAt.new w _ _, h.fresh _, (Kept.refl _ w).alloc _, h.own_lt, by simp⟩
  have HS := Lib.hid small
  clear h small
  go_enter Try.func40, Try.ntmps40
  go_upto_region 1 with fail
  generalize (w.alloc (.cells #[.int .i64 s, .int .i64 n, .int .i64 m] 55)) = w0 at *
  obtain ⟨B, hB⟩ : ∃ B, B = w.heap.size := ⟨_, rfl⟩
  have HNEW : Hid (∀ j, w.heap.size ≤ j → B ≤ j) := fun j hj => by omega
  rw [← hB] at HX ⊢
  have HWB := Lib.hid hB
  clear hB
  refine wp_region_held_drew (S := fun w' => w'.cell? ⟨B, 0, none⟩ = some (.int .i64 s) ∧ w'.cell? ⟨B, 1, none⟩ = some (.int .i64 n) ∧ w'.cell? ⟨B, 2, none⟩ = some (.int .i64 m)) (by kernel_rfl) ?_ (fun hHeld => ?_)
  · exact ⟨HX.out.1.drew.cell 0, HX.out.1.drew.cell 1, HX.out.1.drew.cell 2⟩
  refine wpAnyH_take (i := 0) (v := ?_) rfl (by kernel_rfl) (by kernel_rfl) (by kernel_rfl) (fun _ _ _ h => h) (Or.inl ⟨by rfl, ?_⟩) (by assumption) ?_
  rotate_left
  · intro w hSw
    (try dsimp only at hSw)
    go_simp
    (try with_reducible rfl)
  try simp only [Act.put, List.getElem_toArray, List.getElem_cons_zero, List.setIfInBounds_toArray, List.set_cons_zero, List.set_cons_succ]
  refine wpAnyH_take (i := 1) (v := ?_) rfl (by kernel_rfl) (by kernel_rfl) (by kernel_rfl) (fun _ _ _ h => h) (Or.inl ⟨by rfl, ?_⟩) (by assumption) ?_
  rotate_left
  · intro w hSw
    (try dsimp only at hSw)
    go_simp
    (try with_reducible rfl)
  try simp only [Act.put, List.getElem_toArray, List.getElem_cons_zero, List.getElem_cons_succ, List.setIfInBounds_toArray, List.set_cons_zero, List.set_cons_succ]
  refine wpAnyH_take (i := 2) (v := ?_) rfl (by kernel_rfl) (by kernel_rfl) (by kernel_rfl) (fun _ _ _ h => h) (Or.inl ⟨by rfl, ?_⟩) (by assumption) ?_
  rotate_left
  · intro w hSw
    (try dsimp only at hSw)
    go_simp
    (try with_reducible rfl)
  try simp only [Act.put, List.getElem_toArray, List.getElem_cons_zero, List.getElem_cons_succ, List.setIfInBounds_toArray, List.set_cons_zero, List.set_cons_succ]
  refine wpAnyH_take (i := 4) (v := ?_) rfl (by kernel_rfl) (by kernel_rfl) (by kernel_rfl) (fun _ _ _ h => h) (Or.inl ⟨by rfl, ?_⟩) (by assumption) ?_
  rotate_left
  · intro w hSw
    (try dsimp only at hSw)
    go_simp
    (try with_reducible rfl)
  try simp only [Act.put, List.getElem_toArray, List.getElem_cons_zero, List.getElem_cons_succ, List.setIfInBounds_toArray, List.set_cons_zero, List.set_cons_succ]
  refine wpAnyH_take (i := 5) (v := ?_) rfl (by kernel_rfl) (by kernel_rfl) (by kernel_rfl) (fun _ _ _ h => h) (Or.inl ⟨by rfl, ?_⟩) (by assumption) ?_
  rotate_left
  · intro w hSw
    (try dsimp only at hSw)
    go_simp
    (try with_reducible rfl)
  try simp only [Act.put, List.getElem_toArray, List.getElem_cons_zero, List.getElem_cons_succ, List.setIfInBounds_toArray, List.set_cons_zero, List.set_cons_succ]
  refine wpAnyH_take (i := 7) (v := ?_) rfl (by kernel_rfl) (by kernel_rfl) (by kernel_rfl) (fun _ _ _ h => h) (Or.inl ⟨by rfl, ?_⟩) (by assumption) ?_
  rotate_left
  · intro w hSw
    (try dsimp only at hSw)
    go_simp
    (try with_reducible rfl)
  try simp only [Act.put, List.getElem_toArray, List.getElem_cons_zero, List.getElem_cons_succ, List.setIfInBounds_toArray, List.set_cons_zero, List.set_cons_succ]
  refine wpAnyH_take (i := 8) (v := ?_) rfl (by kernel_rfl) (by kernel_rfl) (by kernel_rfl) (fun _ _ _ h => h) (Or.inl ⟨by rfl, ?_⟩) (by assumption) ?_
  rotate_left
  · intro w hSw
    (try dsimp only at hSw)
    go_simp
    (try with_reducible rfl)
  try simp only [Act.put, List.getElem_toArray, List.getElem_cons_zero, List.getElem_cons_succ, List.setIfInBounds_toArray, List.set_cons_zero, List.set_cons_succ]
  refine wpAnyH_ready (rs := [3]) (by kernel_rfl) (by simp) ?_
  refine AllReadyH.cons rfl (fun K hK => ?_) AllReadyH.nil
  go_simp
  refine (wplace_any v (l) s _ (HX.out.2.1.keep (S := fun _ => False) ((Kept.refl _ w0).drew) (fun _ _ h => h)) (by have := HS.out; omega)).mono ?_
  rintro e w1 ⟨v1, rfl, hb, hg⟩
  have HB1 := Lib.hid hb
  have HG1 := Lib.hid hg
  have HO1 : Hid (∀ j, own v1 j → ¬ j = B) := hg.off (fun j hj e => absurd (HX.out.2.2.2.1 j hj) (by omega)) (HX.out.2.2.2.2)
  clear hb hg
  first | show K _ _ | go_wp2_with fail
  refine hK.out _ _ ?_ (fun hHeld1 => ?_)
  · exact ⟨(HG1.out.1.cell (p := ⟨B, 0, none⟩) (cell_lt hHeld.1) (fun e => absurd (HX.out.2.2.2.1 B e) (by omega))).trans hHeld.1, (HG1.out.1.cell (p := ⟨B, 1, none⟩) (cell_lt hHeld.2.1) (fun e => absurd (HX.out.2.2.2.1 B e) (by omega))).trans hHeld.2.1, (HG1.out.1.cell (p := ⟨B, 2, none⟩) (cell_lt hHeld.2.2) (fun e => absurd (HX.out.2.2.2.1 B e) (by omega))).trans hHeld.2.2⟩
  clear hK K
  try simp only [Act.put, List.getElem_toArray, List.getElem_cons_zero, List.getElem_cons_succ, List.setIfInBounds_toArray, List.set_cons_zero, List.set_cons_succ]
  refine wpAnyH_ready (rs := [6]) (by kernel_rfl) (by simp) ?_
  refine AllReadyH.cons rfl (fun K hK => ?_) AllReadyH.nil
  go_simp
  refine (wbyte_any v1 (l ++ numZ s 2) n _ HB1.out (by have h0 := HS.out; have h1 := numZ_len s 2; simp only [List.length_append]; omega)).mono ?_
  rintro e w2 ⟨v2, rfl, hb, hg⟩
  have HB2 := Lib.hid hb
  have HG2 := Lib.hid hg
  have HO2 : Hid (∀ j, own v2 j → ¬ j = B) := hg.off (HO1.out) (Nat.lt_of_lt_of_le HX.out.2.2.2.2 (HG1.out.1.more))
  clear hb hg
  first | show K _ _ | go_wp2_with fail
  refine hK.out _ _ ?_ (fun hHeld2 => ?_)
  · exact ⟨(HG2.out.1.cell (p := ⟨B, 0, none⟩) (cell_lt hHeld1.1) (fun e => HO1.out B e rfl)).trans hHeld1.1, (HG2.out.1.cell (p := ⟨B, 1, none⟩) (cell_lt hHeld1.2.1) (fun e => HO1.out B e rfl)).trans hHeld1.2.1, (HG2.out.1.cell (p := ⟨B, 2, none⟩) (cell_lt hHeld1.2.2) (fun e => HO1.out B e rfl)).trans hHeld1.2.2⟩
  clear hK K
  try simp only [Act.put, List.getElem_toArray, List.getElem_cons_zero, List.getElem_cons_succ, List.setIfInBounds_toArray, List.set_cons_zero, List.set_cons_succ]
  refine wpAnyH_ready (rs := [9]) (by kernel_rfl) (by simp) ?_
  refine AllReadyH.cons rfl (fun K hK => ?_) AllReadyH.nil
  go_simp
  refine (wbyte_any v2 (l ++ numZ s 2 ++ numZ n 1) m _ HB2.out (by have h0 := HS.out; have h1 := numZ_len s 2; have h2 := numZ_len n 1; simp only [List.length_append]; omega)).mono ?_
  rintro e w3 ⟨v3, rfl, hb, hg⟩
  have HB3 := Lib.hid hb
  have HG3 := Lib.hid hg
  have HO3 : Hid (∀ j, own v3 j → ¬ j = B) := hg.off (HO2.out) (Nat.lt_of_lt_of_le HX.out.2.2.2.2 (Nat.le_trans HG1.out.1.more HG2.out.1.more))
  clear hb hg
  first | show K _ _ | go_wp2_with fail
  refine hK.out _ _ ?_ (fun hHeld3 => ?_)
  · exact ⟨(HG3.out.1.cell (p := ⟨B, 0, none⟩) (cell_lt hHeld2.1) (fun e => HO2.out B e rfl)).trans hHeld2.1, (HG3.out.1.cell (p := ⟨B, 1, none⟩) (cell_lt hHeld2.2.1) (fun e => HO2.out B e rfl)).trans hHeld2.2.1, (HG3.out.1.cell (p := ⟨B, 2, none⟩) (cell_lt hHeld2.2.2) (fun e => HO2.out B e rfl)).trans hHeld2.2.2⟩
  clear hK K
  try simp only [Act.put, List.getElem_toArray, List.getElem_cons_zero, List.getElem_cons_succ, List.setIfInBounds_toArray, List.set_cons_zero, List.set_cons_succ]
  refine wpAnyH_take (i := 10) (v := ?_) rfl (by kernel_rfl) (by kernel_rfl) (by kernel_rfl) (fun _ _ _ h => h) (Or.inl ⟨by rfl, ?_⟩) (by assumption) ?_
  rotate_left
  · intro w hSw
    (try dsimp only at hSw)
    go_simp
    (try with_reducible rfl)
  try simp only [Act.put, List.getElem_toArray, List.getElem_cons_zero, List.getElem_cons_succ, List.setIfInBounds_toArray, List.set_cons_zero, List.set_cons_succ]
  refine wpAnyH_done (by kernel_rfl) ?_ _
  have RES : Hid (Bs w3 v3 (l ++ typeB (s, n, m)) ∧ Grew w w3 v v3) := by
    have hb := HB3.out
    have hg := ((HG1.out.trans HG2.out).trans HG3.out)
    refine ⟨?_, (HX.out.2.2.1.drew).trans hg.1, fun j hj => ?_⟩
    · show Bs _ _ _
      simp only [typeB]
      simpa [List.append_assoc, outN_4] using hb
    · rcases hg.2 j hj with h | h
      · exact .inl h
      · have h1 := HX.out.2.2.2.2
        have h2 : w0.heap.size ≤ j := h
        have h3 := HWB.out
        exact .inr (by omega)
  clear HX HNEW HWB HS HB1 HG1 HO1 HB2 HG2 HO2 HB3 HG3 HO3 hHeld hHeld1 hHeld2 hHeld3
  go_wp2_with fail
  go_ret
  exact ⟨_, rfl, RES.out⟩

end Go.Proofs.Ythgnklgejlebhaa
