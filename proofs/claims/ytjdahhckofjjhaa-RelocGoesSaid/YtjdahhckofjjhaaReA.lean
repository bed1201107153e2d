/-
  The program's Link (layer 17). Conditions: at most 1000 words, at most 1000 fixes, from and targets at most 1000000 from 0.
-/
import Derived.Test.YtjdahhckofjjhaaRfLk
import Derived.Test.YtjdahhckofjjhaaErr
import Derived.Test.YtjdahhckofjjhaaInsD
import Derived.Test.YtjdahhckofjjhaaInsE
namespace Go.Proofs.Ytjdahhckofjjhaa
open Go.ChangeShapes Go.WideShapes Go.ChangeAt Go.RowKit

abbrev RxT : TypeId := 27
theorem size_rx : (Try.prog.info? RxT).map (·.size) = some 2 := by kernel_rfl
set_option maxHeartbeats 1000000 in
theorem clone_words (v : Value) (code : List Nat) (w : World) (h : ElsAt 1 wordRow w v code) (small : code.length ≤ 100000) :
    Calls Try.prog 10 #[v] w fun e w' => ∃ v', e = .returned v' ∧ SRow WdT 1 w' v' code.length (rows wordRow code) ∧ Below w.heap.size w w' ∧ ∀ j, own v' j → w.heap.size ≤ j := by
  obtain ⟨a, c, rfl, hc1, hc2, hc3⟩ := h.shape
  cases a with
  | none =>
    obtain rfl := hc3 rfl
    have hL : code = [] := List.eq_nil_of_length_eq_zero (by omega)
    subst hL
    have hq := Lib.run_eql_slice_nil (P := Try.prog) w 22 WdT none 0 0 0 0 Try.underlying22
    clear h
    go_enter Try.func10, Try.ntmps10
    go_wp2_with fail
    go_ret
    exact ⟨_, rfl, SRow.nil _ _ _, Below.refl _ _, fun j hj => hj.elim⟩
  | some ad =>
    have hb0 : Below w.heap.size w (w.alloc (.cells #[] WdT)) := (Below.refl _ _).alloc (Nat.le_refl _) _
    obtain ⟨v1, w1, q0, q1, q2, q3⟩ := append_els (T := 22) Try.underlying22 info_wd rfl (by decide) wordRow_len wordRow_one (by decide) (SRow.empty WdT 1 wordRow w) (h.on hb0) (by simp) (by simp; omega)
    rw [List.nil_append] at q1
    have RES : Hid (SRow WdT 1 w1 v1 code.length (rows wordRow code) ∧ Below w.heap.size w w1 ∧ ∀ j, own v1 j → w.heap.size ≤ j) :=
      ⟨q1, q2.1.below hb0 hb0.size fun j _ hj => by have e : j = w.heap.size := hj; omega, fun j hj => by
        rcases q2.2 j hj with e | e
        · have e : j = w.heap.size := e
          omega
        · exact Nat.le_trans hb0.size e⟩
    have hq := Lib.run_eql_slice_nil (P := Try.prog) w 22 WdT (some ad) code.length c 0 0 Try.underlying22
    have HR1 := Lib.hid q0
    generalize code.length = n at *
    clear h q0 q1 q2 q3 hb0
    go_enter Try.func10, Try.ntmps10
    go_wp2_with (at_builtin; refine Lib.wpList_append_run _ rfl _ _ _ _ rfl _ _ rfl rfl _ _ HR1.out ?_)
    go_ret
    exact ⟨_, rfl, RES.out⟩
set_option maxRecDepth 100000 in
set_option maxHeartbeats 2000000 in
theorem steps_any (k : Nat) (tg from_ : Int) (w : World) (hk : k ≤ 1000) (f1 : -1000000 ≤ from_) (f2 : from_ ≤ 1000000) (t1 : -1000000 ≤ tg) (t2 : tg ≤ 1000000) :
    Calls Try.prog 21 #[.agg #[.int .i64 (k : Nat), .int .i64 tg], .int .i64 from_] w fun e w' => e = .returned (.tuple #[.int .i64 ((tg - from_ - 4 * (k : Int) - 4).tdiv 4), .bool true]) ∧ Below w.heap.size w w' := by
  have HN : Hid ((tg - from_ - ((k : Int) + 1) * 4).tdiv 4 = (tg - from_ - 4 * (k : Int) - 4).tdiv 4) := by
    rw [show tg - from_ - ((k : Int) + 1) * 4 = tg - from_ - 4 * (k : Int) - 4 by omega]
    exact rfl
  have HB : Hid (Below w.heap.size w (w.alloc (.cells #[.int .i64 (k : Nat), .int .i64 tg] RxT))) := (Below.refl _ _).alloc (Nat.le_refl _) _
  have i5 : (k : Int) ≤ 1000 := by omega
  have i4 : (0 : Int) ≤ (k : Int) := by omega
  clear hk
  go_enter Try.func21, Try.ntmps21
  by_cases c1 : tg < from_
  · as_aux_lemma =>
    have c2 : tg - from_ < 0 := by omega
    go_wp2_with fail
    go_ret2
    exact ⟨by rw [← HN.out]; exact rfl, HB.out⟩
  · as_aux_lemma =>
    have c2 : ¬ tg - from_ < 0 := by omega
    go_wp2_with fail
    go_ret2
    exact ⟨by rw [← HN.out]; exact rfl, HB.out⟩
set_option maxRecDepth 100000 in
theorem number_call (k : Nat) (tg from_ : Int) (w : World) (hk : k ≤ 1000) (f1 : -1000000 ≤ from_) (f2 : from_ ≤ 1000000) (t1 : -1000000 ≤ tg) (t2 : tg ≤ 1000000) :
    Calls Try.prog 15 #[.agg #[.int .i64 (k : Nat), .int .i64 tg], .int .i64 20, .int .i64 from_] w fun e w' => e = .returned (.tuple #[.int .i64 ((tg - from_ - 4 * (k : Int) - 4).tdiv 4), .bool true]) ∧ Below w.heap.size w w' := by
  have HS := Lib.hid (fun w => steps_any k tg from_ w hk f1 f2 t1 t2)
  have HF : Hid (RowAt (w.alloc (.cells #[.int .i64 (k : Nat), .int .i64 tg] RxT)) w.heap.size RxT [.int .i64 (k : Nat), .int .i64 tg]) := RowAt.new w RxT _
  have HB : Hid (Below w.heap.size w (w.alloc (.cells #[.int .i64 (k : Nat), .int .i64 tg] RxT))) := (Below.refl _ _).alloc (Nat.le_refl _) _
  generalize (tg - from_ - 4 * (k : Int) - 4).tdiv 4 = N at *
  clear hk f1 f2 t1 t2
  go_enter Try.func15, Try.ntmps15
  go_wp2_with (refine load_row_on rfl _ _ rfl w.heap.size rfl RxT #[.int .i64 (k : Nat), .int .i64 tg] (0, 0) _ HF.out Try.underlying27 rfl (by rw [size_rx]; rfl) ?_)
  refine (HS.out _).mono ?_
  rintro e w1 ⟨rfl, hb1⟩
  have RES := Lib.hid (below_on HB.out hb1 HB.out.size)
  clear hb1
  go_wp2_with fail
  go_ret2
  exact ⟨rfl, RES.out⟩
set_option maxRecDepth 100000 in
theorem number_set (k : Nat) (tg from_ : Int) (w : World) :
    Calls Try.prog 15 #[.agg #[.int .i64 (k : Nat), .int .i64 tg], .int .i64 1, .int .i64 from_] w fun e w' => e = .returned (.tuple #[.int .i64 tg, .bool true]) ∧ Below w.heap.size w w' := by
  have HB : Hid (Below w.heap.size w (w.alloc (.cells #[.int .i64 (k : Nat), .int .i64 tg] RxT))) := (Below.refl _ _).alloc (Nat.le_refl _) _
  go_enter Try.func15, Try.ntmps15
  go_wp2_with fail
  go_ret2
  exact ⟨rfl, HB.out⟩
set_option maxRecDepth 100000 in
theorem number_no (k op : Nat) (tg from_ : Int) (w : World) (h20 : op ≠ 20) (h1 : op ≠ 1) :
    Calls Try.prog 15 #[.agg #[.int .i64 (k : Nat), .int .i64 tg], .int .i64 (op : Nat), .int .i64 from_] w fun e w' => e = .returned (.tuple #[.int .i64 0, .bool false]) ∧ Below w.heap.size w w' := by
  have HB : Hid (Below w.heap.size w (w.alloc (.cells #[.int .i64 (k : Nat), .int .i64 tg] RxT))) := (Below.refl _ _).alloc (Nat.le_refl _) _
  have g20 : ((op : Int) == 20) = false := by simp; omega
  have g1 : ((op : Int) == 1) = false := by simp; omega
  clear h20 h1
  go_enter Try.func15, Try.ntmps15
  go_wp2_with fail
  go_ret2
  exact ⟨rfl, HB.out⟩
theorem number_any (k op : Nat) (tg from_ N : Int) (w : World) (hk : k ≤ 1000) (f1 : -1000000 ≤ from_) (f2 : from_ ≤ 1000000) (t1 : -1000000 ≤ tg) (t2 : tg ≤ 1000000) (h : relN op from_ ((k : Nat) : Int) tg = some N) :
    Calls Try.prog 15 #[.agg #[.int .i64 (k : Nat), .int .i64 tg], .int .i64 (op : Nat), .int .i64 from_] w fun e w' => e = .returned (.tuple #[.int .i64 N, .bool true]) ∧ Below w.heap.size w w' := by
  unfold relN at h
  split at h
  · rename_i e
    subst e
    cases h
    exact number_call k tg from_ w hk f1 f2 t1 t2
  · split at h
    · rename_i e
      subst e
      cases h
      exact number_set k tg from_ w
    · cases h
theorem number_none (k op : Nat) (tg from_ : Int) (w : World) (h : relN op from_ ((k : Nat) : Int) tg = none) :
    Calls Try.prog 15 #[.agg #[.int .i64 (k : Nat), .int .i64 tg], .int .i64 (op : Nat), .int .i64 from_] w fun e w' => e = .returned (.tuple #[.int .i64 0, .bool false]) ∧ Below w.heap.size w w' := by
  unfold relN at h
  split at h
  · cases h
  · rename_i h20
    split at h
    · cases h
    · rename_i h1
      exact number_no k op tg from_ w h20 h1
/- the N that is to be told of an instruction, if there is one -/
open Classical in
noncomputable def fixN (from_ : Int) (k : Nat) (tg : Int) (x : Nat) : Option Int :=
  if InsP x then (relN (getN x 26 6) from_ ((k : Nat) : Int) tg).bind fun n => if MayP (getN x 26 6 : Nat) (getN x 22 4 : Nat) (getN x 18 4 : Nat) n then some n else none else none
theorem fixN_none {from_ tg : Int} {code : List Nat} {l : List (Int × Int)} {k x : Nat} (hx : code[k]? = some x) (h : fixN from_ k tg x = none) : linkV from_ code (((k : Nat), tg) :: l) = none := by
  unfold fixN at h
  by_cases hi : InsP x
  · rw [if_pos hi] at h
    cases hr : relN (getN x 26 6) from_ ((k : Nat) : Int) tg with
    | none =>
      refine link_other hx hi (fun e => ?_) (fun e => ?_)
      · rw [relN, if_pos e] at hr
        cases hr
      · rw [relN, if_neg (by omega), if_pos e] at hr
        cases hr
    | some n =>
      rw [hr] at h
      refine link_wide hx hi hr (fun hm => ?_)
      rw [Option.bind_some, if_pos hm] at h
      cases h
  · exact link_bad hx hi
theorem fixN_some {from_ tg N : Int} {code : List Nat} {l : List (Int × Int)} {k x : Nat} (hx : code[k]? = some x) (h : fixN from_ k tg x = some N) : linkV from_ code (((k : Nat), tg) :: l) = linkV from_ (code.set k (newW x N)) l := by
  unfold fixN at h
  by_cases hi : InsP x
  · rw [if_pos hi] at h
    cases hr : relN (getN x 26 6) from_ ((k : Nat) : Int) tg with
    | none =>
      rw [hr] at h
      cases h
    | some n =>
      rw [hr, Option.bind_some] at h
      split at h
      · rename_i hm
        cases h
        exact link_on hx hi hr hm
      · cases h
  · rw [if_neg hi] at h
    cases h
set_option maxRecDepth 100000 in
set_option maxHeartbeats 4000000 in
theorem fixed_none (k x : Nat) (tg from_ : Int) (w : World) (hk : k ≤ 1000) (f1 : -1000000 ≤ from_) (f2 : from_ ≤ 1000000) (t1 : -1000000 ≤ tg) (t2 : tg ≤ 1000000) (hx : x < 4294967296) (h : fixN from_ k tg x = none) :
    Calls Try.prog 11 #[.agg #[.int .i64 (k : Nat), .int .i64 tg], .int .u32 (x : Nat), .int .i64 from_] w fun e w' => e = .returned (.tuple #[.int .u32 0, .bool false]) ∧ Below w.heap.size w w' := by
  have HF : Hid (RowAt (w.alloc (.cells #[.int .i64 (k : Nat), .int .i64 tg] RxT)) w.heap.size RxT [.int .i64 (k : Nat), .int .i64 tg]) := RowAt.new w RxT _
  obtain ⟨B, hB⟩ : ∃ B, B = w.heap.size := ⟨_, rfl⟩
  rw [← hB]
  have HBT : Hid (B ≤ w.heap.size) := Nat.le_of_eq hB
  have HB : Hid (Below B w (w.alloc (.cells #[.int .i64 (k : Nat), .int .i64 tg] RxT))) := by rw [hB]; exact (Below.refl _ _).alloc (Nat.le_refl _) _
  clear hB
  by_cases hix : InsP x
  rotate_left
  · as_aux_lemma =>
    have HG := Lib.hid (fun w => insGet_no x w hx hix)
    clear h hix hx hk f1 f2 t1 t2 HF
    go_enter Try.func11, Try.ntmps11
    go_wp2_with fail
    refine (HG.out _).mono ?_
    rintro e w1 ⟨rfl, hb1⟩
    have RUN := Lib.hid (box_ins17 w1 0 0 0 0)
    have RES : Hid (Below B w (w1.alloc (.cells #[.int .i64 0, .int .i64 0, .int .i64 0, .int .i64 0] IsT))) := by
      have h1 := below_on HB.out hb1 (Nat.le_trans HBT.out HB.out.size)
      exact below_on h1 ((Below.refl _ _).alloc (Nat.le_refl _) _) (Nat.le_trans HBT.out h1.size)
    clear hb1
    go_wp2_with (refine wpList_store_run _ rfl _ _ _ rfl _ _ rfl rfl (by exact RUN.out) ?_)
    go_ret2
    exact ⟨rfl, RES.out⟩
  have HG := Lib.hid (fun w => insGet_yes x w hx hix)
  unfold fixN at h
  rw [if_pos hix] at h
  cases hr : relN (getN x 26 6) from_ ((k : Nat) : Int) tg with
  | none =>
    have HNB := Lib.hid (fun w => number_none k (getN x 26 6) tg from_ w hr)
    clear h hr hix hx hk f1 f2 t1 t2
    go_enter Try.func11, Try.ntmps11
    generalize ((getN x 26 6 : Nat) : Int) = po at *
    generalize ((getN x 22 4 : Nat) : Int) = pa at *
    generalize ((getN x 18 4 : Nat) : Int) = pb at *
    generalize signI (getN x 0 18) 18 = pn at *
    go_wp2_with fail
    generalize w.alloc (.cells #[.int .i64 (k : Nat), .int .i64 tg] RxT) = w0 at HF HB ⊢
    generalize w.heap.size = tb at HF ⊢
    refine (HG.out _).mono ?_
    rintro e w1 ⟨rfl, hb1⟩
    have RUN := Lib.hid (box_ins17 w1 po pa pb pn)
    have hbel : Below w1.heap.size w1 (w1.alloc (.cells #[.int .i64 po, .int .i64 pa, .int .i64 pb, .int .i64 pn] IsT)) := (Below.refl _ _).alloc (Nat.le_refl _) _
    have HI : Hid (RowAt (w1.alloc (.cells #[.int .i64 po, .int .i64 pa, .int .i64 pb, .int .i64 pn] IsT)) w1.heap.size IsT [.int .i64 po, .int .i64 pa, .int .i64 pb, .int .i64 pn]) := RowAt.new w1 IsT _
    have HF2 := Lib.hid ((HF.out.keep (Kept.of_below (S := fun _ => False) hb1) (fun e => e)).keep (Kept.of_below (S := fun _ => False) hbel) (fun e => e))
    have HB1 := Lib.hid (below_on HB.out hb1 (Nat.le_trans HBT.out HB.out.size))
    have HB2 := Lib.hid (below_on HB1.out hbel (Nat.le_trans HBT.out HB1.out.size))
    have HIW : Hid (B ≤ w1.heap.size) := Nat.le_trans HBT.out HB1.out.size
    clear hb1 hbel HF HB HB1
    go_upto_region 2 with (refine wpList_store_run _ rfl _ _ _ rfl _ _ rfl rfl (by exact RUN.out) ?_)
    clear RUN
    generalize w1.alloc (.cells #[.int .i64 po, .int .i64 pa, .int .i64 pb, .int .i64 pn] IsT) = w2 at *
    generalize w1.heap.size = ib at *
    go_wp2_with (refine load_row_on rfl _ _ rfl tb rfl RxT #[.int .i64 (k : Nat), .int .i64 tg] (0, 0) _ HF2.out Try.underlying27 rfl (by rw [size_rx]; rfl) ?_; have d0 : w2.cell? ⟨ib, 0, none⟩ = some (.int .i64 po) := HI.out.cell 0)
    refine (HNB.out _).mono ?_
    rintro e w3 ⟨rfl, hb3⟩
    have HI3 := Lib.hid (HI.out.keep (Kept.of_below (S := fun _ => False) hb3) (fun e => e))
    have HB3 := Lib.hid (below_on HB2.out hb3 (Nat.le_trans HBT.out HB2.out.size))
    have e3 : w3.frozen? ⟨ib, 3, none⟩ = false := HI3.out.free 3
    have c3 : w3.cell? ⟨ib, 3, none⟩ = some (.int .i64 pn) := HI3.out.cell 3
    clear hb3 d0 HI HF2 HB2
    have HB4 : Hid (∀ u, Below B w (w3.setCell ⟨ib, 3, none⟩ u)) := fun u => (kept_set w3 ib 3 u).below HB3.out (Nat.le_trans HBT.out HB3.out.size) fun i _ e => by subst e; exact HIW.out
    have HI4 : Hid (∀ u, RowAt (w3.setCell ⟨ib, 3, none⟩ u) ib IsT [.int .i64 po, .int .i64 pa, .int .i64 pb, u]) := fun u => HI3.out.setCell 3 u
    go_wp2_with fail
    go_ret2
    exact ⟨rfl, HB4.out _⟩
  | some N =>
    rw [hr, Option.bind_some] at h
    have hmn : ¬ MayP (getN x 26 6 : Nat) (getN x 22 4 : Nat) (getN x 18 4 : Nat) N := fun hm => by
      rw [if_pos hm] at h
      cases h
    as_aux_lemma =>
    have HNB := Lib.hid (fun w => number_any k (getN x 26 6) tg from_ N w hk f1 f2 t1 t2 hr)
    have HPB := Lib.hid (fun w => insPut_no (getN x 26 6 : Nat) (getN x 22 4 : Nat) (getN x 18 4 : Nat) N w hmn)
    clear h hr hix hmn hx hk f1 f2 t1 t2
    go_enter Try.func11, Try.ntmps11
    generalize ((getN x 26 6 : Nat) : Int) = po at *
    generalize ((getN x 22 4 : Nat) : Int) = pa at *
    generalize ((getN x 18 4 : Nat) : Int) = pb at *
    generalize signI (getN x 0 18) 18 = pn at *
    go_wp2_with fail
    generalize w.alloc (.cells #[.int .i64 (k : Nat), .int .i64 tg] RxT) = w0 at HF HB ⊢
    generalize w.heap.size = tb at HF ⊢
    refine (HG.out _).mono ?_
    rintro e w1 ⟨rfl, hb1⟩
    have RUN := Lib.hid (box_ins17 w1 po pa pb pn)
    have hbel : Below w1.heap.size w1 (w1.alloc (.cells #[.int .i64 po, .int .i64 pa, .int .i64 pb, .int .i64 pn] IsT)) := (Below.refl _ _).alloc (Nat.le_refl _) _
    have HI : Hid (RowAt (w1.alloc (.cells #[.int .i64 po, .int .i64 pa, .int .i64 pb, .int .i64 pn] IsT)) w1.heap.size IsT [.int .i64 po, .int .i64 pa, .int .i64 pb, .int .i64 pn]) := RowAt.new w1 IsT _
    have HF2 := Lib.hid ((HF.out.keep (Kept.of_below (S := fun _ => False) hb1) (fun e => e)).keep (Kept.of_below (S := fun _ => False) hbel) (fun e => e))
    have HB1 := Lib.hid (below_on HB.out hb1 (Nat.le_trans HBT.out HB.out.size))
    have HB2 := Lib.hid (below_on HB1.out hbel (Nat.le_trans HBT.out HB1.out.size))
    have HIW : Hid (B ≤ w1.heap.size) := Nat.le_trans HBT.out HB1.out.size
    clear hb1 hbel HF HB HB1
    go_upto_region 2 with (refine wpList_store_run _ rfl _ _ _ rfl _ _ rfl rfl (by exact RUN.out) ?_)
    clear RUN
    generalize w1.alloc (.cells #[.int .i64 po, .int .i64 pa, .int .i64 pb, .int .i64 pn] IsT) = w2 at *
    generalize w1.heap.size = ib at *
    go_wp2_with (refine load_row_on rfl _ _ rfl tb rfl RxT #[.int .i64 (k : Nat), .int .i64 tg] (0, 0) _ HF2.out Try.underlying27 rfl (by rw [size_rx]; rfl) ?_; have d0 : w2.cell? ⟨ib, 0, none⟩ = some (.int .i64 po) := HI.out.cell 0)
    refine (HNB.out _).mono ?_
    rintro e w3 ⟨rfl, hb3⟩
    have HI3 := Lib.hid (HI.out.keep (Kept.of_below (S := fun _ => False) hb3) (fun e => e))
    have HB3 := Lib.hid (below_on HB2.out hb3 (Nat.le_trans HBT.out HB2.out.size))
    have e3 : w3.frozen? ⟨ib, 3, none⟩ = false := HI3.out.free 3
    have c3 : w3.cell? ⟨ib, 3, none⟩ = some (.int .i64 pn) := HI3.out.cell 3
    clear hb3 d0 HI HF2 HB2
    have HB4 : Hid (∀ u, Below B w (w3.setCell ⟨ib, 3, none⟩ u)) := fun u => (kept_set w3 ib 3 u).below HB3.out (Nat.le_trans HBT.out HB3.out.size) fun i _ e => by subst e; exact HIW.out
    have HI4 : Hid (∀ u, RowAt (w3.setCell ⟨ib, 3, none⟩ u) ib IsT [.int .i64 po, .int .i64 pa, .int .i64 pb, u]) := fun u => HI3.out.setCell 3 u
    have d0 : (w3.setCell ⟨ib, 3, none⟩ (.int .i64 N)).cell? ⟨ib, 0, none⟩ = some (.int .i64 po) := (HI4.out _).cell 0
    have d1 : (w3.setCell ⟨ib, 3, none⟩ (.int .i64 N)).cell? ⟨ib, 1, none⟩ = some (.int .i64 pa) := (HI4.out _).cell 1
    have d2 : (w3.setCell ⟨ib, 3, none⟩ (.int .i64 N)).cell? ⟨ib, 2, none⟩ = some (.int .i64 pb) := (HI4.out _).cell 2
    have d3 : (w3.setCell ⟨ib, 3, none⟩ (.int .i64 N)).cell? ⟨ib, 3, none⟩ = some (.int .i64 N) := (HI4.out _).cell 3
    have HB5 := Lib.hid (HB4.out (.int .i64 N))
    clear HI4 HB4 HI3 HB3
    go_upto_region 5 with fail
    generalize w3.setCell ⟨ib, 3, none⟩ (.int .i64 N) = w4 at *
    go_wp2_with fail
    refine (HPB.out _).mono ?_
    rintro e w5 ⟨rfl, hb5⟩
    have RES := Lib.hid (below_on HB5.out hb5 (Nat.le_trans HBT.out HB5.out.size))
    clear hb5 d0 d1 d2 d3
    go_wp2_with fail
    go_region
    go_wp2_with fail
    go_ret2
    exact ⟨rfl, (below_on RES.out ((Drawn.of_n w5 1).below _) (Nat.le_trans HBT.out RES.out.size))⟩
set_option maxRecDepth 100000 in
set_option maxHeartbeats 4000000 in
theorem fixed_some (k x : Nat) (tg from_ N : Int) (w : World) (hk : k ≤ 1000) (f1 : -1000000 ≤ from_) (f2 : from_ ≤ 1000000) (t1 : -1000000 ≤ tg) (t2 : tg ≤ 1000000) (hx : x < 4294967296) (h : fixN from_ k tg x = some N) :
    Calls Try.prog 11 #[.agg #[.int .i64 (k : Nat), .int .i64 tg], .int .u32 (x : Nat), .int .i64 from_] w fun e w' => e = .returned (.tuple #[.int .u32 (newW x N : Nat), .bool true]) ∧ Below w.heap.size w w' := by
  have HF : Hid (RowAt (w.alloc (.cells #[.int .i64 (k : Nat), .int .i64 tg] RxT)) w.heap.size RxT [.int .i64 (k : Nat), .int .i64 tg]) := RowAt.new w RxT _
  obtain ⟨B, hB⟩ : ∃ B, B = w.heap.size := ⟨_, rfl⟩
  rw [← hB]
  have HBT : Hid (B ≤ w.heap.size) := Nat.le_of_eq hB
  have HB : Hid (Below B w (w.alloc (.cells #[.int .i64 (k : Nat), .int .i64 tg] RxT))) := by rw [hB]; exact (Below.refl _ _).alloc (Nat.le_refl _) _
  clear hB
  unfold fixN at h
  by_cases hix : InsP x
  rotate_left
  · rw [if_neg hix] at h
    cases h
  rw [if_pos hix] at h
  obtain ⟨N', hr⟩ : ∃ N', relN (getN x 26 6) from_ ((k : Nat) : Int) tg = some N' := by
    cases hr : relN (getN x 26 6) from_ ((k : Nat) : Int) tg with
    | none =>
      rw [hr] at h
      cases h
    | some n => exact ⟨n, rfl⟩
  rw [hr, Option.bind_some] at h
  split at h
  rotate_left
  · cases h
  rename_i hmn
  cases h
  have HG := Lib.hid (fun w => insGet_yes x w hx hix)
  have HNB := Lib.hid (fun w => number_any k (getN x 26 6) tg from_ N w hk f1 f2 t1 t2 hr)
  have HPB := Lib.hid (fun w => insPut_yes (getN x 26 6) (getN x 22 4) (getN x 18 4) N w hmn)
  have HNW : Hid (insN (getN x 26 6) (getN x 22 4) (getN x 18 4) (lowN N) = newW x N) := rfl
  rw [HNW.out] at HPB
  clear hr hix hmn hx hk f1 f2 t1 t2 HNW
  generalize newW x N = y at *
  go_enter Try.func11, Try.ntmps11
  generalize ((getN x 26 6 : Nat) : Int) = po at *
  generalize ((getN x 22 4 : Nat) : Int) = pa at *
  generalize ((getN x 18 4 : Nat) : Int) = pb at *
  generalize signI (getN x 0 18) 18 = pn at *
  go_wp2_with fail
  generalize w.alloc (.cells #[.int .i64 (k : Nat), .int .i64 tg] RxT) = w0 at HF HB ⊢
  generalize w.heap.size = tb at HF ⊢
  refine (HG.out _).mono ?_
  rintro e w1 ⟨rfl, hb1⟩
  have RUN := Lib.hid (box_ins17 w1 po pa pb pn)
  have hbel : Below w1.heap.size w1 (w1.alloc (.cells #[.int .i64 po, .int .i64 pa, .int .i64 pb, .int .i64 pn] IsT)) := (Below.refl _ _).alloc (Nat.le_refl _) _
  have HI : Hid (RowAt (w1.alloc (.cells #[.int .i64 po, .int .i64 pa, .int .i64 pb, .int .i64 pn] IsT)) w1.heap.size IsT [.int .i64 po, .int .i64 pa, .int .i64 pb, .int .i64 pn]) := RowAt.new w1 IsT _
  have HF2 := Lib.hid ((HF.out.keep (Kept.of_below (S := fun _ => False) hb1) (fun e => e)).keep (Kept.of_below (S := fun _ => False) hbel) (fun e => e))
  have HB1 := Lib.hid (below_on HB.out hb1 (Nat.le_trans HBT.out HB.out.size))
  have HB2 := Lib.hid (below_on HB1.out hbel (Nat.le_trans HBT.out HB1.out.size))
  have HIW : Hid (B ≤ w1.heap.size) := Nat.le_trans HBT.out HB1.out.size
  clear hb1 hbel HF HB HB1
  go_upto_region 2 with (refine wpList_store_run _ rfl _ _ _ rfl _ _ rfl rfl (by exact RUN.out) ?_)
  clear RUN
  generalize w1.alloc (.cells #[.int .i64 po, .int .i64 pa, .int .i64 pb, .int .i64 pn] IsT) = w2 at *
  generalize w1.heap.size = ib at *
  go_wp2_with (refine load_row_on rfl _ _ rfl tb rfl RxT #[.int .i64 (k : Nat), .int .i64 tg] (0, 0) _ HF2.out Try.underlying27 rfl (by rw [size_rx]; rfl) ?_; have d0 : w2.cell? ⟨ib, 0, none⟩ = some (.int .i64 po) := HI.out.cell 0)
  refine (HNB.out _).mono ?_
  rintro e w3 ⟨rfl, hb3⟩
  have HI3 := Lib.hid (HI.out.keep (Kept.of_below (S := fun _ => False) hb3) (fun e => e))
  have HB3 := Lib.hid (below_on HB2.out hb3 (Nat.le_trans HBT.out HB2.out.size))
  have e3 : w3.frozen? ⟨ib, 3, none⟩ = false := HI3.out.free 3
  have c3 : w3.cell? ⟨ib, 3, none⟩ = some (.int .i64 pn) := HI3.out.cell 3
  clear hb3 d0 HI HF2 HB2
  have HB4 : Hid (∀ u, Below B w (w3.setCell ⟨ib, 3, none⟩ u)) := fun u => (kept_set w3 ib 3 u).below HB3.out (Nat.le_trans HBT.out HB3.out.size) fun i _ e => by subst e; exact HIW.out
  have HI4 : Hid (∀ u, RowAt (w3.setCell ⟨ib, 3, none⟩ u) ib IsT [.int .i64 po, .int .i64 pa, .int .i64 pb, u]) := fun u => HI3.out.setCell 3 u
  have d0 : (w3.setCell ⟨ib, 3, none⟩ (.int .i64 N)).cell? ⟨ib, 0, none⟩ = some (.int .i64 po) := (HI4.out _).cell 0
  have d1 : (w3.setCell ⟨ib, 3, none⟩ (.int .i64 N)).cell? ⟨ib, 1, none⟩ = some (.int .i64 pa) := (HI4.out _).cell 1
  have d2 : (w3.setCell ⟨ib, 3, none⟩ (.int .i64 N)).cell? ⟨ib, 2, none⟩ = some (.int .i64 pb) := (HI4.out _).cell 2
  have d3 : (w3.setCell ⟨ib, 3, none⟩ (.int .i64 N)).cell? ⟨ib, 3, none⟩ = some (.int .i64 N) := (HI4.out _).cell 3
  have HB5 := Lib.hid (HB4.out (.int .i64 N))
  clear HI4 HB4 HI3 HB3
  go_upto_region 5 with fail
  generalize w3.setCell ⟨ib, 3, none⟩ (.int .i64 N) = w4 at *
  go_wp2_with fail
  refine (HPB.out _).mono ?_
  rintro e w5 ⟨rfl, hb5⟩
  have RES := Lib.hid (below_on HB5.out hb5 (Nat.le_trans HBT.out HB5.out.size))
  clear hb5 d0 d1 d2 d3
  go_wp2_with fail
  go_region
  go_wp2_with fail
  go_ret2
  exact ⟨rfl, (below_on RES.out ((Drawn.of_n w5 1).below _) (Nat.le_trans HBT.out RES.out.size))⟩
set_option maxRecDepth 100000 in
set_option maxHeartbeats 8000000 in
theorem plink_any (v u : Value) (code : List Nat) (from_ : Int) (fixes : List (Int × Int)) (w : World) (h : ElsAt 1 wordRow w v code) (hf : ∀ x ∈ code, x < 4294967296) (g : ElsAt 2 fixRow w u fixes) (hn : code.length ≤ 1000) (hm : fixes.length ≤ 1000) (f1 : -1000000 ≤ from_) (f2 : from_ ≤ 1000000) (ht : ∀ (i : Nat) (x : Int × Int), fixes[i]? = some x → -1000000 ≤ x.2 ∧ x.2 ≤ 1000000) :
    Calls Try.prog 6 #[v, .int .i64 from_, u] w fun e w' => LinkTold .nilIface formV w (linkV from_ code fixes) e w' := by
  have HC := Lib.hid g
  have HT := Lib.hid ht
  have HCL := Lib.hid (clone_words v code w h (by omega))
  have HFIT := Lib.hid hf
  have HFR : Hid (-1000000 ≤ from_ ∧ from_ ≤ 1000000) := ⟨f1, f2⟩
  obtain ⟨n, hnn⟩ : ∃ n, n = code.length := ⟨_, rfl⟩
  have HN := Lib.hid hnn
  obtain ⟨a2, c2, hv2, _⟩ := g.shape
  obtain ⟨nl, hnl⟩ : ∃ nl, nl = fixes.length := ⟨_, rfl⟩
  rw [← hnl] at hv2 hm
  have HNL := Lib.hid hnl
  subst hv2
  obtain ⟨ans, hans⟩ : ∃ ans, ans = linkV from_ code fixes := ⟨_, rfl⟩
  have HG0 : Hid (linkV from_ code (fixes.drop 0) = ans) := hans.symm
  rw [← hans]
  have n1000 : n ≤ 1000 := by omega
  clear h hf g ht hnn hnl hans hn f1 f2
  go_enter Try.func6, Try.ntmps6
  go_wp2_with fail
  refine HCL.out.mono ?_
  rintro e w1 ⟨v1, rfl, hs1, hb1, hw1⟩
  rcases hs1.is with ⟨rfl, h0⟩ | ⟨b, cap, rest, rfl, hr, -⟩
  · as_aux_lemma =>
    have hcode : code = [] := List.eq_nil_of_length_eq_zero h0
    have HCD : Hid (code = []) := hcode
    have HB1 := Lib.hid hb1
    clear hs1 hb1 hw1 hcode h0 HCL HFIT HN HT n1000 HFR
    go_wp2_with fail
    go_loopw [17] (fun i wr => ∃ j : Nat, j = 0 ∧ i = .int .i64 (j : Nat) ∧ Below w.heap.size w wr) (fun i _ => nl - (intOf i).toNat)
    case atStart => exact ⟨0, rfl, rfl, HB1.out⟩
    case round =>
      clear HB1
      obtain ⟨j, hj, rfl, hBR⟩ := hrel
      have HJ0 : Hid (j = 0) := hj
      have HBR := Lib.hid hBR
      clear hBR hj
      by_cases hlt : j < nl
      · obtain ⟨f, hx⟩ : ∃ f, fixes[j]? = some f := ⟨_, List.getElem?_eq_getElem (by have := HNL.out; omega)⟩
        have HD' : fixes = f :: fixes.drop 1 := by
          have hl := (List.getElem?_eq_some_iff.1 hx).1
          have := List.drop_eq_getElem_cons hl
          rw [(List.getElem?_eq_some_iff.1 hx).2, HJ0.out] at this
          exact this
        obtain ⟨at_, tg⟩ := f
        obtain ⟨bf, off, cap3, e0, hb, p0, p1⟩ := HC.out.cell2 hx (c0 := .int .i64 at_) (c1 := .int .i64 tg) rfl
        rw [← HNL.out] at e0
        have ea : a2 = some ⟨bf, off, none⟩ := by cases e0; rfl
        subst ea
        have u0 := (HBR.out.cell (p := ⟨bf, off + j * 2, none⟩) hb).trans p0
        have u1 := (HBR.out.cell (p := ⟨bf, off + j * 2 + 1, none⟩) hb).trans p1
        have i1 : (j : Int) < (nl : Int) := by omega
        have i2 : (0 : Int) ≤ (j : Int) := by omega
        have RES : Hid (ans = none) := by
          have := HG0.out.symm
          rw [List.drop_zero, HCD.out, HD'] at this
          exact this.trans (link_out (by simp only [List.length_nil]; omega))
        have RUN := Lib.hid (box_el wr RxT 2 [.int .i64 0, .int .i64 0] [.int .i64 at_, .int .i64 tg] rfl rfl (fixRow_one (at_, tg)) size_rx)
        have hbel : Below wr.heap.size wr (wr.alloc (.cells #[.int .i64 at_, .int .i64 tg] RxT)) := (Below.refl _ _).alloc (Nat.le_refl _) _
        have HB2 := Lib.hid (below_on HBR.out hbel HBR.out.size)
        have HF1 : Hid (RowAt (wr.alloc (.cells #[.int .i64 at_, .int .i64 tg] RxT)) wr.heap.size RxT [.int .i64 at_, .int .i64 tg]) := RowAt.new wr RxT _
        clear e0 hb p0 p1 hx hlt HD' hbel HBR
        go_upto_region 5 with (refine wpList_store_run _ rfl _ _ _ rfl _ _ rfl rfl (by exact RUN.out) ?_)
        generalize wr.alloc (.cells #[.int .i64 at_, .int .i64 tg] RxT) = w2 at *
        generalize wr.heap.size = tb at *
        clear u0 u1 RUN
        have d0 : w2.cell? ⟨tb, 0, none⟩ = some (.int .i64 at_) := HF1.out.cell 0
        by_cases hlo : at_ < 0
        · as_aux_lemma =>
          go_wp2_with fail
          go_ret2
          exact LinkTold.no HB2.out RES.out
        as_aux_lemma =>
        have hhi' : decide ((0 : Int) ≤ at_) = true := by simpa using hlo
        go_wp2_with fail
        go_ret2
        exact LinkTold.no HB2.out RES.out
      · as_aux_lemma =>
        have i1 : ¬ (j : Int) < (nl : Int) := by omega
        have RES : Hid (ans = some []) := by
          have := HG0.out.symm
          rw [List.drop_of_length_le (by have := HNL.out; have := HJ0.out; omega), HCD.out] at this
          exact this
        clear hlt
        go_wp2_with fail
        go_ret2
        have hn0 : ElsAt 1 wordRow wr (.slice none 0 0) [] := (SRow.nil WdT 1 wr : SRow WdT 1 wr (.slice none 0 0) ([] : List Nat).length (rows wordRow ([] : List Nat))).els wordRow_len
        exact RES.out ▸ ⟨⟨_, rfl, hn0, fun x hx => by cases hx⟩, HBR.out⟩
  rw [← HN.out] at hs1 hw1 ⊢
  have HLK0 : Hid (Lk w w1 b cap n code) := ⟨hs1, HN.out.symm, HFIT.out, hw1 b rfl, hb1⟩
  clear hs1 hb1 hw1 hr HCL HFIT HN
  go_wp2_with fail
  go_loopw [17] (fun i wr => ∃ (j : Nat) (cur : List Nat), j ≤ nl ∧ i = .int .i64 (j : Nat) ∧ Lk w wr b cap n cur ∧ linkV from_ cur (fixes.drop j) = ans) (fun i _ => nl - (intOf i).toNat)
  case atStart => exact ⟨0, code, Nat.zero_le _, rfl, HLK0.out, HG0.out⟩
  case round =>
    clear HLK0 HG0
    obtain ⟨j, cur, hj, rfl, hLK, hG⟩ := hrel
    have HLKR := Lib.hid hLK
    have HGR := Lib.hid hG
    clear hLK hG
    by_cases hlt : j < nl
    · obtain ⟨f, hx⟩ : ∃ f, fixes[j]? = some f := ⟨_, List.getElem?_eq_getElem (by have := HNL.out; omega)⟩
      have HD' : fixes.drop j = f :: fixes.drop (j + 1) := by
        have hl := (List.getElem?_eq_some_iff.1 hx).1
        have := List.drop_eq_getElem_cons hl
        rw [(List.getElem?_eq_some_iff.1 hx).2] at this
        exact this
      have htg := HT.out j f hx
      obtain ⟨at_, tg⟩ := f
      obtain ⟨bf, off, cap3, e0, hb, p0, p1⟩ := HC.out.cell2 hx (c0 := .int .i64 at_) (c1 := .int .i64 tg) rfl
      rw [← HNL.out] at e0
      have ea : a2 = some ⟨bf, off, none⟩ := by cases e0; rfl
      subst ea
      have u0 := (HLKR.out.below.cell (p := ⟨bf, off + j * 2, none⟩) hb).trans p0
      have u1 := (HLKR.out.below.cell (p := ⟨bf, off + j * 2 + 1, none⟩) hb).trans p1
      have i1 : (j : Int) < (nl : Int) := by omega
      have i2 : (0 : Int) ≤ (j : Int) := by omega
      have HJ : Hid (j < nl) := hlt
      have HTG : Hid (-1000000 ≤ tg ∧ tg ≤ 1000000) := htg
      have HG : Hid (linkV from_ cur ((at_, tg) :: fixes.drop (j + 1)) = ans) := by rw [← HD']; exact HGR.out
      have RUN := Lib.hid (box_el wr RxT 2 [.int .i64 0, .int .i64 0] [.int .i64 at_, .int .i64 tg] rfl rfl (fixRow_one (at_, tg)) size_rx)
      have hbel : Below wr.heap.size wr (wr.alloc (.cells #[.int .i64 at_, .int .i64 tg] RxT)) := (Below.refl _ _).alloc (Nat.le_refl _) _
      have HLK := Lib.hid (HLKR.out.on hbel)
      have HF1 : Hid (RowAt (wr.alloc (.cells #[.int .i64 at_, .int .i64 tg] RxT)) wr.heap.size RxT [.int .i64 at_, .int .i64 tg]) := RowAt.new wr RxT _
      clear e0 hb p0 p1 hx hlt hj HD' htg hbel HLKR HGR
      go_upto_region 5 with (refine wpList_store_run _ rfl _ _ _ rfl _ _ rfl rfl (by exact RUN.out) ?_)
      generalize wr.alloc (.cells #[.int .i64 at_, .int .i64 tg] RxT) = w2 at *
      generalize wr.heap.size = tb at *
      clear u0 u1 RUN
      have d0 : w2.cell? ⟨tb, 0, none⟩ = some (.int .i64 at_) := HF1.out.cell 0
      by_cases hlo : at_ < 0
      · have RES : Hid (ans = none) := HG.out.symm.trans (link_out (.inl hlo))
        as_aux_lemma =>
        go_wp2_with fail
        go_ret2
        exact LinkTold.no HLK.out.below RES.out
      by_cases hhi : (n : Int) ≤ at_
      · have RES : Hid (ans = none) := HG.out.symm.trans (link_out (.inr (by rw [HLK.out.len]; exact hhi)))
        have hhi' : decide ((n : Int) ≤ at_) = true := by simpa using hhi
        as_aux_lemma =>
        go_wp2_with fail
        go_ret2
        exact LinkTold.no HLK.out.below RES.out
      obtain ⟨k, rfl⟩ := Int.eq_ofNat_of_zero_le (show 0 ≤ at_ by omega)
      have hhi' : decide ((n : Int) ≤ (k : Int)) = false := by simpa using hhi
      have hk : k < n := by omega
      obtain ⟨x, hx⟩ : ∃ x, cur[k]? = some x := ⟨_, List.getElem?_eq_getElem (by have := HLK.out.len; omega)⟩
      have cx := HLK.out.cell hx
      have hx4 : x < 4294967296 := HLK.out.fit x (List.mem_of_getElem? hx)
      have HX := Lib.hid hx
      have HK : Hid (k < n) := hk
      have i3 : (k : Int) < (n : Int) := by omega
      have i4 : (0 : Int) ≤ (k : Int) := by omega
      have HNE : Hid (tb ≠ b) := by
        obtain ⟨rest, hr⟩ := HLK.out.row_at
        show tb ≠ b
        intro e
        subst e
        have := HF1.out.symm.trans hr
        simp at this
        exact absurd this.2 (by decide)
      cases hfn : fixN from_ k tg x with
      | none =>
        as_aux_lemma =>
        have RES : Hid (ans = none) := HG.out.symm.trans (fixN_none hx hfn)
        have HFX := Lib.hid (fun w => fixed_none k x tg from_ w (by omega) HFR.out.1 HFR.out.2 HTG.out.1 HTG.out.2 hx4 hfn)
        clear hx hfn hx4 hk hhi hlo n1000
        go_upto_region 7 with fail
        refine wp_region_held_drew (S := fun w' => (RowAt w' tb RxT [.int .i64 (k : Nat), .int .i64 tg] ∧ w'.cell? ⟨b, k, none⟩ = some (.int .u32 (x : Nat))) ∧ Lk w w' b cap n cur) (by kernel_rfl) ?_ (fun hHeld => ?_)
        · exact ⟨⟨HF1.out.drew, cx⟩, HLK.out.on ((Drawn.of_n w2 1).below _)⟩
        refine wpAnyH_take (i := 0) (v := _) rfl (by kernel_rfl) (by kernel_rfl) (by kernel_rfl) (fun _ _ _ h => h) (yieldsIf_load_mid (by rfl) _ _ rfl _ _ rfl _ _ (fun w hSw => hSw.1.1.rangeC) (Try.underlying27) rfl (by rw [size_rx]; rfl)) (by assumption) ?_
        try simp only [Act.put, List.getElem_toArray, List.getElem_cons_zero, List.setIfInBounds_toArray, List.set_cons_zero, List.set_cons_succ]
        refine wpAnyH_take (i := 1) (v := ?_) rfl (by kernel_rfl) (by kernel_rfl) (by kernel_rfl) (fun _ _ _ h => h) (Or.inl ⟨by rfl, ?_⟩) (by assumption) ?_
        rotate_left
        · intro w hSw
          (try dsimp only at hSw)
          go_simp
          (try with_reducible rfl)
        try simp only [Act.put, List.getElem_toArray, List.getElem_cons_zero, List.getElem_cons_succ, List.setIfInBounds_toArray, List.set_cons_zero, List.set_cons_succ]
        refine wpAnyH_take (i := 2) (v := ?_) rfl (by kernel_rfl) (by kernel_rfl) (by kernel_rfl) (fun _ _ _ h => h) (Or.inl ⟨by rfl, ?_⟩) (by assumption) ?_
        rotate_left
        · intro w hSw
          (try dsimp only at hSw)
          go_simp
          (try with_reducible rfl)
        try simp only [Act.put, List.getElem_toArray, List.getElem_cons_zero, List.getElem_cons_succ, List.setIfInBounds_toArray, List.set_cons_zero, List.set_cons_succ]
        refine wpAnyH_take (i := 3) (v := ?_) rfl (by kernel_rfl) (by kernel_rfl) (by kernel_rfl) (fun _ _ _ h => h) (Or.inl ⟨by rfl, ?_⟩) (by assumption) ?_
        rotate_left
        · intro w hSw
          have e0 := hSw.1.1.cell 0
          (try dsimp only at hSw)
          go_simp
          (try with_reducible rfl)
        try simp only [Act.put, List.getElem_toArray, List.getElem_cons_zero, List.getElem_cons_succ, List.setIfInBounds_toArray, List.set_cons_zero, List.set_cons_succ]
        refine wpAnyH_take (i := 4) (v := ?_) rfl (by kernel_rfl) (by kernel_rfl) (by kernel_rfl) (fun _ _ _ h => h) (Or.inl ⟨by rfl, ?_⟩) (by assumption) ?_
        rotate_left
        · intro w hSw
          (try dsimp only at hSw)
          go_simp
          (try with_reducible rfl)
        try simp only [Act.put, List.getElem_toArray, List.getElem_cons_zero, List.getElem_cons_succ, List.setIfInBounds_toArray, List.set_cons_zero, List.set_cons_succ]
        refine wpAnyH_take (i := 5) (v := ?_) rfl (by kernel_rfl) (by kernel_rfl) (by kernel_rfl) (fun _ _ _ h => h) (Or.inl ⟨by rfl, ?_⟩) (by assumption) ?_
        rotate_left
        · intro w hSw
          have e1 := hSw.1.2
          (try dsimp only at hSw)
          go_simp
          (try with_reducible rfl)
        try simp only [Act.put, List.getElem_toArray, List.getElem_cons_zero, List.getElem_cons_succ, List.setIfInBounds_toArray, List.set_cons_zero, List.set_cons_succ]
        refine wpAnyH_take (i := 6) (v := ?_) rfl (by kernel_rfl) (by kernel_rfl) (by kernel_rfl) (fun _ _ _ h => h) (Or.inl ⟨by rfl, ?_⟩) (by assumption) ?_
        rotate_left
        · intro w hSw
          (try dsimp only at hSw)
          go_simp
          (try with_reducible rfl)
        try simp only [Act.put, List.getElem_toArray, List.getElem_cons_zero, List.getElem_cons_succ, List.setIfInBounds_toArray, List.set_cons_zero, List.set_cons_succ]
        refine wpAnyH_ready (rs := [7]) (by kernel_rfl) (by simp) ?_
        refine AllReadyH.cons rfl (fun K hK => ?_) AllReadyH.nil
        go_simp
        refine (HFX.out _).mono ?_
        rintro e w7 ⟨rfl, hb7⟩
        first | show K _ _ | go_wp2_with fail
        refine hK.out _ _ ?_ (fun hHeld1 => ?_)
        · exact ⟨⟨hHeld.1.1.keep (Kept.of_below (S := fun _ => False) hb7) (fun e => e), (hb7.cell (cell_lt hHeld.1.2)).trans hHeld.1.2⟩, hHeld.2.on hb7⟩
        clear hK K
        try simp only [Act.put, List.getElem_toArray, List.getElem_cons_zero, List.getElem_cons_succ, List.setIfInBounds_toArray, List.set_cons_zero, List.set_cons_succ]
        refine wpAnyH_take (i := 8) (v := ?_) rfl (by kernel_rfl) (by kernel_rfl) (by kernel_rfl) (fun _ _ _ h => h) (Or.inl ⟨by rfl, ?_⟩) (by assumption) ?_
        rotate_left
        · intro w hSw
          (try dsimp only at hSw)
          go_simp
          (try with_reducible rfl)
        try simp only [Act.put, List.getElem_toArray, List.getElem_cons_zero, List.getElem_cons_succ, List.setIfInBounds_toArray, List.set_cons_zero, List.set_cons_succ]
        refine wpAnyH_take (i := 9) (v := ?_) rfl (by kernel_rfl) (by kernel_rfl) (by kernel_rfl) (fun _ _ _ h => h) (Or.inl ⟨by rfl, ?_⟩) (by assumption) ?_
        rotate_left
        · intro w hSw
          (try dsimp only at hSw)
          go_simp
          (try with_reducible rfl)
        try simp only [Act.put, List.getElem_toArray, List.getElem_cons_zero, List.getElem_cons_succ, List.setIfInBounds_toArray, List.set_cons_zero, List.set_cons_succ]
        refine wpAnyH_take (i := 10) (v := ?_) rfl (by kernel_rfl) (by kernel_rfl) (by kernel_rfl) (fun _ _ _ h => h) (Or.inl ⟨by rfl, ?_⟩) (by assumption) ?_
        rotate_left
        · intro w hSw
          (try dsimp only at hSw)
          go_simp
          (try with_reducible rfl)
        try simp only [Act.put, List.getElem_toArray, List.getElem_cons_zero, List.getElem_cons_succ, List.setIfInBounds_toArray, List.set_cons_zero, List.set_cons_succ]
        refine wpAnyH_take (i := 11) (v := ?_) rfl (by kernel_rfl) (by kernel_rfl) (by kernel_rfl) (fun _ _ _ h => h) (Or.inl ⟨by rfl, ?_⟩) (by assumption) ?_
        rotate_left
        · intro w hSw
          (try dsimp only at hSw)
          go_simp
          (try with_reducible rfl)
        try simp only [Act.put, List.getElem_toArray, List.getElem_cons_zero, List.getElem_cons_succ, List.setIfInBounds_toArray, List.set_cons_zero, List.set_cons_succ]
        refine wpAnyH_take (i := 12) (v := ?_) rfl (by kernel_rfl) (by kernel_rfl) (by kernel_rfl) (fun _ _ _ h => h) (Or.inl ⟨by rfl, ?_⟩) (by assumption) ?_
        rotate_left
        · intro w hSw
          (try dsimp only at hSw)
          go_simp
          (try with_reducible rfl)
        try simp only [Act.put, List.getElem_toArray, List.getElem_cons_zero, List.getElem_cons_succ, List.setIfInBounds_toArray, List.set_cons_zero, List.set_cons_succ]
        refine wpAnyH_done (by kernel_rfl) ?_ _
        go_wp2_with fail
        go_ret2
        exact LinkTold.no hHeld1.2.below RES.out
      | some N =>
        have HGN : Hid (linkV from_ (cur.set k (newW x N)) (fixes.drop (j + 1)) = ans) := (fixN_some hx hfn).symm.trans HG.out
        have HFX := Lib.hid (fun w => fixed_some k x tg from_ N w (by omega) HFR.out.1 HFR.out.2 HTG.out.1 HTG.out.2 hx4 hfn)
        have HNL4 := Lib.hid (newW_lt x N)
        clear hx hfn hx4 hk hhi hlo n1000 HG
        generalize newW x N = y at *
        as_aux_lemma =>
        go_upto_region 7 with fail
        refine wp_region_held_drew (S := fun w' => (RowAt w' tb RxT [.int .i64 (k : Nat), .int .i64 tg] ∧ w'.cell? ⟨b, k, none⟩ = some (.int .u32 (x : Nat))) ∧ Lk w w' b cap n cur) (by kernel_rfl) ?_ (fun hHeld => ?_)
        · exact ⟨⟨HF1.out.drew, cx⟩, HLK.out.on ((Drawn.of_n w2 1).below _)⟩
        refine wpAnyH_take (i := 0) (v := _) rfl (by kernel_rfl) (by kernel_rfl) (by kernel_rfl) (fun _ _ _ h => h) (yieldsIf_load_mid (by rfl) _ _ rfl _ _ rfl _ _ (fun w hSw => hSw.1.1.rangeC) (Try.underlying27) rfl (by rw [size_rx]; rfl)) (by assumption) ?_
        try simp only [Act.put, List.getElem_toArray, List.getElem_cons_zero, List.setIfInBounds_toArray, List.set_cons_zero, List.set_cons_succ]
        refine wpAnyH_take (i := 1) (v := ?_) rfl (by kernel_rfl) (by kernel_rfl) (by kernel_rfl) (fun _ _ _ h => h) (Or.inl ⟨by rfl, ?_⟩) (by assumption) ?_
        rotate_left
        · intro w hSw
          (try dsimp only at hSw)
          go_simp
          (try with_reducible rfl)
        try simp only [Act.put, List.getElem_toArray, List.getElem_cons_zero, List.getElem_cons_succ, List.setIfInBounds_toArray, List.set_cons_zero, List.set_cons_succ]
        refine wpAnyH_take (i := 2) (v := ?_) rfl (by kernel_rfl) (by kernel_rfl) (by kernel_rfl) (fun _ _ _ h => h) (Or.inl ⟨by rfl, ?_⟩) (by assumption) ?_
        rotate_left
        · intro w hSw
          (try dsimp only at hSw)
          go_simp
          (try with_reducible rfl)
        try simp only [Act.put, List.getElem_toArray, List.getElem_cons_zero, List.getElem_cons_succ, List.setIfInBounds_toArray, List.set_cons_zero, List.set_cons_succ]
        refine wpAnyH_take (i := 3) (v := ?_) rfl (by kernel_rfl) (by kernel_rfl) (by kernel_rfl) (fun _ _ _ h => h) (Or.inl ⟨by rfl, ?_⟩) (by assumption) ?_
        rotate_left
        · intro w hSw
          have e0 := hSw.1.1.cell 0
          (try dsimp only at hSw)
          go_simp
          (try with_reducible rfl)
        try simp only [Act.put, List.getElem_toArray, List.getElem_cons_zero, List.getElem_cons_succ, List.setIfInBounds_toArray, List.set_cons_zero, List.set_cons_succ]
        refine wpAnyH_take (i := 4) (v := ?_) rfl (by kernel_rfl) (by kernel_rfl) (by kernel_rfl) (fun _ _ _ h => h) (Or.inl ⟨by rfl, ?_⟩) (by assumption) ?_
        rotate_left
        · intro w hSw
          (try dsimp only at hSw)
          go_simp
          (try with_reducible rfl)
        try simp only [Act.put, List.getElem_toArray, List.getElem_cons_zero, List.getElem_cons_succ, List.setIfInBounds_toArray, List.set_cons_zero, List.set_cons_succ]
        refine wpAnyH_take (i := 5) (v := ?_) rfl (by kernel_rfl) (by kernel_rfl) (by kernel_rfl) (fun _ _ _ h => h) (Or.inl ⟨by rfl, ?_⟩) (by assumption) ?_
        rotate_left
        · intro w hSw
          have e1 := hSw.1.2
          (try dsimp only at hSw)
          go_simp
          (try with_reducible rfl)
        try simp only [Act.put, List.getElem_toArray, List.getElem_cons_zero, List.getElem_cons_succ, List.setIfInBounds_toArray, List.set_cons_zero, List.set_cons_succ]
        refine wpAnyH_take (i := 6) (v := ?_) rfl (by kernel_rfl) (by kernel_rfl) (by kernel_rfl) (fun _ _ _ h => h) (Or.inl ⟨by rfl, ?_⟩) (by assumption) ?_
        rotate_left
        · intro w hSw
          (try dsimp only at hSw)
          go_simp
          (try with_reducible rfl)
        try simp only [Act.put, List.getElem_toArray, List.getElem_cons_zero, List.getElem_cons_succ, List.setIfInBounds_toArray, List.set_cons_zero, List.set_cons_succ]
        refine wpAnyH_ready (rs := [7]) (by kernel_rfl) (by simp) ?_
        refine AllReadyH.cons rfl (fun K hK => ?_) AllReadyH.nil
        go_simp
        refine (HFX.out _).mono ?_
        rintro e w7 ⟨rfl, hb7⟩
        first | show K _ _ | go_wp2_with fail
        refine hK.out _ _ ?_ (fun hHeld1 => ?_)
        · exact ⟨⟨hHeld.1.1.keep (Kept.of_below (S := fun _ => False) hb7) (fun e => e), (hb7.cell (cell_lt hHeld.1.2)).trans hHeld.1.2⟩, hHeld.2.on hb7⟩
        clear hK K
        try simp only [Act.put, List.getElem_toArray, List.getElem_cons_zero, List.getElem_cons_succ, List.setIfInBounds_toArray, List.set_cons_zero, List.set_cons_succ]
        refine wpAnyH_take (i := 8) (v := ?_) rfl (by kernel_rfl) (by kernel_rfl) (by kernel_rfl) (fun _ _ _ h => h) (Or.inl ⟨by rfl, ?_⟩) (by assumption) ?_
        rotate_left
        · intro w hSw
          (try dsimp only at hSw)
          go_simp
          (try with_reducible rfl)
        try simp only [Act.put, List.getElem_toArray, List.getElem_cons_zero, List.getElem_cons_succ, List.setIfInBounds_toArray, List.set_cons_zero, List.set_cons_succ]
        refine wpAnyH_take (i := 9) (v := ?_) rfl (by kernel_rfl) (by kernel_rfl) (by kernel_rfl) (fun _ _ _ h => h) (Or.inl ⟨by rfl, ?_⟩) (by assumption) ?_
        rotate_left
        · intro w hSw
          (try dsimp only at hSw)
          go_simp
          (try with_reducible rfl)
        try simp only [Act.put, List.getElem_toArray, List.getElem_cons_zero, List.getElem_cons_succ, List.setIfInBounds_toArray, List.set_cons_zero, List.set_cons_succ]
        refine wpAnyH_take (i := 10) (v := ?_) rfl (by kernel_rfl) (by kernel_rfl) (by kernel_rfl) (fun _ _ _ h => h) (Or.inl ⟨by rfl, ?_⟩) (by assumption) ?_
        rotate_left
        · intro w hSw
          (try dsimp only at hSw)
          go_simp
          (try with_reducible rfl)
        try simp only [Act.put, List.getElem_toArray, List.getElem_cons_zero, List.getElem_cons_succ, List.setIfInBounds_toArray, List.set_cons_zero, List.set_cons_succ]
        refine wpAnyH_take (i := 11) (v := ?_) rfl (by kernel_rfl) (by kernel_rfl) (by kernel_rfl) (fun _ _ _ h => h) (Or.inl ⟨by rfl, ?_⟩) (by assumption) ?_
        rotate_left
        · intro w hSw
          (try dsimp only at hSw)
          go_simp
          (try with_reducible rfl)
        try simp only [Act.put, List.getElem_toArray, List.getElem_cons_zero, List.getElem_cons_succ, List.setIfInBounds_toArray, List.set_cons_zero, List.set_cons_succ]
        refine wpAnyH_take (i := 12) (v := ?_) rfl (by kernel_rfl) (by kernel_rfl) (by kernel_rfl) (fun _ _ _ h => h) (Or.inl ⟨by rfl, ?_⟩) (by assumption) ?_
        rotate_left
        · intro w hSw
          (try dsimp only at hSw)
          go_simp
          (try with_reducible rfl)
        try simp only [Act.put, List.getElem_toArray, List.getElem_cons_zero, List.getElem_cons_succ, List.setIfInBounds_toArray, List.set_cons_zero, List.set_cons_succ]
        refine wpAnyH_done (by kernel_rfl) ?_ _
        have g0 := hHeld1.1.1.cell 0
        have g1 := hHeld1.1.2
        have g2 := hHeld1.2.free k
        have HLK8 := Lib.hid (hHeld1.2.set HK.out HNL4.out)
        clear hHeld hHeld1 hb7 HLK HF1 cx d0
        go_wp2_with fail
        go_roundw
        case rel => exact ⟨j + 1, _, HJ.out, by go_num, HLK8.out, HGN.out⟩
        case measure => have := HJ.out; simp [intOf]; omega
    · have i1 : ¬ (j : Int) < (nl : Int) := by omega
      have RES : Hid (ans = some cur) := by
        have := HGR.out
        rw [List.drop_of_length_le (by have := HNL.out; omega)] at this
        exact this.symm
      clear hlt hj
      go_wp2_with fail
      go_ret2
      exact LinkTold.yes HLKR.out RES.out
end Go.Proofs.Ytjdahhckofjjhaa
