/-
  The program's lists of an object's elements, read (layer 12). No conditions beyond those that each theorem names. (Written by wip/tools/obj-l.py.)
-/
import Derived.Test.YthgnklgejlebhaaObjH
namespace Go.Proofs.Ythgnklgejlebhaa
open Go.ChangeShapes Go.WideShapes Go.ChangeAt Go.RowKit

/- append of one element -/
theorem more_el {α : Type} {T E : TypeId} {k by_ : Nat} {z : Value} {row : α → List Value} (hu : Try.prog.underlying T = some (.slice E)) (hi : (Try.prog.info? E).map (fun i => (i.zero, i.size, i.bytes)) = some (some z, k, by_)) (hz : z.cells.size = k) (hb : by_ ≤ 128) (hk : ∀ x, (row x).length = k) (h1 : ∀ x, Ones (row x))
    {w : World} {v : Value} {L : List α} (h : SRow E k w v L.length (rows row L)) (x : α) (small : L.length ≤ 900000) :
    ∃ v' w', (Builtin.append_ #[T, T] T #[v, .slice (some ⟨w.heap.size, 0, none⟩) 1 1]).run Try.prog (w.alloc (.cells (row x).toArray E)) = .ok v' w' ∧ SRow E k w' v' (L ++ [x]).length (rows row (L ++ [x])) ∧ Grew w w' v v' := by
  have k1 : Kept (fun _ => False) w (w.alloc (.cells (row x).toArray E)) := (Kept.refl _ w).alloc _
  have hx : RowAt (w.alloc (.cells (row x).toArray E)) w.heap.size E (row x) := RowAt.new w E _
  have hs : Src Try.prog k T (.slice (some ⟨w.heap.size, 0, none⟩) 1 1) 1 (row x) (w.alloc (.cells (row x).toArray E)) :=
    Src.ofSlice _ hu _ _ _ _ (by rw [hk, Nat.one_mul]) (fun j u hj => by rw [Addr.add_lit, Nat.zero_add, hx.cell, hj]) (h1 x)
  obtain ⟨v', w2, q0, q1, q2, q3, _⟩ := (SRow.keep h k1 (fun _ _ h => h)).append (P := Try.prog) T T hu hi hz hb hs (.inl (by omega)) (by omega)
  refine ⟨v', w2, q0, ?_, (Kept.of_below k1.none).trans q2, fun j hj => ?_⟩
  · rw [List.length_append, rows_append]
    simpa [rows] using q1
  · rcases q3 j hj with h3 | h3
    · exact .inl h3
    · simp at h3; exact .inr (by omega)
/- what a list's reading comes to -/
structure Told {α : Type} (E : TypeId) (k : Nat) (row : α → List Value) (pb B : Nat) (w : World) (r : List α × Ps) (v : Value) (w' : World) : Prop where
  row : SRow E k w' v r.1.length (rows row r.1)
  prog : PrS w' pb B r.2
  kept : Kept (· = pb) w w'
  new : ∀ j, own v j → w.heap.size ≤ j
structure Making {α : Type} (E : TypeId) (k : Nat) (row : α → List Value) (f : Ps → α × Ps) (pb B : Nat) (w : World) (N : Nat) (r : List α × Ps) (m : Nat) (v : Value) (wr : World) (acc : List α) (s : Ps) : Prop where
  here : Told E k row pb B w (acc, s) v wr
  len : acc.length = m
  rest : plist f (N - m) acc s = r
theorem Told.step {α : Type} {E : TypeId} {k : Nat} {row : α → List Value} {pb B : Nat} (hB : B ≤ pb) {w : World} (hp : pb < w.heap.size) {f : Ps → α × Ps} {acc : List α} {s : Ps} {v v' : Value} {wr w1 w2 : World} (h : Told E k row pb B w (acc, s) v wr) (h1 : PrR pb B wr f s w1)
    (h2 : SRow E k w2 v' (acc ++ [(f s).1]).length (rows row (acc ++ [(f s).1]))) (hg : Grew w1 w2 v v') : Told E k row pb B w (acc ++ [(f s).1], (f s).2) v' w2 := by
  have h0 : ∀ j, own v j → w.heap.size ≤ j := h.new
  refine ⟨h2, h1.1.keep hg.1 (fun e => by have := h0 _ e; omega) (fun j e => by have := h0 _ e; omega), (h.kept.trans h1.2).then hg.1 (fun j hj e => by have := h0 _ e; omega), fun j hj => ?_⟩
  rcases hg.2 j hj with e | e
  · exact h0 j e
  · exact Nat.le_trans (h.kept.trans h1.2).more e

theorem info_imps : (Try.prog.info? 53).map (fun i => (i.zero, i.size, i.bytes)) = some (some (.agg #[.string ⟨#[]⟩, .int .u32 0]), 2, 24) := by kernel_rfl
set_option maxRecDepth 100000 in
set_option maxHeartbeats 1000000 in
theorem list_imps_any (pb B : Nat) (hB : B ≤ pb) (wd : Nat) (hwd : wd ≤ 2) (s : Ps) (w : World) (h : PrS w pb B s) :
    Calls Try.prog 52 #[.pointer (some ⟨pb, 0, none⟩), .int .i64 (wd : Nat), .func (.func 53) #[] #[]] w fun e w' => ∃ v, e = .returned v ∧ Told 53 2 impRow pb B w (plot pImp (wd : Nat) s) v w' := by
  have H := Lib.hid (pn_any pb B s (wd : Nat) w h)
  have hx : (pn s (wd : Nat)).1 < 256 ^ wd := pnum_lt h.at_.fit wd
  have hx2 : (pn s (wd : Nat)).1 < 65536 := Nat.lt_of_lt_of_le hx (Nat.pow_le_pow_right (by decide : 0 < 256) hwd)
  have HP := Lib.hid h.lt
  have HB := Lib.hid hB
  unfold plot
  have e0 : PrR pb B w (pn · (wd : Nat)) s = fun w' => PrS w' pb B (pn s (wd : Nat)).2 ∧ Kept (· = pb) w w' := rfl
  rw [e0] at H
  generalize (pn s (wd : Nat)).1 = N at *
  generalize (pn s (wd : Nat)).2 = s0 at *
  have HN := Lib.hid hx2
  generalize hr : plist pImp N [] s0 = r at *
  have HR := Lib.hid hr
  clear h hx hx2 e0 hwd hr
  go_enter Try.func52, Try.ntmps52
  go_wp2_with fail
  refine H.out.mono ?_
  rintro e w1 ⟨rfl, hp, hk⟩
  have HM : Hid (Making 53 2 impRow pImp pb B w N r 0 (.slice none 0 0) w1 [] s0) := ⟨⟨SRow.nil _ _ _, hp, hk, fun j hj => hj.elim⟩, rfl, HR.out⟩
  clear hp hk H
  go_wp2_with fail
  go_loopw [7, 11] (fun v i wr => ∃ m acc sm, m ≤ N ∧ i = .int .u32 (m : Nat) ∧ Making 53 2 impRow pImp pb B w N r m v wr acc sm) (fun _ i _ => N - (intOf i).toNat)
  case atStart => exact ⟨0, [], s0, Nat.zero_le _, rfl, HM.out⟩
  case round =>
    clear HM
    obtain ⟨m, acc, sm, hm, rfl, hM⟩ := hrel
    have HM := Lib.hid hM
    have hn := HN.out
    clear hM
    by_cases hlt : m < N
    · have HC : Hid (Calls Try.prog 53 #[.pointer (some ⟨pb, 0, none⟩)] wr fun e w' => e = .returned (.agg #[.string (pImp sm).1.1, .int .u32 (((pImp sm).1.2 : Nat) : Int)]) ∧ PrR pb B wr pImp sm w') := pimp_any pb B hB sm wr HM.out.here.prog
      have i1 : (m : Int) < (N : Int) := by omega
      have HLT : Hid (m < N) := hlt
      have i2 : IntKind.u32.wrap ((m : Int) + 1) = (m : Int) + 1 := by rw [IntKind.wrap_u32]; omega
      clear hlt hm hn
      go_wp2_with fail
      refine HC.out.mono ?_
      rintro e w2 ⟨rfl, hR⟩
      have hs2 := SRow.keep HM.out.here.row hR.2 (fun j hj e => by have := HM.out.here.new j hj; have := HP.out; omega)
      obtain ⟨v', w3, q0, q1, q2⟩ := more_el (T := 23) Try.underlying23 info_imps rfl (by decide) (fun _ => rfl) ones_imp hs2 (pImp sm).1 (by have := HM.out.len; have := HN.out; have := HLT.out; simp only; omega)
      have HT := Lib.hid (HM.out.here.step HB.out HP.out hR q1 q2)
      have hrest := HM.out.rest
      rw [show N - m = (N - (m + 1)) + 1 by have := HLT.out; omega, plist] at hrest
      have HLEN := Lib.hid HM.out.len
      clear hs2 q1 q2 hR HC HM
      go_wp2_with (at_builtin; refine Lib.wpList_append_run _ rfl _ _ _ _ rfl _ _ rfl rfl _ _ q0 ?_)
      refine (bshort_any pb _ _ _ HT.out.prog.at_).mono ?_
      rintro e w4 ⟨rfl, rfl⟩
      cases hsh : (pImp sm).2.2 with
      | true =>
        rw [hsh, if_pos rfl] at hrest
        have RES : Hid (Told 53 2 impRow pb B w r (.slice none 0 0) w3) := by
          show Told _ _ _ _ _ _ _ _ _
          rw [← hrest]
          exact ⟨SRow.nil _ _ _, HT.out.prog, HT.out.kept, fun j hj => hj.elim⟩
        clear hrest hsh HT HLEN
        go_wp2_with fail
        go_ret
        exact ⟨_, rfl, RES.out⟩
      | false =>
        rw [hsh, if_neg (by decide)] at hrest
        have RES : Hid (Making 53 2 impRow pImp pb B w N r (m + 1) v' w3 (acc ++ [(pImp sm).1]) (pImp sm).2) := ⟨HT.out, by rw [List.length_append, HLEN.out]; rfl, hrest⟩
        clear hrest hsh HT HLEN
        go_wp2_with fail
        go_roundw
        case rel => exact ⟨m + 1, _, _, HLT.out, by go_num, RES.out⟩
        case measure => have := HLT.out; simp [intOf]; omega
    · have hrest := HM.out.rest
      rw [show N - m = 0 by omega, plist] at hrest
      have RES := Lib.hid HM.out.here
      rw [hrest] at RES
      have i1 : ¬ (m : Int) < (N : Int) := by omega
      clear hrest HM hm hlt hn
      go_wp2_with fail
      go_ret
      exact ⟨_, rfl, RES.out⟩

theorem info_types : (Try.prog.info? 55).map (fun i => (i.zero, i.size, i.bytes)) = some (some (.agg #[.int .i64 0, .int .i64 0, .int .i64 0]), 3, 24) := by kernel_rfl
set_option maxRecDepth 100000 in
set_option maxHeartbeats 1000000 in
theorem list_types_any (pb B : Nat) (hB : B ≤ pb) (wd : Nat) (hwd : wd ≤ 2) (s : Ps) (w : World) (h : PrS w pb B s) :
    Calls Try.prog 54 #[.pointer (some ⟨pb, 0, none⟩), .int .i64 (wd : Nat), .func (.func 55) #[] #[]] w fun e w' => ∃ v, e = .returned v ∧ Told 55 3 typeRow pb B w (plot pType (wd : Nat) s) v w' := by
  have H := Lib.hid (pn_any pb B s (wd : Nat) w h)
  have hx : (pn s (wd : Nat)).1 < 256 ^ wd := pnum_lt h.at_.fit wd
  have hx2 : (pn s (wd : Nat)).1 < 65536 := Nat.lt_of_lt_of_le hx (Nat.pow_le_pow_right (by decide : 0 < 256) hwd)
  have HP := Lib.hid h.lt
  have HB := Lib.hid hB
  unfold plot
  have e0 : PrR pb B w (pn · (wd : Nat)) s = fun w' => PrS w' pb B (pn s (wd : Nat)).2 ∧ Kept (· = pb) w w' := rfl
  rw [e0] at H
  generalize (pn s (wd : Nat)).1 = N at *
  generalize (pn s (wd : Nat)).2 = s0 at *
  have HN := Lib.hid hx2
  generalize hr : plist pType N [] s0 = r at *
  have HR := Lib.hid hr
  clear h hx hx2 e0 hwd hr
  go_enter Try.func54, Try.ntmps54
  go_wp2_with fail
  refine H.out.mono ?_
  rintro e w1 ⟨rfl, hp, hk⟩
  have HM : Hid (Making 55 3 typeRow pType pb B w N r 0 (.slice none 0 0) w1 [] s0) := ⟨⟨SRow.nil _ _ _, hp, hk, fun j hj => hj.elim⟩, rfl, HR.out⟩
  clear hp hk H
  go_wp2_with fail
  go_loopw [7, 11] (fun v i wr => ∃ m acc sm, m ≤ N ∧ i = .int .u32 (m : Nat) ∧ Making 55 3 typeRow pType pb B w N r m v wr acc sm) (fun _ i _ => N - (intOf i).toNat)
  case atStart => exact ⟨0, [], s0, Nat.zero_le _, rfl, HM.out⟩
  case round =>
    clear HM
    obtain ⟨m, acc, sm, hm, rfl, hM⟩ := hrel
    have HM := Lib.hid hM
    have hn := HN.out
    clear hM
    by_cases hlt : m < N
    · have HC : Hid (Calls Try.prog 55 #[.pointer (some ⟨pb, 0, none⟩)] wr fun e w' => e = .returned (.agg #[.int .i64 (pType sm).1.1, .int .i64 (pType sm).1.2.1, .int .i64 (pType sm).1.2.2]) ∧ PrR pb B wr pType sm w') := ptype_any pb B hB sm wr HM.out.here.prog
      have i1 : (m : Int) < (N : Int) := by omega
      have HLT : Hid (m < N) := hlt
      have i2 : IntKind.u32.wrap ((m : Int) + 1) = (m : Int) + 1 := by rw [IntKind.wrap_u32]; omega
      clear hlt hm hn
      go_wp2_with fail
      refine HC.out.mono ?_
      rintro e w2 ⟨rfl, hR⟩
      have hs2 := SRow.keep HM.out.here.row hR.2 (fun j hj e => by have := HM.out.here.new j hj; have := HP.out; omega)
      obtain ⟨v', w3, q0, q1, q2⟩ := more_el (T := 24) Try.underlying24 info_types rfl (by decide) (fun _ => rfl) ones_type hs2 (pType sm).1 (by have := HM.out.len; have := HN.out; have := HLT.out; simp only; omega)
      have HT := Lib.hid (HM.out.here.step HB.out HP.out hR q1 q2)
      have hrest := HM.out.rest
      rw [show N - m = (N - (m + 1)) + 1 by have := HLT.out; omega, plist] at hrest
      have HLEN := Lib.hid HM.out.len
      clear hs2 q1 q2 hR HC HM
      go_wp2_with (at_builtin; refine Lib.wpList_append_run _ rfl _ _ _ _ rfl _ _ rfl rfl _ _ q0 ?_)
      refine (bshort_any pb _ _ _ HT.out.prog.at_).mono ?_
      rintro e w4 ⟨rfl, rfl⟩
      cases hsh : (pType sm).2.2 with
      | true =>
        rw [hsh, if_pos rfl] at hrest
        have RES : Hid (Told 55 3 typeRow pb B w r (.slice none 0 0) w3) := by
          show Told _ _ _ _ _ _ _ _ _
          rw [← hrest]
          exact ⟨SRow.nil _ _ _, HT.out.prog, HT.out.kept, fun j hj => hj.elim⟩
        clear hrest hsh HT HLEN
        go_wp2_with fail
        go_ret
        exact ⟨_, rfl, RES.out⟩
      | false =>
        rw [hsh, if_neg (by decide)] at hrest
        have RES : Hid (Making 55 3 typeRow pType pb B w N r (m + 1) v' w3 (acc ++ [(pType sm).1]) (pType sm).2) := ⟨HT.out, by rw [List.length_append, HLEN.out]; rfl, hrest⟩
        clear hrest hsh HT HLEN
        go_wp2_with fail
        go_roundw
        case rel => exact ⟨m + 1, _, _, HLT.out, by go_num, RES.out⟩
        case measure => have := HLT.out; simp [intOf]; omega
    · have hrest := HM.out.rest
      rw [show N - m = 0 by omega, plist] at hrest
      have RES := Lib.hid HM.out.here
      rw [hrest] at RES
      have i1 : ¬ (m : Int) < (N : Int) := by omega
      clear hrest HM hm hlt hn
      go_wp2_with fail
      go_ret
      exact ⟨_, rfl, RES.out⟩

theorem info_code : (Try.prog.info? 22).map (fun i => (i.zero, i.size, i.bytes)) = some (some (.int .u32 0), 1, 4) := by kernel_rfl
set_option maxRecDepth 100000 in
set_option maxHeartbeats 1000000 in
theorem list_code_any (pb B : Nat) (hB : B ≤ pb) (wd : Nat) (hwd : wd ≤ 2) (s : Ps) (w : World) (h : PrS w pb B s) :
    Calls Try.prog 57 #[.pointer (some ⟨pb, 0, none⟩), .int .i64 (wd : Nat), .func (.func 58) #[] #[]] w fun e w' => ∃ v, e = .returned v ∧ Told 22 1 wordRow pb B w (plot pWord (wd : Nat) s) v w' := by
  have H := Lib.hid (pn_any pb B s (wd : Nat) w h)
  have hx : (pn s (wd : Nat)).1 < 256 ^ wd := pnum_lt h.at_.fit wd
  have hx2 : (pn s (wd : Nat)).1 < 65536 := Nat.lt_of_lt_of_le hx (Nat.pow_le_pow_right (by decide : 0 < 256) hwd)
  have HP := Lib.hid h.lt
  have HB := Lib.hid hB
  unfold plot
  have e0 : PrR pb B w (pn · (wd : Nat)) s = fun w' => PrS w' pb B (pn s (wd : Nat)).2 ∧ Kept (· = pb) w w' := rfl
  rw [e0] at H
  generalize (pn s (wd : Nat)).1 = N at *
  generalize (pn s (wd : Nat)).2 = s0 at *
  have HN := Lib.hid hx2
  generalize hr : plist pWord N [] s0 = r at *
  have HR := Lib.hid hr
  clear h hx hx2 e0 hwd hr
  go_enter Try.func57, Try.ntmps57
  go_wp2_with fail
  refine H.out.mono ?_
  rintro e w1 ⟨rfl, hp, hk⟩
  have HM : Hid (Making 22 1 wordRow pWord pb B w N r 0 (.slice none 0 0) w1 [] s0) := ⟨⟨SRow.nil _ _ _, hp, hk, fun j hj => hj.elim⟩, rfl, HR.out⟩
  clear hp hk H
  go_wp2_with fail
  go_loopw [7, 11] (fun v i wr => ∃ m acc sm, m ≤ N ∧ i = .int .u32 (m : Nat) ∧ Making 22 1 wordRow pWord pb B w N r m v wr acc sm) (fun _ i _ => N - (intOf i).toNat)
  case atStart => exact ⟨0, [], s0, Nat.zero_le _, rfl, HM.out⟩
  case round =>
    clear HM
    obtain ⟨m, acc, sm, hm, rfl, hM⟩ := hrel
    have HM := Lib.hid hM
    have hn := HN.out
    clear hM
    by_cases hlt : m < N
    · have HC : Hid (Calls Try.prog 58 #[.pointer (some ⟨pb, 0, none⟩)] wr fun e w' => e = .returned (.int .u32 (((pWord sm).1 : Nat) : Int)) ∧ PrR pb B wr pWord sm w') := pword_any pb B sm wr HM.out.here.prog
      have i1 : (m : Int) < (N : Int) := by omega
      have HLT : Hid (m < N) := hlt
      have i2 : IntKind.u32.wrap ((m : Int) + 1) = (m : Int) + 1 := by rw [IntKind.wrap_u32]; omega
      clear hlt hm hn
      go_wp2_with fail
      refine HC.out.mono ?_
      rintro e w2 ⟨rfl, hR⟩
      have hs2 := SRow.keep HM.out.here.row hR.2 (fun j hj e => by have := HM.out.here.new j hj; have := HP.out; omega)
      obtain ⟨v', w3, q0, q1, q2⟩ := more_el (T := 25) Try.underlying25 info_code rfl (by decide) (fun _ => rfl) ones_word hs2 (pWord sm).1 (by have := HM.out.len; have := HN.out; have := HLT.out; simp only; omega)
      have HT := Lib.hid (HM.out.here.step HB.out HP.out hR q1 q2)
      have hrest := HM.out.rest
      rw [show N - m = (N - (m + 1)) + 1 by have := HLT.out; omega, plist] at hrest
      have HLEN := Lib.hid HM.out.len
      clear hs2 q1 q2 hR HC HM
      go_wp2_with (at_builtin; refine Lib.wpList_append_run _ rfl _ _ _ _ rfl _ _ rfl rfl _ _ q0 ?_)
      refine (bshort_any pb _ _ _ HT.out.prog.at_).mono ?_
      rintro e w4 ⟨rfl, rfl⟩
      cases hsh : (pWord sm).2.2 with
      | true =>
        rw [hsh, if_pos rfl] at hrest
        have RES : Hid (Told 22 1 wordRow pb B w r (.slice none 0 0) w3) := by
          show Told _ _ _ _ _ _ _ _ _
          rw [← hrest]
          exact ⟨SRow.nil _ _ _, HT.out.prog, HT.out.kept, fun j hj => hj.elim⟩
        clear hrest hsh HT HLEN
        go_wp2_with fail
        go_ret
        exact ⟨_, rfl, RES.out⟩
      | false =>
        rw [hsh, if_neg (by decide)] at hrest
        have RES : Hid (Making 22 1 wordRow pWord pb B w N r (m + 1) v' w3 (acc ++ [(pWord sm).1]) (pWord sm).2) := ⟨HT.out, by rw [List.length_append, HLEN.out]; rfl, hrest⟩
        clear hrest hsh HT HLEN
        go_wp2_with fail
        go_roundw
        case rel => exact ⟨m + 1, _, _, HLT.out, by go_num, RES.out⟩
        case measure => have := HLT.out; simp [intOf]; omega
    · have hrest := HM.out.rest
      rw [show N - m = 0 by omega, plist] at hrest
      have RES := Lib.hid HM.out.here
      rw [hrest] at RES
      have i1 : ¬ (m : Int) < (N : Int) := by omega
      clear hrest HM hm hlt hn
      go_wp2_with fail
      go_ret
      exact ⟨_, rfl, RES.out⟩

theorem info_cmds : (Try.prog.info? 57).map (fun i => (i.zero, i.size, i.bytes)) = some (some (.agg #[.string ⟨#[]⟩, .int .i64 0]), 2, 24) := by kernel_rfl
set_option maxRecDepth 100000 in
set_option maxHeartbeats 1000000 in
theorem list_cmds_any (pb B : Nat) (hB : B ≤ pb) (wd : Nat) (hwd : wd ≤ 2) (s : Ps) (w : World) (h : PrS w pb B s) :
    Calls Try.prog 59 #[.pointer (some ⟨pb, 0, none⟩), .int .i64 (wd : Nat), .func (.func 60) #[] #[]] w fun e w' => ∃ v, e = .returned v ∧ Told 57 2 cmdRow pb B w (plot pCmd (wd : Nat) s) v w' := by
  have H := Lib.hid (pn_any pb B s (wd : Nat) w h)
  have hx : (pn s (wd : Nat)).1 < 256 ^ wd := pnum_lt h.at_.fit wd
  have hx2 : (pn s (wd : Nat)).1 < 65536 := Nat.lt_of_lt_of_le hx (Nat.pow_le_pow_right (by decide : 0 < 256) hwd)
  have HP := Lib.hid h.lt
  have HB := Lib.hid hB
  unfold plot
  have e0 : PrR pb B w (pn · (wd : Nat)) s = fun w' => PrS w' pb B (pn s (wd : Nat)).2 ∧ Kept (· = pb) w w' := rfl
  rw [e0] at H
  generalize (pn s (wd : Nat)).1 = N at *
  generalize (pn s (wd : Nat)).2 = s0 at *
  have HN := Lib.hid hx2
  generalize hr : plist pCmd N [] s0 = r at *
  have HR := Lib.hid hr
  clear h hx hx2 e0 hwd hr
  go_enter Try.func59, Try.ntmps59
  go_wp2_with fail
  refine H.out.mono ?_
  rintro e w1 ⟨rfl, hp, hk⟩
  have HM : Hid (Making 57 2 cmdRow pCmd pb B w N r 0 (.slice none 0 0) w1 [] s0) := ⟨⟨SRow.nil _ _ _, hp, hk, fun j hj => hj.elim⟩, rfl, HR.out⟩
  clear hp hk H
  go_wp2_with fail
  go_loopw [7, 11] (fun v i wr => ∃ m acc sm, m ≤ N ∧ i = .int .u32 (m : Nat) ∧ Making 57 2 cmdRow pCmd pb B w N r m v wr acc sm) (fun _ i _ => N - (intOf i).toNat)
  case atStart => exact ⟨0, [], s0, Nat.zero_le _, rfl, HM.out⟩
  case round =>
    clear HM
    obtain ⟨m, acc, sm, hm, rfl, hM⟩ := hrel
    have HM := Lib.hid hM
    have hn := HN.out
    clear hM
    by_cases hlt : m < N
    · have HC : Hid (Calls Try.prog 60 #[.pointer (some ⟨pb, 0, none⟩)] wr fun e w' => e = .returned (.agg #[.string (pCmd sm).1.1, .int .i64 (pCmd sm).1.2]) ∧ PrR pb B wr pCmd sm w') := pcmd_any pb B hB sm wr HM.out.here.prog
      have i1 : (m : Int) < (N : Int) := by omega
      have HLT : Hid (m < N) := hlt
      have i2 : IntKind.u32.wrap ((m : Int) + 1) = (m : Int) + 1 := by rw [IntKind.wrap_u32]; omega
      clear hlt hm hn
      go_wp2_with fail
      refine HC.out.mono ?_
      rintro e w2 ⟨rfl, hR⟩
      have hs2 := SRow.keep HM.out.here.row hR.2 (fun j hj e => by have := HM.out.here.new j hj; have := HP.out; omega)
      obtain ⟨v', w3, q0, q1, q2⟩ := more_el (T := 26) Try.underlying26 info_cmds rfl (by decide) (fun _ => rfl) ones_cmd hs2 (pCmd sm).1 (by have := HM.out.len; have := HN.out; have := HLT.out; simp only; omega)
      have HT := Lib.hid (HM.out.here.step HB.out HP.out hR q1 q2)
      have hrest := HM.out.rest
      rw [show N - m = (N - (m + 1)) + 1 by have := HLT.out; omega, plist] at hrest
      have HLEN := Lib.hid HM.out.len
      clear hs2 q1 q2 hR HC HM
      go_wp2_with (at_builtin; refine Lib.wpList_append_run _ rfl _ _ _ _ rfl _ _ rfl rfl _ _ q0 ?_)
      refine (bshort_any pb _ _ _ HT.out.prog.at_).mono ?_
      rintro e w4 ⟨rfl, rfl⟩
      cases hsh : (pCmd sm).2.2 with
      | true =>
        rw [hsh, if_pos rfl] at hrest
        have RES : Hid (Told 57 2 cmdRow pb B w r (.slice none 0 0) w3) := by
          show Told _ _ _ _ _ _ _ _ _
          rw [← hrest]
          exact ⟨SRow.nil _ _ _, HT.out.prog, HT.out.kept, fun j hj => hj.elim⟩
        clear hrest hsh HT HLEN
        go_wp2_with fail
        go_ret
        exact ⟨_, rfl, RES.out⟩
      | false =>
        rw [hsh, if_neg (by decide)] at hrest
        have RES : Hid (Making 57 2 cmdRow pCmd pb B w N r (m + 1) v' w3 (acc ++ [(pCmd sm).1]) (pCmd sm).2) := ⟨HT.out, by rw [List.length_append, HLEN.out]; rfl, hrest⟩
        clear hrest hsh HT HLEN
        go_wp2_with fail
        go_roundw
        case rel => exact ⟨m + 1, _, _, HLT.out, by go_num, RES.out⟩
        case measure => have := HLT.out; simp [intOf]; omega
    · have hrest := HM.out.rest
      rw [show N - m = 0 by omega, plist] at hrest
      have RES := Lib.hid HM.out.here
      rw [hrest] at RES
      have i1 : ¬ (m : Int) < (N : Int) := by omega
      clear hrest HM hm hlt hn
      go_wp2_with fail
      go_ret
      exact ⟨_, rfl, RES.out⟩

theorem info_exps : (Try.prog.info? 59).map (fun i => (i.zero, i.size, i.bytes)) = some (some (.agg #[.int .i64 0, .int .i64 0]), 2, 16) := by kernel_rfl
set_option maxRecDepth 100000 in
set_option maxHeartbeats 1000000 in
theorem list_exps_any (pb B : Nat) (hB : B ≤ pb) (wd : Nat) (hwd : wd ≤ 2) (s : Ps) (w : World) (h : PrS w pb B s) :
    Calls Try.prog 61 #[.pointer (some ⟨pb, 0, none⟩), .int .i64 (wd : Nat), .func (.func 62) #[] #[]] w fun e w' => ∃ v, e = .returned v ∧ Told 59 2 expRow pb B w (plot pExp (wd : Nat) s) v w' := by
  have H := Lib.hid (pn_any pb B s (wd : Nat) w h)
  have hx : (pn s (wd : Nat)).1 < 256 ^ wd := pnum_lt h.at_.fit wd
  have hx2 : (pn s (wd : Nat)).1 < 65536 := Nat.lt_of_lt_of_le hx (Nat.pow_le_pow_right (by decide : 0 < 256) hwd)
  have HP := Lib.hid h.lt
  have HB := Lib.hid hB
  unfold plot
  have e0 : PrR pb B w (pn · (wd : Nat)) s = fun w' => PrS w' pb B (pn s (wd : Nat)).2 ∧ Kept (· = pb) w w' := rfl
  rw [e0] at H
  generalize (pn s (wd : Nat)).1 = N at *
  generalize (pn s (wd : Nat)).2 = s0 at *
  have HN := Lib.hid hx2
  generalize hr : plist pExp N [] s0 = r at *
  have HR := Lib.hid hr
  clear h hx hx2 e0 hwd hr
  go_enter Try.func61, Try.ntmps61
  go_wp2_with fail
  refine H.out.mono ?_
  rintro e w1 ⟨rfl, hp, hk⟩
  have HM : Hid (Making 59 2 expRow pExp pb B w N r 0 (.slice none 0 0) w1 [] s0) := ⟨⟨SRow.nil _ _ _, hp, hk, fun j hj => hj.elim⟩, rfl, HR.out⟩
  clear hp hk H
  go_wp2_with fail
  go_loopw [7, 11] (fun v i wr => ∃ m acc sm, m ≤ N ∧ i = .int .u32 (m : Nat) ∧ Making 59 2 expRow pExp pb B w N r m v wr acc sm) (fun _ i _ => N - (intOf i).toNat)
  case atStart => exact ⟨0, [], s0, Nat.zero_le _, rfl, HM.out⟩
  case round =>
    clear HM
    obtain ⟨m, acc, sm, hm, rfl, hM⟩ := hrel
    have HM := Lib.hid hM
    have hn := HN.out
    clear hM
    by_cases hlt : m < N
    · have HC : Hid (Calls Try.prog 62 #[.pointer (some ⟨pb, 0, none⟩)] wr fun e w' => e = .returned (.agg #[.int .i64 (pExp sm).1.1, .int .i64 (pExp sm).1.2]) ∧ PrR pb B wr pExp sm w') := pexp_any pb B hB sm wr HM.out.here.prog
      have i1 : (m : Int) < (N : Int) := by omega
      have HLT : Hid (m < N) := hlt
      have i2 : IntKind.u32.wrap ((m : Int) + 1) = (m : Int) + 1 := by rw [IntKind.wrap_u32]; omega
      clear hlt hm hn
      go_wp2_with fail
      refine HC.out.mono ?_
      rintro e w2 ⟨rfl, hR⟩
      have hs2 := SRow.keep HM.out.here.row hR.2 (fun j hj e => by have := HM.out.here.new j hj; have := HP.out; omega)
      obtain ⟨v', w3, q0, q1, q2⟩ := more_el (T := 27) Try.underlying27 info_exps rfl (by decide) (fun _ => rfl) ones_exp hs2 (pExp sm).1 (by have := HM.out.len; have := HN.out; have := HLT.out; simp only; omega)
      have HT := Lib.hid (HM.out.here.step HB.out HP.out hR q1 q2)
      have hrest := HM.out.rest
      rw [show N - m = (N - (m + 1)) + 1 by have := HLT.out; omega, plist] at hrest
      have HLEN := Lib.hid HM.out.len
      clear hs2 q1 q2 hR HC HM
      go_wp2_with (at_builtin; refine Lib.wpList_append_run _ rfl _ _ _ _ rfl _ _ rfl rfl _ _ q0 ?_)
      refine (bshort_any pb _ _ _ HT.out.prog.at_).mono ?_
      rintro e w4 ⟨rfl, rfl⟩
      cases hsh : (pExp sm).2.2 with
      | true =>
        rw [hsh, if_pos rfl] at hrest
        have RES : Hid (Told 59 2 expRow pb B w r (.slice none 0 0) w3) := by
          show Told _ _ _ _ _ _ _ _ _
          rw [← hrest]
          exact ⟨SRow.nil _ _ _, HT.out.prog, HT.out.kept, fun j hj => hj.elim⟩
        clear hrest hsh HT HLEN
        go_wp2_with fail
        go_ret
        exact ⟨_, rfl, RES.out⟩
      | false =>
        rw [hsh, if_neg (by decide)] at hrest
        have RES : Hid (Making 59 2 expRow pExp pb B w N r (m + 1) v' w3 (acc ++ [(pExp sm).1]) (pExp sm).2) := ⟨HT.out, by rw [List.length_append, HLEN.out]; rfl, hrest⟩
        clear hrest hsh HT HLEN
        go_wp2_with fail
        go_roundw
        case rel => exact ⟨m + 1, _, _, HLT.out, by go_num, RES.out⟩
        case measure => have := HLT.out; simp [intOf]; omega
    · have hrest := HM.out.rest
      rw [show N - m = 0 by omega, plist] at hrest
      have RES := Lib.hid HM.out.here
      rw [hrest] at RES
      have i1 : ¬ (m : Int) < (N : Int) := by omega
      clear hrest HM hm hlt hn
      go_wp2_with fail
      go_ret
      exact ⟨_, rfl, RES.out⟩

theorem info_ints : (Try.prog.info? 3).map (fun i => (i.zero, i.size, i.bytes)) = some (some (.int .i64 0), 1, 8) := by kernel_rfl
set_option maxRecDepth 100000 in
set_option maxHeartbeats 1000000 in
theorem list_ints_any (pb B : Nat) (hB : B ≤ pb) (wd : Nat) (hwd : wd ≤ 2) (s : Ps) (w : World) (h : PrS w pb B s) :
    Calls Try.prog 63 #[.pointer (some ⟨pb, 0, none⟩), .int .i64 (wd : Nat), .func (.func 56) #[] #[]] w fun e w' => ∃ v, e = .returned v ∧ Told 3 1 intRow pb B w (plot pByte (wd : Nat) s) v w' := by
  have H := Lib.hid (pn_any pb B s (wd : Nat) w h)
  have hx : (pn s (wd : Nat)).1 < 256 ^ wd := pnum_lt h.at_.fit wd
  have hx2 : (pn s (wd : Nat)).1 < 65536 := Nat.lt_of_lt_of_le hx (Nat.pow_le_pow_right (by decide : 0 < 256) hwd)
  have HP := Lib.hid h.lt
  have HB := Lib.hid hB
  unfold plot
  have e0 : PrR pb B w (pn · (wd : Nat)) s = fun w' => PrS w' pb B (pn s (wd : Nat)).2 ∧ Kept (· = pb) w w' := rfl
  rw [e0] at H
  generalize (pn s (wd : Nat)).1 = N at *
  generalize (pn s (wd : Nat)).2 = s0 at *
  have HN := Lib.hid hx2
  generalize hr : plist pByte N [] s0 = r at *
  have HR := Lib.hid hr
  clear h hx hx2 e0 hwd hr
  go_enter Try.func63, Try.ntmps63
  go_wp2_with fail
  refine H.out.mono ?_
  rintro e w1 ⟨rfl, hp, hk⟩
  have HM : Hid (Making 3 1 intRow pByte pb B w N r 0 (.slice none 0 0) w1 [] s0) := ⟨⟨SRow.nil _ _ _, hp, hk, fun j hj => hj.elim⟩, rfl, HR.out⟩
  clear hp hk H
  go_wp2_with fail
  go_loopw [7, 11] (fun v i wr => ∃ m acc sm, m ≤ N ∧ i = .int .u32 (m : Nat) ∧ Making 3 1 intRow pByte pb B w N r m v wr acc sm) (fun _ i _ => N - (intOf i).toNat)
  case atStart => exact ⟨0, [], s0, Nat.zero_le _, rfl, HM.out⟩
  case round =>
    clear HM
    obtain ⟨m, acc, sm, hm, rfl, hM⟩ := hrel
    have HM := Lib.hid hM
    have hn := HN.out
    clear hM
    by_cases hlt : m < N
    · have HC : Hid (Calls Try.prog 56 #[.pointer (some ⟨pb, 0, none⟩)] wr fun e w' => e = .returned (.int .i64 (pByte sm).1) ∧ PrR pb B wr pByte sm w') := pbyte_any pb B sm wr HM.out.here.prog
      have i1 : (m : Int) < (N : Int) := by omega
      have HLT : Hid (m < N) := hlt
      have i2 : IntKind.u32.wrap ((m : Int) + 1) = (m : Int) + 1 := by rw [IntKind.wrap_u32]; omega
      clear hlt hm hn
      go_wp2_with fail
      refine HC.out.mono ?_
      rintro e w2 ⟨rfl, hR⟩
      have hs2 := SRow.keep HM.out.here.row hR.2 (fun j hj e => by have := HM.out.here.new j hj; have := HP.out; omega)
      obtain ⟨v', w3, q0, q1, q2⟩ := more_el (T := 28) Try.underlying28 info_ints rfl (by decide) (fun _ => rfl) ones_int hs2 (pByte sm).1 (by have := HM.out.len; have := HN.out; have := HLT.out; simp only; omega)
      have HT := Lib.hid (HM.out.here.step HB.out HP.out hR q1 q2)
      have hrest := HM.out.rest
      rw [show N - m = (N - (m + 1)) + 1 by have := HLT.out; omega, plist] at hrest
      have HLEN := Lib.hid HM.out.len
      clear hs2 q1 q2 hR HC HM
      go_wp2_with (at_builtin; refine Lib.wpList_append_run _ rfl _ _ _ _ rfl _ _ rfl rfl _ _ q0 ?_)
      refine (bshort_any pb _ _ _ HT.out.prog.at_).mono ?_
      rintro e w4 ⟨rfl, rfl⟩
      cases hsh : (pByte sm).2.2 with
      | true =>
        rw [hsh, if_pos rfl] at hrest
        have RES : Hid (Told 3 1 intRow pb B w r (.slice none 0 0) w3) := by
          show Told _ _ _ _ _ _ _ _ _
          rw [← hrest]
          exact ⟨SRow.nil _ _ _, HT.out.prog, HT.out.kept, fun j hj => hj.elim⟩
        clear hrest hsh HT HLEN
        go_wp2_with fail
        go_ret
        exact ⟨_, rfl, RES.out⟩
      | false =>
        rw [hsh, if_neg (by decide)] at hrest
        have RES : Hid (Making 3 1 intRow pByte pb B w N r (m + 1) v' w3 (acc ++ [(pByte sm).1]) (pByte sm).2) := ⟨HT.out, by rw [List.length_append, HLEN.out]; rfl, hrest⟩
        clear hrest hsh HT HLEN
        go_wp2_with fail
        go_roundw
        case rel => exact ⟨m + 1, _, _, HLT.out, by go_num, RES.out⟩
        case measure => have := HLT.out; simp [intOf]; omega
    · have hrest := HM.out.rest
      rw [show N - m = 0 by omega, plist] at hrest
      have RES := Lib.hid HM.out.here
      rw [hrest] at RES
      have i1 : ¬ (m : Int) < (N : Int) := by omega
      clear hrest HM hm hlt hn
      go_wp2_with fail
      go_ret
      exact ⟨_, rfl, RES.out⟩

end Go.Proofs.Ythgnklgejlebhaa
