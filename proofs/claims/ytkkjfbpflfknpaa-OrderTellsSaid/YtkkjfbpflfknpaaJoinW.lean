/-
  What the statements of layer 19 hand to Resolve: files that are got, each counted; modules that are loaded, or none. Conditions: few files (FewF), names of at most 300 signs.
-/
import Derived.Test.YtkkjfbpflfknpaaJoinO
import Derived.Test.YtkkjfbpflfknpaaJoinC
import Derived.Deep.RegionHeld3
import Derived.Test.YtkkjfbpflfknpaaErr
import Derived.Test.YtkkjfbpflfknpaaOrA
namespace Go.Proofs.Ytkkjfbpflfknpaa
open Go.ChangeShapes Go.WideShapes Go.ChangeAt Go.RowKit

abbrev MgT : TypeId := 28
abbrev FsT : TypeId := 22
abbrev KiT : TypeId := 3
theorem row_mapG {E : TypeId} {k : IntKind} {w : World} {j mb n : Nat} {t : TypeId} {cs : List Value} {f : ByteArray → Option Int} (h : RowAt w j t cs) (g : MapG E k w mb n f) : ¬ j = mb := by
  rintro rfl
  obtain ⟨es, c, hb⟩ := g.obj
  unfold RowAt at h
  rw [h] at hb
  cases hb
/- how often each name was got, if none twice -/
open Classical in
noncomputable def gotF (g : List ByteArray) (s : ByteArray) : Option Int := if s ∈ g then some 1 else none
theorem gotF_no {g : List ByteArray} {s : ByteArray} (h : s ∉ g) : gotF g s = none := by unfold gotF; exact if_neg h
theorem gotF_yes {g : List ByteArray} {s : ByteArray} (h : s ∈ g) : gotF g s = some 1 := by unfold gotF; exact if_pos h
open Classical in
theorem gotF_more (g : List ByteArray) (s y : ByteArray) : gotF (g ++ [s]) y = if y = s then some 1 else gotF g y := by
  by_cases e : y = s
  · rw [if_pos e, gotF_yes (by rw [e]; simp)]
  · rw [if_neg e]
    by_cases h : y ∈ g
    · rw [gotF_yes h, gotF_yes (List.mem_append_left _ h)]
    · rw [gotF_no h, gotF_no]
      intro hm
      rcases List.mem_append.1 hm with h1 | h1
      · exact h h1
      · exact e (List.mem_singleton.1 h1)
theorem getR_some {l : List (ByteArray × ObjD)} {s : ByteArray} {w' : World} {V : ObjV} {o : ObjD} (h : findF l s = some o) (ha : ObjAt w' V o) : GetR l s (.returned (.tuple #[.agg (ocells V o).toArray, .nilIface])) w' := by
  unfold GetR
  rw [h]
  exact ⟨V, rfl, ha⟩
theorem getR_none {l : List (ByteArray × ObjD)} {s : ByteArray} {w' : World} (h : findF l s = none) : GetR l s (.returned (.tuple #[.agg (ocells nilO noObj).toArray, errV 3])) w' := by
  unfold GetR
  rw [h]
/- what getter's closure stands on: the files as they were in wb, all else below lo -/
structure GetI (wb : World) (lo : Nat) (lv : Value) (bg bl gb : Nat) (w : World) (g : List ByteArray) : Prop where
  got : RowAt w bg MgT [.map (some gb)]
  lst : RowAt w bl FsT [lv]
  map : MapG KiT .i64 w gb g.length (gotF g)
  below : Below wb.heap.size wb w
  l0 : wb.heap.size ≤ gb
  l1 : bg < lo
  l2 : bl < lo
  l3 : gb < lo
theorem GetI.keep {wb : World} {lo : Nat} {lv : Value} {bg bl gb : Nat} {w w' : World} {g : List ByteArray} (h : GetI wb lo lv bg bl gb w g) (kp : Kept (fun j => lo ≤ j) w w') : GetI wb lo lv bg bl gb w' g :=
  ⟨h.got.keep kp (by have := h.l1; omega), h.lst.keep kp (by have := h.l2; omega), h.map.keep kp (by have := h.l3; omega), kp.below h.below h.below.size (fun k _ e => by have := h.l0; have := h.l3; omega), h.l0, h.l1, h.l2, h.l3⟩
set_option maxRecDepth 100000 in
theorem zeroK (w : World) : (zeroValue KiT).run Try.prog w = .ok (.int .i64 0) w := by kernel_rfl
set_option maxRecDepth 100000 in
set_option maxHeartbeats 2000000 in
theorem getter1_any (wb : World) (lo : Nat) (lv : Value) (L : List (ByteArray × ObjV × ObjD)) (bg bl gb : Nat) (hF : FilesIn wb lv L) (s : ByteArray) (g : List ByteArray) (w : World) (hlo : lo ≤ w.heap.size) (h : GetI wb lo lv bg bl gb w g) (hg : s ∉ g) (hgl : g.length ≤ 1000) (hs : s.size ≤ 300) :
    Calls Try.prog 18 #[.string s, .pointer (some ⟨bg, 0, none⟩), .pointer (some ⟨bl, 0, none⟩)] w fun e w' => GetR (filesD L) s e w' ∧ GetI wb lo lv bg bl gb w' (g ++ [s]) ∧ Kept (· = gb) w w' := by
  obtain ⟨al, cl, hlv, hcl1, hcl2, _⟩ := hF.els.shape
  obtain ⟨nl, hnl⟩ : ∃ n, n = L.length := ⟨_, rfl⟩
  rw [← hnl] at hlv hcl1
  subst hlv
  have HNL := Lib.hid hnl
  have snl : nl ≤ 9223372036854775807 := Nat.le_trans hcl1 hcl2
  have HF := Lib.hid hF
  have HB0 : Hid (Below w.heap.size w (w.alloc (.cells #[.string ⟨#[]⟩, .int .u32 0, .slice none 0 0, .slice none 0 0, .int .i64 0, .string ⟨#[]⟩, .slice none 0 0, .slice none 0 0, .slice none 0 0, .slice none 0 0, .slice none 0 0, .int .i64 0, .int .i64 0, .int .i64 0, .int .i64 0] OT))) := (Below.refl _ _).alloc (Nat.le_refl _) _
  have HZ0 : Hid (RowAt (w.alloc (.cells #[.string ⟨#[]⟩, .int .u32 0, .slice none 0 0, .slice none 0 0, .int .i64 0, .string ⟨#[]⟩, .slice none 0 0, .slice none 0 0, .slice none 0 0, .slice none 0 0, .slice none 0 0, .int .i64 0, .int .i64 0, .int .i64 0, .int .i64 0] OT)) w.heap.size OT (ocells nilO noObj)) := RowAt.new w OT (ocells nilO noObj)
  have HI0 := Lib.hid (h.keep (Kept.of_below HB0.out))
  have HLO := Lib.hid hlo
  have HGL := Lib.hid hgl
  clear hF hnl hcl1 hcl2 h hlo hgl
  go_enter Try.func18, Try.ntmps18
  go_upto_region 1 with fail
  generalize w.alloc (.cells #[.string ⟨#[]⟩, .int .u32 0, .slice none 0 0, .slice none 0 0, .int .i64 0, .string ⟨#[]⟩, .slice none 0 0, .slice none 0 0, .slice none 0 0, .slice none 0 0, .slice none 0 0, .int .i64 0, .int .i64 0, .int .i64 0, .int .i64 0] OT) = W0 at *
  have hlook := HI0.out.map.look (M := MgT) Try.underlying28 Try.underlying3 (zeroK W0) (s := s) (Nat.le_trans hs (by decide))
  rw [gotF_no hg] at hlook
  simp only [Option.getD_none] at hlook
  obtain ⟨W1, hput, hmap, hk1, hz1⟩ := HI0.out.map.put (M := MgT) Try.underlying28 Try.underlying3 (s := s) (c := 1) (Nat.le_trans hs (by decide)) (by decide) (by have := HGL.out; omega)
  have m0 : W0.cell? ⟨bg, 0, none⟩ = some (.map (some gb)) := HI0.out.got.cell 0
  have HI1 : Hid (GetI wb lo (.slice al nl cl) bg bl gb W1 (g ++ [s])) :=
    ⟨HI0.out.got.keep hk1 (row_mapG HI0.out.got HI0.out.map), HI0.out.lst.keep hk1 (row_mapG HI0.out.lst HI0.out.map), by
      rw [List.length_append]
      exact hmap.ext fun y => (gotF_more g s y).symm, hk1.below HI0.out.below HI0.out.below.size (fun k _ e => by rw [e]; exact HI0.out.l0), HI0.out.l0, HI0.out.l1, HI0.out.l2, HI0.out.l3⟩
  have HK1 : Hid (Kept (· = gb) w W1) := (Kept.of_below HB0.out).trans hk1
  have HZ1 := Lib.hid (HZ0.out.keep hk1 (row_mapG HZ0.out HI0.out.map))
  have HF1 := Lib.hid (HF.out.on HI1.out.below)
  clear hmap hk1 hz1 HI0 HB0 HZ0
  go_upto_region 2 with fail
  clear hlook hput m0
  have m1 : W1.cell? ⟨bl, 0, none⟩ = some (.slice al nl cl) := HI1.out.lst.cell 0
  go_wp2_with fail
  go_loopw [6] (fun i wr => W1 = wr ∧ ∃ m : Nat, m ≤ nl ∧ i = .int .i64 (m : Nat) ∧ Hid (∀ (j : Nat) (x : ByteArray × ObjV × ObjD), j < m → L[j]? = some x → x.1 ≠ s)) (fun i _ => nl - (intOf i).toNat)
  case atStart => exact ⟨rfl, 0, Nat.zero_le _, rfl, fun j x hj => by omega⟩
  case round =>
    obtain ⟨rfl, m, hm, rfl, HALL⟩ := hrel
    by_cases hlt : m < nl
    · obtain ⟨x, hx⟩ : ∃ x, L[m]? = some x := ⟨_, List.getElem?_eq_getElem (by have := HNL.out; omega)⟩
      obtain ⟨b, off, cap, e0, hb, u0, hrg⟩ := HF1.out.cell hx
      rw [← HNL.out] at e0
      have ea : al = some ⟨b, off, none⟩ := by cases e0; rfl
      subst ea
      have HX := Lib.hid hx
      have HOA := Lib.hid (HF1.out.objs x (List.mem_of_getElem? hx))
      obtain ⟨xs, V, o⟩ := x
      have HRG : Hid (W1.rangeAt b (off + m * 16 + 1) (ocells V o)) := hrg
      have u0 : W1.cell? ⟨b, off + m * 16, none⟩ = some (.string xs) := u0
      have i1 : (m : Int) < (nl : Int) := by omega
      have i2 : (0 : Int) ≤ (m : Int) := by omega
      have HLT : Hid (m < nl) := hlt
      clear e0 hx hb hm hlt hrg
      by_cases hxs : xs = s
      · as_aux_lemma =>
        have t1 : (xs.toList == s.toList) = true := by rw [hxs]; simp
        have HFF : Hid (findF (filesD L) s = some o) := find_some (f := (xs, o)) (filesD_at HX.out) hxs fun j y hj hy => by
          unfold filesD at hy
          rw [List.getElem?_map] at hy
          cases hz : L[j]? with
          | none => rw [hz] at hy; cases hy
          | some z =>
            rw [hz] at hy
            cases hy
            exact HALL.out j z hj hz
        have RUN := Lib.hid (told_row HZ1.out (xs := ocells V o) (k := 15) rfl rfl (ones_obj14 V o _ HOA.out) size_ob)
        have HIX := Lib.hid (HI1.out.keep (RUN.out.2.2.weak fun k _ e => by have := HLO.out; omega))
        have HKX := Lib.hid (HK1.out.setRow (g := w.heap.size) (fun e => absurd e (Nat.lt_irrefl _)) (ocells V o).toArray)
        have HOX : Hid (ObjAt (W1.setRow w.heap.size (ocells V o).toArray) V o) := (HF.out.on HIX.out.below).objs _ (List.mem_of_getElem? HX.out)
        clear hxs
        go_wp2_with (first
          | (refine wpList_load_mid rfl _ _ rfl b (off + m * 16 + 1) rfl (ocells V o) _ HRG.out Try.underlying48 rfl (by rw [size_ob]; rfl) ?_)
          | (refine wpList_store_run _ rfl _ _ _ rfl _ _ rfl rfl (by exact RUN.out.1) ?_))
        refine bodyPost_ret (v := .tuple #[.agg (ocells V o).toArray, .nilIface]) ?_ rfl ⟨getR_some HFF.out HOX.out, HIX.out, HKX.out⟩
        exact results_two Try.results18 _ _ w.heap.size OT _ _ _ _ rfl rfl RUN.out.2.1 Try.underlying48 rfl (by rw [size_ob]; rfl)
      · as_aux_lemma =>
        have t1 := str_ne hxs
        have t2 := str_nq hxs
        have HOK : Hid (∀ (j : Nat) (x : ByteArray × ObjV × ObjD), j < m + 1 → L[j]? = some x → x.1 ≠ s) := all_next (Q := fun _ (x : ByteArray × ObjV × ObjD) => x.1 ≠ s) HALL.out HX.out hxs
        clear hxs HRG
        go_wp2_with fail
        go_roundw
        case rel => exact ⟨by trivial, m + 1, HLT.out, by go_num, HOK⟩
        case measure => have := HLT.out; simp [intOf]; omega
    · as_aux_lemma =>
      have i1 : ¬ (m : Int) < (nl : Int) := by omega
      have HFF : Hid (findF (filesD L) s = none) := find_none fun j y hy => by
        unfold filesD at hy
        rw [List.getElem?_map] at hy
        cases hz : L[j]? with
        | none => rw [hz] at hy; cases hy
        | some z =>
          rw [hz] at hy
          cases hy
          exact HALL.out j z (by have := (List.getElem?_eq_some_iff.1 hz).1; have := HNL.out; omega) hz
      have RUN := Lib.hid (told_row HZ1.out (xs := ocells nilO noObj) (k := 15) rfl rfl ones_nil size_ob)
      have HIX := Lib.hid (HI1.out.keep (RUN.out.2.2.weak fun k _ e => by have := HLO.out; omega))
      have HKX := Lib.hid (HK1.out.setRow (g := w.heap.size) (fun e => absurd e (Nat.lt_irrefl _)) (ocells nilO noObj).toArray)
      clear hm hlt
      go_wp2_with (refine wpList_store_run _ rfl _ _ _ rfl _ _ rfl rfl (by exact RUN.out.1) ?_)
      refine bodyPost_ret (v := .tuple #[.agg (ocells nilO noObj).toArray, errV 3]) ?_ rfl ⟨getR_none HFF.out, HIX.out, HKX.out⟩
      exact results_two Try.results18 _ _ w.heap.size OT _ _ _ _ rfl rfl RUN.out.2.1 Try.underlying48 rfl (by rw [size_ob]; rfl)
/- getter -/
set_option maxRecDepth 100000 in
theorem getter_any (al : Option Addr) (nl cl : Nat) (gb : Nat) (w : World) : Calls Try.prog 9 #[.slice al nl cl, .map (some gb)] w fun e w' => e = .returned (.func (.func 18) #[] #[.pointer (some ⟨w.heap.size + 1, 0, none⟩), .pointer (some ⟨w.heap.size, 0, none⟩)]) ∧ (w.alloc (.cells #[.slice al nl cl] FsT)).alloc (.cells #[.map (some gb)] MgT) = w' := by
  have hmf : ∀ (fn : Fn) (first cap : Array Value) (w : World), (Instr.makeFunc fn first cap).run Try.prog w = .ok (.func fn first cap) w := fun _ _ _ _ => rfl
  go_enter Try.func9, Try.ntmps9
  go_wp2_with fail
  go_ret
  exact ⟨rfl, rfl⟩
/- no module is loaded -/
set_option maxRecDepth 100000 in
theorem none_any (s : ByteArray) (w : World) : Calls Try.prog 13 #[.string s] w fun e w' => e = .returned (.tuple #[.int .u32 0, .bool false]) ∧ w = w' := by
  have t1 : IntKind.u32.wrap 0 = 0 := by rfl
  go_enter Try.func13, Try.ntmps13
  go_wp2_with fail
  go_ret2
  exact ⟨by simp, rfl⟩
end Go.Proofs.Ytkkjfbpflfknpaa

/-
  OrderTells' has: whether a name is among those that are loaded (layer 19). No conditions.
-/
namespace Go.Proofs.Ytkkjfbpflfknpaa
open Go.ChangeShapes Go.WideShapes Go.ChangeAt Go.RowKit

set_option maxRecDepth 100000 in
set_option maxHeartbeats 1000000 in
theorem has_yes19 (bd : Nat) (dv : Value) (ld : List ByteArray) (s : ByteArray) (w : World) (hb : RowAt w bd SlT [dv]) (he : ElsAt 1 sRow w dv ld) (hm : s ∈ ld) :
    Calls Try.prog 7 #[.string s, .pointer (some ⟨bd, 0, none⟩)] w fun e w' => e = .returned (.tuple #[.int .u32 1, .bool true]) ∧ w = w' := by
  obtain ⟨ad, cd, hdv, hc1, hc2, _⟩ := he.shape
  obtain ⟨nd, hnd⟩ : ∃ n, n = ld.length := ⟨_, rfl⟩
  rw [← hnd] at hdv hc1
  subst hdv
  have HND := Lib.hid hnd
  have HD := Lib.hid he
  have snd : nd ≤ 9223372036854775807 := Nat.le_trans hc1 hc2
  have b0 : w.cell? ⟨bd, 0, none⟩ = some (.slice ad nd cd) := hb.cell 0
  have HM := Lib.hid hm
  clear hnd he hc1 hc2 hb hm
  go_enter Try.func7, Try.ntmps7
  go_wp2_with fail
  go_loopw [5] (fun i wr => w = wr ∧ ∃ m : Nat, m ≤ nd ∧ i = .int .i64 (m : Nat) ∧ Hid (∀ (j : Nat) (x : ByteArray), j < m → ld[j]? = some x → x ≠ s)) (fun i _ => nd - (intOf i).toNat)
  case atStart => exact ⟨rfl, 0, Nat.zero_le _, rfl, fun j x hj => by omega⟩
  case round =>
    obtain ⟨rfl, m, hm, rfl, HALL⟩ := hrel
    by_cases hlt : m < nd
    · obtain ⟨x, hx⟩ : ∃ x, ld[m]? = some x := ⟨_, List.getElem?_eq_getElem (by have := HND.out; omega)⟩
      have HX := Lib.hid hx
      obtain ⟨b, off, cap, e0, hb, u0⟩ := HD.out.cell1 hx (c0 := .string x) rfl
      rw [← HND.out] at e0
      have ea : ad = some ⟨b, off, none⟩ := by cases e0; rfl
      subst ea
      have i1 : (m : Int) < (nd : Int) := by omega
      have i2 : (0 : Int) ≤ (m : Int) := by omega
      have HLT : Hid (m < nd) := hlt
      clear e0 hx hb hm hlt
      by_cases hxs : x = s
      · as_aux_lemma =>
        have t1 : (x.toList == s.toList) = true := by rw [hxs]; simp
        clear hxs
        go_wp2_with fail
        go_ret2
        exact ⟨rfl, rfl⟩
      · as_aux_lemma =>
        have t1 := str_ne hxs
        have t2 := str_nq hxs
        have HOK : Hid (∀ (j : Nat) (x : ByteArray), j < m + 1 → ld[j]? = some x → x ≠ s) := all_next (Q := fun _ (x : ByteArray) => x ≠ s) HALL.out HX.out hxs
        clear hxs
        go_wp2_with fail
        go_roundw
        case rel => exact ⟨by trivial, m + 1, HLT.out, by go_num, HOK⟩
        case measure => have := HLT.out; simp [intOf]; omega
    · exfalso
      obtain ⟨j, hj⟩ := List.getElem?_of_mem HM.out
      exact HALL.out j s (by have := (List.getElem?_eq_some_iff.1 hj).1; have := HND.out; omega) hj rfl
set_option maxRecDepth 100000 in
set_option maxHeartbeats 1000000 in
theorem has_no19 (bd : Nat) (dv : Value) (ld : List ByteArray) (s : ByteArray) (w : World) (hb : RowAt w bd SlT [dv]) (he : ElsAt 1 sRow w dv ld) (hm : s ∉ ld) :
    Calls Try.prog 7 #[.string s, .pointer (some ⟨bd, 0, none⟩)] w fun e w' => e = .returned (.tuple #[.int .u32 0, .bool false]) ∧ w = w' := by
  obtain ⟨ad, cd, hdv, hc1, hc2, _⟩ := he.shape
  obtain ⟨nd, hnd⟩ : ∃ n, n = ld.length := ⟨_, rfl⟩
  rw [← hnd] at hdv hc1
  subst hdv
  have HND := Lib.hid hnd
  have HD := Lib.hid he
  have snd : nd ≤ 9223372036854775807 := Nat.le_trans hc1 hc2
  have b0 : w.cell? ⟨bd, 0, none⟩ = some (.slice ad nd cd) := hb.cell 0
  have HM := Lib.hid hm
  clear hnd he hc1 hc2 hb hm
  go_enter Try.func7, Try.ntmps7
  go_wp2_with fail
  go_loopw [5] (fun i wr => w = wr ∧ ∃ m : Nat, m ≤ nd ∧ i = .int .i64 (m : Nat) ∧ Hid (∀ (j : Nat) (x : ByteArray), j < m → ld[j]? = some x → x ≠ s)) (fun i _ => nd - (intOf i).toNat)
  case atStart => exact ⟨rfl, 0, Nat.zero_le _, rfl, fun j x hj => by omega⟩
  case round =>
    obtain ⟨rfl, m, hm, rfl, HALL⟩ := hrel
    by_cases hlt : m < nd
    · obtain ⟨x, hx⟩ : ∃ x, ld[m]? = some x := ⟨_, List.getElem?_eq_getElem (by have := HND.out; omega)⟩
      have HX := Lib.hid hx
      obtain ⟨b, off, cap, e0, hb, u0⟩ := HD.out.cell1 hx (c0 := .string x) rfl
      rw [← HND.out] at e0
      have ea : ad = some ⟨b, off, none⟩ := by cases e0; rfl
      subst ea
      have i1 : (m : Int) < (nd : Int) := by omega
      have i2 : (0 : Int) ≤ (m : Int) := by omega
      have HLT : Hid (m < nd) := hlt
      clear e0 hx hb hm hlt
      by_cases hxs : x = s
      · exact absurd (by rw [← hxs]; exact List.mem_of_getElem? HX.out) HM.out
      · as_aux_lemma =>
        have t1 := str_ne hxs
        have t2 := str_nq hxs
        have HOK : Hid (∀ (j : Nat) (x : ByteArray), j < m + 1 → ld[j]? = some x → x ≠ s) := all_next (Q := fun _ (x : ByteArray) => x ≠ s) HALL.out HX.out hxs
        clear hxs
        go_wp2_with fail
        go_roundw
        case rel => exact ⟨by trivial, m + 1, HLT.out, by go_num, HOK⟩
        case measure => have := HLT.out; simp [intOf]; omega
    · as_aux_lemma =>
      have i1 : ¬ (m : Int) < (nd : Int) := by omega
      clear hm hlt
      go_wp2_with fail
      go_ret2
      exact ⟨rfl, rfl⟩
end Go.Proofs.Ytkkjfbpflfknpaa

/-
  plain, of no imports and of one (layer 19's law). Conditions: names of at most 300 signs.
-/
namespace Go.Proofs.Ytkkjfbpflfknpaa
open Go.ChangeShapes Go.WideShapes Go.ChangeAt Go.RowKit

abbrev ImS : TypeId := 40
def plainD (s : ByteArray) (I : List ByteArray) : ObjD := { noObj with name := s, key := 1, imps := I.map fun x => (x, 1), code := [1472200704] }
def plainV (a : Option Addr) (vi : Value) : ObjV := { nilO with i := vi, c := .slice a 1 1 }
theorem fit_plain {s : ByteArray} {I : List ByteArray} (hs : s.size ≤ 300) (hI : ∀ x ∈ I, x.size ≤ 300) : ObjFit (plainD s I) :=
  ⟨Nat.le_trans hs (by decide), by show 1 < 4294967296; decide, (fun x hx => by obtain ⟨y, hy, rfl⟩ := List.mem_map.1 hx; exact ⟨Nat.le_trans (hI y hy) (by decide), by show 1 < 4294967296; decide⟩), (fun x hx => by cases hx), i64_0, Nat.zero_le _, (fun x hx => by simp [plainD, noObj] at hx; omega), (fun x hx => by cases hx), (fun x hx => by cases hx), (fun x hx => by cases hx), (fun x hx => by cases hx), i64_0, i64_0, i64_0, i64_0⟩
theorem small_plain {s : ByteArray} {I : List ByteArray} (hs : s.size ≤ 300) (hI : ∀ x ∈ I, x.size ≤ 300) (hl : I.length ≤ 20) : Small (plainD s I) :=
  ⟨hs, (by show 0 ≤ 300; decide), (by show (I.map _).length ≤ 20; rw [List.length_map]; exact hl), (by show 0 ≤ 20; decide), (by show 1 ≤ 1100; decide), (by show 0 ≤ 20; decide), (by show 0 ≤ 300; decide), (by show 0 ≤ 300; decide), (by show 0 ≤ 300; decide), (fun i x hx => by
    have hx : (I.map fun x => (x, 1))[i]? = some x := hx
    rw [List.getElem?_map] at hx
    cases hy : I[i]? with
    | none => rw [hy] at hx; cases hx
    | some y => rw [hy] at hx; cases hx; exact hI y (List.mem_of_getElem? hy)), (fun i x hx => by simp [plainD, noObj] at hx)⟩
theorem plain_at {w : World} {a : Option Addr} {vi : Value} {s : ByteArray} {I : List ByteArray} (hs : s.size ≤ 300) (hI : ∀ x ∈ I, x.size ≤ 300) (h1 : ElsAt 1 wordRow w (.slice a 1 1) [1472200704]) (h2 : ElsAt 2 impRow w vi (I.map fun x => (x, 1))) : ObjAt w (plainV a vi) (plainD s I) :=
  ⟨h2, els_none _ _ _, h1, els_none _ _ _, els_none _ _ _, els_none _ _ _, els_none _ _ _, fit_plain hs hI⟩
/- what is done to a row leaves elements that lie elsewhere -/
theorem ElsAt.keepS {α : Type} {k : Nat} {row : α → List Value} {w w' : World} {v : Value} {L : List α} {S : Nat → Prop} (h : ElsAt k row w v L) (kp : Kept S w w') (hS : ∀ j, own v j → ¬ S j) : ElsAt k row w' v L := by
  obtain ⟨a, n, cap, rfl, h1, h2, h3, h4, h5⟩ := h.is
  refine ⟨a, n, cap, rfl, h1, h2, h3, h4, ?_⟩
  rcases h5 with h5 | ⟨b, off, e, hl, hc⟩
  · exact .inl h5
  · subst e
    exact .inr ⟨b, off, rfl, Nat.lt_of_lt_of_le hl kp.more, fun i x j hx hj => (kp.cell (p := ⟨b, off + (i * k + j), none⟩) hl (hS b rfl)).trans (hc i x j hx hj)⟩
/- what plain tells -/
def PlainTold (w : World) (s : ByteArray) (I : List ByteArray) (e : Ending) (w' : World) : Prop :=
  ∃ a vi, e = .returned (.agg (ocells (plainV a vi) (plainD s I)).toArray) ∧ ObjAt w' (plainV a vi) (plainD s I) ∧ (∀ j, own (.slice a 1 1) j → w.heap.size ≤ j) ∧ ∀ j, own vi j → w.heap.size ≤ j
theorem plain_keep {w w' : World} {a : Option Addr} {vi : Value} {o : ObjD} {S : Nat → Prop} (h : ObjAt w (plainV a vi) o) (kp : Kept S w w') (h1 : ∀ j, own (.slice a 1 1) j → ¬ S j) (h2 : ∀ j, own vi j → ¬ S j) : ObjAt w' (plainV a vi) o :=
  ⟨h.imps.keepS kp h2, h.types.keepS kp (fun _ e => e.elim), h.code.keepS kp h1, h.cmds.keepS kp (fun _ e => e.elim), h.exps.keepS kp (fun _ e => e.elim), h.ptrs.keepS kp (fun _ e => e.elim), h.procs.keepS kp (fun _ e => e.elim), h.fit⟩
set_option maxRecDepth 100000 in
set_option maxHeartbeats 1000000 in
theorem plain_nil (s : ByteArray) (w : World) (hs : s.size ≤ 300) :
    Calls Try.prog 15 #[.string s, .slice none 0 0] w fun e w' => PlainTold w s [] e w' ∧ Below w.heap.size w w' := by
  have HP : Hid (∀ w : World, Calls Try.prog 21 #[.agg #[.int .i64 21, .int .i64 15, .int .i64 0, .int .i64 0]] w fun e w' => e = .returned (.int .u32 ((1472200704 : Nat) : Int)) ∧ Below w.heap.size w w') := fun w => by
    have := refPutIns_any 21 15 0 0 w (by decide) (by decide) (by decide) (by decide) (by decide)
    rw [show insN 21 15 0 (lowN 0) = 1472200704 by decide] at this
    exact this
  have HB0 : Hid (Below w.heap.size w (w.alloc (.cells #[.string ⟨#[]⟩, .int .u32 0, .slice none 0 0, .slice none 0 0, .int .i64 0, .string ⟨#[]⟩, .slice none 0 0, .slice none 0 0, .slice none 0 0, .slice none 0 0, .slice none 0 0, .int .i64 0, .int .i64 0, .int .i64 0, .int .i64 0] OT))) := (Below.refl _ _).alloc (Nat.le_refl _) _
  have HZ0 : Hid (RowAt (w.alloc (.cells #[.string ⟨#[]⟩, .int .u32 0, .slice none 0 0, .slice none 0 0, .int .i64 0, .string ⟨#[]⟩, .slice none 0 0, .slice none 0 0, .slice none 0 0, .slice none 0 0, .slice none 0 0, .int .i64 0, .int .i64 0, .int .i64 0, .int .i64 0] OT)) w.heap.size OT (ocells nilO noObj)) := RowAt.new w OT (ocells nilO noObj)
  go_enter Try.func15, Try.ntmps15
  go_upto_region 1 with fail
  generalize w.alloc (.cells #[.string ⟨#[]⟩, .int .u32 0, .slice none 0 0, .slice none 0 0, .int .i64 0, .string ⟨#[]⟩, .slice none 0 0, .slice none 0 0, .slice none 0 0, .slice none 0 0, .slice none 0 0, .int .i64 0, .int .i64 0, .int .i64 0, .int .i64 0] OT) = W0 at *
  go_wp2_with fail
  refine (HP.out _).mono ?_
  rintro e w1 ⟨rfl, hb1⟩
  have hw2 := words_oneC w1 1472200704 WdT
  have hb2 : Below w1.heap.size w1 (w1.alloc (.cells #[.int .u32 ((1472200704 : Nat) : Int)] WdT)) := (Below.refl _ _).alloc (Nat.le_refl _) _
  have hsz : (w1.alloc (.cells #[.int .u32 ((1472200704 : Nat) : Int)] WdT)).heap.size = w1.heap.size + 1 := by simp
  have RUN := Lib.hid (box_obj (w1.alloc (.cells #[.int .u32 ((1472200704 : Nat) : Int)] WdT)) (w1.heap.size + 1) hsz.symm (plainV (some ⟨w1.heap.size, 0, none⟩) (.slice none 0 0)) (plainD s []) (ones_v rfl rfl rfl rfl rfl rfl rfl))
  have hb3 : Below (w1.alloc (.cells #[.int .u32 ((1472200704 : Nat) : Int)] WdT)).heap.size (w1.alloc (.cells #[.int .u32 ((1472200704 : Nat) : Int)] WdT)) ((w1.alloc (.cells #[.int .u32 ((1472200704 : Nat) : Int)] WdT)).alloc (.cells (ocells (plainV (some ⟨w1.heap.size, 0, none⟩) (.slice none 0 0)) (plainD s [])).toArray OT)) := (Below.refl _ _).alloc (Nat.le_refl _) _
  have HW3 := Lib.hid (hw2.on hb3)
  have HWN : Hid (w1.heap.size ≠ w.heap.size) := by have := HZ0.out.lt; have := hb1.size; show _ ≠ _; omega
  have HO3 : Hid (RowAt ((w1.alloc (.cells #[.int .u32 ((1472200704 : Nat) : Int)] WdT)).alloc (.cells (ocells (plainV (some ⟨w1.heap.size, 0, none⟩) (.slice none 0 0)) (plainD s [])).toArray OT)) (w1.heap.size + 1) OT (ocells (plainV (some ⟨w1.heap.size, 0, none⟩) (.slice none 0 0)) (plainD s []))) := by
    have := RowAt.new (w1.alloc (.cells #[.int .u32 ((1472200704 : Nat) : Int)] WdT)) OT (ocells (plainV (some ⟨w1.heap.size, 0, none⟩) (.slice none 0 0)) (plainD s []))
    rw [hsz] at this
    exact this
  have hb23 := below_on hb2 hb3 hb2.size
  have hb13 := below_on hb1 hb23 hb1.size
  have HZ3 := Lib.hid (HZ0.out.keep (Kept.of_below (S := fun _ => False) hb13) (fun e => e))
  have HB3 := Lib.hid (below_on HB0.out hb13 HB0.out.size)
  have HWL : Hid (w.heap.size < w1.heap.size + 1) := by have := HZ0.out.lt; have := hb1.size; show _ < _; omega
  have HWG : Hid (w.heap.size ≤ w1.heap.size) := by have := HZ0.out.lt; have := hb1.size; show _ ≤ _; omega
  have HWS : Hid (w.heap.size ≤ ((w1.alloc (.cells #[.int .u32 ((1472200704 : Nat) : Int)] WdT)).alloc (.cells (ocells (plainV (some ⟨w1.heap.size, 0, none⟩) (.slice none 0 0)) (plainD s [])).toArray OT)).heap.size) := HB3.out.size
  have HOW : Hid (w1.heap.size ≠ w1.heap.size + 1) := by show _ ≠ _; omega
  clear hw2 hb1 hb2 hb3 hb23 hb13 hsz HB0 HZ0 HP
  go_upto_region 2 with (refine wpList_store_run _ rfl _ _ _ rfl _ _ rfl rfl (by exact RUN.out) ?_)
  clear RUN
  generalize (w1.alloc (.cells #[.int .u32 ((1472200704 : Nat) : Int)] WdT)).alloc (.cells (ocells (plainV (some ⟨w1.heap.size, 0, none⟩) (.slice none 0 0)) (plainD s [])).toArray OT) = w3 at *
  generalize hob : w1.heap.size + 1 = ob at *
  generalize w1.heap.size = wb at *
  clear hob
  have HZX := Lib.hid HZ3.out
  have HOX := Lib.hid HO3.out
  have HB4 := Lib.hid HB3.out
  have HVO : Hid ((Value.slice none 0 0).oneCell' = true) := rfl
  have hwl := HWL.out
  have RUN := Lib.hid (told_row HZX.out (xs := ocells (plainV (some ⟨wb, 0, none⟩) (.slice none 0 0)) (plainD s [])) (k := 15) rfl rfl (ones_v HVO.out rfl rfl rfl rfl rfl rfl) size_ob)
  have HBX := Lib.hid (RUN.out.2.2.below HB4.out HB4.out.size fun k _ e => by omega)
  have HRES : Hid (ObjAt (w3.setRow w.heap.size (ocells (plainV (some ⟨wb, 0, none⟩) (.slice none 0 0)) (plainD s [])).toArray) (plainV (some ⟨wb, 0, none⟩) (.slice none 0 0)) (plainD s [])) :=
    plain_at hs (fun x hx => by cases hx) (HW3.out.keepS RUN.out.2.2 fun j hj e => HWN.out ((show j = wb from hj).symm.trans e)) (els_none _ _ _)
  clear hwl hs
  go_wp2_with fail
  refine wp_loop_rounds 1 ?_
  rw [rounds_succ]
  go_wp2_with (first
    | (refine load_row_on rfl _ _ rfl ob rfl OT (ocells (plainV (some ⟨wb, 0, none⟩) (.slice none 0 0)) (plainD s [])).toArray (0, 0) _ HOX.out Try.underlying48 rfl (by rw [size_ob]; rfl) ?_)
    | (refine wpList_store_run _ rfl _ _ _ rfl _ _ rfl rfl (by exact RUN.out.1) ?_))
  refine bodyPost_ret (v := .agg (ocells (plainV (some ⟨wb, 0, none⟩) (.slice none 0 0)) (plainD s [])).toArray) ?_ rfl ⟨⟨_, _, rfl, HRES.out, fun j hj => by rw [show j = wb from hj]; exact HWG.out, fun j hj => hj.elim⟩, HBX.out⟩
  exact results_one Try.results15 _ _ w.heap.size OT _ _ _ rfl RUN.out.2.1 Try.underlying48 rfl (by rw [size_ob]; rfl)
theorem info_im19 : (Try.prog.info? ImT).map (fun i => (i.zero, i.size, i.bytes)) = some (some (.agg #[.string ⟨#[]⟩, .int .u32 0]), 2, 24) := by kernel_rfl
set_option maxRecDepth 100000 in
set_option maxHeartbeats 2000000 in
theorem plain_one (s x : ByteArray) (xb : Nat) (w : World) (hs : s.size ≤ 300) (hx : x.size ≤ 300) (hr : RowAt w xb StT [.string x]) :
    Calls Try.prog 15 #[.string s, .slice (some ⟨xb, 0, none⟩) 1 1] w fun e w' => PlainTold w s [x] e w' ∧ Below w.heap.size w w' := by
  have HRX := Lib.hid hr
  clear hr
  have HP : Hid (∀ w : World, Calls Try.prog 21 #[.agg #[.int .i64 21, .int .i64 15, .int .i64 0, .int .i64 0]] w fun e w' => e = .returned (.int .u32 ((1472200704 : Nat) : Int)) ∧ Below w.heap.size w w') := fun w => by
    have := refPutIns_any 21 15 0 0 w (by decide) (by decide) (by decide) (by decide) (by decide)
    rw [show insN 21 15 0 (lowN 0) = 1472200704 by decide] at this
    exact this
  have HB0 : Hid (Below w.heap.size w (w.alloc (.cells #[.string ⟨#[]⟩, .int .u32 0, .slice none 0 0, .slice none 0 0, .int .i64 0, .string ⟨#[]⟩, .slice none 0 0, .slice none 0 0, .slice none 0 0, .slice none 0 0, .slice none 0 0, .int .i64 0, .int .i64 0, .int .i64 0, .int .i64 0] OT))) := (Below.refl _ _).alloc (Nat.le_refl _) _
  have HZ0 : Hid (RowAt (w.alloc (.cells #[.string ⟨#[]⟩, .int .u32 0, .slice none 0 0, .slice none 0 0, .int .i64 0, .string ⟨#[]⟩, .slice none 0 0, .slice none 0 0, .slice none 0 0, .slice none 0 0, .slice none 0 0, .int .i64 0, .int .i64 0, .int .i64 0, .int .i64 0] OT)) w.heap.size OT (ocells nilO noObj)) := RowAt.new w OT (ocells nilO noObj)
  go_enter Try.func15, Try.ntmps15
  go_upto_region 1 with fail
  generalize w.alloc (.cells #[.string ⟨#[]⟩, .int .u32 0, .slice none 0 0, .slice none 0 0, .int .i64 0, .string ⟨#[]⟩, .slice none 0 0, .slice none 0 0, .slice none 0 0, .slice none 0 0, .slice none 0 0, .int .i64 0, .int .i64 0, .int .i64 0, .int .i64 0] OT) = W0 at *
  go_wp2_with fail
  refine (HP.out _).mono ?_
  rintro e w1 ⟨rfl, hb1⟩
  have hw2 := words_oneC w1 1472200704 WdT
  have hb2 : Below w1.heap.size w1 (w1.alloc (.cells #[.int .u32 ((1472200704 : Nat) : Int)] WdT)) := (Below.refl _ _).alloc (Nat.le_refl _) _
  have hsz : (w1.alloc (.cells #[.int .u32 ((1472200704 : Nat) : Int)] WdT)).heap.size = w1.heap.size + 1 := by simp
  have RUN := Lib.hid (box_obj (w1.alloc (.cells #[.int .u32 ((1472200704 : Nat) : Int)] WdT)) (w1.heap.size + 1) hsz.symm (plainV (some ⟨w1.heap.size, 0, none⟩) (.slice none 0 0)) (plainD s []) (ones_v rfl rfl rfl rfl rfl rfl rfl))
  have hb3 : Below (w1.alloc (.cells #[.int .u32 ((1472200704 : Nat) : Int)] WdT)).heap.size (w1.alloc (.cells #[.int .u32 ((1472200704 : Nat) : Int)] WdT)) ((w1.alloc (.cells #[.int .u32 ((1472200704 : Nat) : Int)] WdT)).alloc (.cells (ocells (plainV (some ⟨w1.heap.size, 0, none⟩) (.slice none 0 0)) (plainD s [])).toArray OT)) := (Below.refl _ _).alloc (Nat.le_refl _) _
  have HW3 := Lib.hid (hw2.on hb3)
  have HWN : Hid (w1.heap.size ≠ w.heap.size) := by have := HZ0.out.lt; have := hb1.size; show _ ≠ _; omega
  have HO3 : Hid (RowAt ((w1.alloc (.cells #[.int .u32 ((1472200704 : Nat) : Int)] WdT)).alloc (.cells (ocells (plainV (some ⟨w1.heap.size, 0, none⟩) (.slice none 0 0)) (plainD s [])).toArray OT)) (w1.heap.size + 1) OT (ocells (plainV (some ⟨w1.heap.size, 0, none⟩) (.slice none 0 0)) (plainD s []))) := by
    have := RowAt.new (w1.alloc (.cells #[.int .u32 ((1472200704 : Nat) : Int)] WdT)) OT (ocells (plainV (some ⟨w1.heap.size, 0, none⟩) (.slice none 0 0)) (plainD s []))
    rw [hsz] at this
    exact this
  have hb23 := below_on hb2 hb3 hb2.size
  have hb13 := below_on hb1 hb23 hb1.size
  have HZ3 := Lib.hid (HZ0.out.keep (Kept.of_below (S := fun _ => False) hb13) (fun e => e))
  have HB3 := Lib.hid (below_on HB0.out hb13 HB0.out.size)
  have HWL : Hid (w.heap.size < w1.heap.size + 1) := by have := HZ0.out.lt; have := hb1.size; show _ < _; omega
  have HWG : Hid (w.heap.size ≤ w1.heap.size) := by have := HZ0.out.lt; have := hb1.size; show _ ≤ _; omega
  have HWS : Hid (w.heap.size ≤ ((w1.alloc (.cells #[.int .u32 ((1472200704 : Nat) : Int)] WdT)).alloc (.cells (ocells (plainV (some ⟨w1.heap.size, 0, none⟩) (.slice none 0 0)) (plainD s [])).toArray OT)).heap.size) := HB3.out.size
  have HOW : Hid (w1.heap.size ≠ w1.heap.size + 1) := by show _ ≠ _; omega
  clear hw2 hb1 hb2 hb3 hb23 hb13 hsz HB0 HZ0 HP
  go_upto_region 2 with (refine wpList_store_run _ rfl _ _ _ rfl _ _ rfl rfl (by exact RUN.out) ?_)
  clear RUN
  generalize (w1.alloc (.cells #[.int .u32 ((1472200704 : Nat) : Int)] WdT)).alloc (.cells (ocells (plainV (some ⟨w1.heap.size, 0, none⟩) (.slice none 0 0)) (plainD s [])).toArray OT) = w3 at *
  generalize hob : w1.heap.size + 1 = ob at *
  generalize w1.heap.size = wb at *
  clear hob
  have u0 : w3.cell? ⟨xb, 0, none⟩ = some (.string x) := (HRX.out.keep (Kept.of_below (S := fun _ => False) (HB3.out)) fun e => e).cell 0
  obtain ⟨v', w4, q0, q1, q2⟩ := more_el (T := ImS) Try.underlying40 info_im19 rfl (by decide) impRow_len ones_imp (w := w3.drew) (L := []) (v := .slice none 0 0) (SRow.nil ImT 2 w3.drew) (x, 1) (Nat.zero_le _)
  rw [List.nil_append] at q1
  have HA : Hid ((Builtin.append_ #[ImS, ImS] ImS #[.slice none 0 0, .slice (some ⟨w3.heap.size, 0, none⟩) 1 1]).run Try.prog (w3.alloc (.cells #[.string x, .int .u32 1] ImT)).drew = .ok v' w4) := q0
  have hk4 : Kept (fun _ => False) w3 w4 := Kept.then (Kept.drawn (Drawn.of_n w3 1)) q2.1 fun _ _ e => e
  have hnew : ∀ j, own v' j → w3.heap.size ≤ j := fun j hj => (q2.2 j hj).elim (fun e => e.elim) fun e => e
  have ho4 := HO3.out.keep hk4 fun e => e
  have c2 : w3.cell? ⟨ob, 2, none⟩ = some (.slice none 0 0) := HO3.out.cell 2
  have c2' : (w3.alloc (.cells #[.string x, .int .u32 1] ImT)).cell? ⟨ob, 2, none⟩ = some (.slice none 0 0) := (HO3.out.keep (S := fun _ => False) ((Kept.refl _ _).alloc _) fun e => e).cell 2
  have c4 : w4.cell? ⟨ob, 2, none⟩ = some (.slice none 0 0) := ho4.cell 2
  have f4 : w4.frozen? ⟨ob, 2, none⟩ = false := ho4.free 2
  obtain ⟨a9, c9, hv9, _⟩ := q1.shape
  subst hv9
  have kp := kept_set w4 ob 2 (.slice a9 1 c9)
  have hob3 := HO3.out.lt
  have HO5 : Hid (RowAt (w4.setCell ⟨ob, 2, none⟩ (.slice a9 1 c9)) ob OT (ocells (plainV (some ⟨wb, 0, none⟩) (.slice a9 1 c9)) (plainD s []))) := ho4.setCell 2 _
  have hwl := HWL.out
  have HZX : Hid (RowAt (w4.setCell ⟨ob, 2, none⟩ (.slice a9 1 c9)) w.heap.size OT (ocells nilO noObj)) := (HZ3.out.keep hk4 fun e => e).keep kp (by omega)
  have HB4 : Hid (Below w.heap.size w (w4.setCell ⟨ob, 2, none⟩ (.slice a9 1 c9))) := kp.below (hk4.below HB3.out HB3.out.size fun _ _ e => e.elim) (Nat.le_trans HB3.out.size hk4.more) fun k _ e => by omega
  have HW5 : Hid (ElsAt 1 wordRow (w4.setCell ⟨ob, 2, none⟩ (.slice a9 1 c9)) (.slice (some ⟨wb, 0, none⟩) 1 1) [1472200704]) := (HW3.out.keepS hk4 fun _ _ e => e).keepS kp fun j hj e => HOW.out ((show j = wb from hj).symm.trans e)
  have HI5 : Hid (ElsAt 2 impRow (w4.setCell ⟨ob, 2, none⟩ (.slice a9 1 c9)) (.slice a9 1 c9) [(x, 1)]) := (q1.els impRow_len).keepS kp fun j hj e => by have := hnew j hj; omega
  have HNW : Hid (∀ j, own (.slice a9 1 c9) j → j ≠ w.heap.size) := fun j hj e => by have := hnew j hj; have := HZ3.out.lt; omega
  have HNN := Lib.hid hnew
  clear q0 q1 q2 hk4 hnew ho4 kp hob3
  go_wp2_with fail
  refine wp_loop_rounds 2 ?_
  rw [rounds_succ]
  go_upto_region 5 with fail
  go_region_law (refine step_append rfl (.tmp 19) (.tmp 25) ImS ImS rfl _ _ (by simp [Act.eval]) (by simp [Act.eval]) HA.out ?_)
  all_goals
    clear c2 c2' c4 f4 u0 HA HO3 HZ3 HB3 HW3
    generalize w4.setCell ⟨ob, 2, none⟩ (.slice a9 1 c9) = w5 at *
    have RUN := Lib.hid (told_row HZX.out (xs := ocells (plainV (some ⟨wb, 0, none⟩) (.slice a9 1 c9)) (plainD s [])) (k := 15) rfl rfl (ones_v rfl rfl rfl rfl rfl rfl rfl) size_ob)
    have HBX := Lib.hid (RUN.out.2.2.below HB4.out HB4.out.size fun k _ e => by omega)
    have HRES : Hid (ObjAt (w5.setRow w.heap.size (ocells (plainV (some ⟨wb, 0, none⟩) (.slice a9 1 c9)) (plainD s [])).toArray) (plainV (some ⟨wb, 0, none⟩) (.slice a9 1 c9)) (plainD s [x])) :=
      plain_at hs (fun y hy => by rw [List.mem_singleton.1 hy]; exact hx) (HW5.out.keepS RUN.out.2.2 fun j hj e => HWN.out ((show j = wb from hj).symm.trans e)) (HI5.out.keepS RUN.out.2.2 fun j hj e => HNW.out j hj e)
    clear hwl
    go_wp2_with fail
    rw [rounds_succ]
    go_wp2_with (first
      | (refine load_row_on rfl _ _ rfl ob rfl OT (ocells (plainV (some ⟨wb, 0, none⟩) (.slice a9 1 c9)) (plainD s [])).toArray (0, 0) _ HO5.out Try.underlying48 rfl (by rw [size_ob]; rfl) ?_)
      | (refine wpList_store_run _ rfl _ _ _ rfl _ _ rfl rfl (by exact RUN.out.1) ?_))
    refine bodyPost_ret (v := .agg (ocells (plainV (some ⟨wb, 0, none⟩) (.slice a9 1 c9)) (plainD s [])).toArray) ?_ rfl ⟨⟨_, _, rfl, HRES.out, fun j hj => by rw [show j = wb from hj]; exact HWG.out, fun j hj => Nat.le_trans HWS.out (HNN.out j hj)⟩, HBX.out⟩
    exact results_one Try.results15 _ _ w.heap.size OT _ _ _ rfl RUN.out.2.1 Try.underlying48 rfl (by rw [size_ob]; rfl)
end Go.Proofs.Ytkkjfbpflfknpaa

/-
  The examples' get (layer 19's law): four files, two of which import each other.
-/
namespace Go.Proofs.Ytkkjfbpflfknpaa
open Go.ChangeShapes Go.WideShapes Go.ChangeAt Go.RowKit

abbrev bA : ByteArray := ⟨#[65]⟩
abbrev bB : ByteArray := ⟨#[66]⟩
abbrev bC : ByteArray := ⟨#[67]⟩
abbrev bD : ByteArray := ⟨#[68]⟩
def upL : List (ByteArray × ObjD) := [(bA, plainD bA [bB]), (bB, plainD bB [bA]), (bC, plainD bC [bD]), (bD, plainD bD [])]
theorem up_A : findF upL bA = some (plainD bA [bB]) := by
  unfold upL
  rw [findF, if_pos rfl]
theorem up_B : findF upL bB = some (plainD bB [bA]) := by
  unfold upL
  rw [findF, if_neg (by decide), findF, if_pos rfl]
theorem up_C : findF upL bC = some (plainD bC [bD]) := by
  unfold upL
  rw [findF, if_neg (by decide), findF, if_neg (by decide), findF, if_pos rfl]
theorem up_D : findF upL bD = some (plainD bD []) := by
  unfold upL
  rw [findF, if_neg (by decide), findF, if_neg (by decide), findF, if_neg (by decide), findF, if_pos rfl]
theorem up_none {s : ByteArray} (h1 : s ≠ bA) (h2 : s ≠ bB) (h3 : s ≠ bC) (h4 : s ≠ bD) : findF upL s = none := by
  unfold upL
  rw [findF, if_neg (fun e => h1 e.symm), findF, if_neg (fun e => h2 e.symm), findF, if_neg (fun e => h3 e.symm), findF, if_neg (fun e => h4 e.symm), findF]
theorem sg_A : bA.toList = [65] := by kernel_rfl
theorem sg_B : bB.toList = [66] := by kernel_rfl
theorem sg_C : bC.toList = [67] := by kernel_rfl
theorem sg_D : bD.toList = [68] := by kernel_rfl
set_option maxRecDepth 100000 in
set_option maxHeartbeats 1000000 in
theorem up1_none (s : ByteArray) (w : World) (h1 : s ≠ bA) (h2 : s ≠ bB) (h3 : s ≠ bC) (h4 : s ≠ bD) :
    Calls Try.prog 14 #[.string s] w fun e w' => e = .returned (.tuple #[.agg (ocells nilO noObj).toArray, errV 3]) ∧ Below w.heap.size w w' := by
  have t1 : (s.toList == [65]) = false := by have := str_ne h1; rwa [sg_A] at this
  have q1 : ¬ s.toList = [65] := by have := str_nq h1; rwa [sg_A] at this
  clear h1
  have t2 : (s.toList == [66]) = false := by have := str_ne h2; rwa [sg_B] at this
  have q2 : ¬ s.toList = [66] := by have := str_nq h2; rwa [sg_B] at this
  clear h2
  have t3 : (s.toList == [67]) = false := by have := str_ne h3; rwa [sg_C] at this
  have q3 : ¬ s.toList = [67] := by have := str_nq h3; rwa [sg_C] at this
  clear h3
  have t4 : (s.toList == [68]) = false := by have := str_ne h4; rwa [sg_D] at this
  have q4 : ¬ s.toList = [68] := by have := str_nq h4; rwa [sg_D] at this
  clear h4
  have HB0 : Hid (Below w.heap.size w (w.alloc (.cells #[.string ⟨#[]⟩, .int .u32 0, .slice none 0 0, .slice none 0 0, .int .i64 0, .string ⟨#[]⟩, .slice none 0 0, .slice none 0 0, .slice none 0 0, .slice none 0 0, .slice none 0 0, .int .i64 0, .int .i64 0, .int .i64 0, .int .i64 0] OT))) := (Below.refl _ _).alloc (Nat.le_refl _) _
  have HZ0 : Hid (RowAt (w.alloc (.cells #[.string ⟨#[]⟩, .int .u32 0, .slice none 0 0, .slice none 0 0, .int .i64 0, .string ⟨#[]⟩, .slice none 0 0, .slice none 0 0, .slice none 0 0, .slice none 0 0, .slice none 0 0, .int .i64 0, .int .i64 0, .int .i64 0, .int .i64 0] OT)) w.heap.size OT (ocells nilO noObj)) := RowAt.new w OT (ocells nilO noObj)
  go_enter Try.func14, Try.ntmps14
  go_upto_region 1 with fail
  generalize w.alloc (.cells #[.string ⟨#[]⟩, .int .u32 0, .slice none 0 0, .slice none 0 0, .int .i64 0, .string ⟨#[]⟩, .slice none 0 0, .slice none 0 0, .slice none 0 0, .slice none 0 0, .slice none 0 0, .int .i64 0, .int .i64 0, .int .i64 0, .int .i64 0] OT) = W0 at *
  have RUN := Lib.hid (told_row HZ0.out (xs := ocells nilO noObj) (k := 15) rfl rfl ones_nil size_ob)
  have HBX := Lib.hid (RUN.out.2.2.below HB0.out HB0.out.size fun k _ e => by omega)
  go_wp2_with (refine wpList_store_run _ rfl _ _ _ rfl _ _ rfl rfl (by exact RUN.out.1) ?_)
  refine bodyPost_ret (v := .tuple #[.agg (ocells nilO noObj).toArray, errV 3]) ?_ rfl ⟨rfl, HBX.out⟩
  exact results_two Try.results14 _ _ w.heap.size OT _ _ _ _ rfl rfl RUN.out.2.1 Try.underlying48 rfl (by rw [size_ob]; rfl)
set_option maxRecDepth 100000 in
set_option maxHeartbeats 1000000 in
theorem up1_A (w : World) :
    Calls Try.prog 14 #[.string bA] w fun e w' => (∃ V, e = .returned (.tuple #[.agg (ocells V (plainD bA [bB])).toArray, .nilIface]) ∧ ObjAt w' V (plainD bA [bB])) ∧ Below w.heap.size w w' := by
  have HB0 : Hid (Below w.heap.size w (w.alloc (.cells #[.string ⟨#[]⟩, .int .u32 0, .slice none 0 0, .slice none 0 0, .int .i64 0, .string ⟨#[]⟩, .slice none 0 0, .slice none 0 0, .slice none 0 0, .slice none 0 0, .slice none 0 0, .int .i64 0, .int .i64 0, .int .i64 0, .int .i64 0] OT))) := (Below.refl _ _).alloc (Nat.le_refl _) _
  have HZ0 : Hid (RowAt (w.alloc (.cells #[.string ⟨#[]⟩, .int .u32 0, .slice none 0 0, .slice none 0 0, .int .i64 0, .string ⟨#[]⟩, .slice none 0 0, .slice none 0 0, .slice none 0 0, .slice none 0 0, .slice none 0 0, .int .i64 0, .int .i64 0, .int .i64 0, .int .i64 0] OT)) w.heap.size OT (ocells nilO noObj)) := RowAt.new w OT (ocells nilO noObj)
  go_enter Try.func14, Try.ntmps14
  go_upto_region 1 with fail
  generalize w.alloc (.cells #[.string ⟨#[]⟩, .int .u32 0, .slice none 0 0, .slice none 0 0, .int .i64 0, .string ⟨#[]⟩, .slice none 0 0, .slice none 0 0, .slice none 0 0, .slice none 0 0, .slice none 0 0, .int .i64 0, .int .i64 0, .int .i64 0, .int .i64 0] OT) = W0 at *
  have hb1 : Below W0.heap.size W0 (W0.alloc (.cells #[.string bB] StT)) := (Below.refl _ _).alloc (Nat.le_refl _) _
  have HC := Lib.hid (plain_one bA bB W0.heap.size (W0.alloc (.cells #[.string bB] StT)) (by decide) (by decide) (RowAt.new W0 StT [.string bB]))
  have HB1 := Lib.hid hb1
  clear hb1
  go_wp2_with fail
  refine HC.out.mono ?_
  rintro e W2 ⟨⟨a, vi, rfl, hoa, hn1, hn2⟩, hb2⟩
  have hb2 := below_on HB1.out hb2 HB1.out.size
  have HZ2 := Lib.hid (HZ0.out.keep (Kept.of_below (S := fun _ => False) hb2) fun e => e)
  have HB2 := Lib.hid (below_on HB0.out hb2 HB0.out.size)
  have RUN := Lib.hid (told_row HZ2.out (xs := ocells (plainV a vi) (plainD bA [bB])) (k := 15) rfl rfl (ones_obj14 _ _ _ hoa) size_ob)
  have HBX := Lib.hid (RUN.out.2.2.below HB2.out HB2.out.size fun k _ e => by omega)
  have HOX : Hid (ObjAt (W2.setRow w.heap.size (ocells (plainV a vi) (plainD bA [bB])).toArray) (plainV a vi) (plainD bA [bB])) := plain_keep hoa RUN.out.2.2 (fun j hj e => by have := hn1 j hj; have := HZ0.out.lt; have := HB1.out.size; omega) (fun j hj e => by have := hn2 j hj; have := HZ0.out.lt; have := HB1.out.size; omega)
  clear hoa hb2 HC HB1 hn1 hn2
  go_wp2_with (refine wpList_store_run _ rfl _ _ _ rfl _ _ rfl rfl (by exact RUN.out.1) ?_)
  refine bodyPost_ret (v := .tuple #[.agg (ocells (plainV a vi) (plainD bA [bB])).toArray, .nilIface]) ?_ rfl ⟨⟨_, rfl, HOX.out⟩, HBX.out⟩
  exact results_two Try.results14 _ _ w.heap.size OT _ _ _ _ rfl rfl RUN.out.2.1 Try.underlying48 rfl (by rw [size_ob]; rfl)
set_option maxRecDepth 100000 in
set_option maxHeartbeats 1000000 in
theorem up1_B (w : World) :
    Calls Try.prog 14 #[.string bB] w fun e w' => (∃ V, e = .returned (.tuple #[.agg (ocells V (plainD bB [bA])).toArray, .nilIface]) ∧ ObjAt w' V (plainD bB [bA])) ∧ Below w.heap.size w w' := by
  have HB0 : Hid (Below w.heap.size w (w.alloc (.cells #[.string ⟨#[]⟩, .int .u32 0, .slice none 0 0, .slice none 0 0, .int .i64 0, .string ⟨#[]⟩, .slice none 0 0, .slice none 0 0, .slice none 0 0, .slice none 0 0, .slice none 0 0, .int .i64 0, .int .i64 0, .int .i64 0, .int .i64 0] OT))) := (Below.refl _ _).alloc (Nat.le_refl _) _
  have HZ0 : Hid (RowAt (w.alloc (.cells #[.string ⟨#[]⟩, .int .u32 0, .slice none 0 0, .slice none 0 0, .int .i64 0, .string ⟨#[]⟩, .slice none 0 0, .slice none 0 0, .slice none 0 0, .slice none 0 0, .slice none 0 0, .int .i64 0, .int .i64 0, .int .i64 0, .int .i64 0] OT)) w.heap.size OT (ocells nilO noObj)) := RowAt.new w OT (ocells nilO noObj)
  go_enter Try.func14, Try.ntmps14
  go_upto_region 1 with fail
  generalize w.alloc (.cells #[.string ⟨#[]⟩, .int .u32 0, .slice none 0 0, .slice none 0 0, .int .i64 0, .string ⟨#[]⟩, .slice none 0 0, .slice none 0 0, .slice none 0 0, .slice none 0 0, .slice none 0 0, .int .i64 0, .int .i64 0, .int .i64 0, .int .i64 0] OT) = W0 at *
  have hb1 : Below W0.heap.size W0 (W0.alloc (.cells #[.string bA] StT)) := (Below.refl _ _).alloc (Nat.le_refl _) _
  have HC := Lib.hid (plain_one bB bA W0.heap.size (W0.alloc (.cells #[.string bA] StT)) (by decide) (by decide) (RowAt.new W0 StT [.string bA]))
  have HB1 := Lib.hid hb1
  clear hb1
  go_wp2_with fail
  refine HC.out.mono ?_
  rintro e W2 ⟨⟨a, vi, rfl, hoa, hn1, hn2⟩, hb2⟩
  have hb2 := below_on HB1.out hb2 HB1.out.size
  have HZ2 := Lib.hid (HZ0.out.keep (Kept.of_below (S := fun _ => False) hb2) fun e => e)
  have HB2 := Lib.hid (below_on HB0.out hb2 HB0.out.size)
  have RUN := Lib.hid (told_row HZ2.out (xs := ocells (plainV a vi) (plainD bB [bA])) (k := 15) rfl rfl (ones_obj14 _ _ _ hoa) size_ob)
  have HBX := Lib.hid (RUN.out.2.2.below HB2.out HB2.out.size fun k _ e => by omega)
  have HOX : Hid (ObjAt (W2.setRow w.heap.size (ocells (plainV a vi) (plainD bB [bA])).toArray) (plainV a vi) (plainD bB [bA])) := plain_keep hoa RUN.out.2.2 (fun j hj e => by have := hn1 j hj; have := HZ0.out.lt; have := HB1.out.size; omega) (fun j hj e => by have := hn2 j hj; have := HZ0.out.lt; have := HB1.out.size; omega)
  clear hoa hb2 HC HB1 hn1 hn2
  go_wp2_with (refine wpList_store_run _ rfl _ _ _ rfl _ _ rfl rfl (by exact RUN.out.1) ?_)
  refine bodyPost_ret (v := .tuple #[.agg (ocells (plainV a vi) (plainD bB [bA])).toArray, .nilIface]) ?_ rfl ⟨⟨_, rfl, HOX.out⟩, HBX.out⟩
  exact results_two Try.results14 _ _ w.heap.size OT _ _ _ _ rfl rfl RUN.out.2.1 Try.underlying48 rfl (by rw [size_ob]; rfl)
set_option maxRecDepth 100000 in
set_option maxHeartbeats 1000000 in
theorem up1_C (w : World) :
    Calls Try.prog 14 #[.string bC] w fun e w' => (∃ V, e = .returned (.tuple #[.agg (ocells V (plainD bC [bD])).toArray, .nilIface]) ∧ ObjAt w' V (plainD bC [bD])) ∧ Below w.heap.size w w' := by
  have HB0 : Hid (Below w.heap.size w (w.alloc (.cells #[.string ⟨#[]⟩, .int .u32 0, .slice none 0 0, .slice none 0 0, .int .i64 0, .string ⟨#[]⟩, .slice none 0 0, .slice none 0 0, .slice none 0 0, .slice none 0 0, .slice none 0 0, .int .i64 0, .int .i64 0, .int .i64 0, .int .i64 0] OT))) := (Below.refl _ _).alloc (Nat.le_refl _) _
  have HZ0 : Hid (RowAt (w.alloc (.cells #[.string ⟨#[]⟩, .int .u32 0, .slice none 0 0, .slice none 0 0, .int .i64 0, .string ⟨#[]⟩, .slice none 0 0, .slice none 0 0, .slice none 0 0, .slice none 0 0, .slice none 0 0, .int .i64 0, .int .i64 0, .int .i64 0, .int .i64 0] OT)) w.heap.size OT (ocells nilO noObj)) := RowAt.new w OT (ocells nilO noObj)
  go_enter Try.func14, Try.ntmps14
  go_upto_region 1 with fail
  generalize w.alloc (.cells #[.string ⟨#[]⟩, .int .u32 0, .slice none 0 0, .slice none 0 0, .int .i64 0, .string ⟨#[]⟩, .slice none 0 0, .slice none 0 0, .slice none 0 0, .slice none 0 0, .slice none 0 0, .int .i64 0, .int .i64 0, .int .i64 0, .int .i64 0] OT) = W0 at *
  have hb1 : Below W0.heap.size W0 (W0.alloc (.cells #[.string bD] StT)) := (Below.refl _ _).alloc (Nat.le_refl _) _
  have HC := Lib.hid (plain_one bC bD W0.heap.size (W0.alloc (.cells #[.string bD] StT)) (by decide) (by decide) (RowAt.new W0 StT [.string bD]))
  have HB1 := Lib.hid hb1
  clear hb1
  go_wp2_with fail
  refine HC.out.mono ?_
  rintro e W2 ⟨⟨a, vi, rfl, hoa, hn1, hn2⟩, hb2⟩
  have hb2 := below_on HB1.out hb2 HB1.out.size
  have HZ2 := Lib.hid (HZ0.out.keep (Kept.of_below (S := fun _ => False) hb2) fun e => e)
  have HB2 := Lib.hid (below_on HB0.out hb2 HB0.out.size)
  have RUN := Lib.hid (told_row HZ2.out (xs := ocells (plainV a vi) (plainD bC [bD])) (k := 15) rfl rfl (ones_obj14 _ _ _ hoa) size_ob)
  have HBX := Lib.hid (RUN.out.2.2.below HB2.out HB2.out.size fun k _ e => by omega)
  have HOX : Hid (ObjAt (W2.setRow w.heap.size (ocells (plainV a vi) (plainD bC [bD])).toArray) (plainV a vi) (plainD bC [bD])) := plain_keep hoa RUN.out.2.2 (fun j hj e => by have := hn1 j hj; have := HZ0.out.lt; have := HB1.out.size; omega) (fun j hj e => by have := hn2 j hj; have := HZ0.out.lt; have := HB1.out.size; omega)
  clear hoa hb2 HC HB1 hn1 hn2
  go_wp2_with (refine wpList_store_run _ rfl _ _ _ rfl _ _ rfl rfl (by exact RUN.out.1) ?_)
  refine bodyPost_ret (v := .tuple #[.agg (ocells (plainV a vi) (plainD bC [bD])).toArray, .nilIface]) ?_ rfl ⟨⟨_, rfl, HOX.out⟩, HBX.out⟩
  exact results_two Try.results14 _ _ w.heap.size OT _ _ _ _ rfl rfl RUN.out.2.1 Try.underlying48 rfl (by rw [size_ob]; rfl)
set_option maxRecDepth 100000 in
set_option maxHeartbeats 1000000 in
theorem up1_D (w : World) :
    Calls Try.prog 14 #[.string bD] w fun e w' => (∃ V, e = .returned (.tuple #[.agg (ocells V (plainD bD [])).toArray, .nilIface]) ∧ ObjAt w' V (plainD bD [])) ∧ Below w.heap.size w w' := by
  have HB0 : Hid (Below w.heap.size w (w.alloc (.cells #[.string ⟨#[]⟩, .int .u32 0, .slice none 0 0, .slice none 0 0, .int .i64 0, .string ⟨#[]⟩, .slice none 0 0, .slice none 0 0, .slice none 0 0, .slice none 0 0, .slice none 0 0, .int .i64 0, .int .i64 0, .int .i64 0, .int .i64 0] OT))) := (Below.refl _ _).alloc (Nat.le_refl _) _
  have HZ0 : Hid (RowAt (w.alloc (.cells #[.string ⟨#[]⟩, .int .u32 0, .slice none 0 0, .slice none 0 0, .int .i64 0, .string ⟨#[]⟩, .slice none 0 0, .slice none 0 0, .slice none 0 0, .slice none 0 0, .slice none 0 0, .int .i64 0, .int .i64 0, .int .i64 0, .int .i64 0] OT)) w.heap.size OT (ocells nilO noObj)) := RowAt.new w OT (ocells nilO noObj)
  go_enter Try.func14, Try.ntmps14
  go_upto_region 1 with fail
  generalize w.alloc (.cells #[.string ⟨#[]⟩, .int .u32 0, .slice none 0 0, .slice none 0 0, .int .i64 0, .string ⟨#[]⟩, .slice none 0 0, .slice none 0 0, .slice none 0 0, .slice none 0 0, .slice none 0 0, .int .i64 0, .int .i64 0, .int .i64 0, .int .i64 0] OT) = W0 at *
  have HC := Lib.hid (plain_nil bD W0 (by decide))
  go_wp2_with fail
  refine HC.out.mono ?_
  rintro e W2 ⟨⟨a, vi, rfl, hoa, hn1, hn2⟩, hb2⟩
  have HZ2 := Lib.hid (HZ0.out.keep (Kept.of_below (S := fun _ => False) hb2) fun e => e)
  have HB2 := Lib.hid (below_on HB0.out hb2 HB0.out.size)
  have RUN := Lib.hid (told_row HZ2.out (xs := ocells (plainV a vi) (plainD bD [])) (k := 15) rfl rfl (ones_obj14 _ _ _ hoa) size_ob)
  have HBX := Lib.hid (RUN.out.2.2.below HB2.out HB2.out.size fun k _ e => by omega)
  have HOX : Hid (ObjAt (W2.setRow w.heap.size (ocells (plainV a vi) (plainD bD [])).toArray) (plainV a vi) (plainD bD [])) := plain_keep hoa RUN.out.2.2 (fun j hj e => by have := hn1 j hj; have := HZ0.out.lt; omega) (fun j hj e => by have := hn2 j hj; have := HZ0.out.lt; omega)
  clear hoa hb2 HC hn1 hn2
  go_wp2_with (refine wpList_store_run _ rfl _ _ _ rfl _ _ rfl rfl (by exact RUN.out.1) ?_)
  refine bodyPost_ret (v := .tuple #[.agg (ocells (plainV a vi) (plainD bD [])).toArray, .nilIface]) ?_ rfl ⟨⟨_, rfl, HOX.out⟩, HBX.out⟩
  exact results_two Try.results14 _ _ w.heap.size OT _ _ _ _ rfl rfl RUN.out.2.1 Try.underlying48 rfl (by rw [size_ob]; rfl)
theorem getR_none' {l : List (ByteArray × ObjD)} {s : ByteArray} {w' : World} {e : Ending} (h : findF l s = none) (he : e = .returned (.tuple #[.agg (ocells nilO noObj).toArray, errV 3])) : GetR l s e w' := by
  subst he
  exact getR_none h
theorem getR_some' {l : List (ByteArray × ObjD)} {s : ByteArray} {w' : World} {e : Ending} {o : ObjD} (h : findF l s = some o) (he : ∃ V, e = .returned (.tuple #[.agg (ocells V o).toArray, .nilIface]) ∧ ObjAt w' V o) : GetR l s e w' := by
  obtain ⟨V, rfl, ha⟩ := he
  exact getR_some h ha
set_option maxRecDepth 100000 in
theorem up_env (lo : Nat) : Env upL [] lo (fun _ => False) (fun _ _ => True) 14 13 #[] #[] where
  eg := fun _ _ => by kernel_rfl
  eh := fun _ _ => by kernel_rfl
  small := fun f hf => by
    simp only [upL, List.mem_cons, List.not_mem_nil, or_false] at hf
    rcases hf with rfl | rfl | rfl | rfl
    · exact small_plain (by decide) (fun x hx => by rw [List.mem_singleton.1 hx]; decide) (by decide)
    · exact small_plain (by decide) (fun x hx => by rw [List.mem_singleton.1 hx]; decide) (by decide)
    · exact small_plain (by decide) (fun x hx => by rw [List.mem_singleton.1 hx]; decide) (by decide)
    · exact small_plain (by decide) (fun x hx => by cases hx) (by decide)
  glow := fun _ h => h.elim
  keep := fun _ _ _ _ _ => trivial
  get := fun s g w _ _ _ _ _ => by
    rw [show (#[Value.string s] ++ #[] : Array Value) = #[Value.string s] by simp]
    by_cases h1 : s = bA
    · subst h1
      exact (up1_A w).mono fun e w' ⟨he, hb⟩ => ⟨getR_some' up_A he, trivial, Kept.of_below hb⟩
    by_cases h2 : s = bB
    · subst h2
      exact (up1_B w).mono fun e w' ⟨he, hb⟩ => ⟨getR_some' up_B he, trivial, Kept.of_below hb⟩
    by_cases h3 : s = bC
    · subst h3
      exact (up1_C w).mono fun e w' ⟨he, hb⟩ => ⟨getR_some' up_C he, trivial, Kept.of_below hb⟩
    by_cases h4 : s = bD
    · subst h4
      exact (up1_D w).mono fun e w' ⟨he, hb⟩ => ⟨getR_some' up_D he, trivial, Kept.of_below hb⟩
    exact (up1_none s w h1 h2 h3 h4).mono fun e w' ⟨he, hb⟩ => ⟨getR_none' (up_none h1 h2 h3 h4) he, trivial, Kept.of_below hb⟩
  yes := fun _ _ _ _ h => by cases h
  no := fun s _ w _ _ => by
    rw [show (#[Value.string s] ++ #[] : Array Value) = #[Value.string s] by simp]
    exact none_any s w
end Go.Proofs.Ytkkjfbpflfknpaa

/-
  The examples at the head of layer 19's statements (up): true. No conditions.
-/
namespace Go.Proofs.Ytkkjfbpflfknpaa
open Go.ChangeShapes Go.WideShapes Go.ChangeAt Go.RowKit

theorem name_uA : NameP bA := by
  refine ⟨by decide, by decide, fun i hi => ?_⟩
  have h1 : i < 1 := hi
  obtain rfl : i = 0 := by omega
  exact .inl (.inr (by decide))
theorem name_uB : NameP bB := by
  refine ⟨by decide, by decide, fun i hi => ?_⟩
  have h1 : i < 1 := hi
  obtain rfl : i = 0 := by omega
  exact .inl (.inr (by decide))
theorem name_uC : NameP bC := by
  refine ⟨by decide, by decide, fun i hi => ?_⟩
  have h1 : i < 1 := hi
  obtain rfl : i = 0 := by omega
  exact .inl (.inr (by decide))
theorem name_uD : NameP bD := by
  refine ⟨by decide, by decide, fun i hi => ?_⟩
  have h1 : i < 1 := hi
  obtain rfl : i = 0 := by omega
  exact .inl (.inr (by decide))
theorem parts_plain {s : ByteArray} {I : List ByteArray} (h : NmsP (s :: I)) (hl : I.length ≤ 8) : PartsQ (plainD s I) := by
  refine ⟨⟨⟨by show (I.map _).length ≤ 8; rw [List.length_map]; exact hl, by show 0 ≤ 8; decide⟩, ?_, nms_nil⟩, ⟨⟨by show (0 : Int) ≤ 0; decide, by show (0 : Int) ≤ 64; decide⟩, by show 0 ≤ 60; decide, by show 1 ≤ 1; decide, by show 1 ≤ 256; decide⟩, ⟨by show 0 ≤ 8; decide, fun i x h => ?_⟩, fun i x h => ?_, ⟨by show 0 ≤ 64; decide, fun i x h => ?_⟩, ⟨⟨by show 0 ≤ 16; decide, fun i x h => ?_⟩, ⟨by show 0 ≤ 16; decide, fun i x h => ?_⟩, fun i x h => ?_⟩, by show (0 : Int) ≤ 0; decide, by show (0 : Int) ≤ ((1 : Nat) : Int); decide⟩
  · show NmsP (s :: (I.map fun x => (x, 1)).map (·.1))
    rw [List.map_map]
    have : ((fun x : ByteArray × Nat => x.1) ∘ fun x : ByteArray => (x, 1)) = id := rfl
    rw [this, List.map_id]
    exact h
  all_goals (simp [plainD, noObj] at h)
theorem refsV_plain {s : ByteArray} {I : List ByteArray} (h : NmsP (s :: I)) (hl : I.length ≤ 8) : (refsV (plainD s I)).isSome = true := by
  rw [refsV_go (parts_plain h hl), refsG_start rfl, refsG_start rfl, refsG_start rfl, refsG]
  rfl
theorem nms_one {s : ByteArray} (h : NameP s) : NmsP [s] := fun i t ht => by
  have hi := (List.getElem?_eq_some_iff.1 ht).1
  have hi : i < 1 := hi
  obtain rfl : i = 0 := by omega
  have e : s = t := by simpa using ht
  subst e
  exact ⟨h, fun k u hk => by omega⟩
theorem nms_two {s x : ByteArray} (h : NameP s) (g : NameP x) (hn : s ≠ x) : NmsP [s, x] := fun i t ht => by
  have hi := (List.getElem?_eq_some_iff.1 ht).1
  have hi : i < 2 := hi
  rcases (show i = 0 ∨ i = 1 by omega) with rfl | rfl
  · have e : s = t := by simpa using ht
    subst e
    exact ⟨h, fun k u hk => by omega⟩
  · have e : x = t := by simpa using ht
    subst e
    refine ⟨g, fun k u hk hu => ?_⟩
    obtain rfl : k = 0 := by omega
    have e : s = u := by simpa using hu
    subst e
    exact hn
theorem not_known {st : OSt} {s : ByteArray} (h : st.out = []) : ¬ Known [] st s := by
  rintro (⟨o, ho, _⟩ | hm)
  · rw [h] at ho
    cases ho
  · cases hm
theorem res_A : resN upL [] 9 ⟨[], []⟩ bA = .bad 6 := by
  have h7 : resN upL [] 7 ⟨[], [bA, bB]⟩ bA = .bad 6 := res_cycle (not_known rfl) (by simp)
  have h8 : resN upL [] 8 ⟨[], [bA]⟩ bB = .bad 6 := by
    rw [res_go (not_known rfl) (fun h => absurd (List.mem_singleton.1 h) (by decide)) up_B ⟨rfl, refsV_plain (nms_two name_uB name_uA (by decide)) (by decide)⟩]
    show endN _ (impsN (resN upL [] 7) [(bA, 1)] ⟨[], [bA, bB]⟩) = _
    rw [imps_bad (x := (bA, 1)) h7]
    rfl
  rw [res_go (not_known rfl) (fun h => by cases h) up_A ⟨rfl, refsV_plain (nms_two name_uA name_uB (by decide)) (by decide)⟩]
  show endN _ (impsN (resN upL [] 8) [(bB, 1)] ⟨[], [bA]⟩) = _
  rw [imps_bad (x := (bB, 1)) h8]
  rfl
theorem res_C : resN upL [] 9 ⟨[], []⟩ bC = .good ⟨[plainD bD [], plainD bC [bD]], [bC, bD]⟩ := by
  have h8 : resN upL [] 8 ⟨[], [bC]⟩ bD = .good ⟨[plainD bD []], [bC, bD]⟩ := by
    rw [res_go (not_known rfl) (fun h => absurd (List.mem_singleton.1 h) (by decide)) up_D ⟨rfl, refsV_plain (nms_one name_uD) (by decide)⟩]
    show endN _ (impsN (resN upL [] 7) [] ⟨[], [bC, bD]⟩) = _
    rw [impsN]
    rfl
  rw [res_go (not_known rfl) (fun h => by cases h) up_C ⟨rfl, refsV_plain (nms_two name_uC name_uD (by decide)) (by decide)⟩]
  show endN _ (impsN (resN upL [] 8) [(bD, 1)] ⟨[], [bC]⟩) = _
  rw [imps_on (x := (bD, 1)) h8 (by show keyV [plainD bD []] bD 1 = 1; rw [keyV, if_pos (show (plainD bD []).name = bD from rfl)]; rfl), impsN]
  rfl
theorem res_E : resN upL [] 9 ⟨[], []⟩ ⟨#[69]⟩ = .bad 3 := res_none (not_known rfl) (fun h => by cases h) (up_none (by decide) (by decide) (by decide) (by decide))
theorem up_key : ∀ f ∈ upL, f.2.key < 4294967296 := fun f hf => by
  simp only [upL, List.mem_cons, List.not_mem_nil, or_false] at hf
  rcases hf with rfl | rfl | rfl | rfl <;> (show 1 < 4294967296; decide)
set_option maxRecDepth 100000 in
theorem cycle_eql (w : World) : (binOp .eql 31 (.iface 57 (.int .i64 6)) (.iface 57 (.int .i64 6))).run Try.prog w = .ok (.bool true) w := by kernel_rfl
set_option maxRecDepth 100000 in
theorem missing_eql (w : World) : (binOp .eql 31 (.iface 57 (.int .i64 3)) (.iface 57 (.int .i64 3))).run Try.prog w = .ok (.bool true) w := by kernel_rfl
set_option maxRecDepth 100000 in
set_option maxHeartbeats 2000000 in
theorem up19 (w : World) : Calls Try.prog 5 #[] w fun e w' => e = .returned (.bool true) ∧ Below w.heap.size w w' := by
  have HT : Hid (∀ (s : ByteArray) (w : World), s.size ≤ 300 → Calls Try.prog 8 #[.string s, .func (.func 14) #[] #[], .func (.func 13) #[] #[]] w fun e w' => TopTold w.heap.size (fun _ => False) (fun _ _ => True) w (resN upL [] 9 ⟨[], []⟩ s) e w') := fun s w hs => top_any s w (up_env w.heap.size) (by decide) up_key trivial hs
  have HA : Hid (∀ w : World, Calls Try.prog 8 #[.string bA, .func (.func 14) #[] #[], .func (.func 13) #[] #[]] w fun e w' => e = .returned (.tuple #[.slice none 0 0, .iface 57 (.int .i64 6)]) ∧ Below w.heap.size w w') := fun w => by
    have h := HT.out bA w (by decide)
    rw [res_A] at h
    exact h.mono fun _ _ ⟨h1, _, h2⟩ => ⟨h1, h2.none⟩
  have HE : Hid (∀ w : World, Calls Try.prog 8 #[.string ⟨#[69]⟩, .func (.func 14) #[] #[], .func (.func 13) #[] #[]] w fun e w' => e = .returned (.tuple #[.slice none 0 0, .iface 57 (.int .i64 3)]) ∧ Below w.heap.size w w') := fun w => by
    have h := HT.out ⟨#[69]⟩ w (by decide)
    rw [res_E] at h
    exact h.mono fun _ _ ⟨h1, _, h2⟩ => ⟨h1, h2.none⟩
  have HC : Hid (∀ w : World, Calls Try.prog 8 #[.string bC, .func (.func 14) #[] #[], .func (.func 13) #[] #[]] w fun e w' => (∃ b cap, e = .returned (.tuple #[.slice (some ⟨b, 0, none⟩) 2 cap, .nilIface]) ∧ b < w'.heap.size ∧ w'.cell? ⟨b, 0, none⟩ = some (.string bD) ∧ w'.cell? ⟨b, 15, none⟩ = some (.string bC)) ∧ Below w.heap.size w w') := fun w => by
    have h := HT.out bC w (by decide)
    rw [res_C] at h
    refine h.mono fun e w' ⟨⟨v, LO, h1, h2, _, h3, _⟩, _, h4⟩ => ⟨?_, h4.none⟩
    have hl : LO.length = 2 := by
      have := congrArg List.length h3
      simpa using this
    obtain ⟨b, cap, hv, hb, _, _, hc⟩ := h2.cell (by omega)
    rw [hl] at hv
    obtain ⟨x, hx⟩ : ∃ x, LO[0]? = some x := ⟨_, List.getElem?_eq_getElem (by omega)⟩
    obtain ⟨y, hy⟩ : ∃ y, LO[1]? = some y := ⟨_, List.getElem?_eq_getElem (by omega)⟩
    have hx2 : x.2 = plainD bD [] := by
      have := congrArg (·[0]?) h3
      simp only [List.getElem?_map, hx] at this
      simpa using this
    have hy2 : y.2 = plainD bC [bD] := by
      have := congrArg (·[1]?) h3
      simp only [List.getElem?_map, hy] at this
      simpa using this
    refine ⟨b, cap, by rw [h1, hv], hb, ?_, ?_⟩
    · rw [hc 0 (by omega), rows_at 15 objRow_len LO 0 x 0 hx (by decide)]
      show some (Value.string x.2.name) = _
      rw [hx2]
      rfl
    · rw [hc 15 (by omega), rows_at 15 objRow_len LO 1 y 0 hy (by decide)]
      show some (Value.string y.2.name) = _
      rw [hy2]
      rfl
  have HN : Hid (∀ w : World, Calls Try.prog 8 #[.string bC, .nilFunc, .func (.func 13) #[] #[]] w fun e w' => e = .returned (.tuple #[.slice none 0 0, .iface 57 (.int .i64 1)]) ∧ w = w') := fun w => top_nil bC _ w
  have k1 := cycle_eql
  have k2 := missing_eql
  have k3 := arg_eql
  clear HT
  go_enter Try.func5, Try.ntmps5
  go_wp2_with fail
  refine (HA.out _).mono ?_
  rintro e w1 ⟨rfl, hb1⟩
  go_wp2_with fail
  refine (HC.out _).mono ?_
  rintro e w2 ⟨⟨b, cap, rfl, hlt, c0, c1⟩, hb2⟩
  have HB2 := Lib.hid (below_on hb1 hb2 hb1.size)
  have HLT := Lib.hid hlt
  have HC0 := Lib.hid c0
  have HC1 := Lib.hid c1
  clear hb1 hb2 hlt c0 c1
  go_wp2_with fail
  refine (HE.out _).mono ?_
  rintro e w3 ⟨rfl, hb3⟩
  have c0 : w3.cell? ⟨b, 0, none⟩ = some (.string bD) := (hb3.cell (p := ⟨b, 0, none⟩) HLT.out).trans HC0.out
  have c1 : w3.cell? ⟨b, 15, none⟩ = some (.string bC) := (hb3.cell (p := ⟨b, 15, none⟩) HLT.out).trans HC1.out
  have HB3 := Lib.hid (below_on HB2.out hb3 HB2.out.size)
  clear hb3 HB2 HC0 HC1 HLT
  go_wp2_with fail
  refine (HN.out _).mono ?_
  rintro e w4 ⟨rfl, rfl⟩
  go_wp2_with fail
  go_ret
  exact ⟨end_bool (by simp), HB3.out⟩
end Go.Proofs.Ytkkjfbpflfknpaa

/-
  What getter makes; few files are small ones (layer 19). No conditions beyond those that each theorem names.
-/
namespace Go.Proofs.Ytkkjfbpflfknpaa
open Go.ChangeShapes Go.WideShapes Go.ChangeAt Go.RowKit

/- what getter makes -/
theorem start_get {w w2 : World} {lv : Value} (hb : Below w.heap.size w w2) :
    GetI w (((w2.alloc (.map #[] 0)).alloc (.cells #[lv] FsT)).alloc (.cells #[.map (some w2.heap.size)] MgT)).heap.size lv (w2.heap.size + 2) (w2.heap.size + 1) w2.heap.size (((w2.alloc (.map #[] 0)).alloc (.cells #[lv] FsT)).alloc (.cells #[.map (some w2.heap.size)] MgT)) [] := by
  have h1 : Kept (fun _ => False) (w2.alloc (.map #[] 0)) ((w2.alloc (.map #[] 0)).alloc (.cells #[lv] FsT)) := (Kept.refl _ _).alloc _
  have h2 : Kept (fun _ => False) ((w2.alloc (.map #[] 0)).alloc (.cells #[lv] FsT)) (((w2.alloc (.map #[] 0)).alloc (.cells #[lv] FsT)).alloc (.cells #[.map (some w2.heap.size)] MgT)) := (Kept.refl _ _).alloc _
  have r1 := RowAt.new (w2.alloc (.map #[] 0)) FsT [lv]
  have r2 := RowAt.new ((w2.alloc (.map #[] 0)).alloc (.cells #[lv] FsT)) MgT [.map (some w2.heap.size)]
  rw [show (w2.alloc (.map #[] 0)).heap.size = w2.heap.size + 1 by simp] at r1
  rw [show ((w2.alloc (.map #[] 0)).alloc (.cells #[lv] FsT)).heap.size = w2.heap.size + 2 by simp] at r2
  refine ⟨r2, r1.keep h2 (fun e => e), MapG.ext (((MapG.new w2).keep h1 fun e => e).keep h2 fun e => e) fun s => (gotF_no (by simp)).symm, ?_, hb.size, by simp, by simp, by simp; omega⟩
  exact ((hb.alloc hb.size _).alloc (Nat.le_trans hb.size (by simp)) _).alloc (Nat.le_trans hb.size (by simp; omega)) _
theorem got_start {w w2 : World} {al : Option Addr} {nl cl : Nat} (hb : Below w.heap.size w w2) : ∃ bg bl gb W4, (Calls Try.prog 9 #[.slice al nl cl, .map (some w2.heap.size)] (w2.alloc (.map #[] 0)) fun e w' => e = .returned (.func (.func 18) #[] #[.pointer (some ⟨bg, 0, none⟩), .pointer (some ⟨bl, 0, none⟩)]) ∧ W4 = w') ∧ GetI w W4.heap.size (.slice al nl cl) bg bl gb W4 [] ∧ gb = w2.heap.size := by
  have h := getter_any al nl cl w2.heap.size (w2.alloc (.map #[] 0))
  rw [show (w2.alloc (.map #[] 0)).heap.size = w2.heap.size + 1 by simp] at h
  exact ⟨_, _, _, _, h, start_get hb, rfl⟩
theorem files_small {L : List (ByteArray × ObjV × ObjD)} (h : FewF L) : ∀ f ∈ filesD L, Small f.2 := fun f hf => by
  obtain ⟨x, hx, rfl⟩ := List.mem_map.1 hf
  exact (h.2 x hx).1
theorem files_key {w : World} {lv : Value} {L : List (ByteArray × ObjV × ObjD)} (h : FilesIn w lv L) : ∀ f ∈ filesD L, f.2.key < 4294967296 := fun f hf => by
  obtain ⟨x, hx, rfl⟩ := List.mem_map.1 hf
  exact (h.objs x hx).fit.key
theorem files_len {L : List (ByteArray × ObjV × ObjD)} (h : FewF L) : (filesD L).length ≤ 1000 := by
  unfold filesD
  rw [List.length_map]
  exact Nat.le_trans h.1 (by decide)
theorem got_start2 {w w2 : World} {al : Option Addr} {nl cl : Nat} (hb : Below w.heap.size w w2) : ∃ bg bl gb W4, (Calls Try.prog 9 #[.slice al nl cl, .map (some w2.heap.size)] (w2.alloc (.map #[] 0)) fun e w' => e = .returned (.func (.func 18) #[] #[.pointer (some ⟨bg, 0, none⟩), .pointer (some ⟨bl, 0, none⟩)]) ∧ W4 = w') ∧ GetI w W4.heap.size (.slice al nl cl) bg bl gb W4 [] ∧ gb = w2.heap.size ∧ Kept (fun _ => False) w2 W4 := by
  have h := getter_any al nl cl w2.heap.size (w2.alloc (.map #[] 0))
  rw [show (w2.alloc (.map #[] 0)).heap.size = w2.heap.size + 1 by simp] at h
  exact ⟨_, _, _, _, h, start_get hb, rfl, ((((Kept.refl _ w2).alloc _).alloc _).alloc _)⟩
end Go.Proofs.Ytkkjfbpflfknpaa
