/-
  Files and objects as the statements of layer 19 have them in memory; few. No conditions beyond those that each theorem names.
-/
import Derived.Test.YtkkjfbpflfknpaaOrM
import Derived.Test.YtkkjfbpflfknpaaObjK
import Derived.Test.YtkkjfbpflfknpaaGrow
namespace Go.Proofs.Ytkkjfbpflfknpaa
open Go.ChangeShapes Go.WideShapes Go.ChangeAt Go.RowKit

abbrev FlT : TypeId := 50
abbrev ObS : TypeId := 29
def objRow (x : ObjV × ObjD) : List Value := ocells x.1 x.2
theorem objRow_len (x : ObjV × ObjD) : (objRow x).length = 15 := rfl
def fileRow (x : ByteArray × ObjV × ObjD) : List Value := .string x.1 :: ocells x.2.1 x.2.2
theorem fileRow_len (x : ByteArray × ObjV × ObjD) : (fileRow x).length = 16 := rfl
theorem info_obj : (Try.prog.info? OT).map (fun i => (i.zero, i.size, i.bytes)) = some (some (.agg (ocells nilO noObj).toArray), 15, 248) := by kernel_rfl
/- objects, side by side -/
structure ObjsIn (w : World) (v : Value) (L : List (ObjV × ObjD)) : Prop where
  els : ElsAt 15 objRow w v L
  objs : ∀ x ∈ L, ObjAt w x.1 x.2
theorem ObjsIn.on {w w' : World} {v : Value} {L : List (ObjV × ObjD)} (h : ObjsIn w v L) (hb : Below w.heap.size w w') : ObjsIn w' v L := ⟨h.els.on hb, fun x hx => (h.objs x hx).on hb⟩
def OutIn (w : World) (v : Value) (out : List ObjD) : Prop := ∃ L, ObjsIn w v L ∧ L.map (·.2) = out
theorem OutIn.on {w w' : World} {v : Value} {out : List ObjD} (h : OutIn w v out) (hb : Below w.heap.size w w') : OutIn w' v out := by
  obtain ⟨L, h1, h2⟩ := h
  exact ⟨L, h1.on hb, h2⟩
theorem OutIn.none (w : World) : OutIn w (.slice none 0 0) [] := ⟨[], ⟨els_none _ _ _, fun x hx => by cases hx⟩, rfl⟩
theorem OutIn.shape {w : World} {v : Value} {out : List ObjD} (h : OutIn w v out) : ∃ a cap, v = .slice a out.length cap ∧ out.length ≤ cap ∧ cap ≤ maxLen := by
  obtain ⟨L, h1, rfl⟩ := h
  obtain ⟨a, cap, e, h2, h3, _⟩ := h1.els.shape
  exact ⟨a, cap, by rw [List.length_map]; exact e, by rw [List.length_map]; exact h2, h3⟩
/- an object's name, its key -/
theorem OutIn.cell {w : World} {v : Value} {out : List ObjD} (h : OutIn w v out) {i : Nat} {o : ObjD} (hi : out[i]? = some o) :
    ∃ b off cap, v = .slice (some ⟨b, off, Option.none⟩) out.length cap ∧ b < w.heap.size ∧ w.cell? ⟨b, off + i * 15, Option.none⟩ = some (.string o.name) ∧ w.cell? ⟨b, off + i * 15 + 1, Option.none⟩ = some (.int .u32 (o.key : Nat)) := by
  obtain ⟨L, h1, rfl⟩ := h
  rw [List.getElem?_map] at hi
  cases hx : L[i]? with
  | none => rw [hx] at hi; cases hi
  | some x =>
    rw [hx] at hi
    cases hi
    obtain ⟨b, off, cap, e, hb, hc⟩ := h1.els.cell hx
    exact ⟨b, off, cap, by rw [List.length_map]; exact e, hb, hc 0 (by decide), hc 1 (by decide)⟩
structure FilesIn (w : World) (v : Value) (L : List (ByteArray × ObjV × ObjD)) : Prop where
  els : ElsAt 16 fileRow w v L
  objs : ∀ x ∈ L, ObjAt w x.2.1 x.2.2
theorem FilesIn.on {w w' : World} {v : Value} {L : List (ByteArray × ObjV × ObjD)} (h : FilesIn w v L) (hb : Below w.heap.size w w') : FilesIn w' v L := ⟨h.els.on hb, fun x hx => (h.objs x hx).on hb⟩
def filesD (L : List (ByteArray × ObjV × ObjD)) : List (ByteArray × ObjD) := L.map fun x => (x.1, x.2.2)
theorem filesD_at {L : List (ByteArray × ObjV × ObjD)} {i : Nat} {x : ByteArray × ObjV × ObjD} (h : L[i]? = some x) : (filesD L)[i]? = some (x.1, x.2.2) := by
  unfold filesD
  rw [List.getElem?_map, h]
  rfl
/- a file's name; its object, whole -/
theorem FilesIn.cell {w : World} {v : Value} {L : List (ByteArray × ObjV × ObjD)} (h : FilesIn w v L) {i : Nat} {x : ByteArray × ObjV × ObjD} (hi : L[i]? = some x) :
    ∃ b off cap, v = .slice (some ⟨b, off, none⟩) L.length cap ∧ b < w.heap.size ∧ w.cell? ⟨b, off + i * 16, none⟩ = some (.string x.1) ∧ w.rangeAt b (off + i * 16 + 1) (ocells x.2.1 x.2.2) := by
  obtain ⟨b, off, cap, e, hb, hc⟩ := h.els.cell hi
  refine ⟨b, off, cap, e, hb, hc 0 (by decide), fun j u hj => ?_⟩
  have hl := (List.getElem?_eq_some_iff.1 hj).1
  have hl15 : j < 15 := hl
  have := hc (j + 1) (by omega)
  rw [show off + i * 16 + 1 + j = off + (i * 16 + (j + 1)) by omega, this]
  exact hj
theorem range_below {w w' : World} {b o : Nat} {cs : List Value} (h : w.rangeAt b o cs) (hb : b < w.heap.size) (hk : Below w.heap.size w w') : w'.rangeAt b o cs := fun j u hj => (hk.cell (p := ⟨b, o + j, none⟩) hb).trans (h j u hj)
/- few files, each small -/
def FewF (L : List (ByteArray × ObjV × ObjD)) : Prop := L.length ≤ 20 ∧ ∀ x ∈ L, Small x.2.2 ∧ x.1.size ≤ 100
set_option maxRecDepth 100000 in
set_option maxHeartbeats 2000000 in
theorem few19_any (v : Value) (L : List (ByteArray × ObjV × ObjD)) (w : World) (h : FilesIn w v L) :
    Calls Try.prog 6 #[v] w fun e w' => ((e = .returned (.bool true) ∧ FewF L) ∨ e = .returned (.bool false)) ∧ Below w.heap.size w w' := by
  have HF := Lib.hid h
  obtain ⟨a, cap, hv, hc, hm, _⟩ := h.els.shape
  obtain ⟨n, hn⟩ : ∃ n, n = L.length := ⟨_, rfl⟩
  rw [← hn] at hv hc
  have HN := Lib.hid hn
  have hsn : n ≤ 9223372036854775807 := Nat.le_trans hc hm
  subst hv
  clear h hn hc hm
  go_enter Try.func6, Try.ntmps6
  go_wp2_with fail
  go_loopw [3] (fun i wr => ∃ m : Nat, m ≤ n ∧ i = .int .i64 (m : Nat) ∧ Below w.heap.size w wr ∧ ∀ (j : Nat) (x : ByteArray × ObjV × ObjD), j < m → L[j]? = some x → Small x.2.2 ∧ x.1.size ≤ 100) (fun i _ => n - (intOf i).toNat)
  case atStart => exact ⟨0, Nat.zero_le _, rfl, Below.refl _ _, fun j x hj => by omega⟩
  case round =>
    obtain ⟨m, hm, rfl, hB, hall⟩ := hrel
    have HB := Lib.hid hB
    have HALL := Lib.hid hall
    clear hB hall
    by_cases hlt : m < n
    · obtain ⟨x, hx⟩ : ∃ x, L[m]? = some x := ⟨_, List.getElem?_eq_getElem (by have := HN.out; omega)⟩
      have HX := Lib.hid hx
      obtain ⟨b, off, cap', e0, hb, u0, hr⟩ := HF.out.cell hx
      have HO := Lib.hid (HF.out.objs x (List.mem_of_getElem? hx))
      have hsz := HO.out.fit.name
      obtain ⟨s, V, o⟩ := x
      rw [← HN.out] at e0
      have ea : a = some ⟨b, off, none⟩ := by cases e0; rfl
      subst ea
      have HU : Hid (w.cell? ⟨b, off + m * 16, none⟩ = some (.string s)) := u0
      have HBW : Hid (b < w.heap.size) := hb
      have HRG : Hid (wr.rangeAt b (off + m * 16 + 1) (ocells V o)) := range_below hr hb HB.out
      have i1 : (m : Int) < (n : Int) := by omega
      have i2 : (0 : Int) ≤ (m : Int) := by omega
      have HLT : Hid (m < n) := hlt
      have HFW := Lib.hid (few2_any V o wr (HO.out.on HB.out))
      clear e0 hx hb u0 hr hsz hlt hm
      go_wp2_with (refine wpList_load_mid rfl _ _ rfl b (off + m * 16 + 1) rfl (ocells V o) _ HRG.out Try.underlying48 rfl (by rw [size_ob]; rfl) ?_)
      refine HFW.out.mono ?_
      rintro e w1 ⟨hfew, hb1⟩
      have HB1 := Lib.hid (below_on HB.out hb1 HB.out.size)
      have u1 : w1.cell? ⟨b, off + m * 16, none⟩ = some (.string s) := (HB1.out.cell (p := ⟨b, off + m * 16, none⟩) HBW.out).trans HU.out
      clear hb1 HFW HB
      rcases hfew with ⟨rfl, hsm⟩ | rfl
      rotate_left
      · as_aux_lemma =>
        go_wp2_with fail
        go_ret
        exact ⟨.inr rfl, HB1.out⟩
      have HS := Lib.hid hsm
      clear hsm
      by_cases hl : 100 < ((s.size : Nat) : Int)
      · as_aux_lemma =>
        have hl' : decide (100 < ((s.size : Nat) : Int)) = true := by simpa using hl
        go_wp2_with fail
        go_ret
        exact ⟨.inr rfl, HB1.out⟩
      have hl' : decide (100 < ((s.size : Nat) : Int)) = false := by simpa using hl
      as_aux_lemma =>
      have HOK := Lib.hid (all_next (Q := fun _ (x : ByteArray × ObjV × ObjD) => Small x.2.2 ∧ x.1.size ≤ 100) HALL.out HX.out ⟨HS.out, by simp only; omega⟩)
      go_wp2_with fail
      go_roundw
      case rel => exact ⟨m + 1, HLT.out, by go_num, HB1.out, HOK.out⟩
      case measure => have := HLT.out; simp [intOf]; omega
    · have i1 : ¬ (m : Int) < (n : Int) := by omega
      have HAL := Lib.hid (all_done (Q := fun _ (x : ByteArray × ObjV × ObjD) => Small x.2.2 ∧ x.1.size ≤ 100) HALL.out (by have := HN.out; omega))
      clear hm hlt HALL
      by_cases h20 : (n : Int) ≤ 20
      · have h20' : decide ((n : Int) ≤ 20) = true := by simpa using h20
        go_wp2_with fail
        go_ret
        refine ⟨.inl ⟨end_bool (by simp <;> omega), by have := HN.out; omega, fun x hx => ?_⟩, HB.out⟩
        obtain ⟨j, hj⟩ := List.getElem?_of_mem hx
        exact HAL.out j x hj
      · have h20' : decide ((n : Int) ≤ 20) = false := by simpa using h20
        go_wp2_with fail
        go_ret
        exact ⟨.inr (end_bool (by simp <;> omega)), HB.out⟩
end Go.Proofs.Ytkkjfbpflfknpaa
