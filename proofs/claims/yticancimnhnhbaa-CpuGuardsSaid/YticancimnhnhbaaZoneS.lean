/-
  The contract of All (layer 6). No conditions beyond those that each theorem names.
-/
import Derived.Test.YticancimnhnhbaaZoneH
import Derived.Laws.MakeOwn
namespace Go.Proofs.Yticancimnhnhbaa
open Go.ChangeShapes Go.WideShapes Go.ChangeAt Go.RowKit

theorem make_zones (n : Nat) (hn : n ≤ 1000) : ∃ Zs : List Value, Zs.length = n * 6 ∧ ∀ w : World, (Instr.makeSlice 48 (.int .i64 n) (.int .i64 n)).run Try.prog w = .ok (.slice (some ⟨w.heap.size, 0, none⟩) n n) (w.alloc (.cells Zs.toArray ZT)) := by
  obtain ⟨i, hi, hi1, hi2, hi3⟩ : ∃ i, Try.prog.info? 30 = some i ∧ i.zero = some ZZ ∧ i.size = 6 ∧ i.bytes = 80 := by
    have := infoZ
    cases hq : Try.prog.info? 30 with
    | none => simp [hq] at this
    | some i => exact ⟨i, rfl, by simpa [hq] using this⟩
  refine ⟨(madeCells ZZ.cells (n * 6)).toList, by simp [madeCells], fun w => ?_⟩
  have := run_makeSlice (P := Try.prog) (w := w) 48 30 i ZZ Try.underlying48 hi hi1 .i64 .i64 (n : Int) (n : Int) (by omega) (Int.le_refl _) (by rw [hi2]; simp; omega) (by rw [hi3]; omega) (by omega)
  rw [hi2] at this
  simpa using this

structure AllAt (w1 wr : World) (nb k : Nat) (L L' : List ZR) (Zs : List Value) : Prop where
  len : L'.length = k
  same : L'.map ZR.z = (L.take k).map ZR.z
  row : RowAt wr nb ZT (zcs L' ++ Zs.drop (k * 6))
  read : ∀ x ∈ L', Stored wr x
  kept : Kept (· = nb) w1 wr

theorem AllAt.step {w1 wr w2 : World} {nb k : Nat} {L L' : List ZR} {Zs : List Value} (h : AllAt w1 wr nb k L L' Zs) {x y : ZR} (hx : L[k]? = some x) (hyz : y.z = x.z) (hy : Stored w2 y) (hk : Kept No wr w2) (hZ : Zs.length = L.length * 6) :
    (Instr.storeAt ZT (.pointer (some ⟨nb, k * 6, none⟩)) (.agg #[.int .i64 y.z.b, .int .i64 y.z.d, .int .i64 y.z.r, .int .i64 y.z.e, y.p.v, y.q.v])).run Try.prog w2 = .ok () (w2.setRow nb (zcs (L' ++ [y]) ++ Zs.drop ((k + 1) * 6)).toArray) ∧
    AllAt w1 (w2.setRow nb (zcs (L' ++ [y]) ++ Zs.drop ((k + 1) * 6)).toArray) nb (k + 1) L (L' ++ [y]) Zs := by
  have hkl : k < L.length := (List.getElem?_eq_some_iff.1 hx).1
  have r2 := h.row.keep hk (fun h => h)
  have e1 : (zcs L').length = k * 6 := by rw [ecs_length, List.length_map, h.len]
  have hst := store_el (P := Try.prog) r2 (k * 6) y.el ZT sizeZ y.v rfl (by rw [List.length_append, e1, List.length_drop, hZ]; omega)
  have hsp := splice_end (zcs L') (Zs.drop (k * 6)) y.el.cs
  rw [e1, y.el.len, List.drop_drop] at hsp
  have e2 : zcs L' ++ y.el.cs = zcs (L' ++ [y]) := by simp [zcs, ecs_append, ecs_one]
  have e3 : k * 6 + 6 = (k + 1) * 6 := by omega
  rw [e2, e3] at hsp
  rw [hsp] at hst
  have ks := kept_row w2 nb (zcs (L' ++ [y]) ++ Zs.drop ((k + 1) * 6)).toArray
  refine ⟨hst, ⟨by simp [h.len], ?_, r2.set _, fun u hu => ?_, (h.kept.then hk (fun _ _ h => h.elim)).trans ks⟩⟩
  · rw [List.map_append, h.same, List.take_add_one, hx, List.map_append]
    simp [hyz]
  · have hw2 : Stored w2 u := by
      rcases List.mem_append.1 hu with hu | hu
      · exact (h.read u hu).keep hk (fun _ _ _ h => h)
      · simp at hu
        subst hu
        exact hy
    exact hw2.keep ks fun b cs hr hb => (hr.ne_type r2 (by decide)) hb

set_option maxRecDepth 100000 in
set_option maxHeartbeats 4000000 in
theorem all_any (zp mb : Nat) (lv : Value) (L : List ZR) (n : Nat) (w : World) (h : ZAt w zp mb lv L n) (few : ∀ x ∈ L, x.z.P.length ≤ 100 ∧ x.z.Q.length ≤ 100) :
    Calls Try.prog 24 #[.pointer (some ⟨zp, 0, none⟩)] w fun e w' => (∃ a c L', e = .returned (.slice a L.length c) ∧ L'.map ZR.z = L.map ZR.z ∧ SRow ZT 6 w' (.slice a L.length c) L'.length (zcs L') ∧ ∀ x ∈ L', Stored w' x) ∧ Kept No w w' := by
  have c0 := h.h0
  have hlt := h.head.lt
  have hsm := h.small
  obtain ⟨sa, c, hlv, hc1, hc2⟩ := h.list.shape
  subst hlv
  obtain ⟨Zs, hZ, hmk0⟩ := make_zones L.length (by omega)
  have hmk := hmk0 w
  obtain ⟨W1, hW1⟩ : ∃ W1, W1 = w.alloc (.cells Zs.toArray ZT) := ⟨_, rfl⟩
  have k1 : Kept No w W1 := by rw [hW1]; exact (Kept.refl _ _).alloc _
  have r1 : RowAt W1 w.heap.size ZT Zs := by rw [hW1]; exact RowAt.new w ZT Zs
  have hz1 := h.on k1.none
  have c1 : W1.cell? ⟨zp, 0, none⟩ = some (.slice sa L.length c) := hz1.h0
  have H1 := Lib.hid hz1
  have R1 := Lib.hid r1
  have K1 := Lib.hid k1
  have HF := Lib.hid few
  have HZ := Lib.hid hZ
  have HO : Hid (∀ j, own (.slice sa L.length c) j → j < w.heap.size) := h.list.own_lt
  clear h hmk0 k1 r1 hz1 few hZ
  generalize hN : L.length = N at *
  have HN := Lib.hid hN
  clear hN
  rw [← hW1] at hmk
  clear hW1
  go_enter Try.func24, Try.ntmps24
  go_wp2_with fail
  clear hmk
  go_loopw [17] (fun i wr => ∃ k : Nat, k ≤ N ∧ i = .int .i64 k ∧ ∃ L', Hid (AllAt W1 wr w.heap.size k L L' Zs)) (fun i _ => N - (intOf i).toNat)
  case atStart => exact ⟨0, Nat.zero_le _, rfl, [], (show Hid (AllAt W1 W1 w.heap.size 0 L [] Zs) from (⟨rfl, by simp, by simpa [zcs, ecs_nil] using R1.out, by simp, Kept.refl _ _⟩ : AllAt W1 W1 w.heap.size 0 L [] Zs))⟩
  case round =>
    obtain ⟨k, hk, rfl, L', HA⟩ := hrel
    by_cases hlt' : k < N
    · obtain ⟨x, hx⟩ : ∃ x, L[k]? = some x := ⟨_, List.getElem?_eq_getElem (by rw [HN.out]; exact hlt')⟩
      obtain ⟨b, cap, hv, hbl, hcap1, hcap2, hcs⟩ := H1.out.list.cell (by rw [HN.out]; omega)
      rw [HN.out] at hv
      cases hv
      have hbn : b ≠ w.heap.size := fun e => by have := HO.out b rfl; omega
      obtain ⟨s0, s1, s2, s3, s4, s5⟩ := (six_of rfl hcs hx).keep HA.out.kept hbl hbn
      have e5 : (k : Int) < (N : Int) := by omega
      have e6 : (0 : Int) ≤ (k : Int) := by omega
      have HS1 : Hid ((Instr.storeAt ZT (.pointer (some ⟨wr.heap.size, 0, none⟩)) (.agg #[.int .i64 x.z.b, .int .i64 x.z.d, .int .i64 x.z.r, .int .i64 x.z.e, x.p.v, x.q.v])).run Try.prog (wr.alloc (.cells #[.int .i64 0, .int .i64 0, .int .i64 0, .int .i64 0, .slice none 0 0, .slice none 0 0] ZT)) =
        .ok () (wr.alloc (.cells #[.int .i64 x.z.b, .int .i64 x.z.d, .int .i64 x.z.r, .int .i64 x.z.e, x.p.v, x.q.v] ZT))) := laid_zone wr x
      have hm : x ∈ L := List.mem_of_getElem? hx
      have hst : Stored wr x := (H1.out.read x hm).keep HA.out.kept (fun b' cs hr hb => (hr.ne_type R1.out (by decide)) hb)
      have hfx := HF.out x hm
      have k2 : Kept No wr (wr.alloc (.cells #[.int .i64 x.z.b, .int .i64 x.z.d, .int .i64 x.z.r, .int .i64 x.z.e, x.p.v, x.q.v] ZT)) := (Kept.refl _ _).alloc _
      have HCl : Hid (Calls Try.prog 42 #[.agg #[.int .i64 x.z.b, .int .i64 x.z.d, .int .i64 x.z.r, .int .i64 x.z.e, x.p.v, x.q.v]] (wr.alloc (.cells #[.int .i64 x.z.b, .int .i64 x.z.d, .int .i64 x.z.r, .int .i64 x.z.e, x.p.v, x.q.v] ZT)) fun e w' => ∃ y : ZR, e = .returned (.agg #[.int .i64 y.z.b, .int .i64 y.z.d, .int .i64 y.z.r, .int .i64 y.z.e, y.p.v, y.q.v]) ∧ y.z = x.z ∧ Stored w' y ∧ Kept No wr w') :=
        (clone_any x _ (hst.ps.on k2.none) (hst.qs.on k2.none) (by omega) (by omega)).mono fun _ _ ⟨y, h1, h2, h3, h4⟩ => ⟨y, h1, h2, h3, k2.trans h4⟩
      have HX := Lib.hid hx
      have hwn : w.heap.size < wr.heap.size := HA.out.row.lt
      clear hx hm hst hfx k2 hcs
      generalize x.p.v = pv at *
      generalize x.q.v = qv at *
      go_wp2_with (refine wpList_store_run _ rfl _ _ _ rfl _ _ rfl rfl (by exact HS1.out) ?_)
      refine HCl.out.mono ?_
      rintro e w2 ⟨y, rfl, hyz, hys, hk2⟩
      obtain ⟨hst2, hall⟩ := HA.out.step HX.out hyz hys hk2 (by rw [HN.out]; exact HZ.out)
      have HS2 := Lib.hid hst2
      have HALL := Lib.hid hall
      clear hyz hys hk2 hst2 hall
      generalize y.p.v = pv' at *
      generalize y.q.v = qv' at *
      go_wp2_with (refine wpList_store_run _ rfl _ _ _ rfl _ _ rfl rfl (by exact HS2.out) ?_)
      go_roundw
      case rel => exact ⟨k + 1, by omega, by go_num, _, HALL⟩
      case measure => simp [intOf]; omega
    · obtain rfl : k = N := by omega
      have e5 : ¬ (k : Int) < (k : Int) := by omega
      go_wp2_with fail
      go_ret
      have ha := HA.out
      have hl : L'.length = k := ha.len
      have hs : L'.map ZR.z = L.map ZR.z := by rw [ha.same, List.take_of_length_le (by rw [HN.out]; exact Nat.le_refl _)]
      refine ⟨⟨_, _, rfl, L', hs, ⟨.inr ⟨w.heap.size, k, [], by rw [hl], ?_, by rw [hl]; simp, by omega, ?_⟩, by rw [ecs_length]; simp, ecs_ones _⟩, ha.read⟩, K1.out.then ha.kept (fun j hj h => by omega)⟩
      · have := ha.row
        rw [List.drop_of_length_le (by rw [HZ.out]; exact Nat.le_refl _)] at this
        exact this
      · simp [maxLen]; omega
end Go.Proofs.Yticancimnhnhbaa
