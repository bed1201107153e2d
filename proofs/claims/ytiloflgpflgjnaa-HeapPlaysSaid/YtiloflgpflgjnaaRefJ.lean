/-
  Contracts of the document's Holes and Same (dowelref05), and of as (dowellaw05). No conditions beyond those that each theorem names.
-/
import Derived.Test.YtiloflgpflgjnaaRefI
import Derived.Test.YtiloflgpflgjnaaHeapA
import Derived.Deep.RegionHeld3
namespace Go.Proofs.Ytiloflgpflgjnaa
open Go.ChangeShapes Go.WideShapes Go.ChangeAt Go.RowKit

abbrev RT : TypeId := 63
theorem infoR : (Try.prog.info? 63).map (fun i => (i.zero, i.size, i.bytes)) = some (some (.agg #[.int .i64 0, .int .i64 0]), 2, 16) := by kernel_rfl

theorem RefAt.below {w w' : World} {m : Nat} {f t : Int} {v : Value} {F : List Bool} (h : RefAt w m f t v F) (hb : Below w.heap.size w w') : RefAt w' m f t v F := h.keep (S := fun _ => False) (Kept.of_below hb) (fun _ _ h => h)
theorem RefAt.foot_lt {w : World} {m : Nat} {f t : Int} {v : Value} {F : List Bool} (h : RefAt w m f t v F) (j : Nat) (hj : rfoot m v j) : j < w.heap.size := by
  rcases hj with rfl | hj
  · exact h.head.lt
  · exact h.row.own_lt j hj

/- a slice of holes that grows: of new memory alone -/
def Grows (w wr : World) (v : Value) (R : List (Int × Int)) : Prop := SRow RT 2 wr v R.length (pcs R) ∧ (∀ j, own v j → w.heap.size ≤ j) ∧ Below w.heap.size w wr
theorem Grows.start (w : World) : Grows w w (.slice none 0 0) [] := ⟨SRow.nil _ _ _, fun j hj => by simp [own] at hj, Below.refl _ _⟩
theorem Grows.more {w wr : World} {v : Value} {R : List (Int × Int)} (h : Grows w wr v R) (x : Int × Int) (ty : TypeId) (small : R.length ≤ 100000) (wd : World) (hd : Drawn wr wd) :
    ∃ a n c w2, (Builtin.append_ #[42, 42] ty #[v, .slice (some ⟨wd.heap.size, 0, none⟩) 1 1]).run Try.prog (wd.alloc (.cells #[.int .i64 x.1, .int .i64 x.2] RT)) = .ok (.slice a n c) w2 ∧ Grows w w2 (.slice a n c) (R ++ [x]) := by
  obtain ⟨hs, ho, hb⟩ := h
  have kd : Kept (fun _ => False) wr wd := Kept.drawn hd
  have k1 : Kept (fun _ => False) wr (wd.alloc (.cells #[.int .i64 x.1, .int .i64 x.2] RT)) := kd.alloc _
  have hx : RowAt (wd.alloc (.cells #[.int .i64 x.1, .int .i64 x.2] RT)) wd.heap.size RT (pcs [x]) := RowAt.new wd RT (pcs [x])
  have hsrc : Src Try.prog 2 42 (.slice (some ⟨wd.heap.size, 0, none⟩) 1 1) 1 (pcs [x]) (wd.alloc (.cells #[.int .i64 x.1, .int .i64 x.2] RT)) :=
    Src.ofSlice _ Try.underlying42 _ _ _ _ rfl (fun j u hu => by rw [Addr.add_lit, Nat.zero_add, hx.cell, hu]) (pcs_ones _)
  obtain ⟨v', w2, q0, q1, q2, q3, _⟩ := (hs.keep k1 (fun _ _ h => h)).append (P := Try.prog) 42 ty Try.underlying42 infoR rfl (by omega) hsrc (.inl (by omega)) (by omega)
  obtain ⟨a, c, rfl, _⟩ := q1.shape
  refine ⟨a, _, c, w2, q0, by rw [List.length_append, pcs_append]; exact q1, fun j hj => ?_, ?_⟩
  · rcases q3 j hj with h3 | h3
    · exact ho j h3
    · have := k1.more; have := hb.size; omega
  · exact ((k1.wide (fun _ h => h.elim)).trans (S := own v) q2).below hb hb.size (fun j _ hj => ho j hj)
theorem Grows.set {w wr : World} {b n cap : Nat} {R : List (Int × Int)} {x : Int × Int} (h : Grows w wr (.slice (some ⟨b, 0, none⟩) n cap) (R ++ [x])) (u : Int) : Grows w (wr.setCell ⟨b, R.length * 2 + 1, none⟩ (.int .i64 u)) (.slice (some ⟨b, 0, none⟩) n cap) (R ++ [(x.1, u)]) := by
  obtain ⟨hs, ho, hb⟩ := h
  have e : (R ++ [x]).length = R.length + 1 := by simp
  have e' : (R ++ [(x.1, u)]).length = R.length + 1 := by simp
  rw [e] at hs
  have hn : n = R.length + 1 := by
    obtain ⟨a, c', h1, _⟩ := hs.shape
    cases h1; rfl
  subst hn
  have h1 := hs.setCell (R.length * 2 + 1) (.int .i64 u) (by omega) rfl
  have h2 : (pcs (R ++ [x])).set (R.length * 2 + 1) (.int .i64 u) = pcs (R ++ [(x.1, u)]) := by
    rw [pcs_append, pcs_append, List.set_append_right _ _ (by rw [pcs_length]; omega), pcs_length, Nat.add_sub_cancel_left]
    rfl
  rw [h2] at h1
  refine ⟨by rw [e']; exact h1, ho, (kept_set wr b _ _).below hb hb.size (fun j _ e => e ▸ ho b rfl)⟩
theorem Grows.last {w wr : World} {av : Option Addr} {n cap : Nat} {R : List (Int × Int)} {x : Int × Int} (h : Grows w wr (.slice av n cap) (R ++ [x])) : ∃ b, av = some ⟨b, 0, none⟩ ∧ n = R.length + 1 ∧ b < wr.heap.size ∧ wr.cell? ⟨b, R.length * 2 + 1, none⟩ = some (.int .i64 x.2) ∧ wr.frozen? ⟨b, R.length * 2 + 1, none⟩ = false := by
  have hs := h.1
  have e : (R ++ [x]).length = R.length + 1 := by simp
  rw [e] at hs
  rcases hs.is with ⟨_, h0⟩ | ⟨b, cap, rest, hv, hr, h1, h2, h3⟩
  · omega
  · cases hv
    refine ⟨b, rfl, rfl, hr.lt, ?_, hr.free _⟩
    rw [hr.cell, List.getElem?_append_left (by rw [pcs_length, e]; omega), pcs_snd]
    simp

def HolesRel (w wr : World) (f : Int) (F : List Bool) (out i : Value) : Prop := ∃ (k : Nat) (R : List (Int × Int)), k ≤ F.length ∧ i = .int .i64 k ∧ Grows w wr out R ∧ Built f F k R
def HolesOf (w w' : World) (e : Ending) (R : List (Int × Int)) : Prop := ∃ v, e = .returned v ∧ Grows w w' v R

set_option maxRecDepth 100000 in
set_option maxHeartbeats 2000000 in
theorem refHoles (m : Nat) (f t : Int) (v : Value) (F : List Bool) (L : List (Int × Int)) (w : World) (h : RefAt w m f t v F) (hf : f % 4 = 0) (hL : Tidy f t L) (hT : Tells f F L) :
    Calls Try.prog 17 #[.pointer (some ⟨m, 0, none⟩)] w fun e w' => HolesOf w w' e L := by
  have H := Lib.hid h
  have hr := h.range
  obtain ⟨av, cv, rfl, hcv1, hcv2⟩ := h.row.shape
  have hm' : cv ≤ 9223372036854775807 := hcv2
  have HE : Hid (∀ R, Built f F F.length R → L = R) := fun R hB => built_eq hL hT hB hf
  have small : F.length ≤ 16384 := by omega
  have hf2 : 0 ≤ f ∧ f ≤ 65536 := by omega
  clear h hcv2 hL hT
  generalize hN : F.length = N at *
  have HN := Lib.hid hN
  have HF4 := Lib.hid hf
  have HR := Lib.hid hr
  clear hN hr hf
  go_enter Try.func17, Try.ntmps17
  go_wp2_with fail
  go_loopw [3, 4] (fun out i wr => HolesRel w wr f F out i) (fun _ i _ => N - (intOf i).toNat)
  case atStart => exact ⟨0, [], Nat.zero_le _, rfl, Grows.start w, Built.start f F⟩
  case round =>
    obtain ⟨k, R, hk, rfl, hG, hB⟩ := hrel
    rw [HN.out] at hk
    have HG := Lib.hid hG
    have HB := Lib.hid hB
    have H2 := Lib.hid (H.out.below hG.2.2)
    have c22 := H2.out.c2
    have c02 := H2.out.c0
    obtain ⟨ao, co, rfl, hco1, hco2⟩ := hG.1.shape
    have hfew : R.length ≤ 20000 := by
      have := hB.tidy.few (by omega)
      omega
    have hco3 : co ≤ 9223372036854775807 := hco2
    clear hG hB hco2
    by_cases hlt : k < N
    · have e1 : (k : Int) < (N : Int) := by omega
      have e0 : (0 : Int) ≤ (k : Int) := by omega
      obtain ⟨b, rfl, hb1, hb2, hbit⟩ := H2.out.bit (by rw [HN.out]; omega)
      obtain ⟨u, hu⟩ : ∃ u, F[k]? = some u := ⟨_, List.getElem?_eq_getElem (by rw [HN.out]; exact hlt)⟩
      have cb := (hbit k _ hu).1
      have HU := Lib.hid hu
      have HBIT := Lib.hid hbit
      clear hbit hu
      cases u with
      | false =>
        have HNX := Lib.hid (HB.out.skip (by rw [HU.out]; simp))
        go_wp2_with fail
        go_roundw
        case rel => exact ⟨k + 1, R, by rw [HN.out]; omega, by go_num, HG.out, HNX.out⟩
        case measure => simp [intOf]; omega
      | true =>
        have s4 : IntKind.i64.wrap (4 * (k : Int)) = 4 * (k : Int) := IntWalk.i64_in _ (by omega)
        have s5 : IntKind.i64.wrap (f + 4 * (k : Int)) = f + 4 * (k : Int) := IntWalk.i64_in _ (by omega)
        by_cases hold : 0 < k ∧ R ≠ [] ∧ F[k - 1]? = some true
        · obtain ⟨k', rfl⟩ : ∃ k', k = k' + 1 := ⟨k - 1, by omega⟩
          obtain ⟨R0, x, rfl, hBn⟩ := HB.out.grow HU.out hold.2.2 HF4.out
          obtain ⟨bo, rfl, hn, hbo, cx, fx⟩ := HG.out.last
          rw [hn] at HG hco1 ⊢
          clear hn
          have HNX := Lib.hid (HG.out.set (x.2 + 4))
          have cb2 := (HBIT.out k' _ hold.2.2).1
          have HBN := Lib.hid hBn
          have hx : 0 ≤ x.2 ∧ x.2 ≤ 65536 := by have := HB.out.tidy.each x (by simp); have := HR.out; omega
          have s6 : IntKind.i64.wrap (x.2 + 4) = x.2 + 4 := IntWalk.i64_in _ (by omega)
          clear hold hBn HG HB HBIT
          generalize R0.length = r0 at *
          have i1 : (0 : Int) ≤ (r0 : Int) := by omega
          have i2 : (r0 : Int) < (r0 : Int) + 1 := by omega
          have i3 : (0 : Int) < (r0 : Int) + 1 := by omega
          go_wp2_with fail
          go_roundw
          case rel => exact ⟨k' + 1 + 1, _, by rw [HN.out]; omega, by go_num, HNX.out, HBN.out⟩
          case measure => simp [intOf]; omega
        · have HNW := Lib.hid (HB.out.new HU.out (by
            by_cases h1 : k = 0
            · exact .inl h1
            · by_cases h2 : R = []
              · exact .inr (.inl h2)
              · exact .inr (.inr fun h3 => hold ⟨by omega, h2, h3⟩)) HF4.out)
          obtain ⟨a2, n2, c2, w2, q0, q1⟩ := HG.out.more (f + 4 * (k : Int), 4) 42 (by omega) wr (Drawn.refl _)
          have HQ := Lib.hid q1
          clear q1
          by_cases h1 : k = 0
          · have j1 : ¬ 0 < k := by omega
            clear hold h1
            go_wp2_with (at_builtin; refine Lib.wpList_append_run _ rfl _ _ _ _ rfl _ _ rfl rfl _ _ q0 ?_)
            go_roundw
            case rel => exact ⟨_, _, by rw [HN.out]; exact hlt, by go_num, HQ.out, HNW.out⟩
            case measure => simp [intOf]; omega
          · obtain ⟨k', hk'⟩ : ∃ k', k' = k - 1 := ⟨k - 1, rfl⟩
            have j1 : 0 < k := by omega
            by_cases h2 : R = []
            · have j2 : R.length = 0 := by rw [h2]; rfl
              have j3 : ¬ 0 < R.length := by omega
              clear hold h1 h2 j2 hk'
              generalize R.length = rl at *
              go_wp2_with (at_builtin; refine Lib.wpList_append_run _ rfl _ _ _ _ rfl _ _ rfl rfl _ _ q0 ?_)
              go_roundw
              case rel => exact ⟨_, _, by rw [HN.out]; exact hlt, by go_num, HQ.out, HNW.out⟩
              case measure => simp [intOf]; omega
            · have h3 : 0 < R.length := List.length_pos_iff.2 h2
              have h4 : F[k']? = some false := by
                obtain ⟨u, hu⟩ : ∃ u, F[k']? = some u := ⟨_, List.getElem?_eq_getElem (by rw [HN.out]; omega)⟩
                cases u with
                | false => exact hu
                | true => exact absurd ⟨j1, h2, by rw [← hk']; exact hu⟩ hold
              have cb2 := (HBIT.out k' _ h4).1
              have j4 : (k : Int) - 1 = (k' : Int) := by omega
              have j5 : k' < N := by omega
              clear hold h1 h2 h4 hk'
              generalize R.length = rl at *
              go_wp2_with (at_builtin; refine Lib.wpList_append_run _ rfl _ _ _ _ rfl _ _ rfl rfl _ _ q0 ?_)
              go_roundw
              case rel => exact ⟨_, _, by rw [HN.out]; exact hlt, by go_num, HQ.out, HNW.out⟩
              case measure => simp [intOf]; omega
    · obtain rfl : k = N := by omega
      have RES : Hid (L = R) := HE.out R HB.out
      go_wp2_with fail
      go_ret
      exact ⟨_, rfl, RES.out ▸ HG.out⟩
end Go.Proofs.Ytiloflgpflgjnaa
