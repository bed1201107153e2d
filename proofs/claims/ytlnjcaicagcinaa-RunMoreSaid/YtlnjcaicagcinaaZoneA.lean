/-
  Contracts of slices.Delete, Insert over zones, as package zone (layer 6) calls them. No conditions beyond those that each theorem names.
-/
import Derived.Test.YtlnjcaicagcinaaEl
import Derived.RegionTactic
import Derived.Deep.RegionWith
namespace Go.Proofs.Ytlnjcaicagcinaa
open Go.ChangeShapes Go.WideShapes Go.ChangeAt Go.RowKit

def ZZ : Value := .agg #[.int .i64 0, .int .i64 0, .int .i64 0, .int .i64 0, .slice none 0 0, .slice none 0 0]
theorem ZZ_cells : ZZ.cells = #[.int .i64 0, .int .i64 0, .int .i64 0, .int .i64 0, .slice none 0 0, .slice none 0 0] := rfl
theorem ZZ_size : ZZ.cells.size = 6 := rfl
theorem ZZ_ones : Ones ZZ.cells.toList := by intro u hu; simp [ZZ_cells] at hu; rcases hu with rfl | rfl <;> rfl
theorem zeroZ : ∀ w, (zeroValue 38).run Try.prog w = .ok ZZ w := Try.zeroValue38
set_option maxRecDepth 100000 in
theorem infoZ : (Try.prog.info? 38).map (fun i => (i.zero, i.size, i.bytes)) = some (some (ZZ), 6, 80) := by kernel_rfl
set_option maxRecDepth 100000 in
theorem sizeZ : (Try.prog.info? 38).map (·.size) = some 6 := by kernel_rfl
abbrev ZT : TypeId := 38

/- one hole more: at the end -/
theorem zone_src {w : World} {vb : Nat} {x : El 6} (h : RowAt w vb ZT (ecs [x])) : Src Try.prog 6 74 (.slice (some ⟨vb, 0, none⟩) 1 1) 1 (ecs [x]) w :=
  Src.ofSlice w Try.underlying74 _ _ _ _ (by simp [ecs_length]) (fun j u hu => by rw [Addr.add_lit, Nat.zero_add, h.cell, hu]) (ecs_ones _)

def ZInserted (w w' : World) (v : Value) (e : Ending) (L : List (El 6)) : Prop :=
  ∃ v', e = .returned v' ∧ SRow ZT 6 w' v' L.length (ecs L) ∧ Kept (own v) w w' ∧ ∀ j, own v' j → own v j ∨ w.heap.size ≤ j

set_option maxRecDepth 100000 in
theorem zinsert_end (v : Value) (A : List (El 6)) (x : El 6) (vb : Nat) (w : World) (h : SRow ZT 6 w v A.length (ecs A)) (hx : RowAt w vb ZT (ecs [x])) (small : A.length ≤ 100000) :
    Calls Try.prog 27 #[v, .int .i64 (A.length : Nat), .slice (some ⟨vb, 0, none⟩) 1 1] w fun e w' => ZInserted w w' v e (A ++ [x]) := by
  have hap := fun ty => h.append 74 ty Try.underlying74 infoZ rfl (by omega) (zone_src hx) (.inl (by omega)) (by omega)
  rw [← ecs_append] at hap
  unfold ZInserted
  rw [List.length_append]
  show Calls _ _ _ _ fun e w' => ∃ v', e = .returned v' ∧ SRow ZT 6 w' v' (A.length + 1) (ecs (A ++ [x])) ∧ Kept (own v) w w' ∧ ∀ j, own v' j → own v j ∨ w.heap.size ≤ j
  generalize ecs (A ++ [x]) = cs at *
  have his := h.is
  clear h hx
  generalize A.length = n at *
  rcases his with ⟨rfl, rfl⟩ | ⟨b, cap, rest, rfl, _, _, h2, h3⟩
  · have HA := Lib.hid hap
    clear hap
    go_enter Try.func27, Try.ntmps27
    obtain ⟨v', w', hr, q1, q2, q3, _⟩ := HA.out 74
    clear HA
    go_wp2_with (at_builtin; refine Lib.wpList_append_run _ rfl _ _ _ _ rfl _ _ rfl rfl _ _ hr ?_)
    all_goals
      go_ret
      exact ⟨v', rfl, q1, q2, q3⟩
  · have hm' : cap ≤ 9223372036854775807 := h3
    have HA := Lib.hid hap
    clear hap
    go_enter Try.func27, Try.ntmps27
    obtain ⟨v', w', hr, q1, q2, q3, _⟩ := HA.out 74
    clear HA
    go_wp2_with (at_builtin; refine Lib.wpList_append_run _ rfl _ _ _ _ rfl _ _ rfl rfl _ _ hr ?_)
    all_goals
      go_ret
      exact ⟨v', rfl, q1, q2, q3⟩

set_option maxRecDepth 100000 in
set_option maxHeartbeats 1000000 in
theorem zinsert_shift (b cap : Nat) (A B : List (El 6)) (x : El 6) (rest : List Value) (vb : Nat) (w : World) (h : RowAt w b ZT (ecs (A ++ B) ++ rest)) (hl : (A.length + B.length) * 6 + rest.length = cap * 6) (hm : cap ≤ maxLen) (hB0 : B ≠ []) (hroom : A.length + B.length < cap) (hx : RowAt w vb ZT (ecs [x])) (hne : vb ≠ b) (small : A.length + B.length ≤ 100000) :
    Calls Try.prog 27 #[.slice (some ⟨b, 0, none⟩) (A.length + B.length) cap, .int .i64 (A.length : Nat), .slice (some ⟨vb, 0, none⟩) 1 1] w fun e w' =>
      ZInserted w w' (.slice (some ⟨b, 0, none⟩) (A.length + B.length) cap) e (A ++ x :: B) := by
  have hxl := x.len
  have hA := ecs_length A
  have hB := ecs_length B
  have hBl : 0 < B.length := List.length_pos_iff.2 hB0
  have h0 : RowAt w.drew b ZT (ecs A ++ (ecs B ++ rest)) := by simpa [ecs_append] using h.drew
  have hov : ∀ lb cb, (callFunc 39 #[.slice (some ⟨vb, 0, none⟩) 1 1, .slice (some ⟨b, (A.length + 1) * 6, none⟩) lb cb]).run Try.prog w = .ok (.value (.bool false)) w := fun lb cb => by
    rw [run_callFunc_extern Try.func39 (by kernel_rfl) (by kernel_rfl) (by kernel_rfl) (e := Extern.SlicesOverlaps.overlaps #[74, 74] #[4]) (by kernel_rfl),
      Lib.run_overlaps_apart w 74 4 38 Try.underlying74 6 Try.sizeOf38 ⟨vb, 0, none⟩ ⟨b, (A.length + 1) * 6, none⟩ 1 1 lb cb hne _ _ _ _ hx.shape h.shape (by simp [ecs_length]; omega) (hx.free _) (hx.free _)]
    rfl
  have hcp1 : ∀ ty dc sc, (Builtin.copy_ #[74, 74] ty #[.slice (some ⟨b, (A.length + 1) * 6, none⟩) B.length dc, .slice (some ⟨b, A.length * 6, none⟩) (B.length + 1) sc]).run Try.prog w.drew = _ := fun ty dc sc =>
    copy_rows h0 _ ty Try.underlying74 sizeZ ((A.length + 1) * 6) B.length dc ⟨b, A.length * 6, none⟩ (B.length + 1) sc (ecs B) (by rw [hB]; congr 1; exact (Nat.min_eq_right (by omega)).symm) (read_from h0 _ hA.symm) (by simp [hA, hB]; omega) (ecs_ones _)
  have h1 := h0.set (splice (ecs A ++ (ecs B ++ rest)) ((A.length + 1) * 6) (ecs B))
  have hx1 : RowAt (w.drew.setRow b (splice (ecs A ++ (ecs B ++ rest)) ((A.length + 1) * 6) (ecs B)).toArray) vb ZT (ecs [x]) := hx.drew.keep (kept_row _ b _) hne
  have hsl : (splice (ecs A ++ (ecs B ++ rest)) ((A.length + 1) * 6) (ecs B)).length = A.length * 6 + (B.length * 6 + rest.length) := by rw [length_splice _ _ _ (by simp [hA, hB]; omega)]; simp [hA, hB]
  have hcp2 : ∀ ty dc, (Builtin.copy_ #[74, 74] ty #[.slice (some ⟨b, A.length * 6, none⟩) (B.length + 1) dc, .slice (some ⟨vb, 0, none⟩) 1 1]).run Try.prog (w.drew.setRow b (splice (ecs A ++ (ecs B ++ rest)) ((A.length + 1) * 6) (ecs B)).toArray) = _ := fun ty dc =>
    copy_rows h1 _ ty Try.underlying74 sizeZ (A.length * 6) (B.length + 1) dc ⟨vb, 0, none⟩ 1 1 (ecs [x]) (by rw [ecs_length]; congr 1 <;> exact (Nat.min_eq_left (by omega)).symm) (fun j u hu => by rw [Addr.add_lit, Nat.zero_add, hx1.cell, hu]) (by rw [hsl, ecs_length]; simp <;> omega) (ecs_ones _)
  have h2 := h1.set (splice (splice (ecs A ++ (ecs B ++ rest)) ((A.length + 1) * 6) (ecs B)) (A.length * 6) (ecs [x]))
  have k2 := ((Kept.refl (· = b) w).drew.setRow (g := b) (fun _ => rfl) (splice (ecs A ++ (ecs B ++ rest)) ((A.length + 1) * 6) (ecs B)).toArray).setRow (g := b) (fun _ => rfl) (splice (splice (ecs A ++ (ecs B ++ rest)) ((A.length + 1) * 6) (ecs B)) (A.length * 6) (ecs [x])).toArray
  have hsp := splice_shift_n 6 (ecs A) (ecs B) rest (ecs [x]) (by simp [ecs_length]) (by simp [hB]; omega)
  rw [hA, show A.length * 6 + 6 = (A.length + 1) * 6 by omega, show ecs A ++ (ecs [x] ++ (ecs B ++ rest.drop 6)) = ecs (A ++ x :: B) ++ rest.drop 6 by simp [ecs_append, ecs_cons, ecs_nil]] at hsp
  have RES : Hid (∀ e, e = Ending.returned (.slice (some ⟨b, 0, none⟩) (A.length + B.length + 1) cap) → ZInserted w _ (.slice (some ⟨b, 0, none⟩) (A.length + B.length) cap) e (A ++ x :: B)) := fun e he =>
    ⟨_, he, ⟨.inr ⟨b, cap, rest.drop 6, by simp; omega, by rw [← hsp]; exact h2, by simp; omega, by simp; omega, hm⟩, ecs_length _, ecs_ones _⟩, k2, fun j hj => .inl hj⟩
  clear h h0 h1 h2 k2 hsp hx hx1 hsl
  generalize (splice (splice (ecs A ++ (ecs B ++ rest)) ((A.length + 1) * 6) (ecs B)) (A.length * 6) (ecs [x])).toArray = Y at *
  generalize (splice (ecs A ++ (ecs B ++ rest)) ((A.length + 1) * 6) (ecs B)).toArray = X at *
  generalize A.length = a at *
  generalize B.length = c at *
  have hm' : cap ≤ 9223372036854775807 := hm
  have mn : Nat.min (c + 1) c = c := Nat.min_eq_right (by omega)
  rw [mn] at hcp1
  clear hA hB hm mn
  have e1 : ((a : Int) == (a : Int) + (c : Int)) = false := by simp; omega
  have e2 : ((a : Int) + 1).toNat = a + 1 := by omega
  have e3 : (0 : Int) ≤ (a : Int) + 1 := by omega
  have e4 : (a : Int) + 1 ≤ (a : Int) + (c : Int) + 1 := by omega
  have e5 : a + c + 1 - (a + 1) = c := by omega
  have e6 : a + c + 1 - a = c + 1 := by omega
  have e7 : ¬ cap = a := by omega
  have e8 : ¬ cap = a + 1 := by omega
  have e9 : IntKind.i64.wrap ((a : Int) + 1) = (a : Int) + 1 := IntWalk.i64_in _ (by omega)
  go_enter Try.func27, Try.ntmps27
  go_wp2_with (simp only [hov])
  go_region
  go_wp2
  go_ret
  exact RES.out _ rfl

set_option maxRecDepth 100000 in
set_option maxHeartbeats 1000000 in
theorem zinsert_grow (b : Nat) (A B : List (El 6)) (x : El 6) (vb : Nat) (w : World) (h : RowAt w b ZT (ecs (A ++ B))) (hB0 : B ≠ []) (hx : RowAt w vb ZT (ecs [x])) (small : A.length + B.length ≤ 100000) :
    Calls Try.prog 27 #[.slice (some ⟨b, 0, none⟩) (A.length + B.length) (A.length + B.length), .int .i64 (A.length : Nat), .slice (some ⟨vb, 0, none⟩) 1 1] w fun e w' =>
      ZInserted w w' (.slice (some ⟨b, 0, none⟩) (A.length + B.length) (A.length + B.length)) e (A ++ x :: B) := by
  have hxl := x.len
  have hA := ecs_length A
  have hB := ecs_length B
  have hBl : 0 < B.length := List.length_pos_iff.2 hB0
  obtain ⟨i, hi, hi1, hi2, hi3⟩ : ∃ i, Try.prog.info? 38 = some i ∧ i.zero = some (ZZ) ∧ i.size = 6 ∧ i.bytes = 80 := by
    have := infoZ
    cases hq : Try.prog.info? 38 with
    | none => simp [hq] at this
    | some i => exact ⟨i, rfl, by simpa [hq] using this⟩
  have hb := h.lt
  have h0 : RowAt w.drew b ZT (ecs A ++ (ecs B ++ [])) := by simpa [ecs_append] using h.drew
  have hold : (Builtin.firstCells i.size A.length (.slice (some ⟨b, 0, none⟩) A.length (A.length + B.length))).run Try.prog w.drew = .ok (ecs A).toArray w.drew := by
    rw [hi2]
    exact run_firstCells_some w.drew 6 A.length ⟨b, 0, none⟩ A.length _ (ecs A) hA (read_from (A := []) (rest := ecs B ++ []) h0 0 rfl)
  have hap := fun ty => Lib.run_append_grow_zeros (P := Try.prog) w 74 3 ty 38 i _ .i64 .i64 Try.underlying74 Try.underlying3 hi hi1 (some ⟨b, 0, none⟩) A.length (A.length + B.length) (ecs A) hold (B.length + 1) (by omega) (by omega) (by omega) (by omega) (by rw [hi3]; omega)
    (growslice_fits (by omega) (by rw [hi3]; omega))
  have hcap1 := grownCap_ge w (A.length + (B.length + 1)) (A.length + B.length) 38
  have hcap2 := grownCap_le_maxLen w (A.length + (B.length + 1)) (A.length + B.length) 38 (by simp [maxLen]; omega)
  generalize hcap : grownCap w (A.length + (B.length + 1)) (A.length + B.length) 38 = cap at *
  have zl1 := zrs_length (ZZ) (B.length + 1)
  have zl2 := zrs_length (ZZ) (cap - (A.length + (B.length + 1)))
  have ze : (ecs A).toArray ++ Builtin.zeroCells (ZZ).cells (B.length + 1) ++ Builtin.zeroCells (ZZ).cells (cap - (A.length + (B.length + 1))) = (ecs A ++ (zrs (ZZ) (B.length + 1) ++ zrs (ZZ) (cap - (A.length + (B.length + 1))))).toArray := by
    apply Array.ext'
    simp [zrs]
  rw [ze] at hap
  clear ze hcap
  generalize zrs (ZZ) (B.length + 1) = Z at *
  generalize zrs (ZZ) (cap - (A.length + (B.length + 1))) = R at *
  rw [ZZ_size] at zl1 zl2
  have n0 : RowAt (w.drew.alloc (.cells (ecs A ++ (Z ++ R)).toArray 38)) w.heap.size ZT (ecs A ++ (Z ++ R)) := RowAt.new w.drew ZT _
  have k0 : Kept (fun _ => False) w (w.drew.alloc (.cells (ecs A ++ (Z ++ R)).toArray 38)) := ((Kept.refl _ w).drew).alloc _
  have hcp1 : ∀ ty dc, (Builtin.copy_ #[74, 74] ty #[.slice (some ⟨w.heap.size, A.length * 6, none⟩) (B.length + 1) dc, .slice (some ⟨vb, 0, none⟩) 1 1]).run Try.prog (w.drew.alloc (.cells (ecs A ++ (Z ++ R)).toArray 38)) = _ := fun ty dc =>
    copy_rows n0 _ ty Try.underlying74 sizeZ (A.length * 6) (B.length + 1) dc ⟨vb, 0, none⟩ 1 1 (ecs [x]) (by rw [ecs_length]; congr 1 <;> exact (Nat.min_eq_left (by omega)).symm) (fun j u hu => by rw [Addr.add_lit, Nat.zero_add, (hx.keep k0 (by simp)).cell, hu]) (by simp [hA, zl1, ecs_length]; omega) (ecs_ones _)
  have hsp1 := splice_over_n 6 (ecs A) Z R (ecs [x]) (by simp [ecs_length]) (by omega)
  rw [hA] at hsp1
  rw [hsp1] at hcp1
  have n1 := n0.set (ecs A ++ (ecs [x] ++ (Z.drop 6 ++ R)))
  have k1 := k0.setRow (g := w.heap.size) (fun h => by omega) (ecs A ++ (ecs [x] ++ (Z.drop 6 ++ R))).toArray
  have h1 := (h.keep k1 (by simp)).drew
  have hcp2 : ∀ ty dc sc, (Builtin.copy_ #[74, 74] ty #[.slice (some ⟨w.heap.size, (A.length + 1) * 6, none⟩) B.length dc, .slice (some ⟨b, A.length * 6, none⟩) B.length sc]).run Try.prog ((w.drew.alloc (.cells (ecs A ++ (Z ++ R)).toArray 38)).setRow w.heap.size (ecs A ++ (ecs [x] ++ (Z.drop 6 ++ R))).toArray).drew = _ := fun ty dc sc =>
    copy_rows n1.drew _ ty Try.underlying74 sizeZ ((A.length + 1) * 6) B.length dc ⟨b, A.length * 6, none⟩ B.length sc (ecs B) (by rw [hB]; congr 1; exact (Nat.min_self _).symm) (read_from (A := ecs A) (rest := []) (by simpa [ecs_append] using h1) _ hA.symm) (by simp [hA, hB, zl1, ecs_length]; omega) (ecs_ones _)
  have hsp2 := splice_fill_n 6 (ecs A) (ecs [x]) (Z.drop 6) R (ecs B) (by simp [ecs_length]) (by rw [List.length_drop]; omega)
  rw [hA, show A.length * 6 + 6 = (A.length + 1) * 6 by omega] at hsp2
  rw [hsp2, show Nat.min B.length B.length = B.length from Nat.min_self _] at hcp2
  have n2 := n1.drew.set (ecs A ++ (ecs [x] ++ (ecs B ++ R)))
  have k2 := k1.drew.setRow (g := w.heap.size) (fun h => by omega) (ecs A ++ (ecs [x] ++ (ecs B ++ R))).toArray
  have RES : Hid (∀ e, e = Ending.returned (.slice (some ⟨w.heap.size, 0, none⟩) (A.length + (B.length + 1)) cap) → ZInserted w _ (.slice (some ⟨b, 0, none⟩) (A.length + B.length) (A.length + B.length)) e (A ++ x :: B)) := fun e he =>
    ⟨_, he, ⟨.inr ⟨w.heap.size, cap, R, by simp, by have := n2; rw [show ecs (A ++ x :: B) ++ R = ecs A ++ (ecs [x] ++ (ecs B ++ R)) by simp [ecs_append, ecs_cons, ecs_nil]]; exact this, by simp; omega, by simp; omega, hcap2⟩, ecs_length _, ecs_ones _⟩, (Kept.refl _ w).then k2 (fun _ _ h => h.elim), fun j hj => by simp [own] at hj; omega⟩
  clear h h0 h1 n0 n1 n2 k0 k1 k2 hsp1 hsp2 hx hold
  rw [show Nat.min 1 (B.length + 1) = 1 from Nat.min_eq_left (by omega)] at hcp1
  generalize (ecs A ++ (ecs [x] ++ (ecs B ++ R))).toArray = V2 at *
  generalize (ecs A ++ (ecs [x] ++ (Z.drop 6 ++ R))).toArray = V1 at *
  generalize Obj.cells (ecs A ++ (Z ++ R)).toArray 38 = V0 at *
  generalize A.length = a at *
  generalize B.length = c at *
  have hm' : cap ≤ 9223372036854775807 := hcap2
  have HA : Hid (∀ ty (D : Int), D = (c : Int) + 1 → (Builtin.append_ #[74, 3] ty #[.slice (some ⟨b, 0, none⟩) a (a + c), .int .i64 D]).run Try.prog w = .ok (.slice (some ⟨w.heap.size, 0, none⟩) (a + (c + 1)) cap) (w.drew.alloc V0)) := fun ty D hD => by
    rw [hD, show (c : Int) + 1 = ((c + 1 : Nat) : Int) by omega]
    exact hap ty
  have hcp1' : ∀ ty dc, (Builtin.copy_ #[74, 74] ty #[.slice (some ⟨w.heap.size, a * 6, none⟩) (c + 1) dc, .slice (some ⟨vb, 0, none⟩) 1 1]).run Try.prog (w.alloc V0).drew = .ok (goInt 1) ((w.alloc V0).setRow w.heap.size V1).drew := hcp1
  have hcp2' : ∀ ty dc sc, (Builtin.copy_ #[74, 74] ty #[.slice (some ⟨w.heap.size, (a + 1) * 6, none⟩) c dc, .slice (some ⟨b, a * 6, none⟩) c sc]).run Try.prog ((w.alloc V0).setRow w.heap.size V1).drew.drew = .ok (goInt c) (((w.alloc V0).setRow w.heap.size V1).setRow w.heap.size V2).drew.drew := hcp2
  clear hA hB hap zl1 zl2 hcap2 hi hi1 hi2 hi3 hcp1 hcp2
  have e1 : ((a : Int) == (a : Int) + (c : Int)) = false := by simp; omega
  have e2 : ((a : Int) + 1).toNat = a + 1 := by omega
  have e3 : (0 : Int) ≤ (a : Int) + 1 := by omega
  have e4 : (a : Int) + 1 ≤ (a : Int) + ((c : Int) + 1) := by omega
  have e5 : a + (c + 1) - (a + 1) = c := by omega
  have e6 : a + (c + 1) - a = c + 1 := by omega
  have e7 : ¬ cap = a := by omega
  have e8 : ¬ cap = a + 1 := by omega
  have e9 : IntKind.i64.wrap ((a : Int) + 1) = (a : Int) + 1 := IntWalk.i64_in _ (by omega)
  have e10 : ¬ a + c = a := by omega
  have e11 : a + c - a = c := by omega
  go_enter Try.func27, Try.ntmps27
  go_wp2_with (at_builtin; refine Lib.wpList_append_run _ rfl _ _ _ _ rfl _ _ rfl rfl _ _ (HA.out _ _ (by omega)) ?_)
  go_region
  go_wp2
  go_ret
  exact RES.out _ rfl
theorem zinsert_any (v : Value) (A B : List (El 6)) (x : El 6) (vb : Nat) (w : World) (h : SRow ZT 6 w v (A.length + B.length) (ecs (A ++ B))) (hx : RowAt w vb ZT (ecs [x])) (hne : ¬ own v vb) (small : A.length + B.length ≤ 100000) :
    Calls Try.prog 27 #[v, .int .i64 (A.length : Nat), .slice (some ⟨vb, 0, none⟩) 1 1] w fun e w' => ZInserted w w' v e (A ++ x :: B) := by
  by_cases hB : B = []
  · subst hB
    simp only [List.append_nil] at h
    exact zinsert_end v A x vb w h hx small
  · have hl := List.length_pos_iff.2 hB
    rcases h.is with ⟨_, h0⟩ | ⟨b, cap, rest, rfl, hr, h1, h2, h3⟩
    · omega
    · by_cases hc : cap = A.length + B.length
      · subst hc
        have : rest = [] := List.eq_nil_of_length_eq_zero (by omega)
        subst this
        rw [List.append_nil] at hr
        exact zinsert_grow b A B x vb w hr hB hx small
      · exact zinsert_shift b cap A B x rest vb w hr h1 h3 hB (by omega) hx hne small

end Go.Proofs.Ytlnjcaicagcinaa
