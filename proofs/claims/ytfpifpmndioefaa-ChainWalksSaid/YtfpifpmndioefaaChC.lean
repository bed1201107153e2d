/-
  The program's Mark (layer 13). No conditions.
-/
import Derived.Test.YtfpifpmndioefaaChA
import Derived.Test.YtfpifpmndioefaaFieldP
import Derived.Test.YtfpifpmndioefaaStru
import Derived.Deep.DeepCutAuto
namespace Go.Proofs.Ytfpifpmndioefaa
open Go.ChangeShapes Go.WideShapes Go.ChangeAt Go.RowKit

def MarkP (o a b n d m e : Int) : Prop := MayP o a b n ∧ (0 ≤ d ∧ d < 256) ∧ (0 ≤ m ∧ m < 16) ∧ (0 ≤ e ∧ e < 64)
abbrev argV : Value := .iface 34 (.int .i64 1)
abbrev insV (o a b n : Int) : Value := .agg #[.int .i64 o, .int .i64 a, .int .i64 b, .int .i64 n]
abbrev IT : TypeId := 24
def insRow (o a b n : Int) : List Value := [.int .i64 o, .int .i64 a, .int .i64 b, .int .i64 n]
theorem insRow_one (o a b n : Int) : Ones (insRow o a b n) := by
  intro u hu
  simp only [insRow, List.mem_cons, List.not_mem_nil, or_false] at hu
  rcases hu with rfl | rfl | rfl | rfl <;> rfl
theorem size_ins : (Try.prog.info? IT).map (·.size) = some 4 := by kernel_rfl
/- two instructions, each in a variable of its own -/
structure TwoI (w wr : World) (B R : Nat) (x y : List Value) : Prop where
  rowb : RowAt wr B IT x
  rowr : RowAt wr R IT y
  below : Below w.heap.size w wr
  ne : B ≠ R
  hB : w.heap.size ≤ B
  hR : w.heap.size ≤ R
theorem TwoI.on {w wr w' : World} {B R : Nat} {x y : List Value} (h : TwoI w wr B R x y) (hb : Below wr.heap.size wr w') : TwoI w w' B R x y :=
  ⟨h.rowb.keep (Kept.of_below (S := fun _ => False) hb) (fun e => e), h.rowr.keep (Kept.of_below (S := fun _ => False) hb) (fun e => e), below_on h.below hb h.below.size, h.ne, h.hB, h.hR⟩
theorem TwoI.setB {w wr : World} {B R : Nat} {x y : List Value} (h : TwoI w wr B R x y) (i : Nat) (u : Value) : TwoI w (wr.setCell ⟨B, i, none⟩ u) B R (x.set i u) y :=
  ⟨h.rowb.setCell i u, h.rowr.keep (kept_set wr B i u) (fun e => h.ne e.symm), (kept_set wr B i u).below h.below h.below.size (fun _ _ e => by have := h.hB; omega), h.ne, h.hB, h.hR⟩
theorem TwoI.setR {w wr : World} {B R : Nat} {x y : List Value} (h : TwoI w wr B R x y) (z : List Value) : TwoI w (wr.setRow R z.toArray) B R x z :=
  ⟨h.rowb.keep (kept_row wr R _) (fun e => h.ne e), h.rowr.set z, (kept_row wr R _).below h.below h.below.size (fun _ _ e => by have := h.hR; omega), h.ne, h.hB, h.hR⟩
theorem TwoI.start (w : World) (x y : List Value) : TwoI w ((w.alloc (.cells x.toArray IT)).alloc (.cells y.toArray IT)) w.heap.size (w.heap.size + 1) x y := by
  refine ⟨(RowAt.new w IT x).keep ((Kept.refl (fun _ => False) _).alloc _) (fun h => h), ?_, (((Kept.refl (fun _ => False) w).alloc _).alloc _).none, by omega, Nat.le_refl _, by omega⟩
  have := RowAt.new (w.alloc (.cells x.toArray IT)) IT y
  rw [show (w.alloc (.cells x.toArray IT)).heap.size = w.heap.size + 1 by simp] at this
  exact this
set_option maxRecDepth 100000 in
set_option maxHeartbeats 1000000 in
theorem mark_yes (o a b n : Int) (d m e : Nat) (w : World) (h : MarkP o a b n d m e) :
    Calls Try.prog 8 #[.agg #[.int .i64 o, .int .i64 a, .int .i64 b, .int .i64 n], .int .i64 d, .int .i64 m, .int .i64 e] w fun x w' => x = .returned (.tuple #[.agg #[.int .i64 o, .int .i64 a, .int .i64 b, .int .i64 (markI d m e)], .nilIface]) ∧ Below w.heap.size w w' := by
  obtain ⟨hm, ⟨_, d2⟩, ⟨_, m2⟩, ⟨_, e2⟩⟩ := h
  have d3 : d < 256 := by omega
  have m3 : m < 16 := by omega
  have e3 : e < 64 := by omega
  have HM : Hid (∀ w : World, Calls Try.prog 16 #[.agg #[.int .i64 o, .int .i64 a, .int .i64 b, .int .i64 n]] w fun e w' => e = .returned (.bool true) ∧ Below w.heap.size w w') := fun w => may_yes o a b n w hm
  have HF1 : Hid (∀ w : World, Calls Try.prog 17 #[.int .i64 d, .int .i64 8] w fun e w' => e = .returned (.bool true) ∧ w = w') := fun w => fits_yes d 8 256 w (.inl ⟨rfl, rfl⟩) (by omega) d2
  have HF2 : Hid (∀ w : World, Calls Try.prog 17 #[.int .i64 m, .int .i64 4] w fun e w' => e = .returned (.bool true) ∧ w = w') := fun w => fits_yes m 4 16 w (.inr (.inl ⟨rfl, rfl⟩)) (by omega) m2
  have HF3 : Hid (∀ w : World, Calls Try.prog 17 #[.int .i64 e, .int .i64 6] w fun e w' => e = .returned (.bool true) ∧ w = w') := fun w => fits_yes e 6 64 w (.inr (.inr ⟨rfl, rfl⟩)) (by omega) e2
  have HP1 : Hid (∀ w : World, Calls Try.prog 18 #[.int .u32 0, .int .i64 10, .int .i64 8, .int .u32 d] w fun e w' => e = .returned (.int .u32 ((1024 * d : Nat) : Int)) ∧ Drawn w w') := fun w => by
    have := put_yes 0 10 8 d w (by decide) (by omega) (by decide) (by decide)
    rw [putN_10 d d3] at this
    exact this
  have HP2 : Hid (∀ w : World, Calls Try.prog 18 #[.int .u32 ((1024 * d : Nat) : Int), .int .i64 6, .int .i64 4, .int .u32 m] w fun e w' => e = .returned (.int .u32 ((1024 * d + 64 * m : Nat) : Int)) ∧ Drawn w w') := fun w => by
    have := put_yes (1024 * d) 6 4 m w (by omega) (by omega) (by decide) (by decide)
    rw [putN_6 d m m3] at this
    exact this
  have HP3 : Hid (∀ w : World, Calls Try.prog 18 #[.int .u32 ((1024 * d + 64 * m : Nat) : Int), .int .i64 0, .int .i64 6, .int .u32 e] w fun x w' => x = .returned (.int .u32 ((markN d m e : Nat) : Int)) ∧ Drawn w w') := fun w => by
    have := put_yes (1024 * d + 64 * m) 0 6 e w (by omega) (by omega) (by decide) (by decide)
    rw [putN_0_6 d m e e3] at this
    exact this
  have HS : Hid (∀ w : World, Calls Try.prog 19 #[.int .u32 ((markN d m e : Nat) : Int), .int .i64 18] w fun x w' => x = .returned (.int .i32 (markI d m e)) ∧ w = w') := fun w => by
    rw [← sign_mark d3 m3 e3]
    exact sign_yes (markN d m e) 18 w (by decide) (by decide)
  have hr := markI_range d3 m3 e3
  have t1 : IntKind.u32.wrap (d : Int) = (d : Int) := by rw [IntKind.wrap_u32]; omega
  have t2 : IntKind.u32.wrap (m : Int) = (m : Int) := by rw [IntKind.wrap_u32]; omega
  have t3 : IntKind.u32.wrap (e : Int) = (e : Int) := by rw [IntKind.wrap_u32]; omega
  clear d2 m2 e2 hm d3 m3 e3
  generalize markI d m e = z at *
  generalize markN d m e = y3 at *
  generalize 1024 * d + 64 * m = y2 at *
  generalize 1024 * d = y1 at *
  obtain ⟨z1, z2⟩ := hr
  have t4 : IntKind.i64.wrap z = z := by simp only [IntKind.wrap_i64]; omega
  go_enter Try.func8, Try.ntmps8
  go_upto_region 1 with fail
  have HT' : Hid (TwoI w ((w.alloc (.cells #[.int .i64 o, .int .i64 a, .int .i64 b, .int .i64 n] IT)).alloc (.cells #[.int .i64 0, .int .i64 0, .int .i64 0, .int .i64 0] IT)) w.heap.size (w.heap.size + 1) (insRow o a b n) (insRow 0 0 0 0)) := TwoI.start w _ _
  generalize (w.alloc (.cells #[.int .i64 o, .int .i64 a, .int .i64 b, .int .i64 n] IT)).alloc (.cells #[.int .i64 0, .int .i64 0, .int .i64 0, .int .i64 0] IT) = w0 at *
  generalize w.heap.size + 1 = R at *
  obtain ⟨B, hB⟩ : ∃ B, B = w.heap.size := ⟨_, rfl⟩
  have HT : Hid (TwoI w w0 B R (insRow o a b n) (insRow 0 0 0 0)) := by rw [hB]; exact HT'.out
  rw [← hB]
  clear HT' hB
  go_wp2_with (refine wpList_load_row rfl _ _ rfl B rfl IT (insRow o a b n).toArray (0, 0) _ HT.out.rowb Try.underlying24 rfl (by rw [size_ins]; rfl) ?_)
  refine (HM.out _).mono ?_
  rintro x w1 ⟨rfl, hb1⟩
  have HT1 := Lib.hid (HT.out.on hb1)
  clear hb1 HT
  go_wp2_with fail
  refine (HF1.out _).mono ?_
  rintro x w' ⟨rfl, rfl⟩
  go_wp2_with fail
  refine (HF2.out _).mono ?_
  rintro x w' ⟨rfl, rfl⟩
  go_wp2_with fail
  refine (HF3.out _).mono ?_
  rintro x w' ⟨rfl, rfl⟩
  go_wp2_with fail
  refine (HP1.out _).mono ?_
  rintro x w2 ⟨rfl, hd2⟩
  go_wp2_with fail
  refine (HP2.out _).mono ?_
  rintro x w3 ⟨rfl, hd3⟩
  go_wp2_with fail
  refine (HP3.out _).mono ?_
  rintro x w4 ⟨rfl, hd4⟩
  have HT4 := Lib.hid (HT1.out.on (((hd2.trans hd3).trans hd4).below _))
  clear hd2 hd3 hd4 HT1
  go_wp2_with fail
  refine (HS.out _).mono ?_
  rintro x w' ⟨rfl, rfl⟩
  have c3 : w4.cell? ⟨B, 3, none⟩ = some (.int .i64 n) := HT4.out.rowb.cell 3
  have f3 : w4.frozen? ⟨B, 3, none⟩ = false := HT4.out.rowb.free 3
  have HT5 : Hid (TwoI w (w4.setCell ⟨B, 3, none⟩ (.int .i64 z)) B R (insRow o a b z) (insRow 0 0 0 0)) := HT4.out.setB 3 (.int .i64 z)
  have RUN := Lib.hid (told_row HT5.out.rowr (xs := insRow o a b z) (k := 4) rfl rfl (insRow_one _ _ _ _) size_ins)
  have HT6 := Lib.hid (HT5.out.setR (insRow o a b z))
  clear HT4
  go_wp2_with (first
    | (refine wpList_load_row rfl _ _ rfl B rfl IT (insRow o a b z).toArray (0, 0) _ HT5.out.rowb Try.underlying24 rfl (by rw [size_ins]; rfl) ?_)
    | (refine wpList_store_run _ rfl _ _ _ rfl _ _ rfl rfl (by exact RUN.out.1) ?_))
  refine bodyPost_ret (v := .tuple #[.agg #[.int .i64 o, .int .i64 a, .int .i64 b, .int .i64 z], .nilIface]) ?_ rfl ⟨rfl, HT6.out.below⟩
  exact results_two Try.results8 _ _ R IT _ _ _ _ rfl rfl HT6.out.rowr Try.underlying24 rfl (by rw [size_ins]; rfl)

/- the first test that fails -/
def MarkNo (o a b n d m e : Int) : Prop := ¬ MayP o a b n ∨ (MayP o a b n ∧ (d < 0 ∨ 256 ≤ d)) ∨ (MayP o a b n ∧ (0 ≤ d ∧ d < 256) ∧ (m < 0 ∨ 16 ≤ m)) ∨ (MayP o a b n ∧ (0 ≤ d ∧ d < 256) ∧ (0 ≤ m ∧ m < 16) ∧ (e < 0 ∨ 64 ≤ e))
theorem markNo {o a b n d m e : Int} (h : ¬ MarkP o a b n d m e) : MarkNo o a b n d m e := by
  by_cases h1 : MayP o a b n
  · by_cases h2 : 0 ≤ d ∧ d < 256
    · by_cases h3 : 0 ≤ m ∧ m < 16
      · exact .inr (.inr (.inr ⟨h1, h2, h3, by have : ¬ (0 ≤ e ∧ e < 64) := fun g => h ⟨h1, h2, h3, g⟩; omega⟩))
      · exact .inr (.inr (.inl ⟨h1, h2, by omega⟩))
    · exact .inr (.inl ⟨h1, by omega⟩)
  · exact .inl h1
set_option maxRecDepth 100000 in
set_option maxHeartbeats 1000000 in
theorem mark_no (o a b n d m e : Int) (w : World) (h : ¬ MarkP o a b n d m e) :
    Calls Try.prog 8 #[.agg #[.int .i64 o, .int .i64 a, .int .i64 b, .int .i64 n], .int .i64 d, .int .i64 m, .int .i64 e] w fun x w' => x = .returned (.tuple #[.agg #[.int .i64 0, .int .i64 0, .int .i64 0, .int .i64 0], argV]) ∧ Below w.heap.size w w' := by
  have hn := markNo h
  clear h
  rcases hn with hm | ⟨hm, h1⟩ | ⟨hm, h1, h2⟩ | ⟨hm, h1, h2, h3⟩
  · have HM : Hid (∀ w : World, Calls Try.prog 16 #[.agg #[.int .i64 o, .int .i64 a, .int .i64 b, .int .i64 n]] w fun e w' => e = .returned (.bool false) ∧ Below w.heap.size w w') := fun w => may_no o a b n w hm
    clear hm
    go_enter Try.func8, Try.ntmps8
    go_upto_region 1 with fail
    have HT' : Hid (TwoI w ((w.alloc (.cells #[.int .i64 o, .int .i64 a, .int .i64 b, .int .i64 n] IT)).alloc (.cells #[.int .i64 0, .int .i64 0, .int .i64 0, .int .i64 0] IT)) w.heap.size (w.heap.size + 1) (insRow o a b n) (insRow 0 0 0 0)) := TwoI.start w _ _
    generalize (w.alloc (.cells #[.int .i64 o, .int .i64 a, .int .i64 b, .int .i64 n] IT)).alloc (.cells #[.int .i64 0, .int .i64 0, .int .i64 0, .int .i64 0] IT) = w0 at *
    generalize w.heap.size + 1 = R at *
    obtain ⟨B, hB⟩ : ∃ B, B = w.heap.size := ⟨_, rfl⟩
    have HT : Hid (TwoI w w0 B R (insRow o a b n) (insRow 0 0 0 0)) := by rw [hB]; exact HT'.out
    rw [← hB]
    clear HT' hB
    go_wp2_with (refine wpList_load_row rfl _ _ rfl B rfl IT (insRow o a b n).toArray (0, 0) _ HT.out.rowb Try.underlying24 rfl (by rw [size_ins]; rfl) ?_)
    refine (HM.out _).mono ?_
    rintro x w1 ⟨rfl, hb1⟩
    have HT1 := Lib.hid (HT.out.on hb1)
    have RUN := Lib.hid (told_row HT1.out.rowr (xs := insRow 0 0 0 0) (k := 4) rfl rfl (insRow_one _ _ _ _) size_ins)
    have HT6 := Lib.hid (HT1.out.setR (insRow 0 0 0 0))
    clear hb1 HT HT1
    go_wp2_with (first
      | (refine wpList_store_run _ rfl _ _ _ rfl _ _ rfl rfl (by exact RUN.out.1) ?_))
    refine bodyPost_ret (v := .tuple #[.agg #[.int .i64 0, .int .i64 0, .int .i64 0, .int .i64 0], argV]) ?_ rfl ⟨rfl, HT6.out.below⟩
    exact results_two Try.results8 _ _ R IT _ _ _ _ rfl rfl HT6.out.rowr Try.underlying24 rfl (by rw [size_ins]; rfl)
  · have HM : Hid (∀ w : World, Calls Try.prog 16 #[.agg #[.int .i64 o, .int .i64 a, .int .i64 b, .int .i64 n]] w fun e w' => e = .returned (.bool true) ∧ Below w.heap.size w w') := fun w => may_yes o a b n w hm
    have HF1 : Hid (∀ w : World, Calls Try.prog 17 #[.int .i64 d, .int .i64 8] w fun e w' => e = .returned (.bool false) ∧ w = w') := fun w => fits_no d 8 256 w (.inl ⟨rfl, rfl⟩) h1
    clear hm h1
    go_enter Try.func8, Try.ntmps8
    go_upto_region 1 with fail
    have HT' : Hid (TwoI w ((w.alloc (.cells #[.int .i64 o, .int .i64 a, .int .i64 b, .int .i64 n] IT)).alloc (.cells #[.int .i64 0, .int .i64 0, .int .i64 0, .int .i64 0] IT)) w.heap.size (w.heap.size + 1) (insRow o a b n) (insRow 0 0 0 0)) := TwoI.start w _ _
    generalize (w.alloc (.cells #[.int .i64 o, .int .i64 a, .int .i64 b, .int .i64 n] IT)).alloc (.cells #[.int .i64 0, .int .i64 0, .int .i64 0, .int .i64 0] IT) = w0 at *
    generalize w.heap.size + 1 = R at *
    obtain ⟨B, hB⟩ : ∃ B, B = w.heap.size := ⟨_, rfl⟩
    have HT : Hid (TwoI w w0 B R (insRow o a b n) (insRow 0 0 0 0)) := by rw [hB]; exact HT'.out
    rw [← hB]
    clear HT' hB
    go_wp2_with (refine wpList_load_row rfl _ _ rfl B rfl IT (insRow o a b n).toArray (0, 0) _ HT.out.rowb Try.underlying24 rfl (by rw [size_ins]; rfl) ?_)
    refine (HM.out _).mono ?_
    rintro x w1 ⟨rfl, hb1⟩
    have HT1 := Lib.hid (HT.out.on hb1)
    have RUN := Lib.hid (told_row HT1.out.rowr (xs := insRow 0 0 0 0) (k := 4) rfl rfl (insRow_one _ _ _ _) size_ins)
    have HT6 := Lib.hid (HT1.out.setR (insRow 0 0 0 0))
    clear hb1 HT HT1
    go_wp2_with fail
    refine (HF1.out _).mono ?_
    rintro x w' ⟨rfl, rfl⟩
    go_wp2_with (first
      | (refine wpList_store_run _ rfl _ _ _ rfl _ _ rfl rfl (by exact RUN.out.1) ?_))
    refine bodyPost_ret (v := .tuple #[.agg #[.int .i64 0, .int .i64 0, .int .i64 0, .int .i64 0], argV]) ?_ rfl ⟨rfl, HT6.out.below⟩
    exact results_two Try.results8 _ _ R IT _ _ _ _ rfl rfl HT6.out.rowr Try.underlying24 rfl (by rw [size_ins]; rfl)
  · have HM : Hid (∀ w : World, Calls Try.prog 16 #[.agg #[.int .i64 o, .int .i64 a, .int .i64 b, .int .i64 n]] w fun e w' => e = .returned (.bool true) ∧ Below w.heap.size w w') := fun w => may_yes o a b n w hm
    have HF1 : Hid (∀ w : World, Calls Try.prog 17 #[.int .i64 d, .int .i64 8] w fun e w' => e = .returned (.bool true) ∧ w = w') := fun w => fits_yes d 8 256 w (.inl ⟨rfl, rfl⟩) h1.1 h1.2
    have HF2 : Hid (∀ w : World, Calls Try.prog 17 #[.int .i64 m, .int .i64 4] w fun e w' => e = .returned (.bool false) ∧ w = w') := fun w => fits_no m 4 16 w (.inr (.inl ⟨rfl, rfl⟩)) h2
    clear hm h1 h2
    go_enter Try.func8, Try.ntmps8
    go_upto_region 1 with fail
    have HT' : Hid (TwoI w ((w.alloc (.cells #[.int .i64 o, .int .i64 a, .int .i64 b, .int .i64 n] IT)).alloc (.cells #[.int .i64 0, .int .i64 0, .int .i64 0, .int .i64 0] IT)) w.heap.size (w.heap.size + 1) (insRow o a b n) (insRow 0 0 0 0)) := TwoI.start w _ _
    generalize (w.alloc (.cells #[.int .i64 o, .int .i64 a, .int .i64 b, .int .i64 n] IT)).alloc (.cells #[.int .i64 0, .int .i64 0, .int .i64 0, .int .i64 0] IT) = w0 at *
    generalize w.heap.size + 1 = R at *
    obtain ⟨B, hB⟩ : ∃ B, B = w.heap.size := ⟨_, rfl⟩
    have HT : Hid (TwoI w w0 B R (insRow o a b n) (insRow 0 0 0 0)) := by rw [hB]; exact HT'.out
    rw [← hB]
    clear HT' hB
    go_wp2_with (refine wpList_load_row rfl _ _ rfl B rfl IT (insRow o a b n).toArray (0, 0) _ HT.out.rowb Try.underlying24 rfl (by rw [size_ins]; rfl) ?_)
    refine (HM.out _).mono ?_
    rintro x w1 ⟨rfl, hb1⟩
    have HT1 := Lib.hid (HT.out.on hb1)
    have RUN := Lib.hid (told_row HT1.out.rowr (xs := insRow 0 0 0 0) (k := 4) rfl rfl (insRow_one _ _ _ _) size_ins)
    have HT6 := Lib.hid (HT1.out.setR (insRow 0 0 0 0))
    clear hb1 HT HT1
    go_wp2_with fail
    refine (HF1.out _).mono ?_
    rintro x w' ⟨rfl, rfl⟩
    go_wp2_with fail
    refine (HF2.out _).mono ?_
    rintro x w' ⟨rfl, rfl⟩
    go_wp2_with (first
      | (refine wpList_store_run _ rfl _ _ _ rfl _ _ rfl rfl (by exact RUN.out.1) ?_))
    refine bodyPost_ret (v := .tuple #[.agg #[.int .i64 0, .int .i64 0, .int .i64 0, .int .i64 0], argV]) ?_ rfl ⟨rfl, HT6.out.below⟩
    exact results_two Try.results8 _ _ R IT _ _ _ _ rfl rfl HT6.out.rowr Try.underlying24 rfl (by rw [size_ins]; rfl)
  · have HM : Hid (∀ w : World, Calls Try.prog 16 #[.agg #[.int .i64 o, .int .i64 a, .int .i64 b, .int .i64 n]] w fun e w' => e = .returned (.bool true) ∧ Below w.heap.size w w') := fun w => may_yes o a b n w hm
    have HF1 : Hid (∀ w : World, Calls Try.prog 17 #[.int .i64 d, .int .i64 8] w fun e w' => e = .returned (.bool true) ∧ w = w') := fun w => fits_yes d 8 256 w (.inl ⟨rfl, rfl⟩) h1.1 h1.2
    have HF2 : Hid (∀ w : World, Calls Try.prog 17 #[.int .i64 m, .int .i64 4] w fun e w' => e = .returned (.bool true) ∧ w = w') := fun w => fits_yes m 4 16 w (.inr (.inl ⟨rfl, rfl⟩)) h2.1 h2.2
    have HF3 : Hid (∀ w : World, Calls Try.prog 17 #[.int .i64 e, .int .i64 6] w fun e w' => e = .returned (.bool false) ∧ w = w') := fun w => fits_no e 6 64 w (.inr (.inr ⟨rfl, rfl⟩)) h3
    clear hm h1 h2 h3
    go_enter Try.func8, Try.ntmps8
    go_upto_region 1 with fail
    have HT' : Hid (TwoI w ((w.alloc (.cells #[.int .i64 o, .int .i64 a, .int .i64 b, .int .i64 n] IT)).alloc (.cells #[.int .i64 0, .int .i64 0, .int .i64 0, .int .i64 0] IT)) w.heap.size (w.heap.size + 1) (insRow o a b n) (insRow 0 0 0 0)) := TwoI.start w _ _
    generalize (w.alloc (.cells #[.int .i64 o, .int .i64 a, .int .i64 b, .int .i64 n] IT)).alloc (.cells #[.int .i64 0, .int .i64 0, .int .i64 0, .int .i64 0] IT) = w0 at *
    generalize w.heap.size + 1 = R at *
    obtain ⟨B, hB⟩ : ∃ B, B = w.heap.size := ⟨_, rfl⟩
    have HT : Hid (TwoI w w0 B R (insRow o a b n) (insRow 0 0 0 0)) := by rw [hB]; exact HT'.out
    rw [← hB]
    clear HT' hB
    go_wp2_with (refine wpList_load_row rfl _ _ rfl B rfl IT (insRow o a b n).toArray (0, 0) _ HT.out.rowb Try.underlying24 rfl (by rw [size_ins]; rfl) ?_)
    refine (HM.out _).mono ?_
    rintro x w1 ⟨rfl, hb1⟩
    have HT1 := Lib.hid (HT.out.on hb1)
    have RUN := Lib.hid (told_row HT1.out.rowr (xs := insRow 0 0 0 0) (k := 4) rfl rfl (insRow_one _ _ _ _) size_ins)
    have HT6 := Lib.hid (HT1.out.setR (insRow 0 0 0 0))
    clear hb1 HT HT1
    go_wp2_with fail
    refine (HF1.out _).mono ?_
    rintro x w' ⟨rfl, rfl⟩
    go_wp2_with fail
    refine (HF2.out _).mono ?_
    rintro x w' ⟨rfl, rfl⟩
    go_wp2_with fail
    refine (HF3.out _).mono ?_
    rintro x w' ⟨rfl, rfl⟩
    go_wp2_with (first
      | (refine wpList_store_run _ rfl _ _ _ rfl _ _ rfl rfl (by exact RUN.out.1) ?_))
    refine bodyPost_ret (v := .tuple #[.agg #[.int .i64 0, .int .i64 0, .int .i64 0, .int .i64 0], argV]) ?_ rfl ⟨rfl, HT6.out.below⟩
    exact results_two Try.results8 _ _ R IT _ _ _ _ rfl rfl HT6.out.rowr Try.underlying24 rfl (by rw [size_ins]; rfl)
end Go.Proofs.Ytfpifpmndioefaa
