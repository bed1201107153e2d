/-
  Add, Find, Remove (layer 18). Conditions: at most 16 modules, lists of at most 1000.
-/
import Derived.Test.YtiofplejpgahdaaTbF
namespace Go.Proofs.Ytiofplejpgahdaa
open Go.ChangeShapes Go.WideShapes Go.ChangeAt Go.RowKit

/- a copy that is told, its slices in three parts -/
def Told18 (lo : Nat) (d : ModD) (w : World) (e : Ending) (P : Prop) : Prop := ∃ a1 n1 k1 a2 n2 k2 a3 n3 k3 a4 n4 k4 a5 n5 k5 ys,
  e = .returned (.agg #[.string d.name, .int .u32 (d.key : Nat), .int .i64 d.base, .int .i64 d.size, .int .i64 d.z0, .int .i64 d.z1, .int .i64 d.z2, .int .i64 d.z3, .slice a1 n1 k1, .slice a2 n2 k2, .slice a3 n3 k3, .slice a5 n5 k5, .slice a4 n4 k4]) ∧
  ModIn lo w ⟨d, .slice a1 n1 k1, .slice a2 n2 k2, .slice a3 n3 k3, .slice a5 n5 k5, .slice a4 n4 k4, ys⟩ ∧ ModFew ⟨d, .slice a1 n1 k1, .slice a2 n2 k2, .slice a3 n3 k3, .slice a5 n5 k5, .slice a4 n4 k4, ys⟩ ∧ P
theorem ModFew.of {x y : ModX} (h : ModFew x) (hd : y.d = x.d) (hs : x.xs.map ExX.d = x.d.exps) (ht : y.xs.map ExX.d = y.d.exps) : ModFew y := by
  have he : y.xs.map ExX.d = x.xs.map ExX.d := by rw [hs, ht, hd]
  have hl : y.xs.length = x.xs.length := by simpa using congrArg List.length he
  refine ⟨by rw [hd]; exact h.p, by rw [hd]; exact h.q, by rw [hd]; exact h.i, by rw [hl]; exact h.e, fun z hz => ?_, by rw [hd]; exact h.c⟩
  have hm : z.d ∈ x.xs.map ExX.d := by rw [← he]; exact List.mem_map.2 ⟨z, hz, rfl⟩
  obtain ⟨u, hu, e⟩ := List.mem_map.1 hm
  have e2 : u.l = z.l := congrArg (fun p => p.2.2) e
  rw [← e2]
  exact h.l u hu
theorem told18 (x : ModX) (lo : Nat) (w : World) (h : ModAt w x) (f : ModFew x) (hlo : lo ≤ w.heap.size) :
    Calls Try.prog 22 #[.agg (mrow x).toArray] w fun e w' => Told18 lo x.d w' e (Below w.heap.size w w') := by
  refine (mclone_any x w h f).mono ?_
  rintro e w' ⟨⟨d, p, q, i, ev, c, ys⟩, rfl, hd, hin, hb⟩
  have hd : d = x.d := hd
  subst hd
  have hf := f.of (y := ⟨x.d, p, q, i, ev, c, ys⟩) rfl h.same hin.same
  obtain ⟨a1, n1, k1, rfl⟩ : ∃ a n k, p = .slice a n k := by
    obtain ⟨a, k, e, _⟩ := hin.p.row.shape
    exact ⟨a, _, k, e⟩
  obtain ⟨a2, n2, k2, rfl⟩ : ∃ a n k, q = .slice a n k := by
    obtain ⟨a, k, e, _⟩ := hin.q.row.shape
    exact ⟨a, _, k, e⟩
  obtain ⟨a3, n3, k3, rfl⟩ : ∃ a n k, i = .slice a n k := by
    obtain ⟨a, k, e, _⟩ := hin.i.row.shape
    exact ⟨a, _, k, e⟩
  obtain ⟨a5, n5, k5, rfl⟩ : ∃ a n k, ev = .slice a n k := by
    obtain ⟨a, k, e, _⟩ := hin.e.row.shape
    exact ⟨a, _, k, e⟩
  obtain ⟨a4, n4, k4, rfl⟩ : ∃ a n k, c = .slice a n k := by
    obtain ⟨a, k, e, _⟩ := hin.c.row.shape
    exact ⟨a, _, k, e⟩
  exact ⟨a1, n1, k1, a2, n2, k2, a3, n3, k3, a4, n4, k4, a5, n5, k5, ys, rfl, ⟨hin.p.lower hlo, hin.q.lower hlo, hin.i.lower hlo, hin.e.lower hlo, fun y hy => (hin.l y hy).lower hlo, hin.c.lower hlo, hin.same⟩, hf, hb⟩
set_option maxRecDepth 100000 in
set_option maxHeartbeats 1000000 in
theorem add_full {B lo : Nat} {tb room : Nat} {v : Value} {L : List ModX} (x : ModX) (w : World) (h : Tab B lo w tb room v L) (g : ModAt w x) (f : ModFew x) (hn : room ≤ L.length) :
    Calls Try.prog 10 #[.pointer (some ⟨tb, 0, none⟩), .agg (mrow x).toArray] w fun e w' => e = .returned (errV 8) ∧ Below w.heap.size w w' := by
  obtain ⟨d, p, q, i, ev, c, xs⟩ := x
  show Calls Try.prog 10 #[.pointer (some ⟨tb, 0, none⟩), .agg #[.string d.name, .int .u32 (d.key : Nat), .int .i64 d.base, .int .i64 d.size, .int .i64 d.z0, .int .i64 d.z1, .int .i64 d.z2, .int .i64 d.z3, p, q, i, ev, c]] w _
  have hbel : Below w.heap.size w (w.alloc (.cells #[.string d.name, .int .u32 (d.key : Nat), .int .i64 d.base, .int .i64 d.size, .int .i64 d.z0, .int .i64 d.z1, .int .i64 d.z2, .int .i64 d.z3, p, q, i, ev, c] MdT)) := (Below.refl _ _).alloc (Nat.le_refl _) _
  have HB0 := Lib.hid hbel
  have HT := Lib.hid (h.on hbel)
  have HG := Lib.hid (g.on hbel)
  have HF := Lib.hid f
  have HR : Hid (RowAt (w.alloc (.cells #[.string d.name, .int .u32 (d.key : Nat), .int .i64 d.base, .int .i64 d.size, .int .i64 d.z0, .int .i64 d.z1, .int .i64 d.z2, .int .i64 d.z3, p, q, i, ev, c] MdT)) w.heap.size MdT [.string d.name, .int .u32 (d.key : Nat), .int .i64 d.base, .int .i64 d.size, .int .i64 d.z0, .int .i64 d.z1, .int .i64 d.z2, .int .i64 d.z3, p, q, i, ev, c]) := RowAt.new w MdT _
  have HRM := Lib.hid (room_any _ HT.out)
  have HLE := Lib.hid HT.out.few
  clear h g f hbel
  have hz : (room : Int) - (L.length : Int) = 0 := by have := HLE.out; omega
  rw [hz] at HRM
  clear hz HLE hn
  go_enter Try.func10, Try.ntmps10
  go_wp2_with fail
  refine HRM.out.mono ?_
  rintro e w1 ⟨rfl, hb1⟩
  have RES := Lib.hid (below_on HB0.out hb1 HB0.out.size)
  clear hb1
  go_wp2_with fail
  go_ret
  exact ⟨rfl, RES.out⟩
set_option maxRecDepth 100000 in
set_option maxHeartbeats 1000000 in
theorem add_there {B lo : Nat} {tb room : Nat} {v : Value} {L : List ModX} (x : ModX) (w : World) (h : Tab B lo w tb room v L) (g : ModAt w x) (f : ModFew x) (hn : ¬ room ≤ L.length) (hs : x.d.name ∈ namesT L) :
    Calls Try.prog 10 #[.pointer (some ⟨tb, 0, none⟩), .agg (mrow x).toArray] w fun e w' => e = .returned (errV 1) ∧ Below w.heap.size w w' := by
  obtain ⟨d, p, q, i, ev, c, xs⟩ := x
  show Calls Try.prog 10 #[.pointer (some ⟨tb, 0, none⟩), .agg #[.string d.name, .int .u32 (d.key : Nat), .int .i64 d.base, .int .i64 d.size, .int .i64 d.z0, .int .i64 d.z1, .int .i64 d.z2, .int .i64 d.z3, p, q, i, ev, c]] w _
  have hbel : Below w.heap.size w (w.alloc (.cells #[.string d.name, .int .u32 (d.key : Nat), .int .i64 d.base, .int .i64 d.size, .int .i64 d.z0, .int .i64 d.z1, .int .i64 d.z2, .int .i64 d.z3, p, q, i, ev, c] MdT)) := (Below.refl _ _).alloc (Nat.le_refl _) _
  have HB0 := Lib.hid hbel
  have HT := Lib.hid (h.on hbel)
  have HG := Lib.hid (g.on hbel)
  have HF := Lib.hid f
  have HR : Hid (RowAt (w.alloc (.cells #[.string d.name, .int .u32 (d.key : Nat), .int .i64 d.base, .int .i64 d.size, .int .i64 d.z0, .int .i64 d.z1, .int .i64 d.z2, .int .i64 d.z3, p, q, i, ev, c] MdT)) w.heap.size MdT [.string d.name, .int .u32 (d.key : Nat), .int .i64 d.base, .int .i64 d.size, .int .i64 d.z0, .int .i64 d.z1, .int .i64 d.z2, .int .i64 d.z3, p, q, i, ev, c]) := RowAt.new w MdT _
  have HRM := Lib.hid (room_any _ HT.out)
  have HLE := Lib.hid HT.out.few
  clear h g f hbel
  have hz1 : ¬ (room : Int) - (L.length : Int) = 0 := by have := HLE.out; omega
  have hz2 : ((room : Int) - (L.length : Int) == 0) = false := by simpa using hz1
  generalize (room : Int) - (L.length : Int) = z at *
  go_enter Try.func10, Try.ntmps10
  go_wp2_with fail
  refine HRM.out.mono ?_
  rintro e w1 ⟨rfl, hb1⟩
  have HT1 := Lib.hid (HT.out.on hb1)
  have HG1 := Lib.hid (HG.out.on hb1)
  have HR1 := Lib.hid (HR.out.keep (Kept.of_below (S := fun _ => False) hb1) (fun e => e))
  have HB1 := Lib.hid (below_on HB0.out hb1 HB0.out.size)
  have c0 : w1.cell? ⟨w.heap.size, 0, none⟩ = some (.string d.name) := HR1.out.cell 0
  clear hb1 HT HG HR HB0 HRM HLE hn
  go_wp2_with fail
  refine (has18_any d.name w1 HT1.out).mono ?_
  rintro e w2 ⟨rfl, hb2⟩
  have HT2 := Lib.hid (HT1.out.on hb2)
  have HG2 := Lib.hid (HG1.out.on hb2)
  have HR2 := Lib.hid (HR1.out.keep (Kept.of_below (S := fun _ => False) hb2) (fun e => e))
  have HB2 := Lib.hid (below_on HB1.out hb2 HB1.out.size)
  have c10 : w2.cell? ⟨w.heap.size, 10, none⟩ = some i := HR2.out.cell 10
  clear hb2 HT1 HG1 HR1 HB1 c0
  have hs : d.name ∈ namesT L := hs
  rw [has_yes hs]
  clear hs
  go_wp2_with fail
  go_ret
  exact ⟨rfl, HB2.out⟩
set_option maxRecDepth 100000 in
set_option maxHeartbeats 1000000 in
theorem add_none {B lo : Nat} {tb room : Nat} {v : Value} {L : List ModX} (x : ModX) (w : World) (h : Tab B lo w tb room v L) (g : ModAt w x) (f : ModFew x) (hn : ¬ room ≤ L.length) (hs : x.d.name ∉ namesT L) (hi : ¬ ∀ i ∈ x.d.imps, i ∈ namesT L) :
    Calls Try.prog 10 #[.pointer (some ⟨tb, 0, none⟩), .agg (mrow x).toArray] w fun e w' => e = .returned (errV 3) ∧ Below w.heap.size w w' := by
  obtain ⟨r, hr, HI⟩ : ∃ r : Bool, r = false ∧ Hid (r = true ↔ ∀ i ∈ x.d.imps, i ∈ namesT L) := ⟨false, rfl, ⟨(fun e => by cases e), fun h => absurd h hi⟩⟩
  clear hi
  obtain ⟨d, p, q, i, ev, c, xs⟩ := x
  show Calls Try.prog 10 #[.pointer (some ⟨tb, 0, none⟩), .agg #[.string d.name, .int .u32 (d.key : Nat), .int .i64 d.base, .int .i64 d.size, .int .i64 d.z0, .int .i64 d.z1, .int .i64 d.z2, .int .i64 d.z3, p, q, i, ev, c]] w _
  have hbel : Below w.heap.size w (w.alloc (.cells #[.string d.name, .int .u32 (d.key : Nat), .int .i64 d.base, .int .i64 d.size, .int .i64 d.z0, .int .i64 d.z1, .int .i64 d.z2, .int .i64 d.z3, p, q, i, ev, c] MdT)) := (Below.refl _ _).alloc (Nat.le_refl _) _
  have HB0 := Lib.hid hbel
  have HT := Lib.hid (h.on hbel)
  have HG := Lib.hid (g.on hbel)
  have HF := Lib.hid f
  have HR : Hid (RowAt (w.alloc (.cells #[.string d.name, .int .u32 (d.key : Nat), .int .i64 d.base, .int .i64 d.size, .int .i64 d.z0, .int .i64 d.z1, .int .i64 d.z2, .int .i64 d.z3, p, q, i, ev, c] MdT)) w.heap.size MdT [.string d.name, .int .u32 (d.key : Nat), .int .i64 d.base, .int .i64 d.size, .int .i64 d.z0, .int .i64 d.z1, .int .i64 d.z2, .int .i64 d.z3, p, q, i, ev, c]) := RowAt.new w MdT _
  have HRM := Lib.hid (room_any _ HT.out)
  have HLE := Lib.hid HT.out.few
  clear h g f hbel
  have hz1 : ¬ (room : Int) - (L.length : Int) = 0 := by have := HLE.out; omega
  have hz2 : ((room : Int) - (L.length : Int) == 0) = false := by simpa using hz1
  generalize (room : Int) - (L.length : Int) = z at *
  go_enter Try.func10, Try.ntmps10
  go_wp2_with fail
  refine HRM.out.mono ?_
  rintro e w1 ⟨rfl, hb1⟩
  have HT1 := Lib.hid (HT.out.on hb1)
  have HG1 := Lib.hid (HG.out.on hb1)
  have HR1 := Lib.hid (HR.out.keep (Kept.of_below (S := fun _ => False) hb1) (fun e => e))
  have HB1 := Lib.hid (below_on HB0.out hb1 HB0.out.size)
  have c0 : w1.cell? ⟨w.heap.size, 0, none⟩ = some (.string d.name) := HR1.out.cell 0
  clear hb1 HT HG HR HB0 HRM HLE hn
  go_wp2_with fail
  refine (has18_any d.name w1 HT1.out).mono ?_
  rintro e w2 ⟨rfl, hb2⟩
  have HT2 := Lib.hid (HT1.out.on hb2)
  have HG2 := Lib.hid (HG1.out.on hb2)
  have HR2 := Lib.hid (HR1.out.keep (Kept.of_below (S := fun _ => False) hb2) (fun e => e))
  have HB2 := Lib.hid (below_on HB1.out hb2 HB1.out.size)
  have c10 : w2.cell? ⟨w.heap.size, 10, none⟩ = some i := HR2.out.cell 10
  clear hb2 HT1 HG1 HR1 HB1 c0
  have hs : d.name ∉ namesT L := hs
  rw [has_no hs]
  clear hs
  go_wp2_with fail
  refine (hasAll_any i d.imps r w2 HT2.out HG2.out.i HF.out.i HI.out).mono ?_
  rintro e w3 ⟨rfl, hb3⟩
  have HB3 := Lib.hid (below_on HB2.out hb3 HB2.out.size)
  subst hr
  clear hb3
  go_wp2_with fail
  go_ret
  exact ⟨rfl, HB3.out⟩
set_option maxRecDepth 100000 in
set_option maxHeartbeats 4000000 in
theorem add_on {B lo : Nat} {tb room : Nat} {v : Value} {L : List ModX} (x : ModX) (w : World) (h : Tab B lo w tb room v L) (g : ModAt w x) (f : ModFew x) (hn : ¬ room ≤ L.length) (hs : x.d.name ∉ namesT L) (hi : ∀ i ∈ x.d.imps, i ∈ namesT L) (hB : B ≤ w.heap.size) (hlo : lo ≤ w.heap.size) :
    Calls Try.prog 10 #[.pointer (some ⟨tb, 0, none⟩), .agg (mrow x).toArray] w fun e w' => e = .returned (errV 0) ∧ ∃ v' y, Tab B lo w' tb room v' (L ++ [y]) ∧ y.d = x.d ∧ Off B w w' := by
  obtain ⟨r, hr, HI⟩ : ∃ r : Bool, r = true ∧ Hid (r = true ↔ ∀ i ∈ x.d.imps, i ∈ namesT L) := ⟨true, rfl, ⟨fun _ => hi, fun _ => rfl⟩⟩
  have HN : Hid (L.length < room) := Nat.lt_of_not_le hn
  have HBW := Lib.hid hB
  have HLO := Lib.hid hlo
  clear hi hB hlo
  obtain ⟨d, p, q, i, ev, c, xs⟩ := x
  show Calls Try.prog 10 #[.pointer (some ⟨tb, 0, none⟩), .agg #[.string d.name, .int .u32 (d.key : Nat), .int .i64 d.base, .int .i64 d.size, .int .i64 d.z0, .int .i64 d.z1, .int .i64 d.z2, .int .i64 d.z3, p, q, i, ev, c]] w _
  have hbel : Below w.heap.size w (w.alloc (.cells #[.string d.name, .int .u32 (d.key : Nat), .int .i64 d.base, .int .i64 d.size, .int .i64 d.z0, .int .i64 d.z1, .int .i64 d.z2, .int .i64 d.z3, p, q, i, ev, c] MdT)) := (Below.refl _ _).alloc (Nat.le_refl _) _
  have HB0 := Lib.hid hbel
  have HT := Lib.hid (h.on hbel)
  have HG := Lib.hid (g.on hbel)
  have HF := Lib.hid f
  have HR : Hid (RowAt (w.alloc (.cells #[.string d.name, .int .u32 (d.key : Nat), .int .i64 d.base, .int .i64 d.size, .int .i64 d.z0, .int .i64 d.z1, .int .i64 d.z2, .int .i64 d.z3, p, q, i, ev, c] MdT)) w.heap.size MdT [.string d.name, .int .u32 (d.key : Nat), .int .i64 d.base, .int .i64 d.size, .int .i64 d.z0, .int .i64 d.z1, .int .i64 d.z2, .int .i64 d.z3, p, q, i, ev, c]) := RowAt.new w MdT _
  have HRM := Lib.hid (room_any _ HT.out)
  have HLE := Lib.hid HT.out.few
  clear h g f hbel
  have hz1 : ¬ (room : Int) - (L.length : Int) = 0 := by have := HLE.out; omega
  have hz2 : ((room : Int) - (L.length : Int) == 0) = false := by simpa using hz1
  generalize (room : Int) - (L.length : Int) = z at *
  go_enter Try.func10, Try.ntmps10
  go_wp2_with fail
  refine HRM.out.mono ?_
  rintro e w1 ⟨rfl, hb1⟩
  have HT1 := Lib.hid (HT.out.on hb1)
  have HG1 := Lib.hid (HG.out.on hb1)
  have HR1 := Lib.hid (HR.out.keep (Kept.of_below (S := fun _ => False) hb1) (fun e => e))
  have HB1 := Lib.hid (below_on HB0.out hb1 HB0.out.size)
  have c0 : w1.cell? ⟨w.heap.size, 0, none⟩ = some (.string d.name) := HR1.out.cell 0
  clear hb1 HT HG HR HB0 HRM HLE hn
  go_wp2_with fail
  refine (has18_any d.name w1 HT1.out).mono ?_
  rintro e w2 ⟨rfl, hb2⟩
  have HT2 := Lib.hid (HT1.out.on hb2)
  have HG2 := Lib.hid (HG1.out.on hb2)
  have HR2 := Lib.hid (HR1.out.keep (Kept.of_below (S := fun _ => False) hb2) (fun e => e))
  have HB2 := Lib.hid (below_on HB1.out hb2 HB1.out.size)
  have c10 : w2.cell? ⟨w.heap.size, 10, none⟩ = some i := HR2.out.cell 10
  clear hb2 HT1 HG1 HR1 HB1 c0
  have hs : d.name ∉ namesT L := hs
  rw [has_no hs]
  clear hs
  go_wp2_with fail
  refine (hasAll_any i d.imps r w2 HT2.out HG2.out.i HF.out.i HI.out).mono ?_
  rintro e w3 ⟨rfl, hb3⟩
  have HB3 := Lib.hid (below_on HB2.out hb3 HB2.out.size)
  subst hr
  have HT3 := Lib.hid (HT2.out.on hb3)
  have HG3 := Lib.hid (HG2.out.on hb3)
  have HR3 := Lib.hid (HR2.out.keep (Kept.of_below (S := fun _ => False) hb3) (fun e => e))
  clear hb3 HT2 HG2 HR2 HB2 c10 hz1 hz2
  have HCL := Lib.hid (fun W (hb : Below w3.heap.size w3 W) => told18 ⟨d, p, q, i, ev, c, xs⟩ lo W (HG3.out.on hb) HF.out (Nat.le_trans HLO.out (Nat.le_trans HB3.out.size hb.size)))
  have cv := HT3.out.c1
  have d0 : w3.cell? ⟨w.heap.size, 0, none⟩ = some (.string d.name) := HR3.out.cell 0
  have d1 : w3.cell? ⟨w.heap.size, 1, none⟩ = some (.int .u32 (d.key : Nat)) := HR3.out.cell 1
  have d2 : w3.cell? ⟨w.heap.size, 2, none⟩ = some (.int .i64 d.base) := HR3.out.cell 2
  have d3 : w3.cell? ⟨w.heap.size, 3, none⟩ = some (.int .i64 d.size) := HR3.out.cell 3
  have d4 : w3.cell? ⟨w.heap.size, 4, none⟩ = some (.int .i64 d.z0) := HR3.out.cell 4
  have d5 : w3.cell? ⟨w.heap.size, 5, none⟩ = some (.int .i64 d.z1) := HR3.out.cell 5
  have d6 : w3.cell? ⟨w.heap.size, 6, none⟩ = some (.int .i64 d.z2) := HR3.out.cell 6
  have d7 : w3.cell? ⟨w.heap.size, 7, none⟩ = some (.int .i64 d.z3) := HR3.out.cell 7
  have d8 : w3.cell? ⟨w.heap.size, 8, none⟩ = some p := HR3.out.cell 8
  have d9 : w3.cell? ⟨w.heap.size, 9, none⟩ = some q := HR3.out.cell 9
  have d10 : w3.cell? ⟨w.heap.size, 10, none⟩ = some i := HR3.out.cell 10
  have d11 : w3.cell? ⟨w.heap.size, 11, none⟩ = some ev := HR3.out.cell 11
  have d12 : w3.cell? ⟨w.heap.size, 12, none⟩ = some c := HR3.out.cell 12
  go_upto_region 7 with fail
  go_region_law (first
    | (refine step_append rfl (.tmp 27) (.tmp 30) 55 55 rfl _ _ (by simp [Act.eval]) (by simp [Act.eval]) HA.out ?_)
    | (go_simp; go_at_call 22; refine (HCL.out _ (by first | exact Below.refl _ _ | exact (Drawn.of_n w3 1).below _)).mono ?_; rintro e w4 ⟨a1, n1, k1, a2, n2, k2, a3, n3, k3, a4, n4, k4, a5, n5, k5, ys, rfl, hin, hfw, hb4⟩;
       have hb5 : Below w3.heap.size w3 w4 := (by first | exact hb4 | exact ((Drawn.of_n w3 1).below _).trans hb4);
       have hT4 := HT3.out.on hb5;
       have cv4 := hT4.c1;
       have cv5 : (w4.alloc (.cells #[.string d.name, .int .u32 (d.key : Nat), .int .i64 d.base, .int .i64 d.size, .int .i64 d.z0, .int .i64 d.z1, .int .i64 d.z2, .int .i64 d.z3, .slice a1 n1 k1, .slice a2 n2 k2, .slice a3 n3 k3, .slice a5 n5 k5, .slice a4 n4 k4] MdT)).cell? ⟨tb, 1, none⟩ = some v := (hT4.on ((Below.refl _ _).alloc (Nat.le_refl _) _)).c1;
       obtain ⟨v', w5, hap, ⟨hc5, hf5, a6, n6, k6, hv'⟩, ht5, ho5⟩ := hT4.add _ hin hfw HN.out (Nat.le_trans HBW.out (Nat.le_trans HB3.out.size hb5.size));
       subst hv';
       have RT := Lib.hid ht5;
       have RO := Lib.hid ((Off.of_below (below_on HB3.out hb5 HB3.out.size) HBW.out).trans ho5);
       have HA := Lib.hid hap;
       clear hap ht5 ho5 hin hfw hb4 hb5 hT4))
  all_goals
    go_wp2_with fail
    go_ret
    exact ⟨rfl, _, _, RT.out, rfl, RO.out⟩
set_option maxRecDepth 100000 in
set_option maxHeartbeats 1000000 in
theorem find_no {B lo : Nat} {tb room : Nat} {v : Value} {L : List ModX} (s : ByteArray) (w : World) (h : Tab B lo w tb room v L) (hn : s ∉ namesT L) :
    Calls Try.prog 15 #[.pointer (some ⟨tb, 0, none⟩), .string s] w fun e w' => e = .returned (.tuple #[.agg noRow.toArray, .bool false]) ∧ Below w.heap.size w w' := by
  have hbel : Below w.heap.size w (w.alloc (.cells noRow.toArray MdT)) := (Below.refl _ _).alloc (Nat.le_refl _) _
  have HR : Hid (RowAt (w.alloc (.cells noRow.toArray MdT)) w.heap.size MdT noRow) := RowAt.new w MdT _
  have HP := Lib.hid (place_any s _ (h.on hbel))
  rw [posV_none hn] at HP
  have HB := Lib.hid hbel
  clear h hn hbel
  go_enter Try.func15, Try.ntmps15
  go_wp2_with fail
  refine HP.out.mono ?_
  rintro e w1 ⟨rfl, hb1⟩
  have hr1 := HR.out.keep (Kept.of_below (S := fun _ => False) hb1) (fun e => e)
  have RES := Lib.hid (below_on HB.out hb1 HB.out.size)
  obtain ⟨r1, r2, r3⟩ := told_row hr1 (xs := noRow) (k := 13) rfl rfl noRow_ones size_md
  have RUN := Lib.hid r1
  have R2 := Lib.hid r2
  have R3 : Hid (Below w.heap.size w (w1.setRow w.heap.size noRow.toArray)) := r3.below RES.out RES.out.size fun j _ e => by rw [e]; exact Nat.le_refl _
  clear hb1 hr1 r1 r2 r3
  go_wp2_with (refine wpList_store_run _ rfl _ _ _ rfl _ _ rfl rfl (by exact RUN.out) ?_)
  exact bodyPost_ret (v := .tuple #[.agg noRow.toArray, .bool false]) (results_two Try.results15 _ _ w.heap.size MdT _ (0, 0) _ _ rfl rfl R2.out Try.underlying41 rfl (by rw [size_md]; rfl)) rfl ⟨rfl, R3.out⟩
set_option maxRecDepth 100000 in
set_option maxHeartbeats 2000000 in
theorem find_yes {B lo : Nat} {tb room : Nat} {v : Value} {L : List ModX} (s : ByteArray) (k : Nat) (x : ModX) (w : World) (h : Tab B lo w tb room v L) (hk : posV (namesT L) s = (k : Int)) (hx : L[k]? = some x) :
    Calls Try.prog 15 #[.pointer (some ⟨tb, 0, none⟩), .string s] w fun e w' => ∃ y : ModX, e = .returned (.tuple #[.agg (mrow y).toArray, .bool true]) ∧ y.d = x.d ∧ ModIn w.heap.size w' y ∧ Below w.heap.size w w' := by
  have hbel : Below w.heap.size w (w.alloc (.cells noRow.toArray MdT)) := (Below.refl _ _).alloc (Nat.le_refl _) _
  have HR : Hid (RowAt (w.alloc (.cells noRow.toArray MdT)) w.heap.size MdT noRow) := RowAt.new w MdT _
  have HP := Lib.hid (place_any s _ (h.on hbel))
  rw [hk] at HP
  have HB := Lib.hid hbel
  have HT := Lib.hid (h.on hbel)
  have HX := Lib.hid hx
  have hkl := (List.getElem?_eq_some_iff.1 hx).1
  have i16 := h.len
  clear h hk hbel hx
  go_enter Try.func15, Try.ntmps15
  go_wp2_with fail
  refine HP.out.mono ?_
  rintro e wr ⟨rfl, hb1⟩
  have hr1 := HR.out.keep (Kept.of_below (S := fun _ => False) hb1) (fun e => e)
  have TK := HT.out.on hb1
  have HB1 := Lib.hid (below_on HB.out hb1 HB.out.size)
  have hm := List.mem_of_getElem? HX.out
  have HC := Lib.hid (told18 x w.heap.size wr (TK.mods x hm).at_ (TK.fewm x hm) HB1.out.size)
  have cv := TK.c1
  obtain ⟨b, cap, hv, hb, key⟩ := TK.cells HX.out
  subst hv
  have HR1 := Lib.hid hr1
  obtain ⟨d, p, q, i, ev, c, xs⟩ := x
  have c0 : wr.cell? ⟨b, k * 13, none⟩ = some (.string d.name) := key 0 (by omega)
  have c1 : wr.cell? ⟨b, k * 13 + 1, none⟩ = some (.int .u32 (d.key : Nat)) := key 1 (by omega)
  have c2 : wr.cell? ⟨b, k * 13 + 2, none⟩ = some (.int .i64 d.base) := key 2 (by omega)
  have c3 : wr.cell? ⟨b, k * 13 + 3, none⟩ = some (.int .i64 d.size) := key 3 (by omega)
  have c4 : wr.cell? ⟨b, k * 13 + 4, none⟩ = some (.int .i64 d.z0) := key 4 (by omega)
  have c5 : wr.cell? ⟨b, k * 13 + 5, none⟩ = some (.int .i64 d.z1) := key 5 (by omega)
  have c6 : wr.cell? ⟨b, k * 13 + 6, none⟩ = some (.int .i64 d.z2) := key 6 (by omega)
  have c7 : wr.cell? ⟨b, k * 13 + 7, none⟩ = some (.int .i64 d.z3) := key 7 (by omega)
  have c8 : wr.cell? ⟨b, k * 13 + 8, none⟩ = some p := key 8 (by omega)
  have c9 : wr.cell? ⟨b, k * 13 + 9, none⟩ = some q := key 9 (by omega)
  have c10 : wr.cell? ⟨b, k * 13 + 10, none⟩ = some i := key 10 (by omega)
  have c11 : wr.cell? ⟨b, k * 13 + 11, none⟩ = some ev := key 11 (by omega)
  have c12 : wr.cell? ⟨b, k * 13 + 12, none⟩ = some c := key 12 (by omega)
  have HC : Hid (Calls Try.prog 22 #[.agg #[.string d.name, .int .u32 (d.key : Nat), .int .i64 d.base, .int .i64 d.size, .int .i64 d.z0, .int .i64 d.z1, .int .i64 d.z2, .int .i64 d.z3, p, q, i, ev, c]] wr fun e w' => Told18 w.heap.size d w' e (Below wr.heap.size wr w')) := HC
  generalize L.length = n at *
  have e3 : (k : Int) < (n : Int) := by omega
  have e4 : (0 : Int) ≤ (k : Int) := by omega
  have e5 : ¬ (k : Int) < 0 := by omega
  have e6 : decide ((k : Int) < 0) = false := by simp
  clear key hb hm TK hr1 HR HB HT HX hb1
  go_wp2_with fail
  refine HC.out.mono ?_
  rintro e w4 ⟨a1, n1, k1, a2, n2, k2, a3, n3, k3, a4, n4, k4, a5, n5, k5, ys, rfl, hin, hfw, hb4⟩
  have hr4 := HR1.out.keep (Kept.of_below (S := fun _ => False) hb4) (fun e => e)
  have HB4 := Lib.hid (below_on HB1.out hb4 HB1.out.size)
  obtain ⟨r1, r2, r3⟩ := told_row hr4 (xs := mcells d (.slice a1 n1 k1) (.slice a2 n2 k2) (.slice a3 n3 k3) (.slice a5 n5 k5) (.slice a4 n4 k4)) (k := 13) rfl rfl (ones_md rfl rfl rfl rfl rfl) size_md
  have RUN := Lib.hid r1
  have R2 := Lib.hid r2
  have R3 : Hid (Below w.heap.size w (w4.setRow w.heap.size (mcells d (.slice a1 n1 k1) (.slice a2 n2 k2) (.slice a3 n3 k3) (.slice a5 n5 k5) (.slice a4 n4 k4)).toArray)) := r3.below HB4.out HB4.out.size fun j _ e => by rw [e]; exact Nat.le_refl _
  have R4 := Lib.hid (hin.keep r3 fun u t k n cs hs _ ht j hj e => by
    subst e
    exact hs.off hr4 (mineTypes ht).1 hj)
  clear hin hfw hb4 hr4 r1 r2 r3 cv c0 c1 c2 c3 c4 c5 c6 c7 c8 c9 c10 c11 c12
  go_wp2_with (refine wpList_store_run _ rfl _ _ _ rfl _ _ rfl rfl (by exact RUN.out) ?_)
  exact bodyPost_ret (v := .tuple #[.agg (mcells d (.slice a1 n1 k1) (.slice a2 n2 k2) (.slice a3 n3 k3) (.slice a5 n5 k5) (.slice a4 n4 k4)).toArray, .bool true]) (results_two Try.results15 _ _ w.heap.size MdT _ (0, 0) _ _ rfl rfl R2.out Try.underlying41 rfl (by rw [size_md]; rfl)) rfl ⟨_, rfl, rfl, R4.out, R3.out⟩
set_option maxRecDepth 100000 in
set_option maxHeartbeats 1000000 in
theorem remove_no {B lo : Nat} {tb room : Nat} {v : Value} {L : List ModX} (s : ByteArray) (w : World) (h : Tab B lo w tb room v L) (hn : s ∉ namesT L) :
    Calls Try.prog 9 #[.pointer (some ⟨tb, 0, none⟩), .string s] w fun e w' => e = .returned (.bool false) ∧ Below w.heap.size w w' := by
  have HP := Lib.hid (place_any s _ h)
  rw [posV_none hn] at HP
  clear h hn
  go_enter Try.func9, Try.ntmps9
  go_wp2_with fail
  refine HP.out.mono ?_
  rintro e w1 ⟨rfl, hb1⟩
  have HB := Lib.hid hb1
  clear hb1
  go_wp2_with fail
  go_ret
  exact ⟨rfl, HB.out⟩
set_option maxRecDepth 100000 in
set_option maxHeartbeats 1000000 in
theorem remove_held {B lo : Nat} {tb room : Nat} {v : Value} {L : List ModX} (s : ByteArray) (k : Nat) (w : World) (h : Tab B lo w tb room v L) (hk : posV (namesT L) s = (k : Int)) (hr : refsT (impsT L) s ≠ 0) :
    Calls Try.prog 9 #[.pointer (some ⟨tb, 0, none⟩), .string s] w fun e w' => e = .returned (.bool false) ∧ Below w.heap.size w w' := by
  have HP := Lib.hid (place_any s _ h)
  rw [hk] at HP
  have HRF := Lib.hid (fun wr (hb : Below w.heap.size w wr) => refs_any s wr (h.on hb))
  have r1 : (0 : Int) < (refsT (impsT L) s : Nat) := by omega
  have r2 : 0 < refsT (impsT L) s := by omega
  generalize refsT (impsT L) s = r at *
  have e5 : ¬ (k : Int) < 0 := by omega
  have e6 : decide ((k : Int) < 0) = false := by simp
  have e7 : decide ((0 : Int) < (r : Int)) = true := by simp; omega
  clear h hk hr
  go_enter Try.func9, Try.ntmps9
  go_wp2_with fail
  refine HP.out.mono ?_
  rintro e w1 ⟨rfl, hb1⟩
  have HB := Lib.hid hb1
  clear hb1
  go_wp2_with fail
  refine (HRF.out w1 HB.out).mono ?_
  rintro e w2 ⟨rfl, hb2⟩
  have RES := Lib.hid (below_on HB.out hb2 HB.out.size)
  clear hb2
  go_wp2_with fail
  go_ret
  exact ⟨rfl, RES.out⟩
set_option maxRecDepth 100000 in
set_option maxHeartbeats 2000000 in
theorem remove_on {B lo : Nat} {tb room : Nat} {v : Value} {A C : List ModX} {x : ModX} (s : ByteArray) (w : World) (h : Tab B lo w tb room v (A ++ x :: C)) (hk : posV (namesT (A ++ x :: C)) s = (A.length : Int)) (hr : refsT (impsT (A ++ x :: C)) s = 0) (hB : B ≤ w.heap.size) :
    Calls Try.prog 9 #[.pointer (some ⟨tb, 0, none⟩), .string s] w fun e w' => e = .returned (.bool true) ∧ ∃ v', Tab B lo w' tb room v' (A ++ C) ∧ Off B w w' := by
  have HP := Lib.hid (place_any s _ h)
  rw [hk] at HP
  have HRF := Lib.hid (fun wr (hb : Below w.heap.size w wr) => refs_any s wr (h.on hb))
  rw [hr] at HRF
  have HT := Lib.hid h
  have HBW := Lib.hid hB
  obtain ⟨b, cap, rest, hv, hrow, hl, hc1, hc2⟩ : ∃ b cap rest, v = .slice (some ⟨b, 0, none⟩) (A.length + (C.length + 1)) cap ∧ RowAt w b MdT (rows mrow A ++ (mrow x ++ rows mrow C) ++ rest) ∧ (A.length + (C.length + 1)) * 13 + rest.length = cap * 13 ∧ A.length + (C.length + 1) ≤ cap ∧ cap ≤ maxLen := by
    rcases h.row.is with ⟨_, e⟩ | ⟨b, cap, rest, e, hr, h1, h2, h3⟩
    · simp at e
    · refine ⟨b, cap, rest, by rw [e]; simp, ?_, by simpa using h1, by simpa using h2, h3⟩
      rw [rows_append, rows_cons] at hr
      exact hr
  subst hv
  have HD := Lib.hid (fun wr (hb : Below w.heap.size w wr) => mdelete_at b cap A.length C.length (rows mrow A) (mrow x) (rows mrow C) rest (rows_length 13 mrow_len A) rfl (rows_length 13 mrow_len C) (fun u hu => by
    obtain ⟨y, hm, hy⟩ := List.mem_flatMap.1 hu
    exact h.row.one u (List.mem_flatMap.2 ⟨y, by simp [hm], hy⟩)) wr (hrow.keep (Kept.of_below (S := fun _ => False) hb) (fun e => e)) hl hc2)
  have HLN : Hid ((A ++ C).length = A.length + C.length) := by show (A ++ C).length = _; simp
  have i16 := h.len
  simp only [List.length_append, List.length_cons] at i16
  clear h hk hr hB hrow hl
  generalize hAn : A.length = a at *
  generalize hCn : C.length = c at *
  have HAN := Lib.hid hAn
  have HCN := Lib.hid hCn
  clear hAn hCn
  have e5 : ¬ (a : Int) < 0 := by omega
  have e6 : decide ((a : Int) < 0) = false := by simp
  have e9 : IntKind.i64.wrap ((a : Int) + 1) = (a : Int) + 1 := IntWalk.i64_in _ (by omega)
  go_enter Try.func9, Try.ntmps9
  go_wp2_with fail
  refine HP.out.mono ?_
  rintro e w1 ⟨rfl, hb1⟩
  have HB := Lib.hid hb1
  clear hb1
  go_wp2_with fail
  refine (HRF.out w1 HB.out).mono ?_
  rintro e w2 ⟨rfl, hb2⟩
  have HB2 := Lib.hid (below_on HB.out hb2 HB.out.size)
  have HT2 := Lib.hid (HT.out.on HB2.out)
  have cv := HT2.out.c1
  clear hb2
  go_wp2_with fail
  refine (HD.out w2 HB2.out).mono ?_
  rintro e w3 ⟨rfl, ⟨rest', hr3, hl3⟩, hk3⟩
  obtain ⟨⟨hc3, hf3⟩, ht3, ho3⟩ := HT2.out.del hk3 (rest := rest') (by rw [rows_append]; exact hr3) (by rw [HLN.out]; exact hl3) (Nat.le_trans HBW.out HB2.out.size)
  rw [HLN.out] at ht3 ho3
  have RT := Lib.hid ht3
  have RO := Lib.hid ((Off.of_below HB2.out HBW.out).trans ho3)
  clear cv hr3 hl3 hk3 ht3 ho3
  go_wp2_with fail
  go_ret
  exact ⟨rfl, _, RT.out, RO.out⟩
end Go.Proofs.Ytiofplejpgahdaa
