/-
  The document's Same (layer 12): whether two objects are the same. No conditions. (Written by wip/tools/obj-s.py.)
-/
import Derived.Test.YtkkjfbpflfknpaaObjS
import Derived.Deep.DeepCutAuto
namespace Go.Proofs.Ytkkjfbpflfknpaa
open Go.ChangeShapes Go.WideShapes Go.ChangeAt Go.RowKit

theorem both_imp {x1 y1 : ByteArray} {x2 y2 : Nat} : (x1.toList == y1.toList && ((x2 : Nat) : Int) == ((y2 : Nat) : Int)) = decide ((x1, x2) = (y1, y2)) := by
  by_cases h : x1 = y1
  · subst h; rw [Bool.eq_iff_iff]; simp; omega
  · simp [signs_not h, h]
theorem both_cmd {x1 y1 : ByteArray} {x2 y2 : Int} : (x1.toList == y1.toList && x2 == y2) = decide ((x1, x2) = (y1, y2)) := by
  by_cases h : x1 = y1
  · subst h; rw [Bool.eq_iff_iff]; simp
  · simp [signs_not h, h]
theorem both_exp {x1 y1 x2 y2 : Int} : (x1 == y1 && x2 == y2) = decide ((x1, x2) = (y1, y2)) := by rw [Bool.eq_iff_iff]; simp
theorem both_type {x1 y1 x2 y2 x3 y3 : Int} : (x1 == y1 && x2 == y2 && x3 == y3) = decide ((x1, x2, x3) = (y1, y2, y3)) := by rw [Bool.eq_iff_iff]; simp; exact and_assoc
theorem both_code {x1 y1 : Nat} : (((x1 : Nat) : Int) == ((y1 : Nat) : Int)) = decide (x1 = y1) := by rw [Bool.eq_iff_iff]; simp; omega

set_option maxRecDepth 100000 in
set_option maxHeartbeats 4000000 in
theorem same_main (Va Vb : ObjV) (a b : ObjD) (r : Bool) (w : World) (ha : ObjAt w Va a) (hb : ObjAt w Vb b) (hr : r = true ↔ a = b) (h0 : a.name = b.name) (h1 : a.key = b.key) (h2 : a.data = b.data) (h3 : a.text = b.text) (h4 : a.f0 = b.f0 ∧ a.f1 = b.f1 ∧ a.f2 = b.f2) (h5 : a.body = b.body)
    (l1 : a.imps.length = b.imps.length) (l2 : a.types.length = b.types.length) (l3 : a.code.length = b.code.length) (l4 : a.cmds.length = b.cmds.length) (l5 : a.exps.length = b.exps.length) :
    Calls Try.prog 12 #[.agg (ocells Va a).toArray, .agg (ocells Vb b).toArray] w fun e w' => e = .returned (.bool r) ∧ Below w.heap.size w w' := by
  have HA := Lib.hid ha
  have HB := Lib.hid hb
  have HR := Lib.hid hr
  have HQ : Hid (r = true ↔ a.imps = b.imps ∧ a.types = b.types ∧ a.code = b.code ∧ a.cmds = b.cmds ∧ a.exps = b.exps ∧ a.ptrs = b.ptrs ∧ a.procs = b.procs) := by
    show _ ↔ _
    rw [hr, ← ObjD.eqv_iff]
    simp only [ObjD.Eqv, h0, h1, h2, h3, h4.1, h4.2.1, h4.2.2, h5, true_and, and_true]
  obtain ⟨x1, d1, ex1, k1, k1', _⟩ := ha.imps.shape
  obtain ⟨y1, g1, ey1, _⟩ := hb.imps.shape
  obtain ⟨n1, hn1⟩ : ∃ n, n = a.imps.length := ⟨_, rfl⟩
  have hm1 : n1 = b.imps.length := hn1.trans l1
  rw [← hn1] at ex1 k1
  rw [← hm1] at ey1
  have hs1 : n1 ≤ 9223372036854775807 := Nat.le_trans k1 k1'
  have EX1 := Lib.hid ex1
  have EY1 := Lib.hid ey1
  have HN1 := Lib.hid hn1
  have HM1 := Lib.hid hm1
  obtain ⟨x2, d2, ex2, k2, k2', _⟩ := ha.types.shape
  obtain ⟨y2, g2, ey2, _⟩ := hb.types.shape
  obtain ⟨n2, hn2⟩ : ∃ n, n = a.types.length := ⟨_, rfl⟩
  have hm2 : n2 = b.types.length := hn2.trans l2
  rw [← hn2] at ex2 k2
  rw [← hm2] at ey2
  have hs2 : n2 ≤ 9223372036854775807 := Nat.le_trans k2 k2'
  have EX2 := Lib.hid ex2
  have EY2 := Lib.hid ey2
  have HN2 := Lib.hid hn2
  have HM2 := Lib.hid hm2
  obtain ⟨x3, d3, ex3, k3, k3', _⟩ := ha.code.shape
  obtain ⟨y3, g3, ey3, _⟩ := hb.code.shape
  obtain ⟨n3, hn3⟩ : ∃ n, n = a.code.length := ⟨_, rfl⟩
  have hm3 : n3 = b.code.length := hn3.trans l3
  rw [← hn3] at ex3 k3
  rw [← hm3] at ey3
  have hs3 : n3 ≤ 9223372036854775807 := Nat.le_trans k3 k3'
  have EX3 := Lib.hid ex3
  have EY3 := Lib.hid ey3
  have HN3 := Lib.hid hn3
  have HM3 := Lib.hid hm3
  obtain ⟨x4, d4, ex4, k4, k4', _⟩ := ha.cmds.shape
  obtain ⟨y4, g4, ey4, _⟩ := hb.cmds.shape
  obtain ⟨n4, hn4⟩ : ∃ n, n = a.cmds.length := ⟨_, rfl⟩
  have hm4 : n4 = b.cmds.length := hn4.trans l4
  rw [← hn4] at ex4 k4
  rw [← hm4] at ey4
  have hs4 : n4 ≤ 9223372036854775807 := Nat.le_trans k4 k4'
  have EX4 := Lib.hid ex4
  have EY4 := Lib.hid ey4
  have HN4 := Lib.hid hn4
  have HM4 := Lib.hid hm4
  obtain ⟨x5, d5, ex5, k5, k5', _⟩ := ha.exps.shape
  obtain ⟨y5, g5, ey5, _⟩ := hb.exps.shape
  obtain ⟨n5, hn5⟩ : ∃ n, n = a.exps.length := ⟨_, rfl⟩
  have hm5 : n5 = b.exps.length := hn5.trans l5
  rw [← hn5] at ex5 k5
  rw [← hm5] at ey5
  have hs5 : n5 ≤ 9223372036854775807 := Nat.le_trans k5 k5'
  have EX5 := Lib.hid ex5
  have EY5 := Lib.hid ey5
  have HN5 := Lib.hid hn5
  have HM5 := Lib.hid hm5
  have H0 := Lib.hid h0
  have H1 := Lib.hid h1
  have H2 := Lib.hid h2
  have H3 := Lib.hid h3
  have H4 := Lib.hid h4
  have H5 := Lib.hid h5
  have qf := neq_fix a.f0 a.f0 a.f1 a.f1 a.f2 a.f2
  have ea : (ocells Va a).toArray = #[.string a.name, .int .u32 (a.key : Nat), .slice x1 n1 d1, .slice x2 n2 d2, .int .i64 a.data, .string a.text, .slice x3 n3 d3, .slice x4 n4 d4, .slice x5 n5 d5, Va.p, Va.q, .int .i64 a.f0, .int .i64 a.f1, .int .i64 a.f2, .int .i64 a.body] := by unfold ocells; rw [ex1, ex2, ex3, ex4, ex5]
  have eb : (ocells Vb b).toArray = #[.string b.name, .int .u32 (b.key : Nat), .slice y1 n1 g1, .slice y2 n2 g2, .int .i64 b.data, .string b.text, .slice y3 n3 g3, .slice y4 n4 g4, .slice y5 n5 g5, Vb.p, Vb.q, .int .i64 b.f0, .int .i64 b.f1, .int .i64 b.f2, .int .i64 b.body] := by unfold ocells; rw [ey1, ey2, ey3, ey4, ey5]
  have HT : Hid (Two w ((w.alloc (.cells #[.string a.name, .int .u32 (a.key : Nat), .slice x1 n1 d1, .slice x2 n2 d2, .int .i64 a.data, .string a.text, .slice x3 n3 d3, .slice x4 n4 d4, .slice x5 n5 d5, Va.p, Va.q, .int .i64 a.f0, .int .i64 a.f1, .int .i64 a.f2, .int .i64 a.body] OT)).alloc (.cells #[.string b.name, .int .u32 (b.key : Nat), .slice y1 n1 g1, .slice y2 n2 g2, .int .i64 b.data, .string b.text, .slice y3 n3 g3, .slice y4 n4 g4, .slice y5 n5 g5, Vb.p, Vb.q, .int .i64 b.f0, .int .i64 b.f1, .int .i64 b.f2, .int .i64 b.body] OT)) w.heap.size (w.heap.size + 1) Va Vb a b) := by
    show Two _ _ _ _ _ _ _ _
    rw [← ea, ← eb]
    exact two_at w Va Vb a b
  rw [ea, eb]
  clear ha hb hr h0 h1 h2 h3 h4 h5 ea eb ex1 ey1 hn1 hm1 l1 k1 k1' ex2 ey2 hn2 hm2 l2 k2 k2' ex3 ey3 hn3 hm3 l3 k3 k3' ex4 ey4 hn4 hm4 l4 k4 k4' ex5 ey5 hn5 hm5 l5 k5 k5'
  go_enter Try.func12, Try.ntmps12
  go_upto_region 1 with fail
  have HT' : Hid (Two w ((w.alloc (.cells #[.string a.name, .int .u32 (a.key : Nat), .slice x1 n1 d1, .slice x2 n2 d2, .int .i64 a.data, .string a.text, .slice x3 n3 d3, .slice x4 n4 d4, .slice x5 n5 d5, Va.p, Va.q, .int .i64 a.f0, .int .i64 a.f1, .int .i64 a.f2, .int .i64 a.body] OT)).alloc (.cells #[.string b.name, .int .u32 (b.key : Nat), .slice y1 n1 g1, .slice y2 n2 g2, .int .i64 b.data, .string b.text, .slice y3 n3 g3, .slice y4 n4 g4, .slice y5 n5 g5, Vb.p, Vb.q, .int .i64 b.f0, .int .i64 b.f1, .int .i64 b.f2, .int .i64 b.body] OT)) w.heap.size (w.heap.size + 1) Va Vb a b) := HT.out
  clear HT
  generalize (w.alloc (.cells #[.string a.name, .int .u32 (a.key : Nat), .slice x1 n1 d1, .slice x2 n2 d2, .int .i64 a.data, .string a.text, .slice x3 n3 d3, .slice x4 n4 d4, .slice x5 n5 d5, Va.p, Va.q, .int .i64 a.f0, .int .i64 a.f1, .int .i64 a.f2, .int .i64 a.body] OT)).alloc (.cells #[.string b.name, .int .u32 (b.key : Nat), .slice y1 n1 g1, .slice y2 n2 g2, .int .i64 b.data, .string b.text, .slice y3 n3 g3, .slice y4 n4 g4, .slice y5 n5 g5, Vb.p, Vb.q, .int .i64 b.f0, .int .i64 b.f1, .int .i64 b.f2, .int .i64 b.body] OT) = wq at *
  generalize w.heap.size + 1 = ob at *
  generalize w.heap.size = oa at HT' ⊢
  generalize Value.agg #[.string a.name, .int .u32 (a.key : Nat), .slice x1 n1 d1, .slice x2 n2 d2, .int .i64 a.data, .string a.text, .slice x3 n3 d3, .slice x4 n4 d4, .slice x5 n5 d5, Va.p, Va.q, .int .i64 a.f0, .int .i64 a.f1, .int .i64 a.f2, .int .i64 a.body] = va at *
  generalize Value.agg #[.string b.name, .int .u32 (b.key : Nat), .slice y1 n1 g1, .slice y2 n2 g2, .int .i64 b.data, .string b.text, .slice y3 n3 g3, .slice y4 n4 g4, .slice y5 n5 g5, Vb.p, Vb.q, .int .i64 b.f0, .int .i64 b.f1, .int .i64 b.f2, .int .i64 b.body] = vb at *
  have HT := HT'
  clear HT'
  have ca0 : wq.cell? ⟨oa, 0, none⟩ = some (.string a.name) := HT.out.rowa.cell 0
  have ca1 : wq.cell? ⟨oa, 1, none⟩ = some (.int .u32 (a.key : Nat)) := HT.out.rowa.cell 1
  have ca2 : wq.cell? ⟨oa, 2, none⟩ = some (.slice x1 n1 d1) := (HT.out.rowa.cell 2).trans (congrArg some EX1.out)
  have ca3 : wq.cell? ⟨oa, 3, none⟩ = some (.slice x2 n2 d2) := (HT.out.rowa.cell 3).trans (congrArg some EX2.out)
  have ca4 : wq.cell? ⟨oa, 4, none⟩ = some (.int .i64 a.data) := HT.out.rowa.cell 4
  have ca5 : wq.cell? ⟨oa, 5, none⟩ = some (.string a.text) := HT.out.rowa.cell 5
  have ca6 : wq.cell? ⟨oa, 6, none⟩ = some (.slice x3 n3 d3) := (HT.out.rowa.cell 6).trans (congrArg some EX3.out)
  have ca7 : wq.cell? ⟨oa, 7, none⟩ = some (.slice x4 n4 d4) := (HT.out.rowa.cell 7).trans (congrArg some EX4.out)
  have ca8 : wq.cell? ⟨oa, 8, none⟩ = some (.slice x5 n5 d5) := (HT.out.rowa.cell 8).trans (congrArg some EX5.out)
  have ca11 : wq.cell? ⟨oa, 11, none⟩ = some (.int .i64 a.f0) := HT.out.rowa.cell 11
  have ca12 : wq.cell? ⟨oa, 12, none⟩ = some (.int .i64 a.f1) := HT.out.rowa.cell 12
  have ca13 : wq.cell? ⟨oa, 13, none⟩ = some (.int .i64 a.f2) := HT.out.rowa.cell 13
  have ca14 : wq.cell? ⟨oa, 14, none⟩ = some (.int .i64 a.body) := HT.out.rowa.cell 14
  have cb0 : wq.cell? ⟨ob, 0, none⟩ = some (.string a.name) := by rw [H0.out]; exact HT.out.rowb.cell 0
  have cb1 : wq.cell? ⟨ob, 1, none⟩ = some (.int .u32 (a.key : Nat)) := by rw [H1.out]; exact HT.out.rowb.cell 1
  have cb2 : wq.cell? ⟨ob, 2, none⟩ = some (.slice y1 n1 g1) := (HT.out.rowb.cell 2).trans (congrArg some EY1.out)
  have cb3 : wq.cell? ⟨ob, 3, none⟩ = some (.slice y2 n2 g2) := (HT.out.rowb.cell 3).trans (congrArg some EY2.out)
  have cb4 : wq.cell? ⟨ob, 4, none⟩ = some (.int .i64 a.data) := by rw [H2.out]; exact HT.out.rowb.cell 4
  have cb5 : wq.cell? ⟨ob, 5, none⟩ = some (.string a.text) := by rw [H3.out]; exact HT.out.rowb.cell 5
  have cb6 : wq.cell? ⟨ob, 6, none⟩ = some (.slice y3 n3 g3) := (HT.out.rowb.cell 6).trans (congrArg some EY3.out)
  have cb7 : wq.cell? ⟨ob, 7, none⟩ = some (.slice y4 n4 g4) := (HT.out.rowb.cell 7).trans (congrArg some EY4.out)
  have cb8 : wq.cell? ⟨ob, 8, none⟩ = some (.slice y5 n5 g5) := (HT.out.rowb.cell 8).trans (congrArg some EY5.out)
  have cb11 : wq.cell? ⟨ob, 11, none⟩ = some (.int .i64 a.f0) := by rw [H4.out.1]; exact HT.out.rowb.cell 11
  have cb12 : wq.cell? ⟨ob, 12, none⟩ = some (.int .i64 a.f1) := by rw [H4.out.2.1]; exact HT.out.rowb.cell 12
  have cb13 : wq.cell? ⟨ob, 13, none⟩ = some (.int .i64 a.f2) := by rw [H4.out.2.2]; exact HT.out.rowb.cell 13
  have cb14 : wq.cell? ⟨ob, 14, none⟩ = some (.int .i64 a.body) := by rw [H5.out]; exact HT.out.rowb.cell 14
  go_upto_region 3 with fail
  clear ca0 cb0 ca1 cb1 ca2 cb2 ca3 cb3 ca4 cb4 ca5 cb5 ca6 cb6 ca7 cb7 ca8 cb8 ca11 cb11 ca12 cb12 ca13 cb13 ca14 cb14
  clear qf
  have ca := (HT.out.rowa.cell 2).trans (congrArg some EX1.out)
  have ca' : wq.cell? ⟨oa, 2, none⟩ = some (.slice x1 n1 d1) := ca
  clear ca
  go_wp2_with fail
  go_loopw [5] (fun i wr => ∃ m : Nat, m ≤ n1 ∧ i = .int .i64 (m : Nat) ∧ Two w wr oa ob Va Vb a b ∧ ∀ i, i < m → a.imps[i]? = b.imps[i]?) (fun i _ => n1 - (intOf i).toNat)
  case atStart => exact ⟨0, Nat.zero_le _, rfl, HT.out, fun i hi => by omega⟩
  case round =>
    clear HT ca'
    obtain ⟨m, hm, rfl, hT, hup⟩ := hrel
    have ca : wr.cell? ⟨oa, 2, none⟩ = some (.slice x1 n1 d1) := (hT.rowa.cell 2).trans (congrArg some EX1.out)
    have cb : wr.cell? ⟨ob, 2, none⟩ = some (.slice y1 n1 g1) := (hT.rowb.cell 2).trans (congrArg some EY1.out)
    have HT := Lib.hid hT
    have HU := Lib.hid hup
    clear hT hup
    by_cases hlt : m < n1
    · as_aux_lemma =>
        obtain ⟨x, hx⟩ : ∃ x, a.imps[m]? = some x := ⟨_, List.getElem?_eq_getElem (by have := HN1.out; omega)⟩
        obtain ⟨y, hy⟩ : ∃ y, b.imps[m]? = some y := ⟨_, List.getElem?_eq_getElem (by have := HM1.out; omega)⟩
        obtain ⟨x1, x2⟩ := x
        obtain ⟨y1, y2⟩ := y
        obtain ⟨ba, offa, capa, e0, hba, p0, p1⟩ := HA.out.imps.cell2 hx rfl
        obtain ⟨bb, offb, capb, e1, hbb, q0, q1⟩ := HB.out.imps.cell2 hy rfl
        rw [← HN1.out] at e0
        rw [← HM1.out] at e1
        have e2 := EX1.out.symm.trans e0
        have e3 := EY1.out.symm.trans e1
        cases e2
        cases e3
        have u0 := (HT.out.below.cell (p := ⟨ba, offa + m * 2, none⟩) hba).trans p0
        have v0 := (HT.out.below.cell (p := ⟨bb, offb + m * 2, none⟩) hbb).trans q0
        have u1 := (HT.out.below.cell (p := ⟨ba, offa + m * 2 + 1, none⟩) hba).trans p1
        have v1 := (HT.out.below.cell (p := ⟨bb, offb + m * 2 + 1, none⟩) hbb).trans q1
        have HX := Lib.hid hx
        have HY := Lib.hid hy
        have i1 : (m : Int) < (n1 : Int) := by omega
        have i2 : (0 : Int) ≤ (m : Int) := by omega
        have nq := neq_imp x1 y1 (x2 : Nat) (y2 : Nat)
        have tq : (x1.toList == y1.toList && ((x2 : Nat) : Int) == ((y2 : Nat) : Int)) = _ := both_imp
        clear hx hy e0 e1 hba hbb p0 p1 q0 q1
        by_cases hxy : (x1, x2) = (y1, y2)
        · rw [decide_eq_true hxy] at tq
          have HXY := Lib.hid hxy
          clear hxy
          go_wp2_with fail
          refine wp_region_held_drew (S := fun w' => ((w'.cell? ⟨oa, 2, none⟩ = some (.slice (some ⟨ba, offa, none⟩) n1 d1) ∧ w'.cell? ⟨ob, 2, none⟩ = some (.slice (some ⟨bb, offb, none⟩) n1 g1)) ∧ w'.cell? ⟨ba, offa + m * 2, none⟩ = some (.string x1) ∧ w'.cell? ⟨bb, offb + m * 2, none⟩ = some (.string y1) ∧ w'.cell? ⟨ba, offa + m * 2 + 1, none⟩ = some (.int .u32 (x2 : Nat)) ∧ w'.cell? ⟨bb, offb + m * 2 + 1, none⟩ = some (.int .u32 (y2 : Nat))) ∧ Drawn wr w') (by kernel_rfl) ?_ (fun hHeld => ?_)
          · exact ⟨⟨⟨ca, cb⟩, u0, v0, u1, v1⟩, Drawn.of_n _ 1⟩
          refine wpAnyH_take (i := 0) (v := ?_) rfl (by kernel_rfl) (by kernel_rfl) (by kernel_rfl) (fun _ _ _ h => h) (Or.inl ⟨by rfl, ?_⟩) (by assumption) ?_
          rotate_left
          · intro w hSw
            (try dsimp only at hSw)
            go_simp
            (try with_reducible rfl)
          try simp only [Act.put, List.getElem_toArray, List.getElem_cons_zero, List.setIfInBounds_toArray, List.set_cons_zero, List.set_cons_succ]
          refine wpAnyH_take (i := 1) (v := ?_) rfl (by kernel_rfl) (by kernel_rfl) (by kernel_rfl) (fun _ _ _ h => h) (Or.inl ⟨by rfl, ?_⟩) (by assumption) ?_
          rotate_left
          · intro w hSw
            (try dsimp only at hSw)
            go_simp
            (try with_reducible rfl)
          try simp only [Act.put, List.getElem_toArray, List.getElem_cons_zero, List.getElem_cons_succ, List.setIfInBounds_toArray, List.set_cons_zero, List.set_cons_succ]
          refine wpAnyH_take (i := 2) (v := ?_) rfl (by kernel_rfl) (by kernel_rfl) (by kernel_rfl) (fun _ _ _ h => h) (Or.inl ⟨by rfl, ?_⟩) (by assumption) ?_
          rotate_left
          · intro w hSw
            (try dsimp only at hSw)
            go_simp
            (try with_reducible rfl)
          try simp only [Act.put, List.getElem_toArray, List.getElem_cons_zero, List.getElem_cons_succ, List.setIfInBounds_toArray, List.set_cons_zero, List.set_cons_succ]
          refine wpAnyH_take (i := 3) (v := ?_) rfl (by kernel_rfl) (by kernel_rfl) (by kernel_rfl) (fun _ _ _ h => h) (Or.inl ⟨by rfl, ?_⟩) (by assumption) ?_
          rotate_left
          · intro w hSw
            (try dsimp only at hSw)
            go_simp
            (try with_reducible rfl)
          try simp only [Act.put, List.getElem_toArray, List.getElem_cons_zero, List.getElem_cons_succ, List.setIfInBounds_toArray, List.set_cons_zero, List.set_cons_succ]
          refine wpAnyH_take (i := 4) (v := ?_) rfl (by kernel_rfl) (by kernel_rfl) (by kernel_rfl) (fun _ _ _ h => h) (Or.inl ⟨by rfl, ?_⟩) (by assumption) ?_
          rotate_left
          · intro w hSw
            (try dsimp only at hSw)
            go_simp
            (try with_reducible rfl)
          try simp only [Act.put, List.getElem_toArray, List.getElem_cons_zero, List.getElem_cons_succ, List.setIfInBounds_toArray, List.set_cons_zero, List.set_cons_succ]
          refine wpAnyH_take (i := 5) (v := ?_) rfl (by kernel_rfl) (by kernel_rfl) (by kernel_rfl) (fun _ _ _ h => h) (Or.inl ⟨by rfl, ?_⟩) (by assumption) ?_
          rotate_left
          · intro w hSw
            (try dsimp only at hSw)
            go_simp
            (try with_reducible rfl)
          try simp only [Act.put, List.getElem_toArray, List.getElem_cons_zero, List.getElem_cons_succ, List.setIfInBounds_toArray, List.set_cons_zero, List.set_cons_succ]
          refine wpAnyH_take (i := 6) (v := ?_) rfl (by kernel_rfl) (by kernel_rfl) (by kernel_rfl) (fun _ _ _ h => h) (Or.inl ⟨by rfl, ?_⟩) (by assumption) ?_
          rotate_left
          · intro w hSw
            (try dsimp only at hSw)
            go_simp
            (try with_reducible rfl)
          try simp only [Act.put, List.getElem_toArray, List.getElem_cons_zero, List.getElem_cons_succ, List.setIfInBounds_toArray, List.set_cons_zero, List.set_cons_succ]
          refine wpAnyH_take (i := 7) (v := ?_) rfl (by kernel_rfl) (by kernel_rfl) (by kernel_rfl) (fun _ _ _ h => h) (Or.inl ⟨by rfl, ?_⟩) (by assumption) ?_
          rotate_left
          · intro w hSw
            (try dsimp only at hSw)
            go_simp
            (try with_reducible rfl)
          try simp only [Act.put, List.getElem_toArray, List.getElem_cons_zero, List.getElem_cons_succ, List.setIfInBounds_toArray, List.set_cons_zero, List.set_cons_succ]
          refine wpAnyH_take (i := 8) (v := ?_) rfl (by kernel_rfl) (by kernel_rfl) (by kernel_rfl) (fun _ _ _ h => h) (Or.inl ⟨by rfl, ?_⟩) (by assumption) ?_
          rotate_left
          · intro w hSw
            (try dsimp only at hSw)
            go_simp
            (try with_reducible rfl)
          try simp only [Act.put, List.getElem_toArray, List.getElem_cons_zero, List.getElem_cons_succ, List.setIfInBounds_toArray, List.set_cons_zero, List.set_cons_succ]
          refine wpAnyH_take (i := 9) (v := ?_) rfl (by kernel_rfl) (by kernel_rfl) (by kernel_rfl) (fun _ _ _ h => h) (Or.inl ⟨by rfl, ?_⟩) (by assumption) ?_
          rotate_left
          · intro w hSw
            (try dsimp only at hSw)
            go_simp
            (try with_reducible rfl)
          try simp only [Act.put, List.getElem_toArray, List.getElem_cons_zero, List.getElem_cons_succ, List.setIfInBounds_toArray, List.set_cons_zero, List.set_cons_succ]
          refine wpAnyH_take (i := 10) (v := ?_) rfl (by kernel_rfl) (by kernel_rfl) (by kernel_rfl) (fun _ _ _ h => h) (Or.inl ⟨by rfl, ?_⟩) (by assumption) ?_
          rotate_left
          · intro w hSw
            (try dsimp only at hSw)
            go_simp
            (try with_reducible rfl)
          try simp only [Act.put, List.getElem_toArray, List.getElem_cons_zero, List.getElem_cons_succ, List.setIfInBounds_toArray, List.set_cons_zero, List.set_cons_succ]
          refine wpAnyH_done (by kernel_rfl) ?_ _
          have HE := Lib.hid (HT.out.on hHeld.2)
          clear hHeld
          go_wp2_with fail
          go_roundw
          case rel => exact ⟨m + 1, by omega, by go_num, HE.out, upto_next HU.out HX.out (by rw [HXY.out]; exact HY.out)⟩
          case measure => simp [intOf]; omega
        · rw [decide_eq_false hxy] at tq
          have hr : r = false := by
            cases hr : r with
            | false => rfl
            | true => exact absurd (by have e := HX.out; rw [(HQ.out.1 hr).1, HY.out] at e; cases e; rfl) hxy
          clear hxy
          subst hr
          go_wp2_with fail
          refine wp_region_held_drew (S := fun w' => ((w'.cell? ⟨oa, 2, none⟩ = some (.slice (some ⟨ba, offa, none⟩) n1 d1) ∧ w'.cell? ⟨ob, 2, none⟩ = some (.slice (some ⟨bb, offb, none⟩) n1 g1)) ∧ w'.cell? ⟨ba, offa + m * 2, none⟩ = some (.string x1) ∧ w'.cell? ⟨bb, offb + m * 2, none⟩ = some (.string y1) ∧ w'.cell? ⟨ba, offa + m * 2 + 1, none⟩ = some (.int .u32 (x2 : Nat)) ∧ w'.cell? ⟨bb, offb + m * 2 + 1, none⟩ = some (.int .u32 (y2 : Nat))) ∧ Drawn wr w') (by kernel_rfl) ?_ (fun hHeld => ?_)
          · exact ⟨⟨⟨ca, cb⟩, u0, v0, u1, v1⟩, Drawn.of_n _ 1⟩
          refine wpAnyH_take (i := 0) (v := ?_) rfl (by kernel_rfl) (by kernel_rfl) (by kernel_rfl) (fun _ _ _ h => h) (Or.inl ⟨by rfl, ?_⟩) (by assumption) ?_
          rotate_left
          · intro w hSw
            (try dsimp only at hSw)
            go_simp
            (try with_reducible rfl)
          try simp only [Act.put, List.getElem_toArray, List.getElem_cons_zero, List.setIfInBounds_toArray, List.set_cons_zero, List.set_cons_succ]
          refine wpAnyH_take (i := 1) (v := ?_) rfl (by kernel_rfl) (by kernel_rfl) (by kernel_rfl) (fun _ _ _ h => h) (Or.inl ⟨by rfl, ?_⟩) (by assumption) ?_
          rotate_left
          · intro w hSw
            (try dsimp only at hSw)
            go_simp
            (try with_reducible rfl)
          try simp only [Act.put, List.getElem_toArray, List.getElem_cons_zero, List.getElem_cons_succ, List.setIfInBounds_toArray, List.set_cons_zero, List.set_cons_succ]
          refine wpAnyH_take (i := 2) (v := ?_) rfl (by kernel_rfl) (by kernel_rfl) (by kernel_rfl) (fun _ _ _ h => h) (Or.inl ⟨by rfl, ?_⟩) (by assumption) ?_
          rotate_left
          · intro w hSw
            (try dsimp only at hSw)
            go_simp
            (try with_reducible rfl)
          try simp only [Act.put, List.getElem_toArray, List.getElem_cons_zero, List.getElem_cons_succ, List.setIfInBounds_toArray, List.set_cons_zero, List.set_cons_succ]
          refine wpAnyH_take (i := 3) (v := ?_) rfl (by kernel_rfl) (by kernel_rfl) (by kernel_rfl) (fun _ _ _ h => h) (Or.inl ⟨by rfl, ?_⟩) (by assumption) ?_
          rotate_left
          · intro w hSw
            (try dsimp only at hSw)
            go_simp
            (try with_reducible rfl)
          try simp only [Act.put, List.getElem_toArray, List.getElem_cons_zero, List.getElem_cons_succ, List.setIfInBounds_toArray, List.set_cons_zero, List.set_cons_succ]
          refine wpAnyH_take (i := 4) (v := ?_) rfl (by kernel_rfl) (by kernel_rfl) (by kernel_rfl) (fun _ _ _ h => h) (Or.inl ⟨by rfl, ?_⟩) (by assumption) ?_
          rotate_left
          · intro w hSw
            (try dsimp only at hSw)
            go_simp
            (try with_reducible rfl)
          try simp only [Act.put, List.getElem_toArray, List.getElem_cons_zero, List.getElem_cons_succ, List.setIfInBounds_toArray, List.set_cons_zero, List.set_cons_succ]
          refine wpAnyH_take (i := 5) (v := ?_) rfl (by kernel_rfl) (by kernel_rfl) (by kernel_rfl) (fun _ _ _ h => h) (Or.inl ⟨by rfl, ?_⟩) (by assumption) ?_
          rotate_left
          · intro w hSw
            (try dsimp only at hSw)
            go_simp
            (try with_reducible rfl)
          try simp only [Act.put, List.getElem_toArray, List.getElem_cons_zero, List.getElem_cons_succ, List.setIfInBounds_toArray, List.set_cons_zero, List.set_cons_succ]
          refine wpAnyH_take (i := 6) (v := ?_) rfl (by kernel_rfl) (by kernel_rfl) (by kernel_rfl) (fun _ _ _ h => h) (Or.inl ⟨by rfl, ?_⟩) (by assumption) ?_
          rotate_left
          · intro w hSw
            (try dsimp only at hSw)
            go_simp
            (try with_reducible rfl)
          try simp only [Act.put, List.getElem_toArray, List.getElem_cons_zero, List.getElem_cons_succ, List.setIfInBounds_toArray, List.set_cons_zero, List.set_cons_succ]
          refine wpAnyH_take (i := 7) (v := ?_) rfl (by kernel_rfl) (by kernel_rfl) (by kernel_rfl) (fun _ _ _ h => h) (Or.inl ⟨by rfl, ?_⟩) (by assumption) ?_
          rotate_left
          · intro w hSw
            (try dsimp only at hSw)
            go_simp
            (try with_reducible rfl)
          try simp only [Act.put, List.getElem_toArray, List.getElem_cons_zero, List.getElem_cons_succ, List.setIfInBounds_toArray, List.set_cons_zero, List.set_cons_succ]
          refine wpAnyH_take (i := 8) (v := ?_) rfl (by kernel_rfl) (by kernel_rfl) (by kernel_rfl) (fun _ _ _ h => h) (Or.inl ⟨by rfl, ?_⟩) (by assumption) ?_
          rotate_left
          · intro w hSw
            (try dsimp only at hSw)
            go_simp
            (try with_reducible rfl)
          try simp only [Act.put, List.getElem_toArray, List.getElem_cons_zero, List.getElem_cons_succ, List.setIfInBounds_toArray, List.set_cons_zero, List.set_cons_succ]
          refine wpAnyH_take (i := 9) (v := ?_) rfl (by kernel_rfl) (by kernel_rfl) (by kernel_rfl) (fun _ _ _ h => h) (Or.inl ⟨by rfl, ?_⟩) (by assumption) ?_
          rotate_left
          · intro w hSw
            (try dsimp only at hSw)
            go_simp
            (try with_reducible rfl)
          try simp only [Act.put, List.getElem_toArray, List.getElem_cons_zero, List.getElem_cons_succ, List.setIfInBounds_toArray, List.set_cons_zero, List.set_cons_succ]
          refine wpAnyH_take (i := 10) (v := ?_) rfl (by kernel_rfl) (by kernel_rfl) (by kernel_rfl) (fun _ _ _ h => h) (Or.inl ⟨by rfl, ?_⟩) (by assumption) ?_
          rotate_left
          · intro w hSw
            (try dsimp only at hSw)
            go_simp
            (try with_reducible rfl)
          try simp only [Act.put, List.getElem_toArray, List.getElem_cons_zero, List.getElem_cons_succ, List.setIfInBounds_toArray, List.set_cons_zero, List.set_cons_succ]
          refine wpAnyH_done (by kernel_rfl) ?_ _
          have HE := Lib.hid (HT.out.on hHeld.2)
          clear hHeld
          go_wp2_with fail
          go_ret
          exact ⟨rfl, HE.out.below⟩
    · have E1 : Hid (a.imps = b.imps) := upto_all (HN1.out.symm.trans HM1.out) HN1.out (fun i hi => HU.out i (by omega))
      have i1 : ¬ (m : Int) < (n1 : Int) := by omega
      have co := ca
      clear HU ca cb
      obtain ⟨wq, hq⟩ : ∃ z, z = wr := ⟨_, rfl⟩
      subst hq
      have ca := (HT.out.rowa.cell 3).trans (congrArg some EX2.out)
      have ca' : wq.cell? ⟨oa, 3, none⟩ = some (.slice x2 n2 d2) := ca
      clear ca
      go_wp2_with fail
      clear co i1
      go_loopw [6] (fun i wr => ∃ m : Nat, m ≤ n2 ∧ i = .int .i64 (m : Nat) ∧ Two w wr oa ob Va Vb a b ∧ ∀ i, i < m → a.types[i]? = b.types[i]?) (fun i _ => n2 - (intOf i).toNat)
      case atStart => exact ⟨0, Nat.zero_le _, rfl, HT.out, fun i hi => by omega⟩
      case round =>
        clear HT ca'
        obtain ⟨m, hm, rfl, hT, hup⟩ := hrel
        have ca : wr.cell? ⟨oa, 3, none⟩ = some (.slice x2 n2 d2) := (hT.rowa.cell 3).trans (congrArg some EX2.out)
        have cb : wr.cell? ⟨ob, 3, none⟩ = some (.slice y2 n2 g2) := (hT.rowb.cell 3).trans (congrArg some EY2.out)
        have HT := Lib.hid hT
        have HU := Lib.hid hup
        clear hT hup
        by_cases hlt : m < n2
        · as_aux_lemma =>
            obtain ⟨x, hx⟩ : ∃ x, a.types[m]? = some x := ⟨_, List.getElem?_eq_getElem (by have := HN2.out; omega)⟩
            obtain ⟨y, hy⟩ : ∃ y, b.types[m]? = some y := ⟨_, List.getElem?_eq_getElem (by have := HM2.out; omega)⟩
            obtain ⟨x1, x2, x3⟩ := x
            obtain ⟨y1, y2, y3⟩ := y
            obtain ⟨ba, offa, capa, e0, hba, p0, p1, p2⟩ := HA.out.types.cell3 hx rfl
            obtain ⟨bb, offb, capb, e1, hbb, q0, q1, q2⟩ := HB.out.types.cell3 hy rfl
            rw [← HN2.out] at e0
            rw [← HM2.out] at e1
            have e2 := EX2.out.symm.trans e0
            have e3 := EY2.out.symm.trans e1
            cases e2
            cases e3
            have u0 := (HT.out.below.cell (p := ⟨ba, offa + m * 3, none⟩) hba).trans p0
            have v0 := (HT.out.below.cell (p := ⟨bb, offb + m * 3, none⟩) hbb).trans q0
            have u1 := (HT.out.below.cell (p := ⟨ba, offa + m * 3 + 1, none⟩) hba).trans p1
            have v1 := (HT.out.below.cell (p := ⟨bb, offb + m * 3 + 1, none⟩) hbb).trans q1
            have u2 := (HT.out.below.cell (p := ⟨ba, offa + m * 3 + 2, none⟩) hba).trans p2
            have v2 := (HT.out.below.cell (p := ⟨bb, offb + m * 3 + 2, none⟩) hbb).trans q2
            have HX := Lib.hid hx
            have HY := Lib.hid hy
            have i1 : (m : Int) < (n2 : Int) := by omega
            have i2 : (0 : Int) ≤ (m : Int) := by omega
            have nq := neq_type x1 y1 x2 y2 x3 y3
            have tq : (x1 == y1 && x2 == y2 && x3 == y3) = _ := both_type
            clear hx hy e0 e1 hba hbb p0 p1 p2 q0 q1 q2
            by_cases hxy : (x1, x2, x3) = (y1, y2, y3)
            · rw [decide_eq_true hxy] at tq
              have HXY := Lib.hid hxy
              clear hxy
              go_wp2_with fail
              refine wp_region_held_drew (S := fun w' => ((w'.cell? ⟨oa, 3, none⟩ = some (.slice (some ⟨ba, offa, none⟩) n2 d2) ∧ w'.cell? ⟨ob, 3, none⟩ = some (.slice (some ⟨bb, offb, none⟩) n2 g2)) ∧ w'.cell? ⟨ba, offa + m * 3, none⟩ = some (.int .i64 x1) ∧ w'.cell? ⟨bb, offb + m * 3, none⟩ = some (.int .i64 y1) ∧ w'.cell? ⟨ba, offa + m * 3 + 1, none⟩ = some (.int .i64 x2) ∧ w'.cell? ⟨bb, offb + m * 3 + 1, none⟩ = some (.int .i64 y2) ∧ w'.cell? ⟨ba, offa + m * 3 + 2, none⟩ = some (.int .i64 x3) ∧ w'.cell? ⟨bb, offb + m * 3 + 2, none⟩ = some (.int .i64 y3)) ∧ Drawn wr w') (by kernel_rfl) ?_ (fun hHeld => ?_)
              · exact ⟨⟨⟨ca, cb⟩, u0, v0, u1, v1, u2, v2⟩, Drawn.of_n _ 1⟩
              refine wpAnyH_take (i := 0) (v := ?_) rfl (by kernel_rfl) (by kernel_rfl) (by kernel_rfl) (fun _ _ _ h => h) (Or.inl ⟨by rfl, ?_⟩) (by assumption) ?_
              rotate_left
              · intro w hSw
                (try dsimp only at hSw)
                go_simp
                (try with_reducible rfl)
              try simp only [Act.put, List.getElem_toArray, List.getElem_cons_zero, List.setIfInBounds_toArray, List.set_cons_zero, List.set_cons_succ]
              refine wpAnyH_take (i := 1) (v := ?_) rfl (by kernel_rfl) (by kernel_rfl) (by kernel_rfl) (fun _ _ _ h => h) (Or.inl ⟨by rfl, ?_⟩) (by assumption) ?_
              rotate_left
              · intro w hSw
                (try dsimp only at hSw)
                go_simp
                (try with_reducible rfl)
              try simp only [Act.put, List.getElem_toArray, List.getElem_cons_zero, List.getElem_cons_succ, List.setIfInBounds_toArray, List.set_cons_zero, List.set_cons_succ]
              refine wpAnyH_take (i := 2) (v := ?_) rfl (by kernel_rfl) (by kernel_rfl) (by kernel_rfl) (fun _ _ _ h => h) (Or.inl ⟨by rfl, ?_⟩) (by assumption) ?_
              rotate_left
              · intro w hSw
                (try dsimp only at hSw)
                go_simp
                (try with_reducible rfl)
              try simp only [Act.put, List.getElem_toArray, List.getElem_cons_zero, List.getElem_cons_succ, List.setIfInBounds_toArray, List.set_cons_zero, List.set_cons_succ]
              refine wpAnyH_take (i := 3) (v := ?_) rfl (by kernel_rfl) (by kernel_rfl) (by kernel_rfl) (fun _ _ _ h => h) (Or.inl ⟨by rfl, ?_⟩) (by assumption) ?_
              rotate_left
              · intro w hSw
                (try dsimp only at hSw)
                go_simp
                (try with_reducible rfl)
              try simp only [Act.put, List.getElem_toArray, List.getElem_cons_zero, List.getElem_cons_succ, List.setIfInBounds_toArray, List.set_cons_zero, List.set_cons_succ]
              refine wpAnyH_take (i := 4) (v := ?_) rfl (by kernel_rfl) (by kernel_rfl) (by kernel_rfl) (fun _ _ _ h => h) (Or.inl ⟨by rfl, ?_⟩) (by assumption) ?_
              rotate_left
              · intro w hSw
                (try dsimp only at hSw)
                go_simp
                (try with_reducible rfl)
              try simp only [Act.put, List.getElem_toArray, List.getElem_cons_zero, List.getElem_cons_succ, List.setIfInBounds_toArray, List.set_cons_zero, List.set_cons_succ]
              refine wpAnyH_take (i := 5) (v := ?_) rfl (by kernel_rfl) (by kernel_rfl) (by kernel_rfl) (fun _ _ _ h => h) (Or.inl ⟨by rfl, ?_⟩) (by assumption) ?_
              rotate_left
              · intro w hSw
                (try dsimp only at hSw)
                go_simp
                (try with_reducible rfl)
              try simp only [Act.put, List.getElem_toArray, List.getElem_cons_zero, List.getElem_cons_succ, List.setIfInBounds_toArray, List.set_cons_zero, List.set_cons_succ]
              refine wpAnyH_take (i := 6) (v := ?_) rfl (by kernel_rfl) (by kernel_rfl) (by kernel_rfl) (fun _ _ _ h => h) (Or.inl ⟨by rfl, ?_⟩) (by assumption) ?_
              rotate_left
              · intro w hSw
                (try dsimp only at hSw)
                go_simp
                (try with_reducible rfl)
              try simp only [Act.put, List.getElem_toArray, List.getElem_cons_zero, List.getElem_cons_succ, List.setIfInBounds_toArray, List.set_cons_zero, List.set_cons_succ]
              refine wpAnyH_take (i := 7) (v := ?_) rfl (by kernel_rfl) (by kernel_rfl) (by kernel_rfl) (fun _ _ _ h => h) (Or.inl ⟨by rfl, ?_⟩) (by assumption) ?_
              rotate_left
              · intro w hSw
                (try dsimp only at hSw)
                go_simp
                (try with_reducible rfl)
              try simp only [Act.put, List.getElem_toArray, List.getElem_cons_zero, List.getElem_cons_succ, List.setIfInBounds_toArray, List.set_cons_zero, List.set_cons_succ]
              refine wpAnyH_take (i := 8) (v := ?_) rfl (by kernel_rfl) (by kernel_rfl) (by kernel_rfl) (fun _ _ _ h => h) (Or.inl ⟨by rfl, ?_⟩) (by assumption) ?_
              rotate_left
              · intro w hSw
                (try dsimp only at hSw)
                go_simp
                (try with_reducible rfl)
              try simp only [Act.put, List.getElem_toArray, List.getElem_cons_zero, List.getElem_cons_succ, List.setIfInBounds_toArray, List.set_cons_zero, List.set_cons_succ]
              refine wpAnyH_take (i := 9) (v := ?_) rfl (by kernel_rfl) (by kernel_rfl) (by kernel_rfl) (fun _ _ _ h => h) (Or.inl ⟨by rfl, ?_⟩) (by assumption) ?_
              rotate_left
              · intro w hSw
                (try dsimp only at hSw)
                go_simp
                (try with_reducible rfl)
              try simp only [Act.put, List.getElem_toArray, List.getElem_cons_zero, List.getElem_cons_succ, List.setIfInBounds_toArray, List.set_cons_zero, List.set_cons_succ]
              refine wpAnyH_take (i := 10) (v := ?_) rfl (by kernel_rfl) (by kernel_rfl) (by kernel_rfl) (fun _ _ _ h => h) (Or.inl ⟨by rfl, ?_⟩) (by assumption) ?_
              rotate_left
              · intro w hSw
                (try dsimp only at hSw)
                go_simp
                (try with_reducible rfl)
              try simp only [Act.put, List.getElem_toArray, List.getElem_cons_zero, List.getElem_cons_succ, List.setIfInBounds_toArray, List.set_cons_zero, List.set_cons_succ]
              refine wpAnyH_done (by kernel_rfl) ?_ _
              have HE := Lib.hid (HT.out.on hHeld.2)
              clear hHeld
              go_wp2_with fail
              go_roundw
              case rel => exact ⟨m + 1, by omega, by go_num, HE.out, upto_next HU.out HX.out (by rw [HXY.out]; exact HY.out)⟩
              case measure => simp [intOf]; omega
            · rw [decide_eq_false hxy] at tq
              have hr : r = false := by
                cases hr : r with
                | false => rfl
                | true => exact absurd (by have e := HX.out; rw [(HQ.out.1 hr).2.1, HY.out] at e; cases e; rfl) hxy
              clear hxy
              subst hr
              go_wp2_with fail
              refine wp_region_held_drew (S := fun w' => ((w'.cell? ⟨oa, 3, none⟩ = some (.slice (some ⟨ba, offa, none⟩) n2 d2) ∧ w'.cell? ⟨ob, 3, none⟩ = some (.slice (some ⟨bb, offb, none⟩) n2 g2)) ∧ w'.cell? ⟨ba, offa + m * 3, none⟩ = some (.int .i64 x1) ∧ w'.cell? ⟨bb, offb + m * 3, none⟩ = some (.int .i64 y1) ∧ w'.cell? ⟨ba, offa + m * 3 + 1, none⟩ = some (.int .i64 x2) ∧ w'.cell? ⟨bb, offb + m * 3 + 1, none⟩ = some (.int .i64 y2) ∧ w'.cell? ⟨ba, offa + m * 3 + 2, none⟩ = some (.int .i64 x3) ∧ w'.cell? ⟨bb, offb + m * 3 + 2, none⟩ = some (.int .i64 y3)) ∧ Drawn wr w') (by kernel_rfl) ?_ (fun hHeld => ?_)
              · exact ⟨⟨⟨ca, cb⟩, u0, v0, u1, v1, u2, v2⟩, Drawn.of_n _ 1⟩
              refine wpAnyH_take (i := 0) (v := ?_) rfl (by kernel_rfl) (by kernel_rfl) (by kernel_rfl) (fun _ _ _ h => h) (Or.inl ⟨by rfl, ?_⟩) (by assumption) ?_
              rotate_left
              · intro w hSw
                (try dsimp only at hSw)
                go_simp
                (try with_reducible rfl)
              try simp only [Act.put, List.getElem_toArray, List.getElem_cons_zero, List.setIfInBounds_toArray, List.set_cons_zero, List.set_cons_succ]
              refine wpAnyH_take (i := 1) (v := ?_) rfl (by kernel_rfl) (by kernel_rfl) (by kernel_rfl) (fun _ _ _ h => h) (Or.inl ⟨by rfl, ?_⟩) (by assumption) ?_
              rotate_left
              · intro w hSw
                (try dsimp only at hSw)
                go_simp
                (try with_reducible rfl)
              try simp only [Act.put, List.getElem_toArray, List.getElem_cons_zero, List.getElem_cons_succ, List.setIfInBounds_toArray, List.set_cons_zero, List.set_cons_succ]
              refine wpAnyH_take (i := 2) (v := ?_) rfl (by kernel_rfl) (by kernel_rfl) (by kernel_rfl) (fun _ _ _ h => h) (Or.inl ⟨by rfl, ?_⟩) (by assumption) ?_
              rotate_left
              · intro w hSw
                (try dsimp only at hSw)
                go_simp
                (try with_reducible rfl)
              try simp only [Act.put, List.getElem_toArray, List.getElem_cons_zero, List.getElem_cons_succ, List.setIfInBounds_toArray, List.set_cons_zero, List.set_cons_succ]
              refine wpAnyH_take (i := 3) (v := ?_) rfl (by kernel_rfl) (by kernel_rfl) (by kernel_rfl) (fun _ _ _ h => h) (Or.inl ⟨by rfl, ?_⟩) (by assumption) ?_
              rotate_left
              · intro w hSw
                (try dsimp only at hSw)
                go_simp
                (try with_reducible rfl)
              try simp only [Act.put, List.getElem_toArray, List.getElem_cons_zero, List.getElem_cons_succ, List.setIfInBounds_toArray, List.set_cons_zero, List.set_cons_succ]
              refine wpAnyH_take (i := 4) (v := ?_) rfl (by kernel_rfl) (by kernel_rfl) (by kernel_rfl) (fun _ _ _ h => h) (Or.inl ⟨by rfl, ?_⟩) (by assumption) ?_
              rotate_left
              · intro w hSw
                (try dsimp only at hSw)
                go_simp
                (try with_reducible rfl)
              try simp only [Act.put, List.getElem_toArray, List.getElem_cons_zero, List.getElem_cons_succ, List.setIfInBounds_toArray, List.set_cons_zero, List.set_cons_succ]
              refine wpAnyH_take (i := 5) (v := ?_) rfl (by kernel_rfl) (by kernel_rfl) (by kernel_rfl) (fun _ _ _ h => h) (Or.inl ⟨by rfl, ?_⟩) (by assumption) ?_
              rotate_left
              · intro w hSw
                (try dsimp only at hSw)
                go_simp
                (try with_reducible rfl)
              try simp only [Act.put, List.getElem_toArray, List.getElem_cons_zero, List.getElem_cons_succ, List.setIfInBounds_toArray, List.set_cons_zero, List.set_cons_succ]
              refine wpAnyH_take (i := 6) (v := ?_) rfl (by kernel_rfl) (by kernel_rfl) (by kernel_rfl) (fun _ _ _ h => h) (Or.inl ⟨by rfl, ?_⟩) (by assumption) ?_
              rotate_left
              · intro w hSw
                (try dsimp only at hSw)
                go_simp
                (try with_reducible rfl)
              try simp only [Act.put, List.getElem_toArray, List.getElem_cons_zero, List.getElem_cons_succ, List.setIfInBounds_toArray, List.set_cons_zero, List.set_cons_succ]
              refine wpAnyH_take (i := 7) (v := ?_) rfl (by kernel_rfl) (by kernel_rfl) (by kernel_rfl) (fun _ _ _ h => h) (Or.inl ⟨by rfl, ?_⟩) (by assumption) ?_
              rotate_left
              · intro w hSw
                (try dsimp only at hSw)
                go_simp
                (try with_reducible rfl)
              try simp only [Act.put, List.getElem_toArray, List.getElem_cons_zero, List.getElem_cons_succ, List.setIfInBounds_toArray, List.set_cons_zero, List.set_cons_succ]
              refine wpAnyH_take (i := 8) (v := ?_) rfl (by kernel_rfl) (by kernel_rfl) (by kernel_rfl) (fun _ _ _ h => h) (Or.inl ⟨by rfl, ?_⟩) (by assumption) ?_
              rotate_left
              · intro w hSw
                (try dsimp only at hSw)
                go_simp
                (try with_reducible rfl)
              try simp only [Act.put, List.getElem_toArray, List.getElem_cons_zero, List.getElem_cons_succ, List.setIfInBounds_toArray, List.set_cons_zero, List.set_cons_succ]
              refine wpAnyH_take (i := 9) (v := ?_) rfl (by kernel_rfl) (by kernel_rfl) (by kernel_rfl) (fun _ _ _ h => h) (Or.inl ⟨by rfl, ?_⟩) (by assumption) ?_
              rotate_left
              · intro w hSw
                (try dsimp only at hSw)
                go_simp
                (try with_reducible rfl)
              try simp only [Act.put, List.getElem_toArray, List.getElem_cons_zero, List.getElem_cons_succ, List.setIfInBounds_toArray, List.set_cons_zero, List.set_cons_succ]
              refine wpAnyH_take (i := 10) (v := ?_) rfl (by kernel_rfl) (by kernel_rfl) (by kernel_rfl) (fun _ _ _ h => h) (Or.inl ⟨by rfl, ?_⟩) (by assumption) ?_
              rotate_left
              · intro w hSw
                (try dsimp only at hSw)
                go_simp
                (try with_reducible rfl)
              try simp only [Act.put, List.getElem_toArray, List.getElem_cons_zero, List.getElem_cons_succ, List.setIfInBounds_toArray, List.set_cons_zero, List.set_cons_succ]
              refine wpAnyH_done (by kernel_rfl) ?_ _
              have HE := Lib.hid (HT.out.on hHeld.2)
              clear hHeld
              go_wp2_with fail
              go_ret
              exact ⟨rfl, HE.out.below⟩
        · have E2 : Hid (a.types = b.types) := upto_all (HN2.out.symm.trans HM2.out) HN2.out (fun i hi => HU.out i (by omega))
          have i1 : ¬ (m : Int) < (n2 : Int) := by omega
          have co := ca
          clear HU ca cb
          obtain ⟨wq, hq⟩ : ∃ z, z = wr := ⟨_, rfl⟩
          subst hq
          have ca := (HT.out.rowa.cell 6).trans (congrArg some EX3.out)
          have ca' : wq.cell? ⟨oa, 6, none⟩ = some (.slice x3 n3 d3) := ca
          clear ca
          go_wp2_with fail
          clear co i1
          go_loopw [7] (fun i wr => ∃ m : Nat, m ≤ n3 ∧ i = .int .i64 (m : Nat) ∧ Two w wr oa ob Va Vb a b ∧ ∀ i, i < m → a.code[i]? = b.code[i]?) (fun i _ => n3 - (intOf i).toNat)
          case atStart => exact ⟨0, Nat.zero_le _, rfl, HT.out, fun i hi => by omega⟩
          case round =>
            clear HT ca'
            obtain ⟨m, hm, rfl, hT, hup⟩ := hrel
            have ca : wr.cell? ⟨oa, 6, none⟩ = some (.slice x3 n3 d3) := (hT.rowa.cell 6).trans (congrArg some EX3.out)
            have cb : wr.cell? ⟨ob, 6, none⟩ = some (.slice y3 n3 g3) := (hT.rowb.cell 6).trans (congrArg some EY3.out)
            have HT := Lib.hid hT
            have HU := Lib.hid hup
            clear hT hup
            by_cases hlt : m < n3
            · as_aux_lemma =>
                obtain ⟨x, hx⟩ : ∃ x, a.code[m]? = some x := ⟨_, List.getElem?_eq_getElem (by have := HN3.out; omega)⟩
                obtain ⟨y, hy⟩ : ∃ y, b.code[m]? = some y := ⟨_, List.getElem?_eq_getElem (by have := HM3.out; omega)⟩
                obtain ⟨xx, hx1⟩ : ∃ z, z = x := ⟨_, rfl⟩
                obtain ⟨yy, hy1⟩ : ∃ z, z = y := ⟨_, rfl⟩
                subst hx1 hy1
                obtain ⟨ba, offa, capa, e0, hba, p0⟩ := HA.out.code.cell1 hx rfl
                obtain ⟨bb, offb, capb, e1, hbb, q0⟩ := HB.out.code.cell1 hy rfl
                rw [← HN3.out] at e0
                rw [← HM3.out] at e1
                have e2 := EX3.out.symm.trans e0
                have e3 := EY3.out.symm.trans e1
                cases e2
                cases e3
                have u0 := (HT.out.below.cell (p := ⟨ba, offa + m, none⟩) hba).trans p0
                have v0 := (HT.out.below.cell (p := ⟨bb, offb + m, none⟩) hbb).trans q0
                have HX := Lib.hid hx
                have HY := Lib.hid hy
                have i1 : (m : Int) < (n3 : Int) := by omega
                have i2 : (0 : Int) ≤ (m : Int) := by omega
                have tq : (((xx : Nat) : Int) == ((yy : Nat) : Int)) = _ := both_code
                clear hx hy e0 e1 hba hbb p0 q0
                by_cases hxy : xx = yy
                · rw [decide_eq_true hxy] at tq
                  have HXY := Lib.hid hxy
                  clear hxy
                  go_wp2_with fail
                  refine wp_region_held_drew (S := fun w' => ((w'.cell? ⟨oa, 6, none⟩ = some (.slice (some ⟨ba, offa, none⟩) n3 d3) ∧ w'.cell? ⟨ob, 6, none⟩ = some (.slice (some ⟨bb, offb, none⟩) n3 g3)) ∧ w'.cell? ⟨ba, offa + m, none⟩ = some (.int .u32 (xx : Nat)) ∧ w'.cell? ⟨bb, offb + m, none⟩ = some (.int .u32 (yy : Nat))) ∧ Drawn wr w') (by kernel_rfl) ?_ (fun hHeld => ?_)
                  · exact ⟨⟨⟨ca, cb⟩, u0, v0⟩, Drawn.of_n _ 1⟩
                  refine wpAnyH_take (i := 0) (v := ?_) rfl (by kernel_rfl) (by kernel_rfl) (by kernel_rfl) (fun _ _ _ h => h) (Or.inl ⟨by rfl, ?_⟩) (by assumption) ?_
                  rotate_left
                  · intro w hSw
                    (try dsimp only at hSw)
                    go_simp
                    (try with_reducible rfl)
                  try simp only [Act.put, List.getElem_toArray, List.getElem_cons_zero, List.setIfInBounds_toArray, List.set_cons_zero, List.set_cons_succ]
                  refine wpAnyH_take (i := 1) (v := ?_) rfl (by kernel_rfl) (by kernel_rfl) (by kernel_rfl) (fun _ _ _ h => h) (Or.inl ⟨by rfl, ?_⟩) (by assumption) ?_
                  rotate_left
                  · intro w hSw
                    (try dsimp only at hSw)
                    go_simp
                    (try with_reducible rfl)
                  try simp only [Act.put, List.getElem_toArray, List.getElem_cons_zero, List.getElem_cons_succ, List.setIfInBounds_toArray, List.set_cons_zero, List.set_cons_succ]
                  refine wpAnyH_take (i := 2) (v := ?_) rfl (by kernel_rfl) (by kernel_rfl) (by kernel_rfl) (fun _ _ _ h => h) (Or.inl ⟨by rfl, ?_⟩) (by assumption) ?_
                  rotate_left
                  · intro w hSw
                    (try dsimp only at hSw)
                    go_simp
                    (try with_reducible rfl)
                  try simp only [Act.put, List.getElem_toArray, List.getElem_cons_zero, List.getElem_cons_succ, List.setIfInBounds_toArray, List.set_cons_zero, List.set_cons_succ]
                  refine wpAnyH_take (i := 3) (v := ?_) rfl (by kernel_rfl) (by kernel_rfl) (by kernel_rfl) (fun _ _ _ h => h) (Or.inl ⟨by rfl, ?_⟩) (by assumption) ?_
                  rotate_left
                  · intro w hSw
                    (try dsimp only at hSw)
                    go_simp
                    (try with_reducible rfl)
                  try simp only [Act.put, List.getElem_toArray, List.getElem_cons_zero, List.getElem_cons_succ, List.setIfInBounds_toArray, List.set_cons_zero, List.set_cons_succ]
                  refine wpAnyH_take (i := 4) (v := ?_) rfl (by kernel_rfl) (by kernel_rfl) (by kernel_rfl) (fun _ _ _ h => h) (Or.inl ⟨by rfl, ?_⟩) (by assumption) ?_
                  rotate_left
                  · intro w hSw
                    (try dsimp only at hSw)
                    go_simp
                    (try with_reducible rfl)
                  try simp only [Act.put, List.getElem_toArray, List.getElem_cons_zero, List.getElem_cons_succ, List.setIfInBounds_toArray, List.set_cons_zero, List.set_cons_succ]
                  refine wpAnyH_take (i := 5) (v := ?_) rfl (by kernel_rfl) (by kernel_rfl) (by kernel_rfl) (fun _ _ _ h => h) (Or.inl ⟨by rfl, ?_⟩) (by assumption) ?_
                  rotate_left
                  · intro w hSw
                    (try dsimp only at hSw)
                    go_simp
                    (try with_reducible rfl)
                  try simp only [Act.put, List.getElem_toArray, List.getElem_cons_zero, List.getElem_cons_succ, List.setIfInBounds_toArray, List.set_cons_zero, List.set_cons_succ]
                  refine wpAnyH_take (i := 6) (v := ?_) rfl (by kernel_rfl) (by kernel_rfl) (by kernel_rfl) (fun _ _ _ h => h) (Or.inl ⟨by rfl, ?_⟩) (by assumption) ?_
                  rotate_left
                  · intro w hSw
                    (try dsimp only at hSw)
                    go_simp
                    (try with_reducible rfl)
                  try simp only [Act.put, List.getElem_toArray, List.getElem_cons_zero, List.getElem_cons_succ, List.setIfInBounds_toArray, List.set_cons_zero, List.set_cons_succ]
                  refine wpAnyH_take (i := 7) (v := ?_) rfl (by kernel_rfl) (by kernel_rfl) (by kernel_rfl) (fun _ _ _ h => h) (Or.inl ⟨by rfl, ?_⟩) (by assumption) ?_
                  rotate_left
                  · intro w hSw
                    (try dsimp only at hSw)
                    go_simp
                    (try with_reducible rfl)
                  try simp only [Act.put, List.getElem_toArray, List.getElem_cons_zero, List.getElem_cons_succ, List.setIfInBounds_toArray, List.set_cons_zero, List.set_cons_succ]
                  refine wpAnyH_take (i := 8) (v := ?_) rfl (by kernel_rfl) (by kernel_rfl) (by kernel_rfl) (fun _ _ _ h => h) (Or.inl ⟨by rfl, ?_⟩) (by assumption) ?_
                  rotate_left
                  · intro w hSw
                    (try dsimp only at hSw)
                    go_simp
                    (try with_reducible rfl)
                  try simp only [Act.put, List.getElem_toArray, List.getElem_cons_zero, List.getElem_cons_succ, List.setIfInBounds_toArray, List.set_cons_zero, List.set_cons_succ]
                  refine wpAnyH_take (i := 9) (v := ?_) rfl (by kernel_rfl) (by kernel_rfl) (by kernel_rfl) (fun _ _ _ h => h) (Or.inl ⟨by rfl, ?_⟩) (by assumption) ?_
                  rotate_left
                  · intro w hSw
                    (try dsimp only at hSw)
                    go_simp
                    (try with_reducible rfl)
                  try simp only [Act.put, List.getElem_toArray, List.getElem_cons_zero, List.getElem_cons_succ, List.setIfInBounds_toArray, List.set_cons_zero, List.set_cons_succ]
                  refine wpAnyH_take (i := 10) (v := ?_) rfl (by kernel_rfl) (by kernel_rfl) (by kernel_rfl) (fun _ _ _ h => h) (Or.inl ⟨by rfl, ?_⟩) (by assumption) ?_
                  rotate_left
                  · intro w hSw
                    (try dsimp only at hSw)
                    go_simp
                    (try with_reducible rfl)
                  try simp only [Act.put, List.getElem_toArray, List.getElem_cons_zero, List.getElem_cons_succ, List.setIfInBounds_toArray, List.set_cons_zero, List.set_cons_succ]
                  refine wpAnyH_done (by kernel_rfl) ?_ _
                  have HE := Lib.hid (HT.out.on hHeld.2)
                  clear hHeld
                  go_wp2_with fail
                  go_roundw
                  case rel => exact ⟨m + 1, by omega, by go_num, HE.out, upto_next HU.out HX.out (by rw [HXY.out]; exact HY.out)⟩
                  case measure => simp [intOf]; omega
                · rw [decide_eq_false hxy] at tq
                  have hr : r = false := by
                    cases hr : r with
                    | false => rfl
                    | true => exact absurd (by have e := HX.out; rw [(HQ.out.1 hr).2.2.1, HY.out] at e; cases e; rfl) hxy
                  clear hxy
                  subst hr
                  go_wp2_with fail
                  refine wp_region_held_drew (S := fun w' => ((w'.cell? ⟨oa, 6, none⟩ = some (.slice (some ⟨ba, offa, none⟩) n3 d3) ∧ w'.cell? ⟨ob, 6, none⟩ = some (.slice (some ⟨bb, offb, none⟩) n3 g3)) ∧ w'.cell? ⟨ba, offa + m, none⟩ = some (.int .u32 (xx : Nat)) ∧ w'.cell? ⟨bb, offb + m, none⟩ = some (.int .u32 (yy : Nat))) ∧ Drawn wr w') (by kernel_rfl) ?_ (fun hHeld => ?_)
                  · exact ⟨⟨⟨ca, cb⟩, u0, v0⟩, Drawn.of_n _ 1⟩
                  refine wpAnyH_take (i := 0) (v := ?_) rfl (by kernel_rfl) (by kernel_rfl) (by kernel_rfl) (fun _ _ _ h => h) (Or.inl ⟨by rfl, ?_⟩) (by assumption) ?_
                  rotate_left
                  · intro w hSw
                    (try dsimp only at hSw)
                    go_simp
                    (try with_reducible rfl)
                  try simp only [Act.put, List.getElem_toArray, List.getElem_cons_zero, List.setIfInBounds_toArray, List.set_cons_zero, List.set_cons_succ]
                  refine wpAnyH_take (i := 1) (v := ?_) rfl (by kernel_rfl) (by kernel_rfl) (by kernel_rfl) (fun _ _ _ h => h) (Or.inl ⟨by rfl, ?_⟩) (by assumption) ?_
                  rotate_left
                  · intro w hSw
                    (try dsimp only at hSw)
                    go_simp
                    (try with_reducible rfl)
                  try simp only [Act.put, List.getElem_toArray, List.getElem_cons_zero, List.getElem_cons_succ, List.setIfInBounds_toArray, List.set_cons_zero, List.set_cons_succ]
                  refine wpAnyH_take (i := 2) (v := ?_) rfl (by kernel_rfl) (by kernel_rfl) (by kernel_rfl) (fun _ _ _ h => h) (Or.inl ⟨by rfl, ?_⟩) (by assumption) ?_
                  rotate_left
                  · intro w hSw
                    (try dsimp only at hSw)
                    go_simp
                    (try with_reducible rfl)
                  try simp only [Act.put, List.getElem_toArray, List.getElem_cons_zero, List.getElem_cons_succ, List.setIfInBounds_toArray, List.set_cons_zero, List.set_cons_succ]
                  refine wpAnyH_take (i := 3) (v := ?_) rfl (by kernel_rfl) (by kernel_rfl) (by kernel_rfl) (fun _ _ _ h => h) (Or.inl ⟨by rfl, ?_⟩) (by assumption) ?_
                  rotate_left
                  · intro w hSw
                    (try dsimp only at hSw)
                    go_simp
                    (try with_reducible rfl)
                  try simp only [Act.put, List.getElem_toArray, List.getElem_cons_zero, List.getElem_cons_succ, List.setIfInBounds_toArray, List.set_cons_zero, List.set_cons_succ]
                  refine wpAnyH_take (i := 4) (v := ?_) rfl (by kernel_rfl) (by kernel_rfl) (by kernel_rfl) (fun _ _ _ h => h) (Or.inl ⟨by rfl, ?_⟩) (by assumption) ?_
                  rotate_left
                  · intro w hSw
                    (try dsimp only at hSw)
                    go_simp
                    (try with_reducible rfl)
                  try simp only [Act.put, List.getElem_toArray, List.getElem_cons_zero, List.getElem_cons_succ, List.setIfInBounds_toArray, List.set_cons_zero, List.set_cons_succ]
                  refine wpAnyH_take (i := 5) (v := ?_) rfl (by kernel_rfl) (by kernel_rfl) (by kernel_rfl) (fun _ _ _ h => h) (Or.inl ⟨by rfl, ?_⟩) (by assumption) ?_
                  rotate_left
                  · intro w hSw
                    (try dsimp only at hSw)
                    go_simp
                    (try with_reducible rfl)
                  try simp only [Act.put, List.getElem_toArray, List.getElem_cons_zero, List.getElem_cons_succ, List.setIfInBounds_toArray, List.set_cons_zero, List.set_cons_succ]
                  refine wpAnyH_take (i := 6) (v := ?_) rfl (by kernel_rfl) (by kernel_rfl) (by kernel_rfl) (fun _ _ _ h => h) (Or.inl ⟨by rfl, ?_⟩) (by assumption) ?_
                  rotate_left
                  · intro w hSw
                    (try dsimp only at hSw)
                    go_simp
                    (try with_reducible rfl)
                  try simp only [Act.put, List.getElem_toArray, List.getElem_cons_zero, List.getElem_cons_succ, List.setIfInBounds_toArray, List.set_cons_zero, List.set_cons_succ]
                  refine wpAnyH_take (i := 7) (v := ?_) rfl (by kernel_rfl) (by kernel_rfl) (by kernel_rfl) (fun _ _ _ h => h) (Or.inl ⟨by rfl, ?_⟩) (by assumption) ?_
                  rotate_left
                  · intro w hSw
                    (try dsimp only at hSw)
                    go_simp
                    (try with_reducible rfl)
                  try simp only [Act.put, List.getElem_toArray, List.getElem_cons_zero, List.getElem_cons_succ, List.setIfInBounds_toArray, List.set_cons_zero, List.set_cons_succ]
                  refine wpAnyH_take (i := 8) (v := ?_) rfl (by kernel_rfl) (by kernel_rfl) (by kernel_rfl) (fun _ _ _ h => h) (Or.inl ⟨by rfl, ?_⟩) (by assumption) ?_
                  rotate_left
                  · intro w hSw
                    (try dsimp only at hSw)
                    go_simp
                    (try with_reducible rfl)
                  try simp only [Act.put, List.getElem_toArray, List.getElem_cons_zero, List.getElem_cons_succ, List.setIfInBounds_toArray, List.set_cons_zero, List.set_cons_succ]
                  refine wpAnyH_take (i := 9) (v := ?_) rfl (by kernel_rfl) (by kernel_rfl) (by kernel_rfl) (fun _ _ _ h => h) (Or.inl ⟨by rfl, ?_⟩) (by assumption) ?_
                  rotate_left
                  · intro w hSw
                    (try dsimp only at hSw)
                    go_simp
                    (try with_reducible rfl)
                  try simp only [Act.put, List.getElem_toArray, List.getElem_cons_zero, List.getElem_cons_succ, List.setIfInBounds_toArray, List.set_cons_zero, List.set_cons_succ]
                  refine wpAnyH_take (i := 10) (v := ?_) rfl (by kernel_rfl) (by kernel_rfl) (by kernel_rfl) (fun _ _ _ h => h) (Or.inl ⟨by rfl, ?_⟩) (by assumption) ?_
                  rotate_left
                  · intro w hSw
                    (try dsimp only at hSw)
                    go_simp
                    (try with_reducible rfl)
                  try simp only [Act.put, List.getElem_toArray, List.getElem_cons_zero, List.getElem_cons_succ, List.setIfInBounds_toArray, List.set_cons_zero, List.set_cons_succ]
                  refine wpAnyH_done (by kernel_rfl) ?_ _
                  have HE := Lib.hid (HT.out.on hHeld.2)
                  clear hHeld
                  go_wp2_with fail
                  go_ret
                  exact ⟨rfl, HE.out.below⟩
            · have E3 : Hid (a.code = b.code) := upto_all (HN3.out.symm.trans HM3.out) HN3.out (fun i hi => HU.out i (by omega))
              have i1 : ¬ (m : Int) < (n3 : Int) := by omega
              have co := ca
              clear HU ca cb
              obtain ⟨wq, hq⟩ : ∃ z, z = wr := ⟨_, rfl⟩
              subst hq
              have ca := (HT.out.rowa.cell 7).trans (congrArg some EX4.out)
              have ca' : wq.cell? ⟨oa, 7, none⟩ = some (.slice x4 n4 d4) := ca
              clear ca
              go_wp2_with fail
              clear co i1
              go_loopw [8] (fun i wr => ∃ m : Nat, m ≤ n4 ∧ i = .int .i64 (m : Nat) ∧ Two w wr oa ob Va Vb a b ∧ ∀ i, i < m → a.cmds[i]? = b.cmds[i]?) (fun i _ => n4 - (intOf i).toNat)
              case atStart => exact ⟨0, Nat.zero_le _, rfl, HT.out, fun i hi => by omega⟩
              case round =>
                clear HT ca'
                obtain ⟨m, hm, rfl, hT, hup⟩ := hrel
                have ca : wr.cell? ⟨oa, 7, none⟩ = some (.slice x4 n4 d4) := (hT.rowa.cell 7).trans (congrArg some EX4.out)
                have cb : wr.cell? ⟨ob, 7, none⟩ = some (.slice y4 n4 g4) := (hT.rowb.cell 7).trans (congrArg some EY4.out)
                have HT := Lib.hid hT
                have HU := Lib.hid hup
                clear hT hup
                by_cases hlt : m < n4
                · as_aux_lemma =>
                    obtain ⟨x, hx⟩ : ∃ x, a.cmds[m]? = some x := ⟨_, List.getElem?_eq_getElem (by have := HN4.out; omega)⟩
                    obtain ⟨y, hy⟩ : ∃ y, b.cmds[m]? = some y := ⟨_, List.getElem?_eq_getElem (by have := HM4.out; omega)⟩
                    obtain ⟨x1, x2⟩ := x
                    obtain ⟨y1, y2⟩ := y
                    obtain ⟨ba, offa, capa, e0, hba, p0, p1⟩ := HA.out.cmds.cell2 hx rfl
                    obtain ⟨bb, offb, capb, e1, hbb, q0, q1⟩ := HB.out.cmds.cell2 hy rfl
                    rw [← HN4.out] at e0
                    rw [← HM4.out] at e1
                    have e2 := EX4.out.symm.trans e0
                    have e3 := EY4.out.symm.trans e1
                    cases e2
                    cases e3
                    have u0 := (HT.out.below.cell (p := ⟨ba, offa + m * 2, none⟩) hba).trans p0
                    have v0 := (HT.out.below.cell (p := ⟨bb, offb + m * 2, none⟩) hbb).trans q0
                    have u1 := (HT.out.below.cell (p := ⟨ba, offa + m * 2 + 1, none⟩) hba).trans p1
                    have v1 := (HT.out.below.cell (p := ⟨bb, offb + m * 2 + 1, none⟩) hbb).trans q1
                    have HX := Lib.hid hx
                    have HY := Lib.hid hy
                    have i1 : (m : Int) < (n4 : Int) := by omega
                    have i2 : (0 : Int) ≤ (m : Int) := by omega
                    have nq := neq_cmd x1 y1 x2 y2
                    have tq : (x1.toList == y1.toList && x2 == y2) = _ := both_cmd
                    clear hx hy e0 e1 hba hbb p0 p1 q0 q1
                    by_cases hxy : (x1, x2) = (y1, y2)
                    · rw [decide_eq_true hxy] at tq
                      have HXY := Lib.hid hxy
                      clear hxy
                      go_wp2_with fail
                      refine wp_region_held_drew (S := fun w' => ((w'.cell? ⟨oa, 7, none⟩ = some (.slice (some ⟨ba, offa, none⟩) n4 d4) ∧ w'.cell? ⟨ob, 7, none⟩ = some (.slice (some ⟨bb, offb, none⟩) n4 g4)) ∧ w'.cell? ⟨ba, offa + m * 2, none⟩ = some (.string x1) ∧ w'.cell? ⟨bb, offb + m * 2, none⟩ = some (.string y1) ∧ w'.cell? ⟨ba, offa + m * 2 + 1, none⟩ = some (.int .i64 x2) ∧ w'.cell? ⟨bb, offb + m * 2 + 1, none⟩ = some (.int .i64 y2)) ∧ Drawn wr w') (by kernel_rfl) ?_ (fun hHeld => ?_)
                      · exact ⟨⟨⟨ca, cb⟩, u0, v0, u1, v1⟩, Drawn.of_n _ 1⟩
                      refine wpAnyH_take (i := 0) (v := ?_) rfl (by kernel_rfl) (by kernel_rfl) (by kernel_rfl) (fun _ _ _ h => h) (Or.inl ⟨by rfl, ?_⟩) (by assumption) ?_
                      rotate_left
                      · intro w hSw
                        (try dsimp only at hSw)
                        go_simp
                        (try with_reducible rfl)
                      try simp only [Act.put, List.getElem_toArray, List.getElem_cons_zero, List.setIfInBounds_toArray, List.set_cons_zero, List.set_cons_succ]
                      refine wpAnyH_take (i := 1) (v := ?_) rfl (by kernel_rfl) (by kernel_rfl) (by kernel_rfl) (fun _ _ _ h => h) (Or.inl ⟨by rfl, ?_⟩) (by assumption) ?_
                      rotate_left
                      · intro w hSw
                        (try dsimp only at hSw)
                        go_simp
                        (try with_reducible rfl)
                      try simp only [Act.put, List.getElem_toArray, List.getElem_cons_zero, List.getElem_cons_succ, List.setIfInBounds_toArray, List.set_cons_zero, List.set_cons_succ]
                      refine wpAnyH_take (i := 2) (v := ?_) rfl (by kernel_rfl) (by kernel_rfl) (by kernel_rfl) (fun _ _ _ h => h) (Or.inl ⟨by rfl, ?_⟩) (by assumption) ?_
                      rotate_left
                      · intro w hSw
                        (try dsimp only at hSw)
                        go_simp
                        (try with_reducible rfl)
                      try simp only [Act.put, List.getElem_toArray, List.getElem_cons_zero, List.getElem_cons_succ, List.setIfInBounds_toArray, List.set_cons_zero, List.set_cons_succ]
                      refine wpAnyH_take (i := 3) (v := ?_) rfl (by kernel_rfl) (by kernel_rfl) (by kernel_rfl) (fun _ _ _ h => h) (Or.inl ⟨by rfl, ?_⟩) (by assumption) ?_
                      rotate_left
                      · intro w hSw
                        (try dsimp only at hSw)
                        go_simp
                        (try with_reducible rfl)
                      try simp only [Act.put, List.getElem_toArray, List.getElem_cons_zero, List.getElem_cons_succ, List.setIfInBounds_toArray, List.set_cons_zero, List.set_cons_succ]
                      refine wpAnyH_take (i := 4) (v := ?_) rfl (by kernel_rfl) (by kernel_rfl) (by kernel_rfl) (fun _ _ _ h => h) (Or.inl ⟨by rfl, ?_⟩) (by assumption) ?_
                      rotate_left
                      · intro w hSw
                        (try dsimp only at hSw)
                        go_simp
                        (try with_reducible rfl)
                      try simp only [Act.put, List.getElem_toArray, List.getElem_cons_zero, List.getElem_cons_succ, List.setIfInBounds_toArray, List.set_cons_zero, List.set_cons_succ]
                      refine wpAnyH_take (i := 5) (v := ?_) rfl (by kernel_rfl) (by kernel_rfl) (by kernel_rfl) (fun _ _ _ h => h) (Or.inl ⟨by rfl, ?_⟩) (by assumption) ?_
                      rotate_left
                      · intro w hSw
                        (try dsimp only at hSw)
                        go_simp
                        (try with_reducible rfl)
                      try simp only [Act.put, List.getElem_toArray, List.getElem_cons_zero, List.getElem_cons_succ, List.setIfInBounds_toArray, List.set_cons_zero, List.set_cons_succ]
                      refine wpAnyH_take (i := 6) (v := ?_) rfl (by kernel_rfl) (by kernel_rfl) (by kernel_rfl) (fun _ _ _ h => h) (Or.inl ⟨by rfl, ?_⟩) (by assumption) ?_
                      rotate_left
                      · intro w hSw
                        (try dsimp only at hSw)
                        go_simp
                        (try with_reducible rfl)
                      try simp only [Act.put, List.getElem_toArray, List.getElem_cons_zero, List.getElem_cons_succ, List.setIfInBounds_toArray, List.set_cons_zero, List.set_cons_succ]
                      refine wpAnyH_take (i := 7) (v := ?_) rfl (by kernel_rfl) (by kernel_rfl) (by kernel_rfl) (fun _ _ _ h => h) (Or.inl ⟨by rfl, ?_⟩) (by assumption) ?_
                      rotate_left
                      · intro w hSw
                        (try dsimp only at hSw)
                        go_simp
                        (try with_reducible rfl)
                      try simp only [Act.put, List.getElem_toArray, List.getElem_cons_zero, List.getElem_cons_succ, List.setIfInBounds_toArray, List.set_cons_zero, List.set_cons_succ]
                      refine wpAnyH_take (i := 8) (v := ?_) rfl (by kernel_rfl) (by kernel_rfl) (by kernel_rfl) (fun _ _ _ h => h) (Or.inl ⟨by rfl, ?_⟩) (by assumption) ?_
                      rotate_left
                      · intro w hSw
                        (try dsimp only at hSw)
                        go_simp
                        (try with_reducible rfl)
                      try simp only [Act.put, List.getElem_toArray, List.getElem_cons_zero, List.getElem_cons_succ, List.setIfInBounds_toArray, List.set_cons_zero, List.set_cons_succ]
                      refine wpAnyH_take (i := 9) (v := ?_) rfl (by kernel_rfl) (by kernel_rfl) (by kernel_rfl) (fun _ _ _ h => h) (Or.inl ⟨by rfl, ?_⟩) (by assumption) ?_
                      rotate_left
                      · intro w hSw
                        (try dsimp only at hSw)
                        go_simp
                        (try with_reducible rfl)
                      try simp only [Act.put, List.getElem_toArray, List.getElem_cons_zero, List.getElem_cons_succ, List.setIfInBounds_toArray, List.set_cons_zero, List.set_cons_succ]
                      refine wpAnyH_take (i := 10) (v := ?_) rfl (by kernel_rfl) (by kernel_rfl) (by kernel_rfl) (fun _ _ _ h => h) (Or.inl ⟨by rfl, ?_⟩) (by assumption) ?_
                      rotate_left
                      · intro w hSw
                        (try dsimp only at hSw)
                        go_simp
                        (try with_reducible rfl)
                      try simp only [Act.put, List.getElem_toArray, List.getElem_cons_zero, List.getElem_cons_succ, List.setIfInBounds_toArray, List.set_cons_zero, List.set_cons_succ]
                      refine wpAnyH_done (by kernel_rfl) ?_ _
                      have HE := Lib.hid (HT.out.on hHeld.2)
                      clear hHeld
                      go_wp2_with fail
                      go_roundw
                      case rel => exact ⟨m + 1, by omega, by go_num, HE.out, upto_next HU.out HX.out (by rw [HXY.out]; exact HY.out)⟩
                      case measure => simp [intOf]; omega
                    · rw [decide_eq_false hxy] at tq
                      have hr : r = false := by
                        cases hr : r with
                        | false => rfl
                        | true => exact absurd (by have e := HX.out; rw [(HQ.out.1 hr).2.2.2.1, HY.out] at e; cases e; rfl) hxy
                      clear hxy
                      subst hr
                      go_wp2_with fail
                      refine wp_region_held_drew (S := fun w' => ((w'.cell? ⟨oa, 7, none⟩ = some (.slice (some ⟨ba, offa, none⟩) n4 d4) ∧ w'.cell? ⟨ob, 7, none⟩ = some (.slice (some ⟨bb, offb, none⟩) n4 g4)) ∧ w'.cell? ⟨ba, offa + m * 2, none⟩ = some (.string x1) ∧ w'.cell? ⟨bb, offb + m * 2, none⟩ = some (.string y1) ∧ w'.cell? ⟨ba, offa + m * 2 + 1, none⟩ = some (.int .i64 x2) ∧ w'.cell? ⟨bb, offb + m * 2 + 1, none⟩ = some (.int .i64 y2)) ∧ Drawn wr w') (by kernel_rfl) ?_ (fun hHeld => ?_)
                      · exact ⟨⟨⟨ca, cb⟩, u0, v0, u1, v1⟩, Drawn.of_n _ 1⟩
                      refine wpAnyH_take (i := 0) (v := ?_) rfl (by kernel_rfl) (by kernel_rfl) (by kernel_rfl) (fun _ _ _ h => h) (Or.inl ⟨by rfl, ?_⟩) (by assumption) ?_
                      rotate_left
                      · intro w hSw
                        (try dsimp only at hSw)
                        go_simp
                        (try with_reducible rfl)
                      try simp only [Act.put, List.getElem_toArray, List.getElem_cons_zero, List.setIfInBounds_toArray, List.set_cons_zero, List.set_cons_succ]
                      refine wpAnyH_take (i := 1) (v := ?_) rfl (by kernel_rfl) (by kernel_rfl) (by kernel_rfl) (fun _ _ _ h => h) (Or.inl ⟨by rfl, ?_⟩) (by assumption) ?_
                      rotate_left
                      · intro w hSw
                        (try dsimp only at hSw)
                        go_simp
                        (try with_reducible rfl)
                      try simp only [Act.put, List.getElem_toArray, List.getElem_cons_zero, List.getElem_cons_succ, List.setIfInBounds_toArray, List.set_cons_zero, List.set_cons_succ]
                      refine wpAnyH_take (i := 2) (v := ?_) rfl (by kernel_rfl) (by kernel_rfl) (by kernel_rfl) (fun _ _ _ h => h) (Or.inl ⟨by rfl, ?_⟩) (by assumption) ?_
                      rotate_left
                      · intro w hSw
                        (try dsimp only at hSw)
                        go_simp
                        (try with_reducible rfl)
                      try simp only [Act.put, List.getElem_toArray, List.getElem_cons_zero, List.getElem_cons_succ, List.setIfInBounds_toArray, List.set_cons_zero, List.set_cons_succ]
                      refine wpAnyH_take (i := 3) (v := ?_) rfl (by kernel_rfl) (by kernel_rfl) (by kernel_rfl) (fun _ _ _ h => h) (Or.inl ⟨by rfl, ?_⟩) (by assumption) ?_
                      rotate_left
                      · intro w hSw
                        (try dsimp only at hSw)
                        go_simp
                        (try with_reducible rfl)
                      try simp only [Act.put, List.getElem_toArray, List.getElem_cons_zero, List.getElem_cons_succ, List.setIfInBounds_toArray, List.set_cons_zero, List.set_cons_succ]
                      refine wpAnyH_take (i := 4) (v := ?_) rfl (by kernel_rfl) (by kernel_rfl) (by kernel_rfl) (fun _ _ _ h => h) (Or.inl ⟨by rfl, ?_⟩) (by assumption) ?_
                      rotate_left
                      · intro w hSw
                        (try dsimp only at hSw)
                        go_simp
                        (try with_reducible rfl)
                      try simp only [Act.put, List.getElem_toArray, List.getElem_cons_zero, List.getElem_cons_succ, List.setIfInBounds_toArray, List.set_cons_zero, List.set_cons_succ]
                      refine wpAnyH_take (i := 5) (v := ?_) rfl (by kernel_rfl) (by kernel_rfl) (by kernel_rfl) (fun _ _ _ h => h) (Or.inl ⟨by rfl, ?_⟩) (by assumption) ?_
                      rotate_left
                      · intro w hSw
                        (try dsimp only at hSw)
                        go_simp
                        (try with_reducible rfl)
                      try simp only [Act.put, List.getElem_toArray, List.getElem_cons_zero, List.getElem_cons_succ, List.setIfInBounds_toArray, List.set_cons_zero, List.set_cons_succ]
                      refine wpAnyH_take (i := 6) (v := ?_) rfl (by kernel_rfl) (by kernel_rfl) (by kernel_rfl) (fun _ _ _ h => h) (Or.inl ⟨by rfl, ?_⟩) (by assumption) ?_
                      rotate_left
                      · intro w hSw
                        (try dsimp only at hSw)
                        go_simp
                        (try with_reducible rfl)
                      try simp only [Act.put, List.getElem_toArray, List.getElem_cons_zero, List.getElem_cons_succ, List.setIfInBounds_toArray, List.set_cons_zero, List.set_cons_succ]
                      refine wpAnyH_take (i := 7) (v := ?_) rfl (by kernel_rfl) (by kernel_rfl) (by kernel_rfl) (fun _ _ _ h => h) (Or.inl ⟨by rfl, ?_⟩) (by assumption) ?_
                      rotate_left
                      · intro w hSw
                        (try dsimp only at hSw)
                        go_simp
                        (try with_reducible rfl)
                      try simp only [Act.put, List.getElem_toArray, List.getElem_cons_zero, List.getElem_cons_succ, List.setIfInBounds_toArray, List.set_cons_zero, List.set_cons_succ]
                      refine wpAnyH_take (i := 8) (v := ?_) rfl (by kernel_rfl) (by kernel_rfl) (by kernel_rfl) (fun _ _ _ h => h) (Or.inl ⟨by rfl, ?_⟩) (by assumption) ?_
                      rotate_left
                      · intro w hSw
                        (try dsimp only at hSw)
                        go_simp
                        (try with_reducible rfl)
                      try simp only [Act.put, List.getElem_toArray, List.getElem_cons_zero, List.getElem_cons_succ, List.setIfInBounds_toArray, List.set_cons_zero, List.set_cons_succ]
                      refine wpAnyH_take (i := 9) (v := ?_) rfl (by kernel_rfl) (by kernel_rfl) (by kernel_rfl) (fun _ _ _ h => h) (Or.inl ⟨by rfl, ?_⟩) (by assumption) ?_
                      rotate_left
                      · intro w hSw
                        (try dsimp only at hSw)
                        go_simp
                        (try with_reducible rfl)
                      try simp only [Act.put, List.getElem_toArray, List.getElem_cons_zero, List.getElem_cons_succ, List.setIfInBounds_toArray, List.set_cons_zero, List.set_cons_succ]
                      refine wpAnyH_take (i := 10) (v := ?_) rfl (by kernel_rfl) (by kernel_rfl) (by kernel_rfl) (fun _ _ _ h => h) (Or.inl ⟨by rfl, ?_⟩) (by assumption) ?_
                      rotate_left
                      · intro w hSw
                        (try dsimp only at hSw)
                        go_simp
                        (try with_reducible rfl)
                      try simp only [Act.put, List.getElem_toArray, List.getElem_cons_zero, List.getElem_cons_succ, List.setIfInBounds_toArray, List.set_cons_zero, List.set_cons_succ]
                      refine wpAnyH_done (by kernel_rfl) ?_ _
                      have HE := Lib.hid (HT.out.on hHeld.2)
                      clear hHeld
                      go_wp2_with fail
                      go_ret
                      exact ⟨rfl, HE.out.below⟩
                · have E4 : Hid (a.cmds = b.cmds) := upto_all (HN4.out.symm.trans HM4.out) HN4.out (fun i hi => HU.out i (by omega))
                  have i1 : ¬ (m : Int) < (n4 : Int) := by omega
                  have co := ca
                  clear HU ca cb
                  obtain ⟨wq, hq⟩ : ∃ z, z = wr := ⟨_, rfl⟩
                  subst hq
                  have ca := (HT.out.rowa.cell 8).trans (congrArg some EX5.out)
                  have ca' : wq.cell? ⟨oa, 8, none⟩ = some (.slice x5 n5 d5) := ca
                  clear ca
                  go_wp2_with fail
                  clear co i1
                  go_loopw [9] (fun i wr => ∃ m : Nat, m ≤ n5 ∧ i = .int .i64 (m : Nat) ∧ Two w wr oa ob Va Vb a b ∧ ∀ i, i < m → a.exps[i]? = b.exps[i]?) (fun i _ => n5 - (intOf i).toNat)
                  case atStart => exact ⟨0, Nat.zero_le _, rfl, HT.out, fun i hi => by omega⟩
                  case round =>
                    clear HT ca'
                    obtain ⟨m, hm, rfl, hT, hup⟩ := hrel
                    have ca : wr.cell? ⟨oa, 8, none⟩ = some (.slice x5 n5 d5) := (hT.rowa.cell 8).trans (congrArg some EX5.out)
                    have cb : wr.cell? ⟨ob, 8, none⟩ = some (.slice y5 n5 g5) := (hT.rowb.cell 8).trans (congrArg some EY5.out)
                    have HT := Lib.hid hT
                    have HU := Lib.hid hup
                    clear hT hup
                    by_cases hlt : m < n5
                    · as_aux_lemma =>
                        obtain ⟨x, hx⟩ : ∃ x, a.exps[m]? = some x := ⟨_, List.getElem?_eq_getElem (by have := HN5.out; omega)⟩
                        obtain ⟨y, hy⟩ : ∃ y, b.exps[m]? = some y := ⟨_, List.getElem?_eq_getElem (by have := HM5.out; omega)⟩
                        obtain ⟨x1, x2⟩ := x
                        obtain ⟨y1, y2⟩ := y
                        obtain ⟨ba, offa, capa, e0, hba, p0, p1⟩ := HA.out.exps.cell2 hx rfl
                        obtain ⟨bb, offb, capb, e1, hbb, q0, q1⟩ := HB.out.exps.cell2 hy rfl
                        rw [← HN5.out] at e0
                        rw [← HM5.out] at e1
                        have e2 := EX5.out.symm.trans e0
                        have e3 := EY5.out.symm.trans e1
                        cases e2
                        cases e3
                        have u0 := (HT.out.below.cell (p := ⟨ba, offa + m * 2, none⟩) hba).trans p0
                        have v0 := (HT.out.below.cell (p := ⟨bb, offb + m * 2, none⟩) hbb).trans q0
                        have u1 := (HT.out.below.cell (p := ⟨ba, offa + m * 2 + 1, none⟩) hba).trans p1
                        have v1 := (HT.out.below.cell (p := ⟨bb, offb + m * 2 + 1, none⟩) hbb).trans q1
                        have HX := Lib.hid hx
                        have HY := Lib.hid hy
                        have i1 : (m : Int) < (n5 : Int) := by omega
                        have i2 : (0 : Int) ≤ (m : Int) := by omega
                        have nq := neq_exp x1 y1 x2 y2
                        have tq : (x1 == y1 && x2 == y2) = _ := both_exp
                        clear hx hy e0 e1 hba hbb p0 p1 q0 q1
                        by_cases hxy : (x1, x2) = (y1, y2)
                        · rw [decide_eq_true hxy] at tq
                          have HXY := Lib.hid hxy
                          clear hxy
                          go_wp2_with fail
                          refine wp_region_held_drew (S := fun w' => ((w'.cell? ⟨oa, 8, none⟩ = some (.slice (some ⟨ba, offa, none⟩) n5 d5) ∧ w'.cell? ⟨ob, 8, none⟩ = some (.slice (some ⟨bb, offb, none⟩) n5 g5)) ∧ w'.cell? ⟨ba, offa + m * 2, none⟩ = some (.int .i64 x1) ∧ w'.cell? ⟨bb, offb + m * 2, none⟩ = some (.int .i64 y1) ∧ w'.cell? ⟨ba, offa + m * 2 + 1, none⟩ = some (.int .i64 x2) ∧ w'.cell? ⟨bb, offb + m * 2 + 1, none⟩ = some (.int .i64 y2)) ∧ Drawn wr w') (by kernel_rfl) ?_ (fun hHeld => ?_)
                          · exact ⟨⟨⟨ca, cb⟩, u0, v0, u1, v1⟩, Drawn.of_n _ 1⟩
                          refine wpAnyH_take (i := 0) (v := ?_) rfl (by kernel_rfl) (by kernel_rfl) (by kernel_rfl) (fun _ _ _ h => h) (Or.inl ⟨by rfl, ?_⟩) (by assumption) ?_
                          rotate_left
                          · intro w hSw
                            (try dsimp only at hSw)
                            go_simp
                            (try with_reducible rfl)
                          try simp only [Act.put, List.getElem_toArray, List.getElem_cons_zero, List.setIfInBounds_toArray, List.set_cons_zero, List.set_cons_succ]
                          refine wpAnyH_take (i := 1) (v := ?_) rfl (by kernel_rfl) (by kernel_rfl) (by kernel_rfl) (fun _ _ _ h => h) (Or.inl ⟨by rfl, ?_⟩) (by assumption) ?_
                          rotate_left
                          · intro w hSw
                            (try dsimp only at hSw)
                            go_simp
                            (try with_reducible rfl)
                          try simp only [Act.put, List.getElem_toArray, List.getElem_cons_zero, List.getElem_cons_succ, List.setIfInBounds_toArray, List.set_cons_zero, List.set_cons_succ]
                          refine wpAnyH_take (i := 2) (v := ?_) rfl (by kernel_rfl) (by kernel_rfl) (by kernel_rfl) (fun _ _ _ h => h) (Or.inl ⟨by rfl, ?_⟩) (by assumption) ?_
                          rotate_left
                          · intro w hSw
                            (try dsimp only at hSw)
                            go_simp
                            (try with_reducible rfl)
                          try simp only [Act.put, List.getElem_toArray, List.getElem_cons_zero, List.getElem_cons_succ, List.setIfInBounds_toArray, List.set_cons_zero, List.set_cons_succ]
                          refine wpAnyH_take (i := 3) (v := ?_) rfl (by kernel_rfl) (by kernel_rfl) (by kernel_rfl) (fun _ _ _ h => h) (Or.inl ⟨by rfl, ?_⟩) (by assumption) ?_
                          rotate_left
                          · intro w hSw
                            (try dsimp only at hSw)
                            go_simp
                            (try with_reducible rfl)
                          try simp only [Act.put, List.getElem_toArray, List.getElem_cons_zero, List.getElem_cons_succ, List.setIfInBounds_toArray, List.set_cons_zero, List.set_cons_succ]
                          refine wpAnyH_take (i := 4) (v := ?_) rfl (by kernel_rfl) (by kernel_rfl) (by kernel_rfl) (fun _ _ _ h => h) (Or.inl ⟨by rfl, ?_⟩) (by assumption) ?_
                          rotate_left
                          · intro w hSw
                            (try dsimp only at hSw)
                            go_simp
                            (try with_reducible rfl)
                          try simp only [Act.put, List.getElem_toArray, List.getElem_cons_zero, List.getElem_cons_succ, List.setIfInBounds_toArray, List.set_cons_zero, List.set_cons_succ]
                          refine wpAnyH_take (i := 5) (v := ?_) rfl (by kernel_rfl) (by kernel_rfl) (by kernel_rfl) (fun _ _ _ h => h) (Or.inl ⟨by rfl, ?_⟩) (by assumption) ?_
                          rotate_left
                          · intro w hSw
                            (try dsimp only at hSw)
                            go_simp
                            (try with_reducible rfl)
                          try simp only [Act.put, List.getElem_toArray, List.getElem_cons_zero, List.getElem_cons_succ, List.setIfInBounds_toArray, List.set_cons_zero, List.set_cons_succ]
                          refine wpAnyH_take (i := 6) (v := ?_) rfl (by kernel_rfl) (by kernel_rfl) (by kernel_rfl) (fun _ _ _ h => h) (Or.inl ⟨by rfl, ?_⟩) (by assumption) ?_
                          rotate_left
                          · intro w hSw
                            (try dsimp only at hSw)
                            go_simp
                            (try with_reducible rfl)
                          try simp only [Act.put, List.getElem_toArray, List.getElem_cons_zero, List.getElem_cons_succ, List.setIfInBounds_toArray, List.set_cons_zero, List.set_cons_succ]
                          refine wpAnyH_take (i := 7) (v := ?_) rfl (by kernel_rfl) (by kernel_rfl) (by kernel_rfl) (fun _ _ _ h => h) (Or.inl ⟨by rfl, ?_⟩) (by assumption) ?_
                          rotate_left
                          · intro w hSw
                            (try dsimp only at hSw)
                            go_simp
                            (try with_reducible rfl)
                          try simp only [Act.put, List.getElem_toArray, List.getElem_cons_zero, List.getElem_cons_succ, List.setIfInBounds_toArray, List.set_cons_zero, List.set_cons_succ]
                          refine wpAnyH_take (i := 8) (v := ?_) rfl (by kernel_rfl) (by kernel_rfl) (by kernel_rfl) (fun _ _ _ h => h) (Or.inl ⟨by rfl, ?_⟩) (by assumption) ?_
                          rotate_left
                          · intro w hSw
                            (try dsimp only at hSw)
                            go_simp
                            (try with_reducible rfl)
                          try simp only [Act.put, List.getElem_toArray, List.getElem_cons_zero, List.getElem_cons_succ, List.setIfInBounds_toArray, List.set_cons_zero, List.set_cons_succ]
                          refine wpAnyH_take (i := 9) (v := ?_) rfl (by kernel_rfl) (by kernel_rfl) (by kernel_rfl) (fun _ _ _ h => h) (Or.inl ⟨by rfl, ?_⟩) (by assumption) ?_
                          rotate_left
                          · intro w hSw
                            (try dsimp only at hSw)
                            go_simp
                            (try with_reducible rfl)
                          try simp only [Act.put, List.getElem_toArray, List.getElem_cons_zero, List.getElem_cons_succ, List.setIfInBounds_toArray, List.set_cons_zero, List.set_cons_succ]
                          refine wpAnyH_take (i := 10) (v := ?_) rfl (by kernel_rfl) (by kernel_rfl) (by kernel_rfl) (fun _ _ _ h => h) (Or.inl ⟨by rfl, ?_⟩) (by assumption) ?_
                          rotate_left
                          · intro w hSw
                            (try dsimp only at hSw)
                            go_simp
                            (try with_reducible rfl)
                          try simp only [Act.put, List.getElem_toArray, List.getElem_cons_zero, List.getElem_cons_succ, List.setIfInBounds_toArray, List.set_cons_zero, List.set_cons_succ]
                          refine wpAnyH_done (by kernel_rfl) ?_ _
                          have HE := Lib.hid (HT.out.on hHeld.2)
                          clear hHeld
                          go_wp2_with fail
                          go_roundw
                          case rel => exact ⟨m + 1, by omega, by go_num, HE.out, upto_next HU.out HX.out (by rw [HXY.out]; exact HY.out)⟩
                          case measure => simp [intOf]; omega
                        · rw [decide_eq_false hxy] at tq
                          have hr : r = false := by
                            cases hr : r with
                            | false => rfl
                            | true => exact absurd (by have e := HX.out; rw [(HQ.out.1 hr).2.2.2.2.1, HY.out] at e; cases e; rfl) hxy
                          clear hxy
                          subst hr
                          go_wp2_with fail
                          refine wp_region_held_drew (S := fun w' => ((w'.cell? ⟨oa, 8, none⟩ = some (.slice (some ⟨ba, offa, none⟩) n5 d5) ∧ w'.cell? ⟨ob, 8, none⟩ = some (.slice (some ⟨bb, offb, none⟩) n5 g5)) ∧ w'.cell? ⟨ba, offa + m * 2, none⟩ = some (.int .i64 x1) ∧ w'.cell? ⟨bb, offb + m * 2, none⟩ = some (.int .i64 y1) ∧ w'.cell? ⟨ba, offa + m * 2 + 1, none⟩ = some (.int .i64 x2) ∧ w'.cell? ⟨bb, offb + m * 2 + 1, none⟩ = some (.int .i64 y2)) ∧ Drawn wr w') (by kernel_rfl) ?_ (fun hHeld => ?_)
                          · exact ⟨⟨⟨ca, cb⟩, u0, v0, u1, v1⟩, Drawn.of_n _ 1⟩
                          refine wpAnyH_take (i := 0) (v := ?_) rfl (by kernel_rfl) (by kernel_rfl) (by kernel_rfl) (fun _ _ _ h => h) (Or.inl ⟨by rfl, ?_⟩) (by assumption) ?_
                          rotate_left
                          · intro w hSw
                            (try dsimp only at hSw)
                            go_simp
                            (try with_reducible rfl)
                          try simp only [Act.put, List.getElem_toArray, List.getElem_cons_zero, List.setIfInBounds_toArray, List.set_cons_zero, List.set_cons_succ]
                          refine wpAnyH_take (i := 1) (v := ?_) rfl (by kernel_rfl) (by kernel_rfl) (by kernel_rfl) (fun _ _ _ h => h) (Or.inl ⟨by rfl, ?_⟩) (by assumption) ?_
                          rotate_left
                          · intro w hSw
                            (try dsimp only at hSw)
                            go_simp
                            (try with_reducible rfl)
                          try simp only [Act.put, List.getElem_toArray, List.getElem_cons_zero, List.getElem_cons_succ, List.setIfInBounds_toArray, List.set_cons_zero, List.set_cons_succ]
                          refine wpAnyH_take (i := 2) (v := ?_) rfl (by kernel_rfl) (by kernel_rfl) (by kernel_rfl) (fun _ _ _ h => h) (Or.inl ⟨by rfl, ?_⟩) (by assumption) ?_
                          rotate_left
                          · intro w hSw
                            (try dsimp only at hSw)
                            go_simp
                            (try with_reducible rfl)
                          try simp only [Act.put, List.getElem_toArray, List.getElem_cons_zero, List.getElem_cons_succ, List.setIfInBounds_toArray, List.set_cons_zero, List.set_cons_succ]
                          refine wpAnyH_take (i := 3) (v := ?_) rfl (by kernel_rfl) (by kernel_rfl) (by kernel_rfl) (fun _ _ _ h => h) (Or.inl ⟨by rfl, ?_⟩) (by assumption) ?_
                          rotate_left
                          · intro w hSw
                            (try dsimp only at hSw)
                            go_simp
                            (try with_reducible rfl)
                          try simp only [Act.put, List.getElem_toArray, List.getElem_cons_zero, List.getElem_cons_succ, List.setIfInBounds_toArray, List.set_cons_zero, List.set_cons_succ]
                          refine wpAnyH_take (i := 4) (v := ?_) rfl (by kernel_rfl) (by kernel_rfl) (by kernel_rfl) (fun _ _ _ h => h) (Or.inl ⟨by rfl, ?_⟩) (by assumption) ?_
                          rotate_left
                          · intro w hSw
                            (try dsimp only at hSw)
                            go_simp
                            (try with_reducible rfl)
                          try simp only [Act.put, List.getElem_toArray, List.getElem_cons_zero, List.getElem_cons_succ, List.setIfInBounds_toArray, List.set_cons_zero, List.set_cons_succ]
                          refine wpAnyH_take (i := 5) (v := ?_) rfl (by kernel_rfl) (by kernel_rfl) (by kernel_rfl) (fun _ _ _ h => h) (Or.inl ⟨by rfl, ?_⟩) (by assumption) ?_
                          rotate_left
                          · intro w hSw
                            (try dsimp only at hSw)
                            go_simp
                            (try with_reducible rfl)
                          try simp only [Act.put, List.getElem_toArray, List.getElem_cons_zero, List.getElem_cons_succ, List.setIfInBounds_toArray, List.set_cons_zero, List.set_cons_succ]
                          refine wpAnyH_take (i := 6) (v := ?_) rfl (by kernel_rfl) (by kernel_rfl) (by kernel_rfl) (fun _ _ _ h => h) (Or.inl ⟨by rfl, ?_⟩) (by assumption) ?_
                          rotate_left
                          · intro w hSw
                            (try dsimp only at hSw)
                            go_simp
                            (try with_reducible rfl)
                          try simp only [Act.put, List.getElem_toArray, List.getElem_cons_zero, List.getElem_cons_succ, List.setIfInBounds_toArray, List.set_cons_zero, List.set_cons_succ]
                          refine wpAnyH_take (i := 7) (v := ?_) rfl (by kernel_rfl) (by kernel_rfl) (by kernel_rfl) (fun _ _ _ h => h) (Or.inl ⟨by rfl, ?_⟩) (by assumption) ?_
                          rotate_left
                          · intro w hSw
                            (try dsimp only at hSw)
                            go_simp
                            (try with_reducible rfl)
                          try simp only [Act.put, List.getElem_toArray, List.getElem_cons_zero, List.getElem_cons_succ, List.setIfInBounds_toArray, List.set_cons_zero, List.set_cons_succ]
                          refine wpAnyH_take (i := 8) (v := ?_) rfl (by kernel_rfl) (by kernel_rfl) (by kernel_rfl) (fun _ _ _ h => h) (Or.inl ⟨by rfl, ?_⟩) (by assumption) ?_
                          rotate_left
                          · intro w hSw
                            (try dsimp only at hSw)
                            go_simp
                            (try with_reducible rfl)
                          try simp only [Act.put, List.getElem_toArray, List.getElem_cons_zero, List.getElem_cons_succ, List.setIfInBounds_toArray, List.set_cons_zero, List.set_cons_succ]
                          refine wpAnyH_take (i := 9) (v := ?_) rfl (by kernel_rfl) (by kernel_rfl) (by kernel_rfl) (fun _ _ _ h => h) (Or.inl ⟨by rfl, ?_⟩) (by assumption) ?_
                          rotate_left
                          · intro w hSw
                            (try dsimp only at hSw)
                            go_simp
                            (try with_reducible rfl)
                          try simp only [Act.put, List.getElem_toArray, List.getElem_cons_zero, List.getElem_cons_succ, List.setIfInBounds_toArray, List.set_cons_zero, List.set_cons_succ]
                          refine wpAnyH_take (i := 10) (v := ?_) rfl (by kernel_rfl) (by kernel_rfl) (by kernel_rfl) (fun _ _ _ h => h) (Or.inl ⟨by rfl, ?_⟩) (by assumption) ?_
                          rotate_left
                          · intro w hSw
                            (try dsimp only at hSw)
                            go_simp
                            (try with_reducible rfl)
                          try simp only [Act.put, List.getElem_toArray, List.getElem_cons_zero, List.getElem_cons_succ, List.setIfInBounds_toArray, List.set_cons_zero, List.set_cons_succ]
                          refine wpAnyH_done (by kernel_rfl) ?_ _
                          have HE := Lib.hid (HT.out.on hHeld.2)
                          clear hHeld
                          go_wp2_with fail
                          go_ret
                          exact ⟨rfl, HE.out.below⟩
                    · have E5 : Hid (a.exps = b.exps) := upto_all (HN5.out.symm.trans HM5.out) HN5.out (fun i hi => HU.out i (by omega))
                      have i1 : ¬ (m : Int) < (n5 : Int) := by omega
                      have co := ca
                      clear HU ca cb
                      obtain ⟨wq, hq⟩ : ∃ z, z = wr := ⟨_, rfl⟩
                      subst hq
                      obtain ⟨rp, hrp⟩ : ∃ x : Bool, x = true ↔ a.ptrs = b.ptrs := ⟨decide (a.ptrs = b.ptrs), by simp⟩
                      obtain ⟨rq, hrq⟩ : ∃ x : Bool, x = true ↔ a.procs = b.procs := ⟨decide (a.procs = b.procs), by simp⟩
                      have hR : r = (rp && rq) := by
                        rw [Bool.eq_iff_iff, Bool.and_eq_true, hrp, hrq]
                        exact ⟨fun h => (HQ.out.1 h).2.2.2.2.2, fun h => HQ.out.2 ⟨E1.out, E2.out, E3.out, E4.out, E5.out, h.1, h.2⟩⟩
                      have HP := Lib.hid hrp
                      have HS := Lib.hid hrq
                      clear hrp hrq
                      have pa : wq.cell? ⟨oa, 9, none⟩ = some Va.p := HT.out.rowa.cell 9
                      have pb : wq.cell? ⟨ob, 9, none⟩ = some Vb.p := HT.out.rowb.cell 9
                      go_wp2_with fail
                      refine (rInts_any Va.p Vb.p a.ptrs b.ptrs rp _ (HA.out.ptrs.on HT.out.below) (HB.out.ptrs.on HT.out.below) HP.out).mono ?_
                      rintro e w1 ⟨rfl, hw1⟩
                      clear pa pb
                      have HT1 := Lib.hid (HT.out.on hw1)
                      clear hw1
                      have pa : w1.cell? ⟨oa, 10, none⟩ = some Va.q := HT1.out.rowa.cell 10
                      have pb : w1.cell? ⟨ob, 10, none⟩ = some Vb.q := HT1.out.rowb.cell 10
                      go_wp2_with fail
                      refine (rInts_any Va.q Vb.q a.procs b.procs rq _ (HA.out.procs.on HT1.out.below) (HB.out.procs.on HT1.out.below) HS.out).mono ?_
                      rintro e w2 ⟨rfl, hw2⟩
                      clear pa pb
                      have HT2 := Lib.hid (HT1.out.on hw2)
                      clear hw2
                      subst hR
                      cases rp with
                      | false =>
                        go_wp2_with fail
                        go_ret
                        exact ⟨rfl, HT2.out.below⟩
                      | true =>
                        go_wp2_with fail
                        go_ret
                        exact ⟨rfl, HT2.out.below⟩
end Go.Proofs.Ytkkjfbpflfknpaa
