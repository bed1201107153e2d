/-
  The document's Same (layer 12): whether two objects are the same, whatever they are. No conditions. (Written by wip/tools/obj-s.py.)
-/
import Derived.Test.YtkkjfbpflfknpaaObjW1
import Derived.Test.YtkkjfbpflfknpaaObjW2
import Derived.Test.YtkkjfbpflfknpaaObjW3
import Derived.Test.YtkkjfbpflfknpaaObjT
namespace Go.Proofs.Ytkkjfbpflfknpaa
open Go.ChangeShapes Go.WideShapes Go.ChangeAt Go.RowKit

theorem rSame_any (Va Vb : ObjV) (a b : ObjD) (r : Bool) (w : World) (ha : ObjAt w Va a) (hb : ObjAt w Vb b) (hr : r = true ↔ a = b) :
    Calls Try.prog 12 #[.agg (ocells Va a).toArray, .agg (ocells Vb b).toArray] w fun e w' => e = .returned (.bool r) ∧ Below w.heap.size w w' := by
  by_cases H : a.name = b.name ∧ a.key = b.key ∧ a.data = b.data ∧ a.text = b.text ∧ (a.f0 = b.f0 ∧ a.f1 = b.f1 ∧ a.f2 = b.f2) ∧ a.body = b.body ∧ a.imps.length = b.imps.length ∧ a.types.length = b.types.length ∧ a.code.length = b.code.length ∧ a.cmds.length = b.cmds.length ∧ a.exps.length = b.exps.length
  · exact same_main Va Vb a b r w ha hb hr (H.1) (H.2.1) (H.2.2.1) (H.2.2.2.1) (H.2.2.2.2.1) (H.2.2.2.2.2.1) (H.2.2.2.2.2.2.1) (H.2.2.2.2.2.2.2.1) (H.2.2.2.2.2.2.2.2.1) (H.2.2.2.2.2.2.2.2.2.1) (H.2.2.2.2.2.2.2.2.2.2)
  · have hf : r = false := by
      cases r with
      | false => rfl
      | true => exact absurd (by rw [hr.1 rfl]; simp) H
    subst hf
    clear hr
    obtain ⟨x1, d1, ex1, _⟩ := ha.imps.shape
    obtain ⟨y1, g1, ey1, _⟩ := hb.imps.shape
    obtain ⟨x2, d2, ex2, _⟩ := ha.types.shape
    obtain ⟨y2, g2, ey2, _⟩ := hb.types.shape
    obtain ⟨x3, d3, ex3, _⟩ := ha.code.shape
    obtain ⟨y3, g3, ey3, _⟩ := hb.code.shape
    obtain ⟨x4, d4, ex4, _⟩ := ha.cmds.shape
    obtain ⟨y4, g4, ey4, _⟩ := hb.cmds.shape
    obtain ⟨x5, d5, ex5, _⟩ := ha.exps.shape
    obtain ⟨y5, g5, ey5, _⟩ := hb.exps.shape
    have ea : (ocells Va a).toArray = #[.string a.name, .int .u32 (a.key : Nat), .slice x1 a.imps.length d1, .slice x2 a.types.length d2, .int .i64 a.data, .string a.text, .slice x3 a.code.length d3, .slice x4 a.cmds.length d4, .slice x5 a.exps.length d5, Va.p, Va.q, .int .i64 a.f0, .int .i64 a.f1, .int .i64 a.f2, .int .i64 a.body] := by unfold ocells; rw [ex1, ex2, ex3, ex4, ex5]
    have eb : (ocells Vb b).toArray = #[.string b.name, .int .u32 (b.key : Nat), .slice y1 b.imps.length g1, .slice y2 b.types.length g2, .int .i64 b.data, .string b.text, .slice y3 b.code.length g3, .slice y4 b.cmds.length g4, .slice y5 b.exps.length g5, Vb.p, Vb.q, .int .i64 b.f0, .int .i64 b.f1, .int .i64 b.f2, .int .i64 b.body] := by unfold ocells; rw [ey1, ey2, ey3, ey4, ey5]
    rw [ea, eb]
    clear ea eb ha hb ex1 ey1 ex2 ey2 ex3 ey3 ex4 ey4 ex5 ey5
    by_cases h0 : a.name = b.name
    · rw [← h0]
      by_cases h1 : a.key = b.key
      · rw [← h1]
        by_cases h2 : a.data = b.data
        · rw [← h2]
          by_cases h3 : a.text = b.text
          · rw [← h3]
            by_cases h4 : (a.f0 = b.f0 ∧ a.f1 = b.f1 ∧ a.f2 = b.f2)
            · rw [← h4.1, ← h4.2.1, ← h4.2.2]
              by_cases h5 : a.body = b.body
              · rw [← h5]
                by_cases h6 : a.imps.length = b.imps.length
                · rw [← h6]
                  by_cases h7 : a.types.length = b.types.length
                  · rw [← h7]
                    by_cases h8 : a.code.length = b.code.length
                    · rw [← h8]
                      by_cases h9 : a.cmds.length = b.cmds.length
                      · rw [← h9]
                        by_cases h10 : a.exps.length = b.exps.length
                        · rw [← h10]
                          exact absurd ⟨h0, h1, h2, h3, h4, h5, h6, h7, h8, h9, h10⟩ H
                        · apply same_way10
                          rw [beq_eq_false_iff_ne]
                          omega
                      · apply same_way9
                        rw [beq_eq_false_iff_ne]
                        omega
                    · apply same_way8
                      rw [beq_eq_false_iff_ne]
                      omega
                  · apply same_way7
                    rw [beq_eq_false_iff_ne]
                    omega
                · apply same_way6
                  rw [beq_eq_false_iff_ne]
                  omega
              · apply same_way5
                rw [beq_eq_false_iff_ne]
                omega
            · apply same_way4
              rw [Bool.eq_false_iff]
              intro e
              simp only [Bool.and_eq_true, beq_iff_eq] at e
              exact h4 ⟨e.1.1, e.1.2, e.2⟩
          · apply same_way3
            exact signs_not h3
        · apply same_way2
          rw [beq_eq_false_iff_ne]
          omega
      · apply same_way1
        rw [beq_eq_false_iff_ne]
        omega
    · apply same_way0
      exact signs_not h0
end Go.Proofs.Ytkkjfbpflfknpaa
