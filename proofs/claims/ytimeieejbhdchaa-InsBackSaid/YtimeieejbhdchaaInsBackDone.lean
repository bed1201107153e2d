/-
  What was put is got, what was got is put, as it was (P2.2). No conditions.
-/
import Derived.Test.YtimeieejbhdchaaRows
import Derived.Test.YtimeieejbhdchaaInsI
import Derived.WalkKit
import Derived.ProofKit
import Derived.OpenShut
import Derived.ShutString
import Derived.Below
import Derived.Lib.SmallJoins
namespace Go.Proofs.Ytimeieejbhdchaa.insBack
open Go.Joins Go.ChangeShapes Go.WideShapes Go.ChangeAt Go.RowKit
open Go.ChangeMaps (open_string shut_string)
set_option linter.unusedVariables false

theorem own : ownKnob Try.prog.godebug = none := by kernel_rfl

theorem cells23 : Try.prog.cellsOf 23 = 4 := by kernel_rfl

theorem walk (a0 : Int) (a1 : Int) (a2 : Int) (a3 : Int) (a4 : Int) (w0 : (Lit.int .i64 a0).wf = true) (w1 : (Lit.int .i64 a1).wf = true) (w2 : (Lit.int .i64 a2).wf = true) (w3 : (Lit.int .i64 a3).wf = true) (w4 : (Lit.int .u32 a4).wf = true) (w : World) :
    Calls Try.prog 4 #[.agg #[.int .i64 a0, .int .i64 a1, .int .i64 a2, .int .i64 a3], .int .u32 a4] w fun e w' => e = .returned (.bool true) ∧ Below w.heap.size w w' := by
  exact insBack_walk a0 a1 a2 a3 a4 w0 w1 w2 w3 w4 w

set_option maxRecDepth 100000 in
theorem lifted (os : Os) (started : os.Started) (H : Type) (enc : TypeId × Value → H) :
    ReturnsInHanded {} Try.checked os 4 .any (Rows.insBackSpec.pre6 enc Try.prog Try.f4 Rows.insBackRow.domain false) (Rows.insBackSpec.post enc Try.prog Try.f4 false true false false) := by
  refine returnsInHanded_of_change (C := Try.checked) own started (by kernel_rfl) Try.func4
    (ChangeSpec.witness6 (enc := enc) (C := Try.checked) false ⟨#[], #[.agg #[.int .i64 0, .int .i64 0, .int .i64 0, .int .i64 0], .int .u32 0], []⟩ 8 (by kernel_rfl) (by kernel_rfl) (by kernel_rfl) (by kernel_rfl)) ?_
  intro W base args ds gs before hval0 hW hcnd _
  have hval : ∀ (j : Nat) t v, Try.f4.params[j]? = some t → args[j]? = some v → Value.okWide Try.prog W .any base t v := hval0
  have hW' := hW
  obtain ⟨p, q, hA0, hV, rfl, hfz, hnd⟩ := hW
  have hA : DataW.TrodAll enc Try.prog W 0 (fun _ => true) true Try.f4.params.toList args.toList ds p := hA0
  rw [Try.params4] at hA hval
  obtain ⟨v0, vs0, d0, ds0, p0, q0, hargs, rfl, rfl, h0, r0⟩ := trodAll_cons hA
  obtain ⟨v1, vs1, d1, ds1, p1, q1, rfl, rfl, rfl, h1, r1⟩ := trodAll_cons r0
  obtain ⟨rfl, rfl, rfl⟩ := trodAll_nil r1
  obtain rfl : args = #[v0, v1] := by cases args; simp_all
  obtain ⟨rfl, rfl⟩ := trodVars_none hV
  obtain ⟨c0_0, c0_1, c0_2, c0_3, y0_0, y0_1, y0_2, y0_3, m0, rfl, rfl, rfl, hy0_0, hy0_1, hy0_2, hy0_3⟩ := open_agg4 Try.underlying23 (by kernel_rfl) cells23 (hval 0 23 v0 rfl rfl) h0
  obtain ⟨A0, e0, rfl, W0⟩ := DataW.trod_int Try.underlying3 hy0_0
  obtain ⟨A1, e1, rfl, W1⟩ := DataW.trod_int Try.underlying3 hy0_1
  obtain ⟨A2, e2, rfl, W2⟩ := DataW.trod_int Try.underlying3 hy0_2
  obtain ⟨A3, e3, rfl, W3⟩ := DataW.trod_int Try.underlying3 hy0_3
  simp at e0 e1 e2 e3
  subst e0 e1 e2 e3
  obtain ⟨A4, rfl, rfl, rfl, W4⟩ := open_int Try.underlying24 (hval 1 24 v1 rfl rfl) h1
  clear hA0 hval0
  refine (walk A0 A1 A2 A3 A4 W0 W1 W2 W3 W4 W).mono fun e W' ⟨he, hg⟩ => ?_
  subst he
  exact ⟨_, rfl, _, _, _, [], _, [], hW', (trodAll_cons_mk (shut_bool Try.underlying4 _) trodAll_mk0), (trodAll_cons_mk (shut_agg4 (y0 := (.lit (.int .i64 A0), [])) (y1 := (.lit (.int .i64 A1), [])) (y2 := (.lit (.int .i64 A2), [])) (y3 := (.lit (.int .i64 A3), [])) Try.underlying23 (by kernel_rfl) cells23 (field_of_Trod (shut_int Try.underlying3 W0) rfl) (field_of_Trod (shut_int Try.underlying3 W1) rfl) (field_of_Trod (shut_int Try.underlying3 W2) rfl) (field_of_Trod (shut_int Try.underlying3 W3) rfl)) (trodAll_cons_mk (shut_int Try.underlying24 W4) trodAll_mk0)), rfl, hg.frame _, fun h => by cases h⟩

theorem over : Rows.insBackRow.holds Try.pinned (OpenSpec.ofChange Rows.insBackSpec) :=
  OpenClaim.holds_of_wide 4 Try.f4 rfl rfl rfl rfl rfl rfl rfl ⟨rfl, rfl, rfl, rfl, rfl⟩ rfl rfl rfl rfl rfl (by kernel_rfl) Try.func4 (by kernel_rfl)
    (of_decide_eq_true (by kernel_rfl)) (by unfold Func.isWrapper; first | (rw [if_pos (by decide +kernel)]; kernel_rfl) | (rw [if_neg (by decide +kernel)]; exact ⟨rfl, rfl⟩))
    (fun os started H enc _ => lifted os started H enc)

theorem proved : Rows.InsBackSaid :=
  over
#print axioms proved
end Go.Proofs.Ytimeieejbhdchaa.insBack
