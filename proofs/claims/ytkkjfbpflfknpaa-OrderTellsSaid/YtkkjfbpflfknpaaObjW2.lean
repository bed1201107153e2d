/-
  The document's Same (layer 12): ways to differ ahead of the lists' elements, part 2 of 3. No conditions beyond those that each theorem names. (Written by wip/tools/obj-s.py.)
-/
import Derived.Test.YtkkjfbpflfknpaaObjS
import Derived.Deep.DeepCutAuto
namespace Go.Proofs.Ytkkjfbpflfknpaa
open Go.ChangeShapes Go.WideShapes Go.ChangeAt Go.RowKit

set_option maxRecDepth 100000 in
set_option maxHeartbeats 4000000 in
theorem same_way4 (s1 u1 : ByteArray) (k1 z1 x1 x2 y1 y2 t1 t2 b1 b2 : Int) (a1 a2 d1 d2 f1 f2 h1 h2 j1 j2 : Option Addr) (n1 n2 c1 c2 m1 m2 e1 e2 o1 o2 g1 g2 p1 p2 i1 i2 q1 q2 l1 l2 : Nat) (v1 v2 w1 w2 : Value) (w : World) (r4 : (x1 == x2 && y1 == y2 && t1 == t2) = false) :
    Calls Try.prog 12 #[.agg #[.string s1, .int .u32 k1, .slice a1 n1 c1, .slice d1 m1 e1, .int .i64 z1, .string u1, .slice f1 o1 g1, .slice h1 p1 i1, .slice j1 q1 l1, v1, w1, .int .i64 x1, .int .i64 y1, .int .i64 t1, .int .i64 b1], .agg #[.string s1, .int .u32 k1, .slice a2 n2 c2, .slice d2 m2 e2, .int .i64 z1, .string u1, .slice f2 o2 g2, .slice h2 p2 i2, .slice j2 q2 l2, v2, w2, .int .i64 x2, .int .i64 y2, .int .i64 t2, .int .i64 b2]] w fun e w' => e = .returned (.bool false) ∧ Below w.heap.size w w' := by
  have HW := two_rows w [.string s1, .int .u32 k1, .slice a1 n1 c1, .slice d1 m1 e1, .int .i64 z1, .string u1, .slice f1 o1 g1, .slice h1 p1 i1, .slice j1 q1 l1, v1, w1, .int .i64 x1, .int .i64 y1, .int .i64 t1, .int .i64 b1] [.string s1, .int .u32 k1, .slice a2 n2 c2, .slice d2 m2 e2, .int .i64 z1, .string u1, .slice f2 o2 g2, .slice h2 p2 i2, .slice j2 q2 l2, v2, w2, .int .i64 x2, .int .i64 y2, .int .i64 t2, .int .i64 b2]
  have HB := Lib.hid HW.2.2
  have ra := HW.1
  have rb := HW.2.1
  clear HW
  have qf := neq_fix x1 x2 y1 y2 t1 t2
  go_enter Try.func12, Try.ntmps12
  go_upto_region 1 with fail
  have ra' : RowAt ((w.alloc (.cells #[.string s1, .int .u32 k1, .slice a1 n1 c1, .slice d1 m1 e1, .int .i64 z1, .string u1, .slice f1 o1 g1, .slice h1 p1 i1, .slice j1 q1 l1, v1, w1, .int .i64 x1, .int .i64 y1, .int .i64 t1, .int .i64 b1] OT)).alloc (.cells #[.string s1, .int .u32 k1, .slice a2 n2 c2, .slice d2 m2 e2, .int .i64 z1, .string u1, .slice f2 o2 g2, .slice h2 p2 i2, .slice j2 q2 l2, v2, w2, .int .i64 x2, .int .i64 y2, .int .i64 t2, .int .i64 b2] OT)) w.heap.size OT [.string s1, .int .u32 k1, .slice a1 n1 c1, .slice d1 m1 e1, .int .i64 z1, .string u1, .slice f1 o1 g1, .slice h1 p1 i1, .slice j1 q1 l1, v1, w1, .int .i64 x1, .int .i64 y1, .int .i64 t1, .int .i64 b1] := ra
  have rb' : RowAt ((w.alloc (.cells #[.string s1, .int .u32 k1, .slice a1 n1 c1, .slice d1 m1 e1, .int .i64 z1, .string u1, .slice f1 o1 g1, .slice h1 p1 i1, .slice j1 q1 l1, v1, w1, .int .i64 x1, .int .i64 y1, .int .i64 t1, .int .i64 b1] OT)).alloc (.cells #[.string s1, .int .u32 k1, .slice a2 n2 c2, .slice d2 m2 e2, .int .i64 z1, .string u1, .slice f2 o2 g2, .slice h2 p2 i2, .slice j2 q2 l2, v2, w2, .int .i64 x2, .int .i64 y2, .int .i64 t2, .int .i64 b2] OT)) (w.heap.size + 1) OT [.string s1, .int .u32 k1, .slice a2 n2 c2, .slice d2 m2 e2, .int .i64 z1, .string u1, .slice f2 o2 g2, .slice h2 p2 i2, .slice j2 q2 l2, v2, w2, .int .i64 x2, .int .i64 y2, .int .i64 t2, .int .i64 b2] := rb
  have HB' : Hid (Below w.heap.size w ((w.alloc (.cells #[.string s1, .int .u32 k1, .slice a1 n1 c1, .slice d1 m1 e1, .int .i64 z1, .string u1, .slice f1 o1 g1, .slice h1 p1 i1, .slice j1 q1 l1, v1, w1, .int .i64 x1, .int .i64 y1, .int .i64 t1, .int .i64 b1] OT)).alloc (.cells #[.string s1, .int .u32 k1, .slice a2 n2 c2, .slice d2 m2 e2, .int .i64 z1, .string u1, .slice f2 o2 g2, .slice h2 p2 i2, .slice j2 q2 l2, v2, w2, .int .i64 x2, .int .i64 y2, .int .i64 t2, .int .i64 b2] OT))) := HB.out
  clear ra rb HB
  generalize (w.alloc (.cells #[.string s1, .int .u32 k1, .slice a1 n1 c1, .slice d1 m1 e1, .int .i64 z1, .string u1, .slice f1 o1 g1, .slice h1 p1 i1, .slice j1 q1 l1, v1, w1, .int .i64 x1, .int .i64 y1, .int .i64 t1, .int .i64 b1] OT)).alloc (.cells #[.string s1, .int .u32 k1, .slice a2 n2 c2, .slice d2 m2 e2, .int .i64 z1, .string u1, .slice f2 o2 g2, .slice h2 p2 i2, .slice j2 q2 l2, v2, w2, .int .i64 x2, .int .i64 y2, .int .i64 t2, .int .i64 b2] OT) = wq at *
  generalize w.heap.size + 1 = ob at ra' rb' ⊢
  generalize w.heap.size = oa at ra' rb' ⊢
  generalize Value.agg #[.string s1, .int .u32 k1, .slice a1 n1 c1, .slice d1 m1 e1, .int .i64 z1, .string u1, .slice f1 o1 g1, .slice h1 p1 i1, .slice j1 q1 l1, v1, w1, .int .i64 x1, .int .i64 y1, .int .i64 t1, .int .i64 b1] = va at *
  generalize Value.agg #[.string s1, .int .u32 k1, .slice a2 n2 c2, .slice d2 m2 e2, .int .i64 z1, .string u1, .slice f2 o2 g2, .slice h2 p2 i2, .slice j2 q2 l2, v2, w2, .int .i64 x2, .int .i64 y2, .int .i64 t2, .int .i64 b2] = vb at *
  have ca0 := ra'.cell 0
  have ca1 := ra'.cell 1
  have ca2 := ra'.cell 2
  have ca3 := ra'.cell 3
  have ca4 := ra'.cell 4
  have ca5 := ra'.cell 5
  have ca6 := ra'.cell 6
  have ca7 := ra'.cell 7
  have ca8 := ra'.cell 8
  have ca11 := ra'.cell 11
  have ca12 := ra'.cell 12
  have ca13 := ra'.cell 13
  have ca14 := ra'.cell 14
  have cb0 := rb'.cell 0
  have cb1 := rb'.cell 1
  have cb2 := rb'.cell 2
  have cb3 := rb'.cell 3
  have cb4 := rb'.cell 4
  have cb5 := rb'.cell 5
  have cb6 := rb'.cell 6
  have cb7 := rb'.cell 7
  have cb8 := rb'.cell 8
  have cb11 := rb'.cell 11
  have cb12 := rb'.cell 12
  have cb13 := rb'.cell 13
  have cb14 := rb'.cell 14
  simp only [List.getElem?_cons_zero, List.getElem?_cons_succ] at ca0 cb0 ca1 cb1 ca2 cb2 ca3 cb3 ca4 cb4 ca5 cb5 ca6 cb6 ca7 cb7 ca8 cb8 ca11 cb11 ca12 cb12 ca13 cb13 ca14 cb14
  clear ra' rb'
  go_wp2_with fail
  all_goals (go_ret; exact ⟨rfl, HB'.out⟩)
set_option maxRecDepth 100000 in
set_option maxHeartbeats 4000000 in
theorem same_way5 (s1 u1 : ByteArray) (k1 z1 x1 y1 t1 b1 b2 : Int) (a1 a2 d1 d2 f1 f2 h1 h2 j1 j2 : Option Addr) (n1 n2 c1 c2 m1 m2 e1 e2 o1 o2 g1 g2 p1 p2 i1 i2 q1 q2 l1 l2 : Nat) (v1 v2 w1 w2 : Value) (w : World) (r5 : (b1 == b2) = false) :
    Calls Try.prog 12 #[.agg #[.string s1, .int .u32 k1, .slice a1 n1 c1, .slice d1 m1 e1, .int .i64 z1, .string u1, .slice f1 o1 g1, .slice h1 p1 i1, .slice j1 q1 l1, v1, w1, .int .i64 x1, .int .i64 y1, .int .i64 t1, .int .i64 b1], .agg #[.string s1, .int .u32 k1, .slice a2 n2 c2, .slice d2 m2 e2, .int .i64 z1, .string u1, .slice f2 o2 g2, .slice h2 p2 i2, .slice j2 q2 l2, v2, w2, .int .i64 x1, .int .i64 y1, .int .i64 t1, .int .i64 b2]] w fun e w' => e = .returned (.bool false) ∧ Below w.heap.size w w' := by
  have HW := two_rows w [.string s1, .int .u32 k1, .slice a1 n1 c1, .slice d1 m1 e1, .int .i64 z1, .string u1, .slice f1 o1 g1, .slice h1 p1 i1, .slice j1 q1 l1, v1, w1, .int .i64 x1, .int .i64 y1, .int .i64 t1, .int .i64 b1] [.string s1, .int .u32 k1, .slice a2 n2 c2, .slice d2 m2 e2, .int .i64 z1, .string u1, .slice f2 o2 g2, .slice h2 p2 i2, .slice j2 q2 l2, v2, w2, .int .i64 x1, .int .i64 y1, .int .i64 t1, .int .i64 b2]
  have HB := Lib.hid HW.2.2
  have ra := HW.1
  have rb := HW.2.1
  clear HW
  have rn : ¬ (b1 = b2) := beq_eq_false_iff_ne.1 r5
  have qf := neq_fix x1 x1 y1 y1 t1 t1
  go_enter Try.func12, Try.ntmps12
  go_upto_region 1 with fail
  have ra' : RowAt ((w.alloc (.cells #[.string s1, .int .u32 k1, .slice a1 n1 c1, .slice d1 m1 e1, .int .i64 z1, .string u1, .slice f1 o1 g1, .slice h1 p1 i1, .slice j1 q1 l1, v1, w1, .int .i64 x1, .int .i64 y1, .int .i64 t1, .int .i64 b1] OT)).alloc (.cells #[.string s1, .int .u32 k1, .slice a2 n2 c2, .slice d2 m2 e2, .int .i64 z1, .string u1, .slice f2 o2 g2, .slice h2 p2 i2, .slice j2 q2 l2, v2, w2, .int .i64 x1, .int .i64 y1, .int .i64 t1, .int .i64 b2] OT)) w.heap.size OT [.string s1, .int .u32 k1, .slice a1 n1 c1, .slice d1 m1 e1, .int .i64 z1, .string u1, .slice f1 o1 g1, .slice h1 p1 i1, .slice j1 q1 l1, v1, w1, .int .i64 x1, .int .i64 y1, .int .i64 t1, .int .i64 b1] := ra
  have rb' : RowAt ((w.alloc (.cells #[.string s1, .int .u32 k1, .slice a1 n1 c1, .slice d1 m1 e1, .int .i64 z1, .string u1, .slice f1 o1 g1, .slice h1 p1 i1, .slice j1 q1 l1, v1, w1, .int .i64 x1, .int .i64 y1, .int .i64 t1, .int .i64 b1] OT)).alloc (.cells #[.string s1, .int .u32 k1, .slice a2 n2 c2, .slice d2 m2 e2, .int .i64 z1, .string u1, .slice f2 o2 g2, .slice h2 p2 i2, .slice j2 q2 l2, v2, w2, .int .i64 x1, .int .i64 y1, .int .i64 t1, .int .i64 b2] OT)) (w.heap.size + 1) OT [.string s1, .int .u32 k1, .slice a2 n2 c2, .slice d2 m2 e2, .int .i64 z1, .string u1, .slice f2 o2 g2, .slice h2 p2 i2, .slice j2 q2 l2, v2, w2, .int .i64 x1, .int .i64 y1, .int .i64 t1, .int .i64 b2] := rb
  have HB' : Hid (Below w.heap.size w ((w.alloc (.cells #[.string s1, .int .u32 k1, .slice a1 n1 c1, .slice d1 m1 e1, .int .i64 z1, .string u1, .slice f1 o1 g1, .slice h1 p1 i1, .slice j1 q1 l1, v1, w1, .int .i64 x1, .int .i64 y1, .int .i64 t1, .int .i64 b1] OT)).alloc (.cells #[.string s1, .int .u32 k1, .slice a2 n2 c2, .slice d2 m2 e2, .int .i64 z1, .string u1, .slice f2 o2 g2, .slice h2 p2 i2, .slice j2 q2 l2, v2, w2, .int .i64 x1, .int .i64 y1, .int .i64 t1, .int .i64 b2] OT))) := HB.out
  clear ra rb HB
  generalize (w.alloc (.cells #[.string s1, .int .u32 k1, .slice a1 n1 c1, .slice d1 m1 e1, .int .i64 z1, .string u1, .slice f1 o1 g1, .slice h1 p1 i1, .slice j1 q1 l1, v1, w1, .int .i64 x1, .int .i64 y1, .int .i64 t1, .int .i64 b1] OT)).alloc (.cells #[.string s1, .int .u32 k1, .slice a2 n2 c2, .slice d2 m2 e2, .int .i64 z1, .string u1, .slice f2 o2 g2, .slice h2 p2 i2, .slice j2 q2 l2, v2, w2, .int .i64 x1, .int .i64 y1, .int .i64 t1, .int .i64 b2] OT) = wq at *
  generalize w.heap.size + 1 = ob at ra' rb' ⊢
  generalize w.heap.size = oa at ra' rb' ⊢
  generalize Value.agg #[.string s1, .int .u32 k1, .slice a1 n1 c1, .slice d1 m1 e1, .int .i64 z1, .string u1, .slice f1 o1 g1, .slice h1 p1 i1, .slice j1 q1 l1, v1, w1, .int .i64 x1, .int .i64 y1, .int .i64 t1, .int .i64 b1] = va at *
  generalize Value.agg #[.string s1, .int .u32 k1, .slice a2 n2 c2, .slice d2 m2 e2, .int .i64 z1, .string u1, .slice f2 o2 g2, .slice h2 p2 i2, .slice j2 q2 l2, v2, w2, .int .i64 x1, .int .i64 y1, .int .i64 t1, .int .i64 b2] = vb at *
  have ca0 := ra'.cell 0
  have ca1 := ra'.cell 1
  have ca2 := ra'.cell 2
  have ca3 := ra'.cell 3
  have ca4 := ra'.cell 4
  have ca5 := ra'.cell 5
  have ca6 := ra'.cell 6
  have ca7 := ra'.cell 7
  have ca8 := ra'.cell 8
  have ca11 := ra'.cell 11
  have ca12 := ra'.cell 12
  have ca13 := ra'.cell 13
  have ca14 := ra'.cell 14
  have cb0 := rb'.cell 0
  have cb1 := rb'.cell 1
  have cb2 := rb'.cell 2
  have cb3 := rb'.cell 3
  have cb4 := rb'.cell 4
  have cb5 := rb'.cell 5
  have cb6 := rb'.cell 6
  have cb7 := rb'.cell 7
  have cb8 := rb'.cell 8
  have cb11 := rb'.cell 11
  have cb12 := rb'.cell 12
  have cb13 := rb'.cell 13
  have cb14 := rb'.cell 14
  simp only [List.getElem?_cons_zero, List.getElem?_cons_succ] at ca0 cb0 ca1 cb1 ca2 cb2 ca3 cb3 ca4 cb4 ca5 cb5 ca6 cb6 ca7 cb7 ca8 cb8 ca11 cb11 ca12 cb12 ca13 cb13 ca14 cb14
  clear ra' rb'
  go_wp2_with fail
  all_goals (go_ret; exact ⟨rfl, HB'.out⟩)
set_option maxRecDepth 100000 in
set_option maxHeartbeats 4000000 in
theorem same_way6 (s1 u1 : ByteArray) (k1 z1 x1 y1 t1 b1 : Int) (a1 a2 d1 d2 f1 f2 h1 h2 j1 j2 : Option Addr) (n1 n2 c1 c2 m1 m2 e1 e2 o1 o2 g1 g2 p1 p2 i1 i2 q1 q2 l1 l2 : Nat) (v1 v2 w1 w2 : Value) (w : World) (r6 : (((n1 : Nat) : Int) == ((n2 : Nat) : Int)) = false) :
    Calls Try.prog 12 #[.agg #[.string s1, .int .u32 k1, .slice a1 n1 c1, .slice d1 m1 e1, .int .i64 z1, .string u1, .slice f1 o1 g1, .slice h1 p1 i1, .slice j1 q1 l1, v1, w1, .int .i64 x1, .int .i64 y1, .int .i64 t1, .int .i64 b1], .agg #[.string s1, .int .u32 k1, .slice a2 n2 c2, .slice d2 m2 e2, .int .i64 z1, .string u1, .slice f2 o2 g2, .slice h2 p2 i2, .slice j2 q2 l2, v2, w2, .int .i64 x1, .int .i64 y1, .int .i64 t1, .int .i64 b1]] w fun e w' => e = .returned (.bool false) ∧ Below w.heap.size w w' := by
  have HW := two_rows w [.string s1, .int .u32 k1, .slice a1 n1 c1, .slice d1 m1 e1, .int .i64 z1, .string u1, .slice f1 o1 g1, .slice h1 p1 i1, .slice j1 q1 l1, v1, w1, .int .i64 x1, .int .i64 y1, .int .i64 t1, .int .i64 b1] [.string s1, .int .u32 k1, .slice a2 n2 c2, .slice d2 m2 e2, .int .i64 z1, .string u1, .slice f2 o2 g2, .slice h2 p2 i2, .slice j2 q2 l2, v2, w2, .int .i64 x1, .int .i64 y1, .int .i64 t1, .int .i64 b1]
  have HB := Lib.hid HW.2.2
  have ra := HW.1
  have rb := HW.2.1
  clear HW
  have rn : ¬ (((n1 : Nat) : Int) = ((n2 : Nat) : Int)) := beq_eq_false_iff_ne.1 r6
  have qf := neq_fix x1 x1 y1 y1 t1 t1
  go_enter Try.func12, Try.ntmps12
  go_upto_region 1 with fail
  have ra' : RowAt ((w.alloc (.cells #[.string s1, .int .u32 k1, .slice a1 n1 c1, .slice d1 m1 e1, .int .i64 z1, .string u1, .slice f1 o1 g1, .slice h1 p1 i1, .slice j1 q1 l1, v1, w1, .int .i64 x1, .int .i64 y1, .int .i64 t1, .int .i64 b1] OT)).alloc (.cells #[.string s1, .int .u32 k1, .slice a2 n2 c2, .slice d2 m2 e2, .int .i64 z1, .string u1, .slice f2 o2 g2, .slice h2 p2 i2, .slice j2 q2 l2, v2, w2, .int .i64 x1, .int .i64 y1, .int .i64 t1, .int .i64 b1] OT)) w.heap.size OT [.string s1, .int .u32 k1, .slice a1 n1 c1, .slice d1 m1 e1, .int .i64 z1, .string u1, .slice f1 o1 g1, .slice h1 p1 i1, .slice j1 q1 l1, v1, w1, .int .i64 x1, .int .i64 y1, .int .i64 t1, .int .i64 b1] := ra
  have rb' : RowAt ((w.alloc (.cells #[.string s1, .int .u32 k1, .slice a1 n1 c1, .slice d1 m1 e1, .int .i64 z1, .string u1, .slice f1 o1 g1, .slice h1 p1 i1, .slice j1 q1 l1, v1, w1, .int .i64 x1, .int .i64 y1, .int .i64 t1, .int .i64 b1] OT)).alloc (.cells #[.string s1, .int .u32 k1, .slice a2 n2 c2, .slice d2 m2 e2, .int .i64 z1, .string u1, .slice f2 o2 g2, .slice h2 p2 i2, .slice j2 q2 l2, v2, w2, .int .i64 x1, .int .i64 y1, .int .i64 t1, .int .i64 b1] OT)) (w.heap.size + 1) OT [.string s1, .int .u32 k1, .slice a2 n2 c2, .slice d2 m2 e2, .int .i64 z1, .string u1, .slice f2 o2 g2, .slice h2 p2 i2, .slice j2 q2 l2, v2, w2, .int .i64 x1, .int .i64 y1, .int .i64 t1, .int .i64 b1] := rb
  have HB' : Hid (Below w.heap.size w ((w.alloc (.cells #[.string s1, .int .u32 k1, .slice a1 n1 c1, .slice d1 m1 e1, .int .i64 z1, .string u1, .slice f1 o1 g1, .slice h1 p1 i1, .slice j1 q1 l1, v1, w1, .int .i64 x1, .int .i64 y1, .int .i64 t1, .int .i64 b1] OT)).alloc (.cells #[.string s1, .int .u32 k1, .slice a2 n2 c2, .slice d2 m2 e2, .int .i64 z1, .string u1, .slice f2 o2 g2, .slice h2 p2 i2, .slice j2 q2 l2, v2, w2, .int .i64 x1, .int .i64 y1, .int .i64 t1, .int .i64 b1] OT))) := HB.out
  clear ra rb HB
  generalize (w.alloc (.cells #[.string s1, .int .u32 k1, .slice a1 n1 c1, .slice d1 m1 e1, .int .i64 z1, .string u1, .slice f1 o1 g1, .slice h1 p1 i1, .slice j1 q1 l1, v1, w1, .int .i64 x1, .int .i64 y1, .int .i64 t1, .int .i64 b1] OT)).alloc (.cells #[.string s1, .int .u32 k1, .slice a2 n2 c2, .slice d2 m2 e2, .int .i64 z1, .string u1, .slice f2 o2 g2, .slice h2 p2 i2, .slice j2 q2 l2, v2, w2, .int .i64 x1, .int .i64 y1, .int .i64 t1, .int .i64 b1] OT) = wq at *
  generalize w.heap.size + 1 = ob at ra' rb' ⊢
  generalize w.heap.size = oa at ra' rb' ⊢
  generalize Value.agg #[.string s1, .int .u32 k1, .slice a1 n1 c1, .slice d1 m1 e1, .int .i64 z1, .string u1, .slice f1 o1 g1, .slice h1 p1 i1, .slice j1 q1 l1, v1, w1, .int .i64 x1, .int .i64 y1, .int .i64 t1, .int .i64 b1] = va at *
  generalize Value.agg #[.string s1, .int .u32 k1, .slice a2 n2 c2, .slice d2 m2 e2, .int .i64 z1, .string u1, .slice f2 o2 g2, .slice h2 p2 i2, .slice j2 q2 l2, v2, w2, .int .i64 x1, .int .i64 y1, .int .i64 t1, .int .i64 b1] = vb at *
  have ca0 := ra'.cell 0
  have ca1 := ra'.cell 1
  have ca2 := ra'.cell 2
  have ca3 := ra'.cell 3
  have ca4 := ra'.cell 4
  have ca5 := ra'.cell 5
  have ca6 := ra'.cell 6
  have ca7 := ra'.cell 7
  have ca8 := ra'.cell 8
  have ca11 := ra'.cell 11
  have ca12 := ra'.cell 12
  have ca13 := ra'.cell 13
  have ca14 := ra'.cell 14
  have cb0 := rb'.cell 0
  have cb1 := rb'.cell 1
  have cb2 := rb'.cell 2
  have cb3 := rb'.cell 3
  have cb4 := rb'.cell 4
  have cb5 := rb'.cell 5
  have cb6 := rb'.cell 6
  have cb7 := rb'.cell 7
  have cb8 := rb'.cell 8
  have cb11 := rb'.cell 11
  have cb12 := rb'.cell 12
  have cb13 := rb'.cell 13
  have cb14 := rb'.cell 14
  simp only [List.getElem?_cons_zero, List.getElem?_cons_succ] at ca0 cb0 ca1 cb1 ca2 cb2 ca3 cb3 ca4 cb4 ca5 cb5 ca6 cb6 ca7 cb7 ca8 cb8 ca11 cb11 ca12 cb12 ca13 cb13 ca14 cb14
  clear ra' rb'
  go_wp2_with fail
  all_goals (go_ret; exact ⟨rfl, HB'.out⟩)
set_option maxRecDepth 100000 in
set_option maxHeartbeats 4000000 in
theorem same_way7 (s1 u1 : ByteArray) (k1 z1 x1 y1 t1 b1 : Int) (a1 a2 d1 d2 f1 f2 h1 h2 j1 j2 : Option Addr) (n1 c1 c2 m1 m2 e1 e2 o1 o2 g1 g2 p1 p2 i1 i2 q1 q2 l1 l2 : Nat) (v1 v2 w1 w2 : Value) (w : World) (r7 : (((m1 : Nat) : Int) == ((m2 : Nat) : Int)) = false) :
    Calls Try.prog 12 #[.agg #[.string s1, .int .u32 k1, .slice a1 n1 c1, .slice d1 m1 e1, .int .i64 z1, .string u1, .slice f1 o1 g1, .slice h1 p1 i1, .slice j1 q1 l1, v1, w1, .int .i64 x1, .int .i64 y1, .int .i64 t1, .int .i64 b1], .agg #[.string s1, .int .u32 k1, .slice a2 n1 c2, .slice d2 m2 e2, .int .i64 z1, .string u1, .slice f2 o2 g2, .slice h2 p2 i2, .slice j2 q2 l2, v2, w2, .int .i64 x1, .int .i64 y1, .int .i64 t1, .int .i64 b1]] w fun e w' => e = .returned (.bool false) ∧ Below w.heap.size w w' := by
  have HW := two_rows w [.string s1, .int .u32 k1, .slice a1 n1 c1, .slice d1 m1 e1, .int .i64 z1, .string u1, .slice f1 o1 g1, .slice h1 p1 i1, .slice j1 q1 l1, v1, w1, .int .i64 x1, .int .i64 y1, .int .i64 t1, .int .i64 b1] [.string s1, .int .u32 k1, .slice a2 n1 c2, .slice d2 m2 e2, .int .i64 z1, .string u1, .slice f2 o2 g2, .slice h2 p2 i2, .slice j2 q2 l2, v2, w2, .int .i64 x1, .int .i64 y1, .int .i64 t1, .int .i64 b1]
  have HB := Lib.hid HW.2.2
  have ra := HW.1
  have rb := HW.2.1
  clear HW
  have rn : ¬ (((m1 : Nat) : Int) = ((m2 : Nat) : Int)) := beq_eq_false_iff_ne.1 r7
  have qf := neq_fix x1 x1 y1 y1 t1 t1
  go_enter Try.func12, Try.ntmps12
  go_upto_region 1 with fail
  have ra' : RowAt ((w.alloc (.cells #[.string s1, .int .u32 k1, .slice a1 n1 c1, .slice d1 m1 e1, .int .i64 z1, .string u1, .slice f1 o1 g1, .slice h1 p1 i1, .slice j1 q1 l1, v1, w1, .int .i64 x1, .int .i64 y1, .int .i64 t1, .int .i64 b1] OT)).alloc (.cells #[.string s1, .int .u32 k1, .slice a2 n1 c2, .slice d2 m2 e2, .int .i64 z1, .string u1, .slice f2 o2 g2, .slice h2 p2 i2, .slice j2 q2 l2, v2, w2, .int .i64 x1, .int .i64 y1, .int .i64 t1, .int .i64 b1] OT)) w.heap.size OT [.string s1, .int .u32 k1, .slice a1 n1 c1, .slice d1 m1 e1, .int .i64 z1, .string u1, .slice f1 o1 g1, .slice h1 p1 i1, .slice j1 q1 l1, v1, w1, .int .i64 x1, .int .i64 y1, .int .i64 t1, .int .i64 b1] := ra
  have rb' : RowAt ((w.alloc (.cells #[.string s1, .int .u32 k1, .slice a1 n1 c1, .slice d1 m1 e1, .int .i64 z1, .string u1, .slice f1 o1 g1, .slice h1 p1 i1, .slice j1 q1 l1, v1, w1, .int .i64 x1, .int .i64 y1, .int .i64 t1, .int .i64 b1] OT)).alloc (.cells #[.string s1, .int .u32 k1, .slice a2 n1 c2, .slice d2 m2 e2, .int .i64 z1, .string u1, .slice f2 o2 g2, .slice h2 p2 i2, .slice j2 q2 l2, v2, w2, .int .i64 x1, .int .i64 y1, .int .i64 t1, .int .i64 b1] OT)) (w.heap.size + 1) OT [.string s1, .int .u32 k1, .slice a2 n1 c2, .slice d2 m2 e2, .int .i64 z1, .string u1, .slice f2 o2 g2, .slice h2 p2 i2, .slice j2 q2 l2, v2, w2, .int .i64 x1, .int .i64 y1, .int .i64 t1, .int .i64 b1] := rb
  have HB' : Hid (Below w.heap.size w ((w.alloc (.cells #[.string s1, .int .u32 k1, .slice a1 n1 c1, .slice d1 m1 e1, .int .i64 z1, .string u1, .slice f1 o1 g1, .slice h1 p1 i1, .slice j1 q1 l1, v1, w1, .int .i64 x1, .int .i64 y1, .int .i64 t1, .int .i64 b1] OT)).alloc (.cells #[.string s1, .int .u32 k1, .slice a2 n1 c2, .slice d2 m2 e2, .int .i64 z1, .string u1, .slice f2 o2 g2, .slice h2 p2 i2, .slice j2 q2 l2, v2, w2, .int .i64 x1, .int .i64 y1, .int .i64 t1, .int .i64 b1] OT))) := HB.out
  clear ra rb HB
  generalize (w.alloc (.cells #[.string s1, .int .u32 k1, .slice a1 n1 c1, .slice d1 m1 e1, .int .i64 z1, .string u1, .slice f1 o1 g1, .slice h1 p1 i1, .slice j1 q1 l1, v1, w1, .int .i64 x1, .int .i64 y1, .int .i64 t1, .int .i64 b1] OT)).alloc (.cells #[.string s1, .int .u32 k1, .slice a2 n1 c2, .slice d2 m2 e2, .int .i64 z1, .string u1, .slice f2 o2 g2, .slice h2 p2 i2, .slice j2 q2 l2, v2, w2, .int .i64 x1, .int .i64 y1, .int .i64 t1, .int .i64 b1] OT) = wq at *
  generalize w.heap.size + 1 = ob at ra' rb' ⊢
  generalize w.heap.size = oa at ra' rb' ⊢
  generalize Value.agg #[.string s1, .int .u32 k1, .slice a1 n1 c1, .slice d1 m1 e1, .int .i64 z1, .string u1, .slice f1 o1 g1, .slice h1 p1 i1, .slice j1 q1 l1, v1, w1, .int .i64 x1, .int .i64 y1, .int .i64 t1, .int .i64 b1] = va at *
  generalize Value.agg #[.string s1, .int .u32 k1, .slice a2 n1 c2, .slice d2 m2 e2, .int .i64 z1, .string u1, .slice f2 o2 g2, .slice h2 p2 i2, .slice j2 q2 l2, v2, w2, .int .i64 x1, .int .i64 y1, .int .i64 t1, .int .i64 b1] = vb at *
  have ca0 := ra'.cell 0
  have ca1 := ra'.cell 1
  have ca2 := ra'.cell 2
  have ca3 := ra'.cell 3
  have ca4 := ra'.cell 4
  have ca5 := ra'.cell 5
  have ca6 := ra'.cell 6
  have ca7 := ra'.cell 7
  have ca8 := ra'.cell 8
  have ca11 := ra'.cell 11
  have ca12 := ra'.cell 12
  have ca13 := ra'.cell 13
  have ca14 := ra'.cell 14
  have cb0 := rb'.cell 0
  have cb1 := rb'.cell 1
  have cb2 := rb'.cell 2
  have cb3 := rb'.cell 3
  have cb4 := rb'.cell 4
  have cb5 := rb'.cell 5
  have cb6 := rb'.cell 6
  have cb7 := rb'.cell 7
  have cb8 := rb'.cell 8
  have cb11 := rb'.cell 11
  have cb12 := rb'.cell 12
  have cb13 := rb'.cell 13
  have cb14 := rb'.cell 14
  simp only [List.getElem?_cons_zero, List.getElem?_cons_succ] at ca0 cb0 ca1 cb1 ca2 cb2 ca3 cb3 ca4 cb4 ca5 cb5 ca6 cb6 ca7 cb7 ca8 cb8 ca11 cb11 ca12 cb12 ca13 cb13 ca14 cb14
  clear ra' rb'
  go_wp2_with fail
  all_goals (go_ret; exact ⟨rfl, HB'.out⟩)
end Go.Proofs.Ytkkjfbpflfknpaa
