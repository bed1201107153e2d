/-
  RelocGoes (layer 17), at any arguments as they are read. No conditions.
-/
import Derived.Test.YtjdahhckofjjhaaReX
namespace Go.Proofs.Ytjdahhckofjjhaa
open Go.ChangeShapes Go.WideShapes Go.ChangeAt Go.RowKit

theorem relocGoes_read (n at_ from_ tgt a : Int) (s : Bool) (_ : (Lit.int .i64 n).wf = true) (_ : (Lit.int .i64 at_).wf = true) (_ : (Lit.int .i64 from_).wf = true) (_ : (Lit.int .i64 tgt).wf = true) (_ : (Lit.int .i64 a).wf = true) (w : World) :
    Calls Try.prog 4 #[.int .i64 n, .int .i64 at_, .int .i64 from_, .int .i64 tgt, .int .i64 a, .bool s] w fun e w' => e = .returned (.bool true) ∧ Below w.heap.size w w' :=
  relocGoes_all n at_ from_ tgt a s w
end Go.Proofs.Ytjdahhckofjjhaa
