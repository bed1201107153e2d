/-
  Contracts of the document's PutIns (layer 2). No conditions beyond those that each theorem names.
-/
import Derived.Test.YtkkjfbpflfknpaaInsC
import Derived.Test.YtkkjfbpflfknpaaMathB
namespace Go.Proofs.Ytkkjfbpflfknpaa
open Go.ChangeShapes Go.WideShapes Go.ChangeAt Go.RowKit

theorem put_number (o a b : Nat) (n : Int) (h1 : 0 ≤ n) (h2 : n ≤ 131071) :
    (o : Int) * 67108864 + (a : Int) * 4194304 + (b : Int) * 262144 + n = ((insN o a b (lowN n) : Nat) : Int) := by
  have h := lowN_cast n
  unfold insN
  omega
theorem put_number_neg (o a b : Nat) (n : Int) (h1 : -131072 ≤ n) (h2 : n < 0) :
    (o : Int) * 67108864 + (a : Int) * 4194304 + (b : Int) * 262144 + (n + 262144) = ((insN o a b (lowN n) : Nat) : Int) := by
  have h := lowN_cast n
  unfold insN
  omega

set_option maxRecDepth 100000 in
set_option maxHeartbeats 1000000 in
theorem refPutIns_any (o a b : Nat) (n : Int) (w : World) (ho : o < 64) (ha : a < 16) (hb : b < 16) (h1 : -131072 ≤ n) (h2 : n ≤ 131071) :
    Calls Try.prog 21 #[.agg #[.int .i64 o, .int .i64 a, .int .i64 b, .int .i64 n]] w fun e w' => e = .returned (.int .u32 (insN o a b (lowN n) : Nat)) ∧ Below w.heap.size w w' := by
  by_cases h3 : n < 0
  · go_enter Try.func21, Try.ntmps21
    go_wp2
    go_ret
    exact ⟨end_int (put_number_neg o a b n h1 h3), (Below.refl _ _).alloc (Nat.le_refl _) _⟩
  · have h4 : 0 ≤ n := by omega
    clear h3
    go_enter Try.func21, Try.ntmps21
    go_wp2
    go_ret
    exact ⟨end_int (put_number o a b n h4 h2), (Below.refl _ _).alloc (Nat.le_refl _) _⟩
end Go.Proofs.Ytkkjfbpflfknpaa
