/-
  ChainWalks (layer 13), at any arguments as they are read. No conditions.
-/
import Derived.Test.YtfpifpmndioefaaChW
namespace Go.Proofs.Ytfpifpmndioefaa
open Go.ChangeShapes Go.WideShapes Go.ChangeAt Go.RowKit

theorem chainWalks_all (a : Option Addr) (n cap : Nat) (head op : Int) (_ : Unit) (x : InsD) (d m e : Int) (w : World) (hc : ∃ code, WordsAt w (.slice a n cap) code) (hh : (Lit.int .i64 head).wf = true) (_ : (Lit.int .i64 op).wf = true) (_ : (Lit.int .i64 x.n).wf = true) (_ : (Lit.int .i64 d).wf = true) (_ : (Lit.int .i64 m).wf = true) (_ : (Lit.int .i64 e).wf = true) :
    Calls Try.prog 3 #[.slice a n cap, .int .i64 head, .int .i64 op, .agg (insRow x.o x.a x.b x.n).toArray, .int .i64 d, .int .i64 m, .int .i64 e] w fun e w' => e = .returned (.bool true) ∧ Below w.heap.size w w' := by
  obtain ⟨code, hc⟩ := hc
  by_cases hn : 600 < n
  · exact chain_long a n cap code head op x.o x.a x.b x.n d m e w hc hn
  · cases hans : walkV code head op with
    | none => exact chain_none a n cap code head op x.o x.a x.b x.n d m e w hc (by omega) hh hans
    | some r => exact chain_some a n cap code head op x.o x.a x.b x.n d m e w hc (by omega) hh r hans
end Go.Proofs.Ytfpifpmndioefaa
