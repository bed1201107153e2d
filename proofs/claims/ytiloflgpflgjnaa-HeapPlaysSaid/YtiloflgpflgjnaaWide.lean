/-
  Worlds that are the same but for some blocks: more blocks. Nothing of the program.
-/
import Derived.Test.YtiloflgpflgjnaaBase
namespace Go.Proofs.Ytiloflgpflgjnaa
theorem Kept.wide {S T : Nat → Prop} {a b : World} (h : Kept S a b) (hT : ∀ k, S k → T k) : Kept T a b := ⟨h.still, h.more, fun k hk ht => h.rest k hk fun hs => ht (hT k hs)⟩
end Go.Proofs.Ytiloflgpflgjnaa
