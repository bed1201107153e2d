/-
  The walk of MemPlays (layer 4): it returns true and changes nothing that was there. No conditions.
-/
import Derived.Test.YtibdoephpfbjdaaMemF
namespace Go.Proofs.Ytibdoephpfbjdaa
open Go.ChangeShapes Go.WideShapes Go.ChangeAt Go.RowKit

theorem memPlays_walk (s : Int) (a : Option Addr) (n cap : Nat) (f t : Int) (w : World) (_w0 : (Lit.int .i64 s).wf = true) (hd : ∃ X Y Z, Deeds w a n X Y Z) (_w2 : (Lit.int .i64 f).wf = true) (_w3 : (Lit.int .i64 t).wf = true) :
    Calls Try.prog 3 #[.int .i64 s, .slice a n cap, .int .i64 f, .int .i64 t] w fun e w' => e = .returned (.bool true) ∧ Below w.heap.size w w' := by
  obtain ⟨X, Y, Z, hd⟩ := hd
  by_cases hb : s < 1024 ∨ 65536 < s ∨ s.tmod 4 ≠ 0
  · exact memPlays_bad s a n cap f t w hb
  · have h1 : 1024 ≤ s := by omega
    have h2 : s ≤ 65536 := by omega
    have h4 : s.tmod 4 = 0 := by
      rcases Int.instDecidableEq (s.tmod 4) 0 with h | h
      · exact absurd (.inr (.inr h)) hb
      · exact h
    rw [Int.tmod_eq_emod_of_nonneg (by omega)] at h4
    obtain ⟨m, rfl⟩ := Int.eq_ofNat_of_zero_le (show 0 ≤ s by omega)
    by_cases hs : 4096 < m ∨ 150 < n
    · exact memPlays_big m a n cap f t w (by omega) (by omega) (by omega) hs
    · exact memPlays_small m a n cap X Y Z f t w hd (by omega) (by omega) (by omega) (by omega)
end Go.Proofs.Ytibdoephpfbjdaa
