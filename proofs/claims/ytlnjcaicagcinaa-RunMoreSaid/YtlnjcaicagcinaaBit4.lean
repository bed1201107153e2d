/-
  An int without its two lowest bits. Nothing of the program.
-/
import Derived.Test.YtlnjcaicagcinaaBase
namespace Go.Proofs.Ytlnjcaicagcinaa

theorem and_not3 (x : BitVec 64) : x &&& ~~~(3#64) = (x >>> 2) <<< 2 := by
  apply BitVec.eq_of_getLsbD_eq
  intro i hi
  rw [BitVec.getLsbD_and, BitVec.getLsbD_not, BitVec.getLsbD_shiftLeft, BitVec.getLsbD_ushiftRight]
  by_cases h : i < 2
  · have : i = 0 ∨ i = 1 := by omega
    rcases this with rfl | rfl <;> simp
  · have e : (3#64).getLsbD i = false := by
      rw [BitVec.getLsbD_ofNat]
      have : Nat.testBit 3 i = false := Nat.testBit_lt_two_pow (Nat.lt_of_lt_of_le (by decide : 3 < 2 ^ 2) (Nat.pow_le_pow_right (by decide) (by omega)))
      simp [this]
    have e' : (3#64)[i] = false := by rw [← BitVec.getLsbD_eq_getElem]; exact e
    simp [e', h, hi, show 2 + (i - 2) = i by omega]
theorem andnot_4 (a : Int) (h : (Lit.int .i64 a).wf = true) : bits .andNot .i64 a 3 = a - a % 4 := by
  have b := bounds_i64 h
  show IntKind.i64.wrap ((BitVec.ofInt 64 a &&& ~~~BitVec.ofInt 64 3).toNat : Int) = _
  rw [show BitVec.ofInt 64 3 = 3#64 from rfl, and_not3, BitVec.toNat_shiftLeft, BitVec.toNat_ushiftRight, BitVec.toNat_ofInt, Nat.shiftLeft_eq, Nat.shiftRight_eq_div_pow]
  rw [IntKind.wrap_i64]
  omega
theorem wf_down4 (a : Int) (h : (Lit.int .i64 a).wf = true) : (Lit.int .i64 (a - a % 4)).wf = true := by
  have b := bounds_i64 h
  exact WalkArith.wf_i64 (by omega)
end Go.Proofs.Ytlnjcaicagcinaa
