/-
  Plain mathematics of an instruction's word (layer 2): its parts, put and got, over natural numbers. Nothing of the program.
-/
import Derived.Test.YtkkjfbpflfknpaaMathA
namespace Go.Proofs.Ytkkjfbpflfknpaa
open Go.RowKit

/- the word of an instruction's parts: o, a, b natural numbers, m the lowest 18 bits -/
def insN (o a b m : Nat) : Nat := o * 67108864 + a * 4194304 + b * 262144 + m
/- the lowest 18 bits of a number with a sign -/
def lowN (n : Int) : Nat := (n % 262144).toNat

theorem lowN_lt (n : Int) : lowN n < 262144 := by unfold lowN; omega
theorem lowN_cast (n : Int) : (lowN n : Int) = n % 262144 := by unfold lowN; omega

theorem putN_zero_26 (o : Nat) (h : o < 64) : putN 0 26 6 o = o * 67108864 := by
  have e : (2 : Nat) ^ 26 = 67108864 := by decide
  unfold putN
  rw [Nat.zero_div, Nat.zero_mul, Nat.zero_add, Nat.zero_mod, Nat.add_zero, Nat.mod_eq_of_lt h, e]

theorem putN_22 (o a : Nat) (ha : a < 16) : putN (o * 67108864) 22 4 a = o * 67108864 + a * 4194304 := by
  unfold putN
  simp
  omega

theorem putN_18 (o a b : Nat) (hb : b < 16) : putN (o * 67108864 + a * 4194304) 18 4 b = o * 67108864 + a * 4194304 + b * 262144 := by
  unfold putN
  simp
  omega

theorem putN_0 (o a b v : Nat) : putN (o * 67108864 + a * 4194304 + b * 262144) 0 18 v = insN o a b (v % 262144) := by
  unfold putN insN
  simp
  omega

theorem insN_lt (o a b m : Nat) (ho : o < 64) (ha : a < 16) (hb : b < 16) (hm : m < 262144) : insN o a b m < 4294967296 := by
  unfold insN
  omega

/- a number as a word, its lowest 18 bits -/
theorem u32_low (n : Int) : ((n % 4294967296).toNat) % 262144 = lowN n := by unfold lowN; omega
theorem u32_cast (n : Int) : n % 4294967296 = (((n % 4294967296).toNat : Nat) : Int) := by omega
theorem u32_toNat_lt (n : Int) : (n % 4294967296).toNat < 4294967296 := by omega

/- the parts of a word -/
theorem getN_26 (o a b m : Nat) (ho : o < 64) (ha : a < 16) (hb : b < 16) (hm : m < 262144) : getN (insN o a b m) 26 6 = o := by
  unfold getN insN
  simp
  omega
theorem getN_22 (o a b m : Nat) (ha : a < 16) (hb : b < 16) (hm : m < 262144) : getN (insN o a b m) 22 4 = a := by
  unfold getN insN
  simp
  omega
theorem getN_18 (o a b m : Nat) (hb : b < 16) (hm : m < 262144) : getN (insN o a b m) 18 4 = b := by
  unfold getN insN
  simp
  omega
theorem getN_0 (o a b m : Nat) (hm : m < 262144) : getN (insN o a b m) 0 18 = m := by
  unfold getN insN
  simp
  omega

theorem signI_low (n : Int) (h1 : -131072 ≤ n) (h2 : n ≤ 131071) : signI (lowN n) 18 = n := by
  have h := lowN_cast n
  unfold signI
  simp
  split <;> omega

theorem signI_18 (v : Nat) : -131072 ≤ signI v 18 ∧ signI v 18 ≤ 131071 := by
  unfold signI
  simp
  split <;> omega

theorem low_signI (v : Nat) (h : v < 262144) : lowN (signI v 18) = v := by
  unfold lowN signI
  simp
  split <;> omega

theorem ins_parts (x : Nat) (_hx : x < 4294967296) : insN (getN x 26 6) (getN x 22 4) (getN x 18 4) (getN x 0 18) = x := by
  unfold getN insN
  simp
  omega

theorem getN_26_div (x : Nat) (hx : x < 4294967296) : ((getN x 26 6 : Nat) : Int) = (x : Int) / 67108864 := by
  unfold getN
  simp
  omega
theorem getN_22_div (x : Nat) : ((getN x 22 4 : Nat) : Int) = (x : Int) / 4194304 % 16 := by
  unfold getN
  simp
theorem getN_18_div (x : Nat) : ((getN x 18 4 : Nat) : Int) = (x : Int) / 262144 % 16 := by
  unfold getN
  simp
theorem getN_0_mod (x : Nat) : ((getN x 0 18 : Nat) : Int) = (x : Int) % 262144 := by
  unfold getN
  simp
end Go.Proofs.Ytkkjfbpflfknpaa
