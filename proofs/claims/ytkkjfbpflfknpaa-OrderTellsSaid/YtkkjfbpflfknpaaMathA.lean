/-
  Plain mathematics of words, bit by bit (layer 1): what Get, Put, Sign and Word come to, over natural numbers. Nothing of the program.
-/
import Derived.Laws.BitsAllLaws
import Derived.WalkKit
namespace Go.Proofs.Ytkkjfbpflfknpaa
open Go.RowKit

def getN (x a n : Nat) : Nat := x / 2 ^ a % 2 ^ n
def putN (x a n v : Nat) : Nat := x / 2 ^ (a + n) * 2 ^ (a + n) + (v % 2 ^ n * 2 ^ a + x % 2 ^ a)
def signI (v n : Nat) : Int := if v % 2 ^ n < 2 ^ (n - 1) then ((v % 2 ^ n : Nat) : Int) else ((v % 2 ^ n : Nat) : Int) - ((2 ^ n : Nat) : Int)

theorem getN_testBit (x a n j : Nat) : (getN x a n).testBit j = (decide (j < n) && x.testBit (a + j)) := by
  unfold getN
  rw [Nat.testBit_mod_two_pow, Nat.testBit_div_two_pow, Nat.add_comm j a]

theorem putN_testBit (x a n v j : Nat) : (putN x a n v).testBit j = if a ≤ j ∧ j < a + n then v.testBit (j - a) else x.testBit j := by
  have hL : x % 2 ^ a < 2 ^ a := Nat.mod_lt _ (Nat.two_pow_pos a)
  have hv : v % 2 ^ n < 2 ^ n := Nat.mod_lt _ (Nat.two_pow_pos n)
  have hm : v % 2 ^ n * 2 ^ a + x % 2 ^ a < 2 ^ (a + n) := by
    have h1 : (v % 2 ^ n + 1) * 2 ^ a ≤ 2 ^ n * 2 ^ a := Nat.mul_le_mul_right _ hv
    rw [Nat.pow_add, Nat.mul_comm (2 ^ a) (2 ^ n)]
    rw [Nat.add_mul, Nat.one_mul] at h1
    omega
  unfold putN
  rw [Nat.mul_comm (x / 2 ^ (a + n)), Nat.testBit_two_pow_mul_add _ hm, Nat.mul_comm (v % 2 ^ n), Nat.testBit_two_pow_mul_add _ hL]
  by_cases h1 : j < a + n
  · by_cases h2 : a ≤ j
    · have h3 : ¬ j < a := by omega
      simp only [h1, h2, h3, if_true, if_false, and_self]
      rw [Nat.testBit_mod_two_pow]
      have h4 : j - a < n := by omega
      simp [h4]
    · have h3 : j < a := by omega
      simp only [h1, h2, h3, if_true, false_and, if_false]
      rw [Nat.testBit_mod_two_pow]
      simp [h3]
  · simp only [h1, and_false, if_false]
    rw [Nat.testBit_div_two_pow]
    congr 1
    omega

theorem putN_lt (x a n v : Nat) (hx : x < 4294967296) (h : a + n ≤ 32) : putN x a n v < 4294967296 := by
  apply Nat.lt_pow_two_of_testBit (n := 32)
  intro i hi
  rw [putN_testBit, if_neg (by omega)]
  exact Nat.testBit_lt_two_pow (Nat.lt_of_lt_of_le hx (by simpa using Nat.pow_le_pow_right (n := 2) (by decide) hi))

theorem getN_lt (x a n : Nat) : getN x a n < 2 ^ n := Nat.mod_lt _ (Nat.two_pow_pos n)

theorem getN_le (x a n : Nat) (hx : x < 4294967296) : getN x a n < 4294967296 :=
  Nat.lt_of_le_of_lt (Nat.le_trans (Nat.mod_le _ _) (Nat.div_le_self _ _)) hx

/- what was put is got, and what lies beside it stays -/
theorem put_back (x a n v : Nat) : putN (putN x a n v) a n (getN x a n) = x := by
  apply Nat.eq_of_testBit_eq
  intro j
  rw [putN_testBit, putN_testBit, getN_testBit]
  split
  · have h1 : j - a < n := by omega
    have h2 : a + (j - a) = j := by omega
    simp [h1, h2]
  · rfl

theorem get_put (x a n v : Nat) : getN (putN x a n v) a n = getN v 0 n := by
  apply Nat.eq_of_testBit_eq
  intro j
  rw [getN_testBit, getN_testBit, putN_testBit]
  by_cases h : j < n
  · have h1 : a + j < a + n := by omega
    have h2 : a + j - a = j := by omega
    simp [h, h2]
  · simp [h]

theorem get_far (x a n v o : Nat) (h : o < a ∨ a + n ≤ o) : getN (putN x a n v) o 1 = getN x o 1 := by
  apply Nat.eq_of_testBit_eq
  intro j
  rw [getN_testBit, getN_testBit, putN_testBit]
  by_cases h1 : j < 1
  · have h2 : ¬ (a ≤ o + j ∧ o + j < a + n) := by omega
    simp [h1, h2]
  · simp [h1]

theorem get_near (x a n v o : Nat) (h1 : a ≤ o) (h2 : o < a + n) : getN (putN x a n v) o 1 = getN v (o - a) 1 := by
  apply Nat.eq_of_testBit_eq
  intro j
  rw [getN_testBit, getN_testBit, putN_testBit]
  by_cases h3 : j < 1
  · have h4 : a ≤ o + j ∧ o + j < a + n := by omega
    have h5 : o + j - a = o - a + j := by omega
    simp [h3, h4, h5]
  · simp [h3]

/- the forms in which the program's operations come to it -/
theorem ones_at : ∀ n : Fin 33, (4294967295 : Int) / 2 ^ (32 - n.val) = ((2 ^ n.val - 1 : Nat) : Int) := by decide +kernel

theorem pow_le_32 {n : Nat} (h : n ≤ 32) : 2 ^ n ≤ 4294967296 := by simpa using Nat.pow_le_pow_right (n := 2) (by decide) h

theorem cast_pow (n : Nat) : ((2 : Int) ^ n) = ((2 ^ n : Nat) : Int) := by simp

theorem get_form (x a n : Nat) (hx : x < 4294967296) (h2 : n ≤ 32) :
    bits BinOp.and IntKind.u32 ((x : Int) / 2 ^ a) ((2 ^ n - 1 : Nat) : Int) = ((getN x a n : Nat) : Int) := by
  have hp := pow_le_32 h2
  have hpos : 0 < 2 ^ n := Nat.two_pow_pos n
  have hd : (x : Int) / 2 ^ a = ((x / 2 ^ a : Nat) : Int) := by rw [cast_pow]; simp
  rw [hd, u32_and_nat _ _ (Nat.lt_of_le_of_lt (Nat.div_le_self _ _) hx) (by omega), Nat.and_two_pow_sub_one_eq_mod]
  rfl

theorem mask_lt (n a : Nat) (h : a + n ≤ 32) : (2 ^ n - 1) * 2 ^ a < 4294967296 := by
  have hp : 2 ^ (a + n) ≤ 4294967296 := pow_le_32 h
  have hpos : 0 < 2 ^ a := Nat.two_pow_pos a
  rw [Nat.pow_add, Nat.mul_comm] at hp
  rw [Nat.sub_mul, Nat.one_mul]
  have : 2 ^ a ≤ 2 ^ n * 2 ^ a := Nat.le_mul_of_pos_left _ (Nat.two_pow_pos n)
  omega

theorem part_lt (v n a : Nat) (h : a + n ≤ 32) : v % 2 ^ n * 2 ^ a < 4294967296 := by
  have h1 : v % 2 ^ n ≤ 2 ^ n - 1 := by have := Nat.mod_lt v (Nat.two_pow_pos n); omega
  exact Nat.lt_of_le_of_lt (Nat.mul_le_mul_right _ h1) (mask_lt n a h)

theorem put_form (x a n v : Nat) (hx : x < 4294967296) (hv : v < 4294967296) (h : a + n ≤ 32) :
    bits BinOp.or IntKind.u32 (bits BinOp.andNot IntKind.u32 (x : Int) (((2 ^ n - 1 : Nat) : Int) * 2 ^ a % 4294967296))
      (bits BinOp.and IntKind.u32 (v : Int) ((2 ^ n - 1 : Nat) : Int) * 2 ^ a % 4294967296) = ((putN x a n v : Nat) : Int) := by
  have hp := pow_le_32 (n := n) (by omega)
  have hpos : 0 < 2 ^ n := Nat.two_pow_pos n
  have hm := mask_lt n a h
  have hq := part_lt v n a h
  have e1 : (((2 ^ n - 1 : Nat) : Int) * 2 ^ a % 4294967296) = (((2 ^ n - 1) * 2 ^ a : Nat) : Int) := by
    rw [cast_pow, ← Int.natCast_mul]
    omega
  have e2 : bits BinOp.and IntKind.u32 (v : Int) ((2 ^ n - 1 : Nat) : Int) = ((v % 2 ^ n : Nat) : Int) := by
    rw [u32_and_nat _ _ hv (by omega), Nat.and_two_pow_sub_one_eq_mod]
  have e3 : ((v % 2 ^ n : Nat) : Int) * 2 ^ a % 4294967296 = ((v % 2 ^ n * 2 ^ a : Nat) : Int) := by
    rw [cast_pow, ← Int.natCast_mul]
    omega
  rw [e1, e2, e3, u32_andNot_nat _ _ hx hm, u32_or_nat _ _ (Nat.lt_of_le_of_lt Nat.and_le_left hx) hq]
  congr 1
  apply Nat.eq_of_testBit_eq
  intro j
  have e4 : 4294967295 - (2 ^ n - 1) * 2 ^ a = 2 ^ 32 - ((2 ^ n - 1) * 2 ^ a + 1) := by omega
  rw [putN_testBit, Nat.testBit_or, Nat.testBit_and, e4, Nat.testBit_two_pow_sub_succ (by simpa using hm), Nat.testBit_mul_two_pow, Nat.testBit_mul_two_pow, Nat.testBit_two_pow_sub_one, Nat.testBit_mod_two_pow]
  by_cases h1 : a ≤ j
  · by_cases h2 : j < a + n
    · have h3 : j - a < n := by omega
      have h4 : j < 32 := by omega
      simp [h1, h2, h3, h4]
    · have h3 : ¬ j - a < n := by omega
      simp only [h1, h2, h3, and_false, if_false, decide_false, Bool.and_false, Bool.false_and, Bool.not_false, Bool.and_true, Bool.or_false]
      by_cases h4 : j < 32
      · simp [h4]
      · have h5 : x.testBit j = false := Nat.testBit_lt_two_pow (Nat.lt_of_lt_of_le hx (by simpa using Nat.pow_le_pow_right (n := 2) (by decide) (Nat.le_of_not_lt h4)))
        simp [h5]
  · have h4 : j < 32 := by omega
    simp [h1, h4]

theorem sign_form (v n : Nat) (h1 : 1 ≤ n) (h2 : n ≤ 32) : wrap32 ((v : Int) * 2 ^ (32 - n) % 4294967296) / 2 ^ (32 - n) = signI v n := by
  have hs : 2 ^ n * 2 ^ (32 - n) = 4294967296 := by
    rw [← Nat.pow_add, show n + (32 - n) = 32 by omega]
  have hh : 2 ^ (n - 1) * 2 ^ (32 - n) = 2147483648 := by
    rw [← Nat.pow_add, show n - 1 + (32 - n) = 31 by omega]
  have hpos : 0 < 2 ^ (32 - n) := Nat.two_pow_pos _
  have e1 : (v : Int) * 2 ^ (32 - n) % 4294967296 = ((v % 2 ^ n * 2 ^ (32 - n) : Nat) : Int) := by
    rw [cast_pow, ← Int.natCast_mul, show (4294967296 : Int) = ((4294967296 : Nat) : Int) from rfl, ← Int.natCast_emod, ← hs, Nat.mul_mod_mul_right]
  have hm : v % 2 ^ n < 2 ^ n := Nat.mod_lt _ (Nat.two_pow_pos n)
  rw [e1, cast_pow]
  unfold signI
  generalize v % 2 ^ n = m at hm ⊢
  generalize 2 ^ (32 - n) = q at hs hh hpos ⊢
  generalize 2 ^ (n - 1) = r at hh ⊢
  generalize 2 ^ n = p at hs hm ⊢
  have hmq : m * q < 4294967296 := by rw [← hs]; exact Nat.mul_lt_mul_of_pos_right hm hpos
  have hq0 : (q : Int) ≠ 0 := by omega
  split
  · rename_i hlt
    have h3 : m * q < 2147483648 := by rw [← hh]; exact Nat.mul_lt_mul_of_pos_right hlt hpos
    have h4 : wrap32 ((m * q : Nat) : Int) = ((m * q : Nat) : Int) := by unfold wrap32; omega
    rw [h4, Int.natCast_mul, Int.mul_ediv_cancel _ hq0]
  · rename_i hge
    have h3 : 2147483648 ≤ m * q := by rw [← hh]; exact Nat.mul_le_mul_right _ (by omega)
    have h4 : wrap32 ((m * q : Nat) : Int) = ((m * q : Nat) : Int) - 4294967296 := by unfold wrap32; omega
    have h5 : ((m * q : Nat) : Int) - 4294967296 = ((m : Int) - (p : Int)) * (q : Int) := by
      rw [Int.sub_mul, ← Int.natCast_mul, ← Int.natCast_mul, hs]
      rfl
    rw [h4, h5, Int.mul_ediv_cancel _ hq0]

theorem signI_lo (v n : Nat) (h1 : 1 ≤ n) (h2 : n ≤ 32) : -2147483648 ≤ signI v n ∧ signI v n ≤ 2147483647 := by
  have hs : 2 ^ (n - 1) * 2 = 2 ^ n := by rw [← Nat.pow_succ, show (n - 1).succ = n by omega]
  have hp : 2 ^ (n - 1) ≤ 2147483648 := by simpa using Nat.pow_le_pow_right (n := 2) (by decide) (show n - 1 ≤ 31 by omega)
  have hm : v % 2 ^ n < 2 ^ n := Nat.mod_lt _ (Nat.two_pow_pos n)
  unfold signI
  split <;> omega

/- the document's form of Put -/
theorem put_doc (x a n v : Nat) : (x : Int) - (getN x a n : Int) * ((2 ^ a : Nat) : Int) + ((v % 2 ^ n : Nat) : Int) * ((2 ^ a : Nat) : Int) = ((putN x a n v : Nat) : Int) := by
  have e1 : x = x / 2 ^ (a + n) * 2 ^ (a + n) + (getN x a n * 2 ^ a + x % 2 ^ a) := by
    have h1 := Nat.div_add_mod x (2 ^ a)
    have h2 := Nat.div_add_mod (x / 2 ^ a) (2 ^ n)
    rw [Nat.div_div_eq_div_mul, ← Nat.pow_add] at h2
    unfold getN
    calc x = 2 ^ a * (x / 2 ^ a) + x % 2 ^ a := h1.symm
      _ = 2 ^ a * (2 ^ n * (x / 2 ^ (a + n)) + x / 2 ^ a % 2 ^ n) + x % 2 ^ a := by rw [h2]
      _ = _ := by rw [Nat.mul_add, ← Nat.mul_assoc, ← Nat.pow_add, Nat.mul_comm (2 ^ (a + n)), Nat.mul_comm (2 ^ a) (x / 2 ^ a % 2 ^ n), Nat.add_assoc]
  unfold putN
  rw [← Int.natCast_mul, ← Int.natCast_mul]
  omega

def twoN (n : Nat) : Nat := 2 ^ n
theorem twoN_zero : twoN 0 = 1 := rfl
theorem twoN_succ (n : Nat) : twoN (n + 1) = 2 * twoN n := by unfold twoN; rw [Nat.pow_succ, Nat.mul_comm]
theorem twoN_pos (n : Nat) : 1 ≤ twoN n := Nat.two_pow_pos n
theorem twoN_le {n m : Nat} (h : n ≤ m) : twoN n ≤ twoN m := Nat.pow_le_pow_right (by decide) h

theorem wrap64_id {z : Int} (h1 : -9223372036854775808 ≤ z) (h2 : z ≤ 9223372036854775807) : wrap64 z = z := IntWalk.wrap64_in z ⟨h1, h2⟩

theorem refGet_form (x a n : Nat) (hx : x < 4294967296) : (wrap64 ((x : Int) / (twoN a : Nat))).tmod ((twoN n : Nat) : Int) % 4294967296 = ((getN x a n : Nat) : Int) := by
  have h1 : (x : Int) / (twoN a : Nat) = ((x / twoN a : Nat) : Int) := by simp
  have h2 : x / twoN a ≤ x := Nat.div_le_self _ _
  have h3 := getN_le x a n hx
  have h4 : wrap64 ((x / twoN a : Nat) : Int) = ((x / twoN a : Nat) : Int) := by
    generalize x / twoN a = q at h2 ⊢
    exact wrap64_id (by omega) (by omega)
  rw [h1, h4, ← Int.ofNat_tmod]
  show ((getN x a n : Nat) : Int) % 4294967296 = _
  omega

theorem refPut_form (x a n v : Nat) (hx : x < 4294967296) (h : a + n ≤ 32) :
    wrap64 (wrap64 ((x : Int) - wrap64 (wrap64 ((getN x a n : Nat) : Int) * ((twoN a : Nat) : Int))) + wrap64 ((v : Int) % ((twoN n : Nat) : Int) * ((twoN a : Nat) : Int))) % 4294967296 = ((putN x a n v : Nat) : Int) := by
  have g1 : getN x a n * twoN a ≤ x := Nat.le_trans (Nat.mul_le_mul_right _ (Nat.mod_le _ _)) (Nat.div_mul_le_self _ _)
  have g2 : v % twoN n * twoN a < 4294967296 := part_lt v n a h
  have g3 := getN_le x a n hx
  have g4 := putN_lt x a n v hx h
  have d := put_doc x a n v
  have e0 : (v : Int) % ((twoN n : Nat) : Int) = ((v % twoN n : Nat) : Int) := by simp
  change (x : Int) - (getN x a n : Int) * ((twoN a : Nat) : Int) + ((v % twoN n : Nat) : Int) * ((twoN a : Nat) : Int) = _ at d
  rw [e0]
  rw [← Int.natCast_mul, ← Int.natCast_mul] at d
  rw [wrap64_id (z := ((getN x a n : Nat) : Int)) (by omega) (by omega), ← Int.natCast_mul, ← Int.natCast_mul]
  generalize getN x a n * twoN a = A at g1 d ⊢
  generalize v % twoN n * twoN a = B at g2 d ⊢
  rw [wrap64_id (z := (A : Int)) (by omega) (by omega), wrap64_id (z := (B : Int)) (by omega) (by omega), wrap64_id (z := (x : Int) - (A : Int)) (by omega) (by omega), wrap64_id (by omega) (by omega)]
  omega

theorem refSign_hi (v n : Nat) (h1 : 1 ≤ n) (h2 : n ≤ 32) (h : ((twoN (n - 1) : Nat) : Int) ≤ (v : Int) % ((twoN n : Nat) : Int)) :
    wrap32 (wrap64 ((v : Int) % ((twoN n : Nat) : Int) - ((twoN n : Nat) : Int))) = signI v n := by
  have e0 : (v : Int) % ((twoN n : Nat) : Int) = ((v % twoN n : Nat) : Int) := by simp
  have hl := signI_lo v n h1 h2
  rw [e0] at h ⊢
  have e1 : signI v n = ((v % twoN n : Nat) : Int) - ((twoN n : Nat) : Int) := by
    have : ¬ v % twoN n < twoN (n - 1) := by omega
    exact if_neg this
  rw [e1] at hl ⊢
  generalize ((v % twoN n : Nat) : Int) - ((twoN n : Nat) : Int) = z at hl ⊢
  rw [wrap64_id (by omega) (by omega)]
  unfold wrap32
  omega

theorem refSign_low (v n : Nat) (h1 : 1 ≤ n) (h2 : n ≤ 32) (h : (v : Int) % ((twoN n : Nat) : Int) < ((twoN (n - 1) : Nat) : Int)) :
    wrap32 ((v : Int) % ((twoN n : Nat) : Int)) = signI v n := by
  have e0 : (v : Int) % ((twoN n : Nat) : Int) = ((v % twoN n : Nat) : Int) := by simp
  have hl := signI_lo v n h1 h2
  rw [e0] at h ⊢
  have e1 : signI v n = ((v % twoN n : Nat) : Int) := by
    have : v % twoN n < twoN (n - 1) := by omega
    exact if_pos this
  rw [e1] at hl ⊢
  generalize ((v % twoN n : Nat) : Int) = z at hl ⊢
  unfold wrap32
  omega

/- a word of bytes, the lowest first; the bytes of a word -/
def wordN : List Nat → Nat
  | [] => 0
  | b :: r => b + 256 * wordN r
def wordOf (l : List Nat) : Nat := wordN (l.take 4)
def byteN (x i : Nat) : Nat := x / 2 ^ (8 * i) % 256

theorem wordN_lt (l : List Nat) (h : ∀ b ∈ l, b < 256) : wordN l < 2 ^ (8 * l.length) := by
  induction l with
  | nil => simp [wordN]
  | cons b r ih =>
    have h1 := ih fun c hc => h c (List.mem_cons_of_mem _ hc)
    have h2 := h b (List.mem_cons_self)
    have h3 : 2 ^ (8 * (b :: r).length) = 256 * 2 ^ (8 * r.length) := by
      rw [List.length_cons, Nat.mul_add, Nat.mul_one, Nat.pow_add, Nat.mul_comm]
    rw [h3]
    show b + 256 * wordN r < _
    omega

theorem wordN_snoc (l : List Nat) (b : Nat) : wordN (l ++ [b]) = wordN l + b * 2 ^ (8 * l.length) := by
  induction l with
  | nil => simp [wordN]
  | cons c r ih =>
    have h3 : 2 ^ (8 * (c :: r).length) = 256 * 2 ^ (8 * r.length) := by
      rw [List.length_cons, Nat.mul_add, Nat.mul_one, Nat.pow_add, Nat.mul_comm]
    show c + 256 * wordN (r ++ [b]) = c + 256 * wordN r + b * 2 ^ (8 * (c :: r).length)
    rw [ih, h3, Nat.mul_add, Nat.mul_left_comm b 256, Nat.add_assoc]

theorem wordN_take_succ (l : List Nat) (k : Nat) (h : k < l.length) : wordN (l.take (k + 1)) = wordN (l.take k) + l.getD k 0 * 2 ^ (8 * k) := by
  rw [List.take_succ_eq_append_getElem h, wordN_snoc, List.length_take, Nat.min_eq_left (by omega)]
  simp [List.getD, h]

theorem wordN_take_lt (l : List Nat) (k : Nat) (h : ∀ b ∈ l, b < 256) (hk : k ≤ 4) : wordN (l.take k) < 4294967296 := by
  have h1 := wordN_lt (l.take k) fun b hb => h b (List.mem_of_mem_take hb)
  refine Nat.lt_of_lt_of_le h1 ?_
  have h2 : (l.take k).length ≤ k := List.length_take_le _ _
  exact pow_le_32 (by omega)

theorem getD_lt (l : List Nat) (k : Nat) (h : ∀ b ∈ l, b < 256) : l.getD k 0 < 256 := by
  by_cases hk : k < l.length
  · have : l.getD k 0 = l[k] := by simp [List.getD, hk]
    rw [this]
    exact h _ (List.getElem_mem hk)
  · have : l.getD k 0 = 0 := by simp [List.getD, Nat.le_of_not_lt hk]
    omega

/- one round of Word -/
theorem word_round (l : List Nat) (k : Nat) (h : ∀ b ∈ l, b < 256) (hk : k < l.length) (h4 : k < 4) :
    bits BinOp.or IntKind.u32 ((wordN (l.take k) : Nat) : Int) (((l.getD k 0 : Nat) : Int) * 2 ^ (8 * k) % 4294967296) = ((wordN (l.take (k + 1)) : Nat) : Int) := by
  have hb := getD_lt l k h
  have h1 := wordN_lt (l.take k) fun b hb => h b (List.mem_of_mem_take hb)
  rw [List.length_take, Nat.min_eq_left (Nat.le_of_lt hk)] at h1
  have h2 := wordN_take_lt l k h (by omega)
  have h5 : 2 ^ (8 * k) * 256 ≤ 4294967296 := by
    have : 2 ^ (8 * k) * 2 ^ 8 ≤ 4294967296 := by rw [← Nat.pow_add]; exact pow_le_32 (by omega)
    simpa using this
  have h3 : l.getD k 0 * 2 ^ (8 * k) < 4294967296 := by
    have : (l.getD k 0 + 1) * 2 ^ (8 * k) ≤ 256 * 2 ^ (8 * k) := Nat.mul_le_mul_right _ hb
    rw [Nat.add_mul, Nat.one_mul] at this
    have hp : 0 < 2 ^ (8 * k) := Nat.two_pow_pos _
    omega
  have e1 : ((l.getD k 0 : Nat) : Int) * 2 ^ (8 * k) % 4294967296 = ((l.getD k 0 * 2 ^ (8 * k) : Nat) : Int) := by
    rw [cast_pow, ← Int.natCast_mul]
    omega
  rw [e1, u32_or_nat _ _ h2 h3, wordN_take_succ l k hk, Nat.or_comm, Nat.add_comm, Nat.mul_comm (l.getD k 0), Nat.two_pow_add_eq_or_of_lt h1]

theorem byteN_lt (x i : Nat) : byteN x i < 256 := Nat.mod_lt _ (by decide)

theorem word_bytes (x : Nat) (hx : x < 4294967296) : wordOf [byteN x 0, byteN x 1, byteN x 2, byteN x 3] = x := by
  simp [wordOf, wordN, byteN]
  omega

theorem byte_0 (x : Nat) : ((byteN x 0 : Nat) : Int) = (x : Int) % 256 := by unfold byteN; simp
theorem byte_1 (x : Nat) : ((byteN x 1 : Nat) : Int) = (x : Int) / 256 % 256 := by unfold byteN; simp
theorem byte_2 (x : Nat) : ((byteN x 2 : Nat) : Int) = (x : Int) / 65536 % 256 := by unfold byteN; simp
theorem byte_3 (x : Nat) (hx : x < 4294967296) : ((byteN x 3 : Nat) : Int) = (x : Int) / 16777216 := by
  unfold byteN
  simp
  omega

/- the document's Word, from the highest byte down -/
theorem word_drop_lt (l : List Nat) (k : Nat) (h : ∀ b ∈ l, b < 256) (hk : 1 ≤ k) : wordN ((l.take 4).drop k) < 16777216 := by
  have h1 := wordN_lt ((l.take 4).drop k) fun b hb => h b (List.mem_of_mem_take (List.mem_of_mem_drop hb))
  refine Nat.lt_of_lt_of_le h1 ?_
  have h2 : ((l.take 4).drop k).length ≤ 3 := by rw [List.length_drop, List.length_take]; omega
  simpa using Nat.pow_le_pow_right (n := 2) (by decide) (show 8 * ((l.take 4).drop k).length ≤ 24 by omega)

theorem word_drop_some (l : List Nat) (j : Nat) (hj : j < l.length) (h4 : j < 4) : wordN ((l.take 4).drop j) = 256 * wordN ((l.take 4).drop (j + 1)) + l.getD j 0 := by
  have hl : j < (l.take 4).length := by rw [List.length_take]; omega
  rw [List.drop_eq_getElem_cons hl]
  show (l.take 4)[j] + 256 * wordN ((l.take 4).drop (j + 1)) = _
  have : (l.take 4)[j] = l.getD j 0 := by simp [List.getD, hj]
  omega

theorem word_drop_none (l : List Nat) (j : Nat) (hj : l.length ≤ j) : wordN ((l.take 4).drop j) = 256 * wordN ((l.take 4).drop (j + 1)) := by
  have h1 : (l.take 4).length ≤ j := by rw [List.length_take]; omega
  rw [List.drop_eq_nil_of_le h1, List.drop_eq_nil_of_le (by omega)]
  rfl
end Go.Proofs.Ytkkjfbpflfknpaa
