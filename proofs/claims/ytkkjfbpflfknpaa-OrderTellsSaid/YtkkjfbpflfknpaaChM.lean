/-
  Plain mathematics of chains (layer 13): a word's reference, what a walk comes to, an instruction's N. Nothing of the program.
-/
import Derived.Test.YtkkjfbpflfknpaaInsA
import Derived.Test.YtkkjfbpflfknpaaMathB
namespace Go.Proofs.Ytkkjfbpflfknpaa
open Go.RowKit

/- a reference -/
structure RefD where
  at_ : Int
  mod : Nat
  ent : Nat
def refRow (r : RefD) : List Value := [.int .i64 r.at_, .int .i64 (r.mod : Nat), .int .i64 (r.ent : Nat)]
theorem refRow_len (r : RefD) : (refRow r).length = 3 := rfl
theorem refRow_one (r : RefD) : ∀ u ∈ refRow r, u.oneCell' = true := by
  intro u hu
  simp only [refRow, List.mem_cons, List.not_mem_nil, or_false] at hu
  rcases hu with rfl | rfl | rfl <;> rfl
/- what a word tells -/
def refOf (p : Int) (x : Nat) : RefD := ⟨p, getN x 6 4, getN x 0 6⟩
def downN (x : Nat) : Nat := getN x 10 8
/- a word that may be in a chain -/
def Refers (x : Nat) (op : Int) : Prop := MayP (getN x 26 6 : Nat) (getN x 22 4 : Nat) (getN x 18 4 : Nat) (signI (getN x 0 18) 18) ∧ ((getN x 26 6 : Nat) : Int) = op ∧ ((getN x 18 4 : Nat) : Int) = 0

/- what a walk comes to from a place on, behind what was met -/
open Classical in
noncomputable def walkG (code : List Nat) (op : Int) (p : Int) (acc : List RefD) : Option (List RefD) :=
  if _h : 0 ≤ p ∧ p < code.length then
    if Refers (code.getD p.toNat 0) op then
      if _hd : downN (code.getD p.toNat 0) = 0 then some (acc ++ [refOf p (code.getD p.toNat 0)])
      else walkG code op (p - downN (code.getD p.toNat 0)) (acc ++ [refOf p (code.getD p.toNat 0)])
    else none
  else none
  termination_by (p + 1).toNat
  decreasing_by omega
noncomputable def walkV (code : List Nat) (head op : Int) : Option (List RefD) := if head = 0 then some [] else if head < 0 then none else walkG code op (head - 1) []

theorem walk_out {code : List Nat} {op p : Int} {acc : List RefD} (h : p < 0 ∨ (code.length : Int) ≤ p) : walkG code op p acc = none := by
  rw [walkG, dif_neg (by omega)]
theorem walk_bad {code : List Nat} {op : Int} {k : Nat} {acc : List RefD} {x : Nat} (hx : code[k]? = some x) (h : ¬ Refers x op) : walkG code op k acc = none := by
  have hk := (List.getElem?_eq_some_iff.1 hx).1
  have e : code.getD (k : Int).toNat 0 = x := by simp [List.getD, hx]
  rw [walkG, dif_pos (by omega), e, if_neg h]
theorem walk_last {code : List Nat} {op : Int} {k : Nat} {acc : List RefD} {x : Nat} (hx : code[k]? = some x) (h : Refers x op) (hd : downN x = 0) : walkG code op k acc = some (acc ++ [refOf k x]) := by
  have hk := (List.getElem?_eq_some_iff.1 hx).1
  have e : code.getD (k : Int).toNat 0 = x := by simp [List.getD, hx]
  rw [walkG, dif_pos (by omega), e, if_pos h, dif_pos hd]
theorem walk_on {code : List Nat} {op : Int} {k : Nat} {acc : List RefD} {x : Nat} (hx : code[k]? = some x) (h : Refers x op) (hd : downN x ≠ 0) : walkG code op k acc = walkG code op ((k : Int) - downN x) (acc ++ [refOf k x]) := by
  have hk := (List.getElem?_eq_some_iff.1 hx).1
  have e : code.getD (k : Int).toNat 0 = x := by simp [List.getD, hx]
  rw [walkG, dif_pos (by omega), e, if_pos h, dif_neg hd]

theorem getN_6 (x : Nat) : getN x 6 4 = x % 262144 / 64 % 16 := by
  unfold getN
  simp
  omega
theorem getN_6_0 (x : Nat) : getN x 0 6 = x % 262144 % 64 := by
  unfold getN
  simp
theorem getN_10 (x : Nat) : getN x 10 8 = x % 262144 / 1024 := by
  unfold getN
  simp
  omega
theorem downN_lt (x : Nat) : downN x < 256 := by
  have := getN_lt x 10 8
  simpa [downN] using this

/- an instruction's N -/
def markN (d m e : Nat) : Nat := 1024 * d + 64 * m + e
def markI (d m e : Nat) : Int := if 131071 < (markN d m e : Int) then (markN d m e : Int) - 262144 else (markN d m e : Int)
theorem putN_10 (d : Nat) (hd : d < 256) : putN 0 10 8 d = 1024 * d := by
  unfold putN
  simp
  omega
theorem putN_6 (d m : Nat) (hm : m < 16) : putN (1024 * d) 6 4 m = 1024 * d + 64 * m := by
  unfold putN
  simp
  omega
theorem putN_0_6 (d m e : Nat) (he : e < 64) : putN (1024 * d + 64 * m) 0 6 e = markN d m e := by
  unfold putN markN
  simp
  omega
theorem markN_lt {d m e : Nat} (hd : d < 256) (hm : m < 16) (he : e < 64) : markN d m e < 262144 := by
  unfold markN
  omega
theorem sign_mark {d m e : Nat} (hd : d < 256) (hm : m < 16) (he : e < 64) : signI (markN d m e) 18 = markI d m e := by
  have := markN_lt hd hm he
  unfold signI markI
  simp
  split <;> split <;> omega
theorem markI_range {d m e : Nat} (hd : d < 256) (hm : m < 16) (he : e < 64) : -131072 ≤ markI d m e ∧ markI d m e ≤ 131071 := by
  rw [← sign_mark hd hm he]
  exact signI_18 _
end Go.Proofs.Ytkkjfbpflfknpaa
