/-
  Numbers and texts as bytes, plain data (layer 11): what is written, what is read where. Nothing of the program but the number of a type.
-/
import Derived.Test.YtkkjfbpflfknpaaRow8
namespace Go.Proofs.Ytkkjfbpflfknpaa
open Go.ChangeShapes Go.WideShapes Go.ChangeAt Go.RowKit

/- a number in k bytes, the lowest first -/
def numB : Nat → Nat → List Nat
  | _, 0 => []
  | n, k + 1 => n % 256 :: numB (n / 256) k
theorem numB_length : ∀ (k n : Nat), (numB n k).length = k
  | 0, _ => rfl
  | k + 1, n => by rw [numB, List.length_cons, numB_length k]
theorem numB_lt : ∀ (k n : Nat), ∀ b ∈ numB n k, b < 256
  | 0, _, b, h => by cases h
  | k + 1, n, b, h => by
    rcases List.mem_cons.1 h with rfl | h
    · exact Nat.mod_lt _ (by decide)
    · exact numB_lt k _ b h
theorem numB_snoc : ∀ (k n : Nat), numB n (k + 1) = numB n k ++ [n / 256 ^ k % 256]
  | 0, n => by simp [numB]
  | k + 1, n => by
    rw [numB, numB_snoc k (n / 256), numB]
    rw [Nat.div_div_eq_div_mul, Nat.pow_succ, Nat.mul_comm 256 (256 ^ k)]
    rfl
/- bytes as a number -/
def valB : List Nat → Nat
  | [] => 0
  | b :: l => b + 256 * valB l
theorem valB_lt : ∀ (l : List Nat), (∀ b ∈ l, b < 256) → valB l < 256 ^ l.length
  | [], _ => by simp [valB]
  | b :: l, h => by
    have h1 := h b (by simp)
    have h2 := valB_lt l fun c hc => h c (by simp [hc])
    rw [valB, List.length_cons, Nat.pow_succ]
    omega
theorem valB_num : ∀ (k n : Nat), valB (numB n k) = n % 256 ^ k
  | 0, n => by simp [numB, valB, Nat.mod_one]
  | k + 1, n => by
    rw [numB, valB, valB_num k, Nat.pow_succ, Nat.mul_comm (256 ^ k) 256, Nat.mod_mul]
theorem numB_val : ∀ (l : List Nat), (∀ b ∈ l, b < 256) → numB (valB l) l.length = l
  | [], _ => rfl
  | b :: l, h => by
    have h1 := h b (by simp)
    rw [valB, List.length_cons, numB]
    rw [show (b + 256 * valB l) % 256 = b by omega, show (b + 256 * valB l) / 256 = valB l by omega, numB_val l fun c hc => h c (by simp [hc])]
theorem valB_drop (l : List Nat) (m b : Nat) (h : l[m]? = some b) : valB (l.drop m) = b + 256 * valB (l.drop (m + 1)) := by
  obtain ⟨hm, rfl⟩ := List.getElem?_eq_some_iff.1 h
  rw [List.drop_eq_getElem_cons hm]
  rfl

/- a text's signs -/
def sb (s : ByteArray) : List Nat := s.data.toList.map UInt8.toNat
theorem sb_length (s : ByteArray) : (sb s).length = s.size := by rw [sb, List.length_map, Array.length_toList]; rfl
theorem sb_lt (s : ByteArray) : ∀ b ∈ sb s, b < 256 := by
  intro b hb
  obtain ⟨c, _, rfl⟩ := List.mem_map.1 hb
  exact c.toNat_lt
theorem strOf_sb (s : ByteArray) : strOf (sb s) = s := by
  apply WideShapes.bytes_inj
  show ((sb s).map fun b : Nat => (b : Int)).map (fun n => UInt8.ofNat n.toNat) = s.data.toList
  rw [sb, List.map_map, List.map_map]
  conv => rhs; rw [← List.map_id s.data.toList]
  refine List.map_congr_left fun c _ => ?_
  show UInt8.ofNat ((c.toNat : Int)).toNat = c
  rw [Int.toNat_natCast, UInt8.ofNat_toNat]
theorem sb_strOf {l : List Nat} (h : ∀ b ∈ l, b < 256) : sb (strOf l) = l := by
  simp only [strOf, strOfNums, sb, List.map_map]
  conv => rhs; rw [← List.map_id l]
  refine List.map_congr_left fun b hb => ?_
  have := h b hb
  simp [UInt8.toNat_ofNat']
  omega
/- a text as bytes -/
def textB (s : List Nat) : List Nat := (if 255 < s.length then 255 else s.length) :: s.take 255

/- the next number: its value, where it is read on, whether it is short -/
def okN (sh : Bool) (k : Int) : Bool := !sh && decide (1 ≤ k) && decide (k ≤ 4)
def fitN (l : List Nat) (at_ n : Nat) : Bool := decide (at_ + n ≤ l.length)
def numV (l : List Nat) (at_ : Nat) (sh : Bool) (k : Int) : Nat := if okN sh k && fitN l at_ k.toNat then valB (piece l at_ (at_ + k.toNat)) else 0
def numAt (l : List Nat) (at_ : Nat) (sh : Bool) (k : Int) : Nat := if okN sh k && fitN l at_ k.toNat then at_ + k.toNat else at_
def numSh (l : List Nat) (at_ : Nat) (sh : Bool) (k : Int) : Bool := sh || (okN sh k && !fitN l at_ k.toNat)
/- the next text -/
def textV (l : List Nat) (at_ : Nat) (sh : Bool) : List Nat := if numSh l at_ sh 1 then [] else if fitN l (numAt l at_ sh 1) (numV l at_ sh 1) then piece l (numAt l at_ sh 1) (numAt l at_ sh 1 + numV l at_ sh 1) else []
def textAt (l : List Nat) (at_ : Nat) (sh : Bool) : Nat := if numSh l at_ sh 1 then numAt l at_ sh 1 else if fitN l (numAt l at_ sh 1) (numV l at_ sh 1) then numAt l at_ sh 1 + numV l at_ sh 1 else numAt l at_ sh 1
def textSh (l : List Nat) (at_ : Nat) (sh : Bool) : Bool := numSh l at_ sh 1 || !fitN l (numAt l at_ sh 1) (numV l at_ sh 1)
def leftN (l : List Nat) (at_ : Nat) (sh : Bool) : Nat := if sh then 0 else l.length - at_

theorem numAt_le {l : List Nat} {at_ : Nat} (h : at_ ≤ l.length) (sh : Bool) (k : Int) : numAt l at_ sh k ≤ l.length := by
  unfold numAt
  split
  · rename_i hc
    simp [fitN] at hc
    exact hc.2
  · exact h
theorem textAt_le {l : List Nat} {at_ : Nat} (h : at_ ≤ l.length) (sh : Bool) : textAt l at_ sh ≤ l.length := by
  unfold textAt
  split
  · exact numAt_le h sh 1
  · split
    · rename_i hc
      simpa [fitN] using hc
    · exact numAt_le h sh 1
theorem numV_lt {l : List Nat} (h : ∀ b ∈ l, b < 256) (at_ : Nat) (sh : Bool) (k : Int) : numV l at_ sh k < 4294967296 := by
  unfold numV
  split
  · rename_i hc
    simp [okN, fitN] at hc
    have hl : (piece l at_ (at_ + k.toNat)).length = k.toNat := by rw [piece_length _ _ _ hc.2]; omega
    have := valB_lt _ (piece_lt h at_ (at_ + k.toNat))
    rw [hl] at this
    refine Nat.lt_of_lt_of_le this ?_
    have h4 : k.toNat ≤ 4 := by omega
    calc 256 ^ k.toNat ≤ 256 ^ 4 := Nat.pow_le_pow_right (by decide) h4
      _ = 4294967296 := by decide
  · decide
theorem numV1_lt {l : List Nat} (h : ∀ b ∈ l, b < 256) (at_ : Nat) (sh : Bool) : numV l at_ sh 1 < 256 := by
  unfold numV
  split
  · rename_i hc
    simp [okN, fitN] at hc
    have hl : (piece l at_ (at_ + 1)).length = 1 := by rw [piece_length _ _ _ hc.2]; omega
    have := valB_lt _ (piece_lt h at_ (at_ + 1))
    rw [hl] at this
    simpa using this
  · decide
end Go.Proofs.Ytkkjfbpflfknpaa
