/-
  Names as plain data (layer 9): letters, digits, the first sign that is none, what a sign behind it or a beginning makes of a name. Nothing of the program.
-/
import Derived.Test.YtkkjfbpflfknpaaBase
import Derived.PlainAid
namespace Go.Proofs.Ytkkjfbpflfknpaa
open Go.ChangeShapes Go.WideShapes Go.ChangeAt Go.RowKit
open Go.PlainAid (bt get_bt bt_nonneg bt_le)

def isLet (c : Int) : Prop := (97 ≤ c ∧ c ≤ 122) ∨ (65 ≤ c ∧ c ≤ 90)
def isDig (c : Int) : Prop := 48 ≤ c ∧ c ≤ 57
instance (c : Int) : Decidable (isLet c) := inferInstanceAs (Decidable (_ ∨ _))
instance (c : Int) : Decidable (isDig c) := inferInstanceAs (Decidable (_ ∧ _))
def goodI (s : ByteArray) (i : Nat) : Prop := isLet (bt s i) ∨ (0 < i ∧ isDig (bt s i))
def NameP (s : ByteArray) : Prop := 0 < s.size ∧ s.size ≤ 16 ∧ ∀ i, i < s.size → goodI s i

/- the signs are fine up to b, and the one there is not, or there is none -/
def Upto (s : ByteArray) (b : Nat) : Prop := b ≤ s.size ∧ (∀ j, j < b → goodI s j) ∧ (b < s.size → ¬ goodI s b)
theorem upto_some (s : ByteArray) : ∀ n a : Nat, s.size - a = n → a ≤ s.size → (∀ j, j < a → goodI s j) → ∃ b, a ≤ b ∧ Upto s b
  | 0, a, hn, ha, hg => ⟨a, Nat.le_refl _, ha, hg, fun h => by omega⟩
  | n + 1, a, hn, ha, hg => by
    by_cases hb : goodI s a
    · obtain ⟨b, h1, h2⟩ := upto_some s n (a + 1) (by omega) (by omega) fun j hj => by
        rcases Nat.lt_or_ge j a with h | h
        · exact hg j h
        · exact (show j = a by omega) ▸ hb
      exact ⟨b, by omega, h2⟩
    · exact ⟨a, Nat.le_refl _, ha, hg, fun _ => hb⟩
theorem upto_any (s : ByteArray) : ∃ b, Upto s b := by
  obtain ⟨b, _, h⟩ := upto_some s _ 0 rfl (Nat.zero_le _) (fun j hj => by omega)
  exact ⟨b, h⟩
theorem Upto.name {s : ByteArray} {b : Nat} (h : Upto s b) (h0 : 0 < s.size) (h16 : s.size ≤ 16) : NameP s ↔ b = s.size := by
  constructor
  · intro hn
    rcases Nat.lt_or_ge b s.size with hb | hb
    · exact absurd (hn.2.2 b hb) (h.2.2 hb)
    · have := h.1
      omega
  · intro e
    exact ⟨h0, h16, fun i hi => h.2.1 i (by omega)⟩

/- a piece, and a sign behind it -/
theorem size_one (s : ByteArray) (c : UInt8) : (s ++ ⟨#[c]⟩).size = s.size + 1 := by
  rw [ByteArray.size_append]
  rfl
theorem bt_one_low (s : ByteArray) (c : UInt8) (i : Nat) (hi : i < s.size) : bt (s ++ ⟨#[c]⟩) i = bt s i := by
  have h2 : i < (s ++ ⟨#[c]⟩).size := by rw [size_one]; omega
  rw [← get_bt s i hi, ← get_bt _ i h2, ByteArray.getElem_append_left hi]
theorem bt_one_end (s : ByteArray) (c : UInt8) : bt (s ++ ⟨#[c]⟩) s.size = (c.toNat : Int) := by
  have h2 : s.size < (s ++ ⟨#[c]⟩).size := by rw [size_one]; omega
  rw [← get_bt _ _ h2, ByteArray.getElem_append_right (Nat.le_refl _)]
  simp
  rfl
theorem size_cut (s : ByteArray) (k : Nat) (hk : k ≤ s.size) : (s.extract 0 k).size = k := by
  rw [ByteArray.size_extract]
  omega
theorem bt_cut (s : ByteArray) (k i : Nat) (hk : k ≤ s.size) (hi : i < k) : bt (s.extract 0 k) i = bt s i := by
  have h2 : i < (s.extract 0 k).size := by rw [size_cut s k hk]; omega
  rw [← get_bt s i (by omega), ← get_bt _ i h2, ByteArray.getElem_extract]
  simp

theorem name_good (s : ByteArray) (c : UInt8) (h : NameP s) (hc : isLet c.toNat ∨ isDig c.toNat) : NameP (s ++ ⟨#[c]⟩) ↔ s.size < 16 := by
  have hz := size_one s c
  constructor
  · intro g
    have := g.2.1
    omega
  · intro g
    refine ⟨by omega, by omega, fun i hi => ?_⟩
    unfold goodI
    rcases Nat.lt_or_ge i s.size with hlt | hge
    · rw [bt_one_low s c i hlt]
      exact h.2.2 i hlt
    · have e : i = s.size := by omega
      subst e
      rw [bt_one_end]
      rcases hc with hc | hc
      · exact .inl hc
      · exact .inr ⟨h.1, hc⟩
theorem name_bad (s : ByteArray) (c : UInt8) (hc : ¬ isLet c.toNat) (hd : ¬ isDig c.toNat) : ¬ NameP (s ++ ⟨#[c]⟩) := by
  intro h
  have := h.2.2 s.size (by rw [size_one]; omega)
  unfold goodI at this
  rw [bt_one_end] at this
  rcases this with g | g
  · exact hc g
  · exact hd g.2
theorem name_cut (s : ByteArray) (k : Nat) (h : NameP s) (hk : k ≤ s.size) : NameP (s.extract 0 k) ↔ 0 < k := by
  have hz := size_cut s k hk
  constructor
  · intro g
    have := g.1
    omega
  · intro g
    refine ⟨by omega, by have := h.2.1; omega, fun i hi => ?_⟩
    have hi' : i < k := by omega
    have := h.2.2 i (by omega)
    unfold goodI at this ⊢
    rwa [bt_cut s k i hk hi']
end Go.Proofs.Ytkkjfbpflfknpaa
