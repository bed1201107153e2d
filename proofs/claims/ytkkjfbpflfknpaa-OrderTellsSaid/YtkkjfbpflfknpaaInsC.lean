/-
  Contracts of the document's May (layer 2). No conditions beyond those that each theorem names.
-/
import Derived.Test.YtkkjfbpflfknpaaInsA
namespace Go.Proofs.Ytkkjfbpflfknpaa
open Go.ChangeShapes Go.WideShapes Go.ChangeAt Go.RowKit

set_option maxRecDepth 100000 in
set_option maxHeartbeats 1000000 in
theorem refMay_yes (o a b n : Int) (w : World) (h : MayP o a b n) :
    Calls Try.prog 44 #[.agg #[.int .i64 o, .int .i64 a, .int .i64 b, .int .i64 n]] w fun e w' => e = .returned (.bool true) ∧ Below w.heap.size w w' := by
  obtain ⟨⟨a1, a2⟩, ⟨b1, b2⟩, ⟨c1, c2⟩, hn⟩ := h
  have n1 : -131072 ≤ n := by rcases hn with ⟨_, _, _, _⟩ | ⟨_, _, _⟩ <;> omega
  have n2 : n ≤ 131071 := by rcases hn with ⟨_, _, _, _⟩ | ⟨_, _, _⟩ <;> omega
  rcases hn with ⟨h1, h2, h3, h4⟩ | ⟨h1 | h1, _, _⟩
  all_goals
    go_enter Try.func44, Try.ntmps44
    go_wp2
    go_ret
    exact ⟨end_bool (by simp <;> omega), (Below.refl _ _).alloc (Nat.le_refl _) _⟩

/- where it may not be, by the first test that tells it -/
def NoMay (o a b n : Int) : Prop := o < 1 ∨ (1 ≤ o ∧ 21 < o) ∨ (1 ≤ o ∧ o ≤ 21 ∧ a < 0) ∨ (1 ≤ o ∧ o ≤ 21 ∧ 0 ≤ a ∧ 15 < a) ∨ (1 ≤ o ∧ o ≤ 21 ∧ 0 ≤ a ∧ a ≤ 15 ∧ b < 0) ∨ (1 ≤ o ∧ o ≤ 21 ∧ 0 ≤ a ∧ a ≤ 15 ∧ 0 ≤ b ∧ 15 < b)
  ∨ (1 ≤ o ∧ o ≤ 21 ∧ 0 ≤ a ∧ a ≤ 15 ∧ 0 ≤ b ∧ b ≤ 15 ∧ n < -131072) ∨ (1 ≤ o ∧ o ≤ 21 ∧ 0 ≤ a ∧ a ≤ 15 ∧ 0 ≤ b ∧ b ≤ 15 ∧ -131072 ≤ n ∧ 131071 < n)
  ∨ (2 ≤ o ∧ o ≤ 10 ∧ 0 ≤ a ∧ a ≤ 15 ∧ 0 ≤ b ∧ b ≤ 15 ∧ -131072 ≤ n ∧ n < 0) ∨ (2 ≤ o ∧ o ≤ 10 ∧ 0 ≤ a ∧ a ≤ 15 ∧ 0 ≤ b ∧ b ≤ 15 ∧ 15 < n ∧ n ≤ 131071)
theorem noMay (o a b n : Int) (h : ¬ MayP o a b n) : NoMay o a b n := by
  unfold NoMay
  by_cases g1 : o < 1
  · exact .inl g1
  have k1 : 1 ≤ o := by omega
  clear g1
  by_cases g1 : 21 < o
  · exact .inr (.inl ⟨k1, g1⟩)
  have k2 : o ≤ 21 := by omega
  clear g1
  by_cases g1 : a < 0
  · exact .inr (.inr (.inl ⟨k1, k2, g1⟩))
  have k3 : 0 ≤ a := by omega
  clear g1
  by_cases g1 : 15 < a
  · exact .inr (.inr (.inr (.inl ⟨k1, k2, k3, g1⟩)))
  have k4 : a ≤ 15 := by omega
  clear g1
  by_cases g1 : b < 0
  · exact .inr (.inr (.inr (.inr (.inl ⟨k1, k2, k3, k4, g1⟩))))
  have k5 : 0 ≤ b := by omega
  clear g1
  by_cases g1 : 15 < b
  · exact .inr (.inr (.inr (.inr (.inr (.inl ⟨k1, k2, k3, k4, k5, g1⟩)))))
  have k6 : b ≤ 15 := by omega
  clear g1
  by_cases g1 : n < -131072
  · exact .inr (.inr (.inr (.inr (.inr (.inr (.inl ⟨k1, k2, k3, k4, k5, k6, g1⟩))))))
  have k7 : -131072 ≤ n := by omega
  clear g1
  by_cases g1 : 131071 < n
  · exact .inr (.inr (.inr (.inr (.inr (.inr (.inr (.inl ⟨k1, k2, k3, k4, k5, k6, k7, g1⟩)))))))
  have k8 : n ≤ 131071 := by omega
  clear g1
  by_cases g2 : o < 2 ∨ 10 < o
  · exact absurd ⟨⟨k1, k2⟩, ⟨k3, k4⟩, ⟨k5, k6⟩, .inr ⟨g2, k7, k8⟩⟩ h
  have m1 : 2 ≤ o := by omega
  have m2 : o ≤ 10 := by omega
  clear g2
  by_cases g3 : n < 0
  · exact .inr (.inr (.inr (.inr (.inr (.inr (.inr (.inr (.inl ⟨m1, m2, k3, k4, k5, k6, k7, g3⟩))))))))
  have m3 : 0 ≤ n := by omega
  clear g3
  by_cases g4 : 15 < n
  · exact .inr (.inr (.inr (.inr (.inr (.inr (.inr (.inr (.inr ⟨m1, m2, k3, k4, k5, k6, g4, k8⟩))))))))
  exact absurd ⟨⟨k1, k2⟩, ⟨k3, k4⟩, ⟨k5, k6⟩, .inl ⟨m1, m2, m3, by omega⟩⟩ h

set_option maxRecDepth 100000 in
set_option maxHeartbeats 1000000 in
theorem refMay_no (o a b n : Int) (w : World) (h : ¬ MayP o a b n) :
    Calls Try.prog 44 #[.agg #[.int .i64 o, .int .i64 a, .int .i64 b, .int .i64 n]] w fun e w' => e = .returned (.bool false) ∧ Below w.heap.size w w' := by
  have hc := noMay o a b n h
  clear h
  unfold NoMay at hc
  rcases hc with h1 | ⟨h1, h2⟩ | ⟨h1, h2, h3⟩ | ⟨h1, h2, h3, h4⟩ | ⟨h1, h2, h3, h4, h5⟩ | ⟨h1, h2, h3, h4, h5, h6⟩ | ⟨h1, h2, h3, h4, h5, h6, h7⟩ | ⟨h1, h2, h3, h4, h5, h6, h7, h8⟩ | ⟨h1, h2, h3, h4, h5, h6, h7, h8⟩ | ⟨h1, h2, h3, h4, h5, h6, h7, h8⟩
  all_goals
    go_enter Try.func44, Try.ntmps44
    go_wp2
    go_ret
    exact ⟨end_bool (by simp <;> omega), (Below.refl _ _).alloc (Nat.le_refl _) _⟩
end Go.Proofs.Ytkkjfbpflfknpaa
