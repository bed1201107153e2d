/-
  The head of layer 6's laws holds, in every world. No conditions.
-/
import Derived.Test.YticancimnhnhbaaZoneT
namespace Go.Proofs.Yticancimnhnhbaa
open Go.ChangeShapes Go.WideShapes Go.ChangeAt Go.RowKit

/- the head's zone -/
def zv1 : ZV := ⟨272, 276, 280, 284, [272], []⟩
theorem may1 : MayAdd [] zv1 := by
  refine ⟨by decide, rfl, ⟨by decide, ?_⟩, ⟨by decide, ?_⟩⟩
  · intro x hx
    simp [zv1] at hx
    subst hx
    exact ⟨by decide, rfl⟩
  · intro x hx
    simp [zv1] at hx
theorem not_may0 : ¬ MayAdd [] ZR0.z := fun h => by
  have := h.1
  revert this
  decide

set_option maxRecDepth 100000 in
set_option maxHeartbeats 4000000 in
theorem up06 (w : World) : Calls Try.prog 6 #[] w fun e w' => e = .returned (.bool true) ∧ Below w.heap.size w w' := by
  have q := arg_eql
  have HN := Lib.hid Zoo.new
  go_enter Try.func6, Try.ntmps6
  go_wp2_with fail
  refine (HN.out _).mono ?_
  rintro e w1 ⟨zp, mb, rfl, hz1⟩
  have Z1 := Lib.hid hz1
  clear hz1
  go_wp2_with fail
  have i0 : ∀ W, IntsAt W ⟨none, 0, 0⟩ [] := fun W => ⟨rfl, ⟨Nat.le_refl _, Nat.zero_le _⟩, fun _ => rfl, .inl rfl, by simp⟩
  refine (Z1.out.add ZR0 (i0 _) (i0 _) (by simp [ZR0, ZV0]) (by simp [ZR0, ZV0]) (by simp) (by omega)).mono ?_
  rintro e w2 (⟨hm, -, -⟩ | ⟨-, rfl, hz2⟩)
  · exact absurd hm not_may0
  have Z2 := Lib.hid hz2
  clear hz2
  go_wp2_with fail
  refine (Z2.out.store 16 4).mono ?_
  rintro e w3 ⟨rfl, hz3⟩
  have Z3 := Lib.hid hz3
  clear hz3
  rw [show canStore (([] : List ZR).map ZR.z) 16 4 = true by decide]
  go_wp2_with fail
  refine (Z3.out.store 272 4).mono ?_
  rintro e w4 ⟨rfl, hz4⟩
  have Z4 := Lib.hid hz4
  clear hz4
  rw [show canStore (([] : List ZR).map ZR.z) 272 4 = false by decide]
  go_wp2_with fail
  have hx : IntsAt (w4.alloc (.cells #[.int .i64 272] 3)) ⟨some ⟨w4.heap.size, 0, none⟩, 1, 1⟩ [272] := by
    have hr := RowAt.new w4 3 [.int .i64 272]
    refine ⟨rfl, ⟨Nat.le_refl _, by simp [maxLen]⟩, fun h => by simp at h, .inr ⟨w4.heap.size, 0, rfl, hr.lt, fun j x hj => ?_⟩, fun x hx => by simp at hx; subst hx; rfl⟩
    have hc := hr.cell (0 + j)
    cases j with
    | zero => simp at hj; subst hj; exact hc
    | succ j => simp at hj
  have Z5 := Lib.hid (Z4.out.on ((Below.refl _ _).alloc (Nat.le_refl _) (.cells #[.int .i64 272] 3)))
  refine (Z5.out.add ⟨zv1, ⟨some ⟨w4.heap.size, 0, none⟩, 1, 1⟩, ⟨none, 0, 0⟩⟩ hx (i0 _) (by simp [zv1]) (by simp [zv1]) (by simp) (by omega)).mono ?_
  rintro e w6 (⟨-, rfl, L', ⟨A, B, hs, hL⟩, hlen, hz6⟩ | ⟨hm, -, -⟩)
  rotate_left
  · exact absurd may1 hm
  have hab := hs.eq
  simp at hab
  obtain ⟨rfl, rfl⟩ := hab
  have hL1 : L'.map ZR.z = [zv1] := hL
  have Z6 := Lib.hid hz6
  have k1 : kindOf (L'.map ZR.z) (273 - 273 % 4) = 1 := by rw [hL1]; decide
  have k2 : canLoad (L'.map ZR.z) 276 4 = true := by rw [hL1]; decide
  have k3 : canStore (L'.map ZR.z) 276 4 = false := by rw [hL1]; decide
  have k4 : canRun (L'.map ZR.z) 280 = true := by rw [hL1]; decide
  have k5 : L'.length = 1 := hlen
  have HK := Lib.hid (And.intro k1 (And.intro k2 (And.intro k3 (And.intro k4 k5))))
  clear hz6 hx hL hL1 hs hlen k1 k2 k3 k4 k5 i0
  go_wp2_with fail
  refine (Z6.out.cell 273 (by decide)).mono ?_
  rintro e w7 ⟨rfl, hz7⟩
  have Z7 := Lib.hid hz7
  clear hz7
  rw [HK.out.1]
  go_wp2_with fail
  refine (Z7.out.load 276 4).mono ?_
  rintro e w8 ⟨rfl, hz8⟩
  have Z8 := Lib.hid hz8
  clear hz8
  rw [HK.out.2.1]
  go_wp2_with fail
  refine (Z8.out.store 276 4).mono ?_
  rintro e w9 ⟨rfl, hz9⟩
  have Z9 := Lib.hid hz9
  clear hz9
  rw [HK.out.2.2.1]
  go_wp2_with fail
  refine (Z9.out.run 280).mono ?_
  rintro e w10 ⟨rfl, hz10⟩
  have Z10 := Lib.hid hz10
  clear hz10
  rw [HK.out.2.2.2.1]
  go_wp2_with fail
  refine Z10.out.all.mono ?_
  rintro e w11 ⟨a, c, L2, rfl, -, -, -, hz11⟩
  have Z11 := Lib.hid hz11
  clear hz11
  rw [HK.out.2.2.2.2]
  go_wp2_with fail
  go_ret
  exact ⟨rfl, Z11.out.below⟩
end Go.Proofs.Yticancimnhnhbaa
