/-
  The examples at the head of layer 11's statements (up): true. No conditions.
-/
import Derived.Test.YtahgeggmjaageaaBioQ
namespace Go.Proofs.Ytahgeggmjaageaa
open Go.ChangeShapes Go.WideShapes Go.ChangeAt Go.RowKit

theorem PrAt.on {w w' : World} {pb : Nat} {l : List Nat} {sh : Bool} (h : PrAt w pb l sh) (hb : Below w.heap.size w w') : PrAt w' pb l sh := by
  obtain ⟨⟨v, hr, hd⟩, hs, hg⟩ := h
  exact ⟨⟨v, hr.keep (Kept.of_below (S := fun _ => False) hb) (fun h => h), hd.on hb⟩, hs, hg⟩
theorem bs_nil (w : World) : Bs w (.slice none 0 0) [] := ⟨.inl ⟨rfl, rfl⟩, rfl, fun _ h => by cases h⟩
theorem Grew.on {a w w' : World} {v v' : Value} {B : Nat} (h : Grew w w' v v') (hb : Below B a w) (hB : B ≤ w.heap.size) (ho : ∀ j, own v j → B ≤ j) : Below B a w' := h.1.below hb hB fun k _ hk => ho k hk
theorem drawn_once (w : World) : Below w.heap.size w w.drew := (Drawn.of_n w 1).below _
theorem bytes_21 (w : World) : BytesAt (w.alloc (.cells #[.int .u8 2, .int .u8 1] BT)) (.slice (some ⟨w.heap.size, 0, none⟩) 2 2) [2, 1] := by
  have hr : RowAt (w.alloc (.cells #[.int .u8 2, .int .u8 1] BT)) w.heap.size BT [.int .u8 2, .int .u8 1] := RowAt.new w BT _
  have hs : SRow BT 1 (w.alloc (.cells #[.int .u8 2, .int .u8 1] BT)) (.slice (some ⟨w.heap.size, 0, none⟩) 2 2) [2, 1].length (byteVals [2, 1]) :=
    ⟨.inr ⟨_, 2, [], rfl, hr, rfl, Nat.le_refl _, by simp [maxLen]⟩, rfl, byteVals_one _⟩
  exact hs.bytes (by decide)
theorem str_21 : strOf [2, 1] = ByteArray.mk #[2, 1] := rfl
set_option maxRecDepth 100000 in
set_option maxHeartbeats 1000000 in
theorem up11 (w : World) : Calls Try.prog 5 #[] w fun e w' => e = .returned (.bool true) ∧ Below w.heap.size w w' := by
  have HX := Lib.hid (bytes_21 w)
  have HB : Hid (Below w.heap.size w (w.alloc (.cells #[.int .u8 2, .int .u8 1] BT))) := (Below.refl _ _).alloc (Nat.le_refl _) _
  go_enter Try.func5, Try.ntmps5
  go_wp2_with fail
  refine (bnew_any _ [2, 1] _ HX.out (by decide)).mono ?_
  rintro e w1 ⟨pb, rfl, hp, hlo, hpb, hb⟩
  have HP := Lib.hid hp
  have HB1 := Lib.hid (below_on HB.out hb HB.out.size)
  have HLO : Hid (w.heap.size ≤ pb) := Nat.le_trans HB.out.size hlo
  clear hp hlo hpb hb HX HB
  go_wp2_with fail
  refine (bput_any (.slice none 0 0) [] 258 2 _ (bs_nil w1) (by decide) (by decide)).mono ?_
  rintro e w2 ⟨v2, rfl, hb2, hg2⟩
  have hcv := (SRow.bytes (l := [] ++ outN 258 2) hb2 (by decide)).string
  rw [show [] ++ outN 258 2 = [2, 1] by decide, str_21] at hcv
  have hb := hg2.on (Below.refl w1.heap.size w1) (Nat.le_refl _) fun j hj => hj.elim
  have HP2 := Lib.hid (HP.out.on hb)
  have HB2 := Lib.hid (below_on HB1.out hb HB1.out.size)
  clear hb2 hg2 hb HP HB1
  go_wp2_with fail
  refine (bnum_any pb _ _ 2 _ HP2.out).mono ?_
  rintro e w3 ⟨rfl, hp3, hk3⟩
  rw [show pnumV [2, 1] 2 = 258 by decide]
  rw [show pnumL [2, 1] 2 = [] by decide, show pnumS [2, 1] false 2 = false by decide] at hp3
  have HP3 := Lib.hid hp3
  have HB3 := Lib.hid (hk3.below HB2.out HB2.out.size fun k _ e => by have := HLO.out; omega)
  clear hp3 hk3 HP2 HB2 hcv
  go_wp2_with fail
  refine (bshort_any pb _ _ _ HP3.out).mono ?_
  rintro e w' ⟨rfl, rfl⟩
  go_wp2_with fail
  refine (bnum_any pb _ _ 1 _ HP3.out).mono ?_
  rintro e w4 ⟨rfl, hp4, hk4⟩
  rw [show pnumV [] 1 = 0 by decide]
  rw [show pnumL [] 1 = [] by decide, show pnumS [] false 1 = true by decide] at hp4
  have HP4 := Lib.hid hp4
  have HB4 := Lib.hid (hk4.below HB3.out HB3.out.size fun k _ e => by have := HLO.out; omega)
  clear hp4 hk4 HP3 HB3
  go_wp2_with fail
  refine (bshort_any pb _ _ _ HP4.out).mono ?_
  rintro e w' ⟨rfl, rfl⟩
  go_wp2_with fail
  go_ret
  exact ⟨rfl, HB4.out⟩
end Go.Proofs.Ytahgeggmjaageaa
