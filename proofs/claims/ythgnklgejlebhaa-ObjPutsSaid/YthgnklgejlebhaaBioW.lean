/-
  The document's Put, PutText, number (layer 11): numbers and texts behind a row of bytes. No conditions beyond those that each theorem names.
-/
import Derived.Test.YthgnklgejlebhaaBioM
import Derived.Test.YthgnklgejlebhaaByteS
import Derived.Deep.DeepCutAuto
namespace Go.Proofs.Ythgnklgejlebhaa
open Go.ChangeShapes Go.WideShapes Go.ChangeAt Go.RowKit

/- what a call does to a slice that it appends to -/
def Grew (w w' : World) (v v' : Value) : Prop := Kept (own v) w w' ∧ ∀ j, own v' j → own v j ∨ w.heap.size ≤ j
theorem Grew.refl (w : World) (v : Value) : Grew w w v v := ⟨Kept.refl _ _, fun _ h => .inl h⟩
theorem Grew.trans {a b c : World} {u v x : Value} (h : Grew a b u v) (g : Grew b c v x) : Grew a c u x := by
  refine ⟨h.1.then g.1 fun k hk hv => ?_, fun j hj => ?_⟩
  · rcases h.2 k hv with h1 | h1
    · exact h1
    · omega
  · rcases g.2 j hj with h1 | h1
    · exact h.2 j h1
    · exact .inr (Nat.le_trans h.1.more h1)
theorem Grew.drew {a b : World} {u v : Value} (h : Grew a b u v) : Grew a b.drew u v := ⟨h.1.drew, h.2⟩
/- bytes in a row of their own -/
abbrev Bs (w : World) (v : Value) (l : List Nat) : Prop := SRow BT 1 w v l.length (byteVals l)
theorem byteVals_append (a b : List Nat) : byteVals (a ++ b) = byteVals a ++ byteVals b := by simp [byteVals]
theorem Bs.keep {S : Nat → Prop} {w w' : World} {v : Value} {l : List Nat} (h : Bs w v l) (k : Kept S w w') (hS : ∀ j, own v j → ¬ S j) : Bs w' v l := SRow.keep h k hS
/- append of one byte -/
theorem more_byte {w : World} {v : Value} {l : List Nat} (h : Bs w v l) (b : Nat) (small : l.length ≤ 900000) :
    ∃ v' w', (Builtin.append_ #[BS, BS] BS #[v, .slice (some ⟨w.heap.size, 0, none⟩) 1 1]).run Try.prog (w.alloc (.cells #[.int .u8 (b : Int)] BT)) = .ok v' w' ∧ Bs w' v' (l ++ [b]) ∧ Grew w w' v v' := by
  have k1 : Kept (fun _ => False) w (w.alloc (.cells #[.int .u8 (b : Int)] BT)) := (Kept.refl _ w).alloc _
  have hx : RowAt (w.alloc (.cells #[.int .u8 (b : Int)] BT)) w.heap.size BT [.int .u8 (b : Int)] := RowAt.new w BT _
  have hs : Src Try.prog 1 BS (.slice (some ⟨w.heap.size, 0, none⟩) 1 1) 1 [.int .u8 (b : Int)] (w.alloc (.cells #[.int .u8 (b : Int)] BT)) :=
    Src.ofSlice _ Try.underlying34 _ _ _ _ rfl (fun j u hu => by rw [Addr.add_lit, Nat.zero_add, hx.cell, hu]) (by intro u hu; simp at hu; subst hu; rfl)
  obtain ⟨v', w2, q0, q1, q2, q3, _⟩ := (SRow.keep h k1 (fun _ _ h => h)).append (P := Try.prog) BS BS Try.underlying34 infoB rfl (by omega) hs (.inl (by omega)) (by omega)
  refine ⟨v', w2, q0, ?_, (Kept.of_below k1.none).trans q2, fun j hj => ?_⟩
  · show SRow BT 1 w2 v' (l ++ [b]).length (byteVals (l ++ [b]))
    rw [List.length_append, byteVals_append]
    exact q1
  · rcases q3 j hj with h3 | h3
    · exact .inl h3
    · simp at h3; exact .inr (by omega)
/- append of a text -/
theorem byteCells_sb (s : ByteArray) : byteCells s = byteVals (sb s) := by
  simp only [byteCells, byteVals, sb, List.map_map]
  rfl
theorem more_text {w : World} {v : Value} {l : List Nat} (h : Bs w v l) (s : ByteArray) (hv : v ≠ .slice none 0 0) (small : l.length + s.size ≤ 900000) :
    ∃ v' w', (Builtin.append_ #[BS, 9] BS #[v, .string s]).run Try.prog w = .ok v' w' ∧ Bs w' v' (l ++ sb s) ∧ Grew w w' v v' := by
  have hs : Src Try.prog 1 9 (.string s) s.size (byteCells s) w := Src.ofString w Try.underlying9 s
  obtain ⟨v', w2, q0, q1, q2, q3, _⟩ := SRow.append (P := Try.prog) h 9 BS Try.underlying34 infoB rfl (by omega) hs (.inr hv) (by omega)
  refine ⟨v', w2, q0, ?_, q2, q3⟩
  show SRow BT 1 w2 v' (l ++ sb s).length (byteVals (l ++ sb s))
  rw [List.length_append, byteVals_append, sb_length, ← byteCells_sb]
  exact q1

/- a number's bytes, if they are 1 to 4 -/
def outK (k : Int) : Nat := if k ≤ 4 then k.toNat else 0
def outN (n : Nat) (k : Int) : List Nat := numB n (outK k)
set_option maxRecDepth 100000 in
set_option maxHeartbeats 1000000 in
theorem rPut_any (v : Value) (l : List Nat) (n : Nat) (k : Int) (w : World) (h : Bs w v l) (hn : n < 4294967296) (small : l.length ≤ 500000) :
    Calls Try.prog 17 #[v, .int .u32 (n : Nat), .int .i64 k] w fun e w' => ∃ v', e = .returned v' ∧ Bs w' v' (l ++ outN n k) ∧ Grew w w' v v' := by
  have H0 : Hid (Bs w v (l ++ numB n 0) ∧ Grew w w v v) := ⟨by simpa [numB] using h, Grew.refl _ _⟩
  have HN := Lib.hid hn
  have HS := Lib.hid small
  have e0 : n / 256 ^ 0 = n := by simp
  clear h hn small
  go_enter Try.func17, Try.ntmps17
  go_wp2_with fail
  go_loopw [0, 1, 7] (fun out x i wr => ∃ (m : Nat), m ≤ outK k ∧ i = .int .i64 m ∧ x = .int .u32 ((n / 256 ^ m : Nat) : Int) ∧ Bs wr out (l ++ numB n m) ∧ Grew w wr v out) (fun _ _ i _ => outK k - (intOf i).toNat)
  case atStart => exact ⟨0, Nat.zero_le _, rfl, by rw [e0], H0.out⟩
  case round =>
    obtain ⟨m, hm, rfl, rfl, hb, hg⟩ := hrel
    have hn := HN.out
    have hsm := HS.out
    by_cases hlt : m < outK k
    · have hk4 : k ≤ 4 := by
        unfold outK at hlt
        split at hlt
        · assumption
        · omega
      have hK : outK k = k.toNat := by unfold outK; rw [if_pos hk4]
      rw [hK] at hlt
      obtain ⟨v', w', hr, hb', hg'⟩ := more_byte hb (n / 256 ^ m % 256) (by rw [List.length_append, numB_length]; omega)
      have hy : n / 256 ^ m < 4294967296 := Nat.lt_of_le_of_lt (Nat.div_le_self _ _) hn
      have hnext : n / 256 ^ (m + 1) = n / 256 ^ m / 256 := by rw [Nat.pow_succ, Nat.div_div_eq_div_mul]
      have HB : Hid (Bs w' v' (l ++ numB n (m + 1)) ∧ Grew w w' v v') := ⟨by rw [numB_snoc, ← List.append_assoc]; exact hb', hg.trans hg'⟩
      have HK := Lib.hid hK
      clear hb hg hb' hg' hsm hm hK
      generalize n / 256 ^ m = y at *
      have HNX := Lib.hid hnext
      clear hnext
      have e1 : (m : Int) < k := by omega
      have e3 : (0 : Int) ≤ (y : Int) := by omega
      have t1 : (y : Int).tmod 256 = ((y % 256 : Nat) : Int) := by rw [Int.tmod_eq_emod_of_nonneg e3]; omega
      have t2 : (y : Int).tdiv 256 = ((y / 256 : Nat) : Int) := by rw [Int.tdiv_eq_ediv_of_nonneg e3]; omega
      have t3 : IntKind.u32.wrap ((y % 256 : Nat) : Int) = ((y % 256 : Nat) : Int) := by rw [IntKind.wrap_u32]; omega
      have t4 : IntKind.u8.wrap ((y % 256 : Nat) : Int) = ((y % 256 : Nat) : Int) := by rw [IntKind.wrap_u8]; omega
      have t5 : IntKind.u32.wrap ((y / 256 : Nat) : Int) = ((y / 256 : Nat) : Int) := by rw [IntKind.wrap_u32]; omega
      go_wp2_with (at_builtin; refine Lib.wpList_append_run _ rfl _ _ _ _ rfl _ _ rfl rfl _ _ hr ?_)
      go_roundw
      case rel => exact ⟨m + 1, by rw [HK.out]; omega, by go_num, congrArg (Value.int .u32) (by rw [HNX.out]; omega), HB.out⟩
      case measure => rw [HK.out]; simp [intOf]; omega
    · obtain rfl : m = outK k := by omega
      have RES := Lib.hid (show Bs wr _ (l ++ outN n k) ∧ Grew w wr v _ from ⟨hb, hg⟩)
      clear hb hg hlt hm
      by_cases hk4 : k ≤ 4
      · have hK : outK k = k.toNat := by unfold outK; rw [if_pos hk4]
        rw [hK]
        have e1 : decide (((k.toNat : Nat) : Int) < k) = false := by simp; omega
        have e2 : ¬ ((k.toNat : Nat) : Int) < k := by omega
        clear hK hk4
        generalize ((k.toNat : Nat) : Int) = z at *
        go_wp2_with fail
        go_ret
        exact ⟨_, rfl, RES.out⟩
      · have hK : outK k = 0 := by unfold outK; rw [if_neg hk4]
        rw [hK]
        have e1 : decide (k ≤ 4) = false := by simp; omega
        have e2 : decide ((0 : Int) < k) = true := by simp; omega
        clear hK
        go_wp2_with fail
        go_ret
        exact ⟨_, rfl, RES.out⟩
set_option maxRecDepth 100000 in
theorem rnumber_any (v : Value) (l : List Nat) (n : Int) (k : Int) (w : World) (h : Bs w v l) (small : l.length ≤ 500000) :
    Calls Try.prog 18 #[v, .int .i64 n, .int .i64 k] w fun e w' => ∃ v', e = .returned v' ∧ Bs w' v' (l ++ outN (n % 4294967296).toNat k) ∧ Grew w w' v v' := by
  have H := Lib.hid (rPut_any v l (n % 4294967296).toNat k w h (by omega) small)
  have e1 : (((n % 4294967296).toNat : Nat) : Int) = n % 4294967296 := by omega
  rw [e1] at H
  clear h small e1
  have e2 : IntKind.u32.wrap n = n % 4294967296 := IntKind.wrap_u32 n
  generalize n % 4294967296 = z at *
  go_enter Try.func18, Try.ntmps18
  go_wp2_with fail
  refine H.out.mono ?_
  rintro e w1 ⟨v', rfl, hb⟩
  have RES := Lib.hid hb
  clear hb
  go_wp2_with fail
  go_ret
  exact ⟨_, rfl, RES.out⟩

theorem sb_cut (s : ByteArray) (k : Nat) : sb (s.extract 0 k) = (sb s).take k := by
  simp only [sb]
  rw [ByteArray.data_extract, Array.toList_extract]
  simp [List.extract]
/- the byte of a length, and the text behind it -/
theorem more_both {w : World} {v : Value} {l : List Nat} (h : Bs w v l) (s : ByteArray) (small : l.length ≤ 500000) (hs : s.size ≤ 255) :
    ∃ v2 w2 v3 w3, (Builtin.append_ #[BS, BS] BS #[v, .slice (some ⟨w.heap.size, 0, none⟩) 1 1]).run Try.prog (w.alloc (.cells #[.int .u8 ((s.size : Nat) : Int)] BT)) = .ok v2 w2 ∧ (Builtin.append_ #[BS, 9] BS #[v2, .string s]).run Try.prog w2 = .ok v3 w3 ∧ Bs w3 v3 (l ++ s.size :: sb s) ∧ Grew w w3 v v3 := by
  obtain ⟨v2, w2, h1, h2, h3⟩ := more_byte h s.size (by omega)
  have hv : v2 ≠ .slice none 0 0 := by
    rintro rfl
    rcases h2.is with ⟨_, e⟩ | ⟨b, cap, rest, e, _⟩
    · simp at e
    · cases e
  obtain ⟨v3, w3, g1, g2, g3⟩ := more_text h2 s hv (by simp; omega)
  exact ⟨v2, w2, v3, w3, h1, g1, by simpa using g2, h3.trans g3⟩

set_option maxRecDepth 100000 in
set_option maxHeartbeats 1000000 in
theorem rtext_short (v : Value) (l : List Nat) (s : ByteArray) (w : World) (h : Bs w v l) (hs : s.size ≤ 255) (small : l.length ≤ 500000) :
    Calls Try.prog 16 #[v, .string s] w fun e w' => ∃ v', e = .returned v' ∧ Bs w' v' (l ++ s.size :: sb s) ∧ Grew w w' v v' := by
  obtain ⟨v2, w2, v3, w3, h1, h2, h3, h4⟩ := more_both h s small hs
  have RES := Lib.hid (And.intro h3 h4)
  have e1 : ¬ (255 : Int) < (s.size : Int) := by omega
  have e2 : IntKind.u8.wrap ((s.size : Nat) : Int) = ((s.size : Nat) : Int) := by rw [IntKind.wrap_u8]; omega
  clear h hs small h3 h4
  go_enter Try.func16, Try.ntmps16
  go_wp2_with (at_builtin; first | refine Lib.wpList_append_run _ rfl _ _ _ _ rfl v (.slice (some ⟨w.heap.size, 0, none⟩) 1 1) rfl rfl _ _ h1 ?_ | refine Lib.wpList_append_run _ rfl _ _ _ _ rfl v2 (.string s) rfl rfl _ _ h2 ?_)
  go_ret
  exact ⟨_, rfl, RES.out⟩
set_option maxRecDepth 100000 in
set_option maxHeartbeats 1000000 in
theorem rtext_long (v : Value) (l : List Nat) (s0 : ByteArray) (w : World) (h : Bs w v l) (hs : 255 < s0.size) (small : l.length ≤ 500000) :
    Calls Try.prog 16 #[v, .string s0] w fun e w' => ∃ v', e = .returned v' ∧ Bs w' v' (l ++ 255 :: (sb s0).take 255) ∧ Grew w w' v v' := by
  have hz : (s0.extract 0 255).size = 255 := by rw [ByteArray.size_extract]; omega
  obtain ⟨v2, w2, v3, w3, h1, h2, h3, h4⟩ := more_both h (s0.extract 0 255) small (by omega)
  rw [hz, sb_cut] at h3
  rw [hz, show ((255 : Nat) : Int) = 255 from rfl] at h1
  have RES := Lib.hid (And.intro h3 h4)
  have e1 : (255 : Int) < (s0.size : Int) := by omega
  have e3 : (255 : Int) ≤ (s0.size : Int) := by omega
  have e4 : 255 ≤ s0.size := by omega
  clear h hs small h3 h4
  go_enter Try.func16, Try.ntmps16
  go_upto_region 3 with fail
  generalize s0.extract 0 255 = s at *
  go_wp2_with (at_builtin; first | refine Lib.wpList_append_run _ rfl _ _ _ _ rfl v (.slice (some ⟨w.heap.size, 0, none⟩) 1 1) rfl rfl _ _ h1 ?_ | refine Lib.wpList_append_run _ rfl _ _ _ _ rfl v2 (.string s) rfl rfl _ _ h2 ?_)
  go_ret
  exact ⟨_, rfl, RES.out⟩
theorem rtext_any (v : Value) (l : List Nat) (s : ByteArray) (w : World) (h : Bs w v l) (small : l.length ≤ 500000) :
    Calls Try.prog 16 #[v, .string s] w fun e w' => ∃ v', e = .returned v' ∧ Bs w' v' (l ++ textB (sb s)) ∧ Grew w w' v v' := by
  by_cases hs : 255 < s.size
  · have e : textB (sb s) = 255 :: (sb s).take 255 := by unfold textB; rw [sb_length, if_pos hs]
    rw [e]
    exact rtext_long v l s w h hs small
  · have e : textB (sb s) = s.size :: sb s := by unfold textB; rw [sb_length, if_neg hs, List.take_of_length_le (by rw [sb_length]; omega)]
    rw [e]
    exact rtext_short v l s w h (by omega) small
end Go.Proofs.Ythgnklgejlebhaa
