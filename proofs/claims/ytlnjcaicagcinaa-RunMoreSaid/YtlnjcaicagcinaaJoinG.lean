/-
  Within a region that draws its order: what is held may be narrowed on the way. Nothing of the program.
-/
import Derived.Test.YtlnjcaicagcinaaBase
import Derived.Deep.RegionHeld
import Derived.Test.YtlnjcaicagcinaaJoinD
import Derived.Test.YtlnjcaicagcinaaJoinC
import Derived.Test.YtlnjcaicagcinaaJoinI
namespace Go.Proofs.Ytlnjcaicagcinaa

theorem held_narrow {P : Program} {ops : Array Oper} {Q : Exit → Act → World → Prop} {md : Region.Mode} {S T : World → Prop} (hST : ∀ w, T w → S w) :
    ∀ (fuel : Nat) (listed : Array Bool) (a : Act) (w : World), wpAnyH P md ops Q T fuel listed a w → wpAnyH P md ops Q S fuel listed a w
  | 0, _, _, _, h => h
  | fuel + 1, _, _, _, h => ⟨h.1, fun i hi => wpOp_mono (fun a' w' h' => ⟨hST _ h'.1, held_narrow hST fuel _ a' w' h'.2⟩) (h.2 i hi)⟩
theorem held_now {P : Program} {ops : Array Oper} {Q : Exit → Act → World → Prop} {md : Region.Mode} {S : World → Prop} (T : World → Prop) {fuel : Nat} {listed : Array Bool} {a : Act} {w : World}
    (hST : ∀ w, T w → S w) (hT : T w) (h : T w → wpAnyH P md ops Q T fuel listed a w) : wpAnyH P md ops Q S fuel listed a w := held_narrow hST _ _ _ _ (h hT)
end Go.Proofs.Ytlnjcaicagcinaa

/-
  The examples at the head of layer 7's laws (up): it returns true and changes nothing that was there. No conditions.
-/
namespace Go.Proofs.Ytlnjcaicagcinaa
open Go.ChangeShapes Go.WideShapes Go.ChangeAt Go.RowKit

theorem wordAt_put (l : List Nat) (i x : Nat) (hi : i ≤ l.length) (hx : x < 4294967296) : wordAt (splice l i (bytes4 x)) i = x := by
  have hp : piece (splice l i (bytes4 x)) i (i + 4) = bytes4 x := by
    unfold piece splice
    rw [List.drop_append, List.drop_of_length_le (by rw [List.length_take]; omega), List.nil_append, List.length_take, Nat.min_eq_left hi, Nat.sub_self, List.drop_zero, Nat.add_sub_cancel_left, List.take_append_of_le_length (by simp [bytes4]), List.take_of_length_le (by simp [bytes4])]
  unfold wordAt
  rw [hp]
  have h := word_bytes x hx
  unfold wordOf at h
  rw [List.take_of_length_le (by simp)] at h
  exact h

theorem Mach.after {w w' : World} {e : Ending} {sp mp g zp mb : Nat} {lv : Value} {L : List ZR} {n : Nat} {r : List Int} {p : Int} {l : List Nat} {d : Out} (h : Mach w sp mp g zp mb lv L n r p l) (hd : DidIns w w' e sp mp g d) (hr : d.r.length = 16) : Mach w' sp mp g zp mb lv L n d.r d.p d.l :=
  ⟨hd.2.1, hd.2.2.1, h.z.keep_row hd.2.2.2 fun j hj => by
    rcases hj with hj | hj
    · subst hj; exact ⟨ST, _, h.st, by decide, by decide, by decide⟩
    · subst hj; exact ⟨5, _, byteRow_row h.mem.row, by decide, by decide, by decide⟩, hr⟩
theorem stepOf_len (Z : List ZV) (r : List Int) (p : Int) (l : List Nat) : (stepOf Z r p l).r.length = r.length := by
  unfold stepOf
  split
  · rfl
  · split
    · simp only
      split
      · exact doOf_len _ _ _ _ _ _ _ _
      · rfl
    · rfl

abbrev ZUp : ZV := ⟨272, 272, 272, 276, [], []⟩
theorem step_up (l : List Nat) (hl : l.length = 2048) (hw : wordAt l 272 = 79691783) : stepOf [ZUp] (List.replicate 16 0) 272 l = ⟨0, (List.replicate 16 0).set 3 7, 276, l⟩ := by
  have e : (272 : Int).toNat = 272 := rfl
  unfold stepOf
  rw [e, hw, if_neg (by rw [hl]; decide), if_pos (by decide)]
  rfl
theorem step_up2 (r : List Int) (l : List Nat) : stepOf [ZUp] r 276 l = ⟨5, r, 276, l⟩ := by
  unfold stepOf
  rw [if_pos (.inl (by decide))]

def blkUp (b : Nat) : Blk := ⟨⟨ZUp, ⟨none, 0, 0⟩, ⟨none, 0, 0⟩⟩, ⟨some ⟨b, 0, none⟩, 1, 1⟩, [79691783]⟩
theorem begs_up (b : Nat) (L : List ZR) (l : List Nat) (h : Begs [blkUp b] 1 L l) : L.map ZR.z = [ZUp] ∧ l = splice (List.replicate 2048 0) 272 (bytes4 79691783) := by
  obtain ⟨L0, l0, d, ⟨rfl, rfl⟩, hd, ha, rfl⟩ := h
  simp at hd
  subst hd
  refine ⟨?_, ?_⟩
  · have hm : MayAdd ([] : List ZV) ZUp := ⟨by decide, rfl, by simp [cellsOk, DeclOk]⟩
    rcases ha with ⟨_, A, B, hs, e⟩ | ⟨hn, _⟩
    · have h0 := hs.eq
      simp at h0
      obtain ⟨rfl, rfl⟩ := h0
      exact e
    · exact absurd hm hn
  · show laid 272 [79691783] (List.replicate 2048 0) 1 = _
    rw [laid, if_pos (by decide)]
    rfl

end Go.Proofs.Ytlnjcaicagcinaa

/-
  What a step of package cpu changes, as plain data: only what can be stored; a declared cell keeps a value that it may have (layer 7). No conditions beyond those that each theorem names.
-/
namespace Go.Proofs.Ytlnjcaicagcinaa
open Go.ChangeShapes Go.WideShapes Go.ChangeAt Go.RowKit

def Wrote (Z : List ZV) (l l' : List Nat) : Prop :=
  l' = l ∨ (∃ q x : Nat, q % 4 = 0 ∧ q + 4 ≤ l.length ∧ x < 4294967296 ∧ canStore Z q 4 = true ∧ fitsZ Z (kindOf Z q) x = true ∧ l' = splice l q (bytes4 x)) ∨
  (∃ q y : Nat, q < l.length ∧ canStore Z q 1 = true ∧ kindOf Z ((q : Int) - (q : Int) % 4) = 0 ∧ l' = l.set q y)
theorem storeW_wrote (Z : List ZV) (r : List Int) (l : List Nat) (a b : Nat) (c : Int) : Wrote Z l (storeW Z r l a b c).2 ∧ ((storeW Z r l a b c).1 ≠ 0 → (storeW Z r l a b c).2 = l) := by
  simp only [storeW]
  generalize ((r.getD b 0 + c) % 4294967296).toNat = q
  split
  · exact ⟨.inl rfl, fun _ => rfl⟩
  · split
    · exact ⟨.inl rfl, fun _ => rfl⟩
    · split
      · exact ⟨.inl rfl, fun _ => rfl⟩
      · split
        · exact ⟨.inl rfl, fun _ => rfl⟩
        · rename_i h1 h2 h3 h4
          refine ⟨.inr (.inl ⟨q, (r.getD a 0 % 4294967296).toNat, by omega, by omega, by omega, by simpa using h2, ?_, rfl⟩), fun h => absurd rfl h⟩
          rw [show (((r.getD a 0 % 4294967296).toNat : Nat) : Int) = r.getD a 0 % 4294967296 by omega]
          simpa using h3
theorem storeB_wrote (Z : List ZV) (r : List Int) (l : List Nat) (a b : Nat) (c : Int) : Wrote Z l (storeB Z r l a b c).2 ∧ ((storeB Z r l a b c).1 ≠ 0 → (storeB Z r l a b c).2 = l) := by
  simp only [storeB]
  generalize ((r.getD b 0 + c) % 4294967296).toNat = q
  split
  · exact ⟨.inl rfl, fun _ => rfl⟩
  · split
    · exact ⟨.inl rfl, fun _ => rfl⟩
    · split
      · exact ⟨.inl rfl, fun _ => rfl⟩
      · rename_i h1 h2 h3
        exact ⟨.inr (.inr ⟨q, _, by omega, by simpa using h1, by simpa using h2, rfl⟩), fun h => absurd rfl h⟩
theorem doOf_wrote (Z : List ZV) (r : List Int) (p : Int) (l : List Nat) (o : Int) (a b : Nat) (c : Int) : Wrote Z l (doOf Z r p l o a b c).l ∧ ((doOf Z r p l o a b c).t ≠ 0 → (doOf Z r p l o a b c).l = l) := by
  unfold doOf
  split
  · exact ⟨.inl rfl, fun _ => rfl⟩
  split
  · exact ⟨.inl rfl, fun _ => rfl⟩
  split
  · exact ⟨.inl rfl, fun _ => rfl⟩
  split
  · exact storeW_wrote Z r l a b c
  split
  · exact ⟨.inl rfl, fun _ => rfl⟩
  split
  · exact storeB_wrote Z r l a b c
  split
  · exact ⟨.inl rfl, fun _ => rfl⟩
  split
  · exact ⟨.inl rfl, fun _ => rfl⟩
  split
  · exact ⟨.inl rfl, fun _ => rfl⟩
  · exact ⟨.inl rfl, fun _ => rfl⟩
theorem stepOf_wrote (Z : List ZV) (r : List Int) (p : Int) (l : List Nat) : Wrote Z l (stepOf Z r p l).l ∧ ((stepOf Z r p l).t ≠ 0 → (stepOf Z r p l).r = r ∧ (stepOf Z r p l).p = p ∧ (stepOf Z r p l).l = l) := by
  unfold stepOf
  split
  · exact ⟨.inl rfl, fun _ => ⟨rfl, rfl, rfl⟩⟩
  split
  · simp only
    have hd := doOf_wrote Z r (p + 4) l (insO (wordAt l p.toNat)) (insA (wordAt l p.toNat)) (insB (wordAt l p.toNat)) (insC (wordAt l p.toNat))
    split
    · rename_i h0
      exact ⟨hd.1, fun h => absurd h0 h⟩
    · rename_i h0
      exact ⟨hd.1, fun _ => ⟨rfl, rfl, hd.2 h0⟩⟩
  · exact ⟨.inl rfl, fun _ => ⟨rfl, rfl, rfl⟩⟩

theorem splice_out (l : List Nat) (q x k : Nat) (h : q + 4 ≤ l.length) (hk : k < q ∨ q + 4 ≤ k) : (splice l q (bytes4 x)).getD k 0 = l.getD k 0 := by
  have e : ∃ A b0 b1 b2 b3 C, l = A ++ b0 :: b1 :: b2 :: b3 :: C ∧ A.length = q := by
    have h4 : 4 ≤ (l.drop q).length := by rw [List.length_drop]; omega
    match hd : l.drop q, h4 with
    | b0 :: b1 :: b2 :: b3 :: C, _ => exact ⟨l.take q, b0, b1, b2, b3, C, by rw [← hd, List.take_append_drop], by rw [List.length_take]; omega⟩
    | [], h => exact absurd h (by decide)
    | [_], h => exact absurd h (by simp)
    | [_, _], h => exact absurd h (by simp)
    | [_, _, _], h => exact absurd h (by simp)
  obtain ⟨A, b0, b1, b2, b3, C, rfl, rfl⟩ := e
  simp only [splice, bytes4, List.length_cons, List.length_nil, List.take_left', List.getD]
  rcases hk with hk | hk
  · simp [List.getElem?_append, hk]
  · obtain ⟨m, rfl⟩ : ∃ m, k = A.length + 4 + m := ⟨k - (A.length + 4), by omega⟩
    have e1 : A.length + 4 + m - A.length = m + 4 := by omega
    simp [List.getElem?_append, show ¬ A.length + 4 + m < A.length by omega, e1]
theorem wordAt_same {l l' : List Nat} {k : Nat} (hl : l'.length = l.length) (hk : k + 4 ≤ l.length) (h : ∀ i, i < 4 → l'.getD (k + i) 0 = l.getD (k + i) 0) : wordAt l' k = wordAt l k := by
  unfold wordAt
  congr 1
  apply List.ext_getElem?
  intro i
  rcases Nat.lt_or_ge i 4 with hi | hi
  · have h1 := piece_getD l' k (k + 4) i (by omega)
    have h2 := piece_getD l k (k + 4) i (by omega)
    have n1 : i < (piece l' k (k + 4)).length := by rw [piece_length l' k (k + 4) (by omega)]; omega
    have n2 : i < (piece l k (k + 4)).length := by rw [piece_length l k (k + 4) (by omega)]; omega
    rw [List.getElem?_eq_getElem n1, List.getElem?_eq_getElem n2]
    have g1 : (piece l' k (k + 4)).getD i 0 = (piece l' k (k + 4))[i] := by simp [List.getD, n1]
    have g2 : (piece l k (k + 4)).getD i 0 = (piece l k (k + 4))[i] := by simp [List.getD, n2]
    rw [← g1, ← g2, h1, h2, h i hi]
  · rw [List.getElem?_eq_none (by rw [piece_length l' k (k + 4) (by omega)]; omega), List.getElem?_eq_none (by rw [piece_length l k (k + 4) (by omega)]; omega)]
theorem canStore_part {Z : List ZV} {q k : Int} (h : canStore Z q 4 = true) (h1 : q ≤ k) (h2 : k < q + 4) : canStore Z k 1 = true := by
  have key : ∀ f t, within q 4 f t = true → within k 1 f t = true := by
    intro f t hw
    simp [within] at hw ⊢
    omega
  unfold canStore at h ⊢
  rw [Bool.or_eq_true] at h ⊢
  rcases h with h | h
  · exact .inl (key _ _ h)
  · rw [List.any_eq_true] at h
    obtain ⟨z, hz, hw⟩ := h
    exact .inr (List.any_eq_true.2 ⟨z, hz, key _ _ hw⟩)

theorem Wrote.len {Z : List ZV} {l l' : List Nat} (h : Wrote Z l l') : l'.length = l.length := by
  rcases h with rfl | ⟨q, x, _, hq, _, _, _, rfl⟩ | ⟨q, y, _, _, _, rfl⟩
  · rfl
  · exact length_splice _ _ _ (by simp [bytes4]; omega)
  · simp
theorem Wrote.byte {Z : List ZV} {l l' : List Nat} (h : Wrote Z l l') (k : Nat) (hk : l'.getD k 0 ≠ l.getD k 0) : canStore Z k 1 = true := by
  rcases h with rfl | ⟨q, x, _, hq, _, hc, _, rfl⟩ | ⟨q, y, _, hc, _, rfl⟩
  · exact absurd rfl hk
  · have hkq : q ≤ k ∧ k < q + 4 := by
      refine Classical.byContradiction fun hn => hk (splice_out l q x k hq ?_)
      omega
    exact canStore_part hc (by omega) (by omega)
  · have e : k = q := Classical.byContradiction fun hn => hk (by simp [List.getD, show ¬ q = k from fun e => hn e.symm])
    subst e
    exact hc
theorem Wrote.word {Z : List ZV} {l l' : List Nat} (h : Wrote Z l l') (k : Nat) (h4 : k % 4 = 0) (hk : k + 4 ≤ l.length) (hkind : kindOf Z k ≠ 0) (hf : fitsZ Z (kindOf Z k) (wordAt l k : Nat) = true) : fitsZ Z (kindOf Z k) (wordAt l' k : Nat) = true := by
  have hl := h.len
  rcases h with rfl | ⟨q, x, hq4, hq, hx, hc, hfx, rfl⟩ | ⟨q, y, hq, hc, hkd, rfl⟩
  · exact hf
  · by_cases e : k = q
    · subst e
      rw [wordAt_put l k x (by omega) hx]
      exact hfx
    · rw [wordAt_same hl hk fun i hi => splice_out l q x (k + i) hq (by omega)]
      exact hf
  · have hne : ∀ i, i < 4 → k + i ≠ q := by
      intro i hi e
      have : (q : Int) - (q : Int) % 4 = k := by omega
      rw [this] at hkd
      exact hkind hkd
    rw [wordAt_same hl hk fun i hi => by simp [List.getD, show ¬ q = k + i from fun e => hne i hi e.symm]]
    exact hf
end Go.Proofs.Ytlnjcaicagcinaa

/-
  A machine within a law's walk; what code that is called comes to, as data (layers 7 and 8). No conditions beyond those that each theorem names.
-/
namespace Go.Proofs.Ytlnjcaicagcinaa
open Go.ChangeShapes Go.WideShapes Go.ChangeAt Go.RowKit

/- a machine within a law's walk: what was there is as it was -/
structure Run (w wr : World) (sp mp g zp mb : Nat) (lv : Value) (L : List ZR) (r : List Int) (p : Int) (l : List Nat) : Prop where
  mach : Mach wr sp mp g zp mb lv L 2000 r p l
  len : l.length = 2048
  below : Below w.heap.size w wr
  low : w.heap.size ≤ sp ∧ w.heap.size ≤ g
theorem Run.size {w wr : World} {sp mp g zp mb : Nat} {lv : Value} {L : List ZR} {r : List Int} {p : Int} {l : List Nat} (h : Run w wr sp mp g zp mb lv L r p l) : w.heap.size ≤ wr.heap.size := h.below.size
theorem Run.on {w wr w' : World} {sp mp g zp mb : Nat} {lv : Value} {L : List ZR} {r : List Int} {p : Int} {l : List Nat} (h : Run w wr sp mp g zp mb lv L r p l) (k : Kept No wr w') : Run w w' sp mp g zp mb lv L r p l :=
  ⟨h.mach.on k, h.len, h.below.trans (k.none.mono h.size), h.low⟩
theorem Run.state {w wr w' : World} {sp mp g zp mb : Nat} {lv : Value} {L : List ZR} {r r' : List Int} {p p' : Int} {l : List Nat} (h : Run w wr sp mp g zp mb lv L r p l) (k : Kept (· = sp) wr w') (h' : RowAt w' sp ST (cst r' p')) (hr : r'.length = 16) : Run w w' sp mp g zp mb lv L r' p' l :=
  ⟨h.mach.state k h' hr, h.len, k.below h.below h.size fun j _ hj => by have := h.low.1; omega, h.low⟩
theorem Run.step {w wr w' : World} {e : Ending} {sp mp g zp mb : Nat} {lv : Value} {L : List ZR} {r : List Int} {p : Int} {l : List Nat} (h : Run w wr sp mp g zp mb lv L r p l) (hd : DidIns wr w' e sp mp g (stepOf (L.map ZR.z) r p l)) :
    Run w w' sp mp g zp mb lv L (stepOf (L.map ZR.z) r p l).r (stepOf (L.map ZR.z) r p l).p (stepOf (L.map ZR.z) r p l).l :=
  ⟨h.mach.after hd (by rw [stepOf_len]; exact h.mach.rl), by rw [(stepOf_wrote _ r p l).1.len]; exact h.len, hd.2.2.2.below h.below h.size fun j _ hj => by
    have h1 := h.low.1
    have h2 := h.low.2
    rcases hj with hj | hj <;> omega, h.low⟩

theorem RowAt.range {w : World} {b : Nat} {t : TypeId} {cs : List Value} (h : RowAt w b t cs) : w.rangeAt b 0 cs := fun j v hv => by rw [Nat.zero_add, h.cell]; exact hv
theorem exec_bin {P : Program} {w : World} {o : Oper} {ρ : Operand → Value} (op : BinOp) (xt : TypeId) (x y : Operand) (yt : TypeId) (ho : o.op = Op.binOp op xt x y yt) (vx vy : Value) (hx : ρ x = vx) (hy : ρ y = vy) {r : Value} (hg : (eqGuard op xt x y vx vy).run P w = .ok () w) (hr : (binOp op xt vx vy).run P w = .ok r w) : (execOp ρ o).run P w = .ok (.value r) w := by
  unfold execOp
  simp [ho, hx, hy, hg, hr, Result.andThen]
theorem bytes_all {w : World} {mp g : Nat} {l : List Nat} (h : MemAt w mp g l) (hl : l.length = 2048) :
    Calls Try.prog 8 #[.pointer (some ⟨mp, 0, none⟩), .int .i64 0, .int .i64 2048] w fun e w' => e = .returned (.slice (some ⟨w.heap.size, 0, none⟩) 2048 2048) ∧ ByteRow w' w.heap.size l ∧ Kept No w w' := by
  have hb := memBytes_yes mp g l 0 2048 0 2048 w h (.inl rfl) (.inl ⟨rfl, by omega⟩) (by omega)
  refine hb.mono ?_
  rintro e w' ⟨rfl, rfl⟩
  have e0 : piece l 0 2048 = l := by rw [← hl]; exact piece_all l
  rw [e0]
  exact ⟨rfl, ByteRow.new w l h.row.2, (Kept.refl _ _).alloc _⟩
end Go.Proofs.Ytlnjcaicagcinaa
