/-
  What may be a module, in the program's order (layer 14): plain data. Nothing of the program.
-/
import Derived.Test.YtkkjfbpflfknpaaChkR
namespace Go.Proofs.Ytkkjfbpflfknpaa
open Go.RowKit

/- a list of names, no two the same -/
def NmAt (L : List ByteArray) (i : Nat) (s : ByteArray) : Prop := NameP s ∧ ∀ (k : Nat) (t : ByteArray), k < i → L[k]? = some t → t ≠ s
def NmsP (L : List ByteArray) : Prop := ∀ (i : Nat) (s : ByteArray), L[i]? = some s → NmAt L i s
def NamesQ (o : ObjD) : Prop := (o.imps.length ≤ 8 ∧ o.cmds.length ≤ 8) ∧ NmsP (o.name :: o.imps.map (·.1)) ∧ NmsP (o.cmds.map (·.1))
def AmP (o : ObjD) : Prop := (0 ≤ o.data ∧ o.data ≤ 64) ∧ o.text.size ≤ 60 ∧ 1 ≤ o.code.length ∧ o.code.length ≤ 256
def BaseP (x : Int × Int × Int) (i n : Int) : Prop := (x.2.1 = 0 ∧ (x.2.2 = -1 ∨ (0 ≤ x.2.2 ∧ x.2.2 < i))) ∨ (x.2.1 ≠ 0 ∧ 1 ≤ x.2.1 ∧ x.2.1 ≤ n ∧ 0 ≤ x.2.2 ∧ x.2.2 < 64)
def TysP (o : ObjD) : Prop := o.types.length ≤ 8 ∧ ∀ (i : Nat) (x : Int × Int × Int), o.types[i]? = some x → TypeOk o i x
def CmAt (o : ObjD) (x : ByteArray × Int) : Prop := 0 ≤ x.2 ∧ x.2 < o.code.length
def CmsP (o : ObjD) : Prop := ∀ (i : Nat) (x : ByteArray × Int), o.cmds[i]? = some x → CmAt o x
def ExsP (o : ObjD) : Prop := o.exps.length ≤ 64 ∧ ∀ (i : Nat) (x : Int × Int), o.exps[i]? = some x → ExpOk o x
def placesV (o : ObjD) (k : Int) : Int := if k = 0 then o.code.length else if k = 1 then o.data else if k = 2 then o.types.length else 0
def RiseAt (L : List Int) (d : Int) (i : Nat) (x : Int) : Prop := (0 ≤ x ∧ x < d) ∧ ∀ y : Int, 0 < i → L[i - 1]? = some y → y < x
def RiseP (L : List Int) (d : Int) : Prop := L.length ≤ 16 ∧ ∀ (i : Nat) (x : Int), L[i]? = some x → RiseAt L d i x
def ApartP (A B : List Int) : Prop := ∀ (i : Nat) (x : Int), A[i]? = some x → ∀ (j : Nat) (y : Int), B[j]? = some y → x ≠ y
def CesP (o : ObjD) : Prop := RiseP o.ptrs o.data ∧ RiseP o.procs o.data ∧ ApartP o.ptrs o.procs
def PartsQ (o : ObjD) : Prop := NamesQ o ∧ AmP o ∧ TysP o ∧ CmsP o ∧ ExsP o ∧ CesP o ∧ 0 ≤ o.body ∧ o.body ≤ o.code.length

theorem base_ok {o : ObjD} {i : Nat} {x : Int × Int × Int} (hi : i < 8) : TypeOk o i x ↔ (0 ≤ x.1 ∧ x.1 ≤ 256) ∧ x.1 % 4 = 0 ∧ BaseP x i o.imps.length := by
  unfold TypeOk BaseP
  omega
theorem exp_ok {o : ObjD} {x : Int × Int} : ExpOk o x ↔ 0 ≤ x.2 ∧ x.2 < placesV o x.1 := by
  unfold ExpOk placesV
  split
  · omega
  · split
    · omega
    · split <;> omega
/- a list that rises -/
theorem rise_lt {L : List Int} {d : Int} (h : RiseP L d) : ∀ (n k i : Nat) (x y : Int), i = k + n + 1 → L[k]? = some y → L[i]? = some x → y < x := by
  intro n
  induction n with
  | zero =>
    intro k i x y e hk hi
    subst e
    exact (h.2 _ _ hi).2 y (by omega) (by simpa using hk)
  | succ n ih =>
    intro k i x y e hk hi
    have hl := (List.getElem?_eq_some_iff.1 hi).1
    have hz := List.getElem?_eq_getElem (show i - 1 < L.length by omega)
    have h1 := ih k (i - 1) _ y (by omega) hk hz
    have h2 := (h.2 i x hi).2 _ (by omega) hz
    omega
theorem cells_iff (o : ObjD) : CesP o ↔ (o.ptrs.length ≤ 16 ∧ o.procs.length ≤ 16) ∧ ∀ (i : Nat) (x : Int), (cellsO o)[i]? = some x → CellOk o i x := by
  constructor
  · rintro ⟨hp, hq, ha⟩
    refine ⟨⟨hp.1, hq.1⟩, fun i x hx => ?_⟩
    have hlen := (List.getElem?_eq_some_iff.1 hx).1
    rw [cells_len] at hlen
    rcases Nat.lt_or_ge i o.ptrs.length with h1 | h1
    · have hx' := hx
      rw [cells_low h1] at hx'
      have g := hp.2 i x hx'
      refine ⟨g.1.1, ?_, g.1.2, fun k y hk hy => ?_⟩
      · unfold lastAt
        rw [if_neg (by omega)]
        unfold lastRaw
        by_cases h0 : i = 0
        · rw [if_pos h0]
          have := g.1.1
          omega
        · rw [if_neg h0]
          have hz := List.getElem?_eq_getElem (show i - 1 < o.ptrs.length by omega)
          rw [List.getD, cells_low (by omega), hz]
          exact g.2 _ (by omega) hz
      · rw [cells_low (by omega)] at hy
        have := rise_lt hp (i - k - 1) k i x y (by omega) hy hx'
        omega
    · have hx' := hx
      rw [cells_high h1] at hx'
      have g := hq.2 _ x hx'
      refine ⟨g.1.1, ?_, g.1.2, fun k y hk hy => ?_⟩
      · unfold lastAt
        by_cases h0 : i = o.ptrs.length
        · rw [if_pos h0]
          have := g.1.1
          omega
        · rw [if_neg h0]
          unfold lastRaw
          rw [if_neg (by omega)]
          have hz := List.getElem?_eq_getElem (show i - o.ptrs.length - 1 < o.procs.length by omega)
          have e : i - 1 - o.ptrs.length = i - o.ptrs.length - 1 := by omega
          rw [List.getD, cells_high (by omega), e, hz]
          exact g.2 _ (by omega) hz
      · rcases Nat.lt_or_ge k o.ptrs.length with h2 | h2
        · rw [cells_low h2] at hy
          exact ha k y hy _ x hx'
        · rw [cells_high h2] at hy
          have := rise_lt hq (i - k - 1) (k - o.ptrs.length) (i - o.ptrs.length) x y (by omega) hy hx'
          omega
  · rintro ⟨⟨hp, hq⟩, h⟩
    refine ⟨⟨hp, fun i x hx => ?_⟩, ⟨hq, fun i x hx => ?_⟩, fun i x hx j y hy => ?_⟩
    · have hl := (List.getElem?_eq_some_iff.1 hx).1
      have g := h i x (by rw [cells_low hl]; exact hx)
      refine ⟨⟨g.1, g.2.2.1⟩, fun y h0 hy => ?_⟩
      have := g.2.1
      unfold lastAt at this
      rw [if_neg (by omega)] at this
      unfold lastRaw at this
      rw [if_neg (by omega), List.getD, cells_low (by omega), hy] at this
      exact this
    · have hl := (List.getElem?_eq_some_iff.1 hx).1
      have e1 : (cellsO o)[o.ptrs.length + i]? = some x := by rw [cells_high (by omega), show o.ptrs.length + i - o.ptrs.length = i by omega]; exact hx
      have g := h _ x e1
      refine ⟨⟨g.1, g.2.2.1⟩, fun y h0 hy => ?_⟩
      have := g.2.1
      unfold lastAt at this
      rw [if_neg (by omega)] at this
      unfold lastRaw at this
      rw [if_neg (by omega), List.getD, cells_high (by omega), show o.ptrs.length + i - 1 - o.ptrs.length = i - 1 by omega, hy] at this
      exact this
    · have hl := (List.getElem?_eq_some_iff.1 hx).1
      have e1 : (cellsO o)[i]? = some x := by rw [cells_low hl]; exact hx
      have e2 : (cellsO o)[o.ptrs.length + j]? = some y := by rw [cells_high (by omega), show o.ptrs.length + j - o.ptrs.length = j by omega]; exact hy
      exact (h _ y e2).2.2.2 i x (by omega) e1
theorem nms_imps (o : ObjD) : NmsP (o.name :: o.imps.map (·.1)) ↔ NameP o.name ∧ ∀ (i : Nat) (x : ByteArray × Nat), o.imps[i]? = some x → ImpOk o i x := by
  constructor
  · intro h
    refine ⟨(h 0 o.name rfl).1, fun i x hx => ?_⟩
    have g := h (i + 1) x.1 (by simp [hx])
    refine ⟨g.1, fun e => g.2 0 o.name (by omega) rfl e.symm, fun k y hk hy => g.2 (k + 1) y.1 (by omega) (by simp [hy])⟩
  · rintro ⟨h0, h⟩ i s hs
    cases i with
    | zero =>
      simp at hs
      subst hs
      exact ⟨h0, fun k t hk => by omega⟩
    | succ i =>
      simp at hs
      obtain ⟨m, hx⟩ := hs
      have g := h i _ hx
      refine ⟨g.1, fun k t hk ht => ?_⟩
      cases k with
      | zero =>
        simp at ht
        subst ht
        exact fun e => g.2.1 e.symm
      | succ k =>
        simp at ht
        obtain ⟨m', hy⟩ := ht
        exact g.2.2 k _ (by omega) hy
theorem nms_cmds (o : ObjD) : NmsP (o.cmds.map (·.1)) ∧ CmsP o ↔ ∀ (i : Nat) (x : ByteArray × Int), o.cmds[i]? = some x → CmdOk o i x := by
  constructor
  · rintro ⟨h, hc⟩ i x hx
    have g := h i x.1 (by simp [hx])
    exact ⟨g.1, hc i x hx, fun k y hk hy => g.2 k y.1 hk (by simp [hy])⟩
  · intro h
    refine ⟨fun i s hs => ?_, fun i x hx => (h i x hx).2.1⟩
    simp at hs
    obtain ⟨m, hx⟩ := hs
    have g := h i _ hx
    refine ⟨g.1, fun k t hk ht => ?_⟩
    simp at ht
    obtain ⟨m', hy⟩ := ht
    exact g.2.2 k _ hk hy
theorem parts_iff (o : ObjD) : PartsQ o ↔ NamesP o ∧ PartsP o := by
  constructor
  · rintro ⟨⟨⟨h1, h2⟩, h3, h4⟩, h5, h6, h7, h8, h9, h10⟩
    have hi := (nms_imps o).1 h3
    have hc := (cells_iff o).1 h9
    exact ⟨⟨hi.1, h1, h2, hi.2, (nms_cmds o).1 ⟨h4, h7⟩⟩, ⟨h5.1, h5.2.1, h5.2.2, h10, h6.1, h8.1, hc.1.1, hc.1.2, h6.2, h8.2, hc.2⟩⟩
  · rintro ⟨hn, hp⟩
    have hm := (nms_cmds o).2 hn.cmd
    exact ⟨⟨⟨hn.few, hn.fewc⟩, (nms_imps o).2 ⟨hn.name, hn.imp⟩, hm.1⟩, ⟨hp.data, hp.text, hp.code⟩, ⟨hp.types, hp.type⟩, hm.2, ⟨hp.exps, hp.exp⟩, (cells_iff o).2 ⟨⟨hp.ptrs, hp.procs⟩, hp.cell⟩, hp.body⟩
/- a chain's references, all taken, then all looked at -/
def TakeP : List RefD → List Int → Prop
  | [], _ => True
  | r :: l, P => r.at_ ∉ P ∧ TakeP l (r.at_ :: P)
def placesT : List RefD → List Int → List Int
  | [], P => P
  | r :: l, P => placesT l (r.at_ :: P)
def AllOk (o : ObjD) (a : Nat) (l : List RefD) : Prop := ∀ (i : Nat) (r : RefD), l[i]? = some r → RefOk o a r
theorem scan_some {o : ObjD} {a : Nat} : ∀ (l : List RefD) (P : List Int), TakeP l P → AllOk o a l → scan o a l P = some (placesT l P)
  | [], P, _, _ => by rw [scan]; rfl
  | r :: l, P, ht, ha => by
    rw [scan_on ht.1 (ha 0 r rfl), scan_some l _ ht.2 (fun i x hx => ha (i + 1) x (by simpa using hx))]
    rfl
theorem scan_none {o : ObjD} {a : Nat} : ∀ (l : List RefD) (P : List Int), ¬ (TakeP l P ∧ AllOk o a l) → scan o a l P = none
  | [], P, h => absurd ⟨trivial, fun i r hr => by simp at hr⟩ h
  | r :: l, P, h => by
    by_cases h1 : r.at_ ∈ P
    · exact scan_met h1
    · by_cases h2 : RefOk o a r
      · rw [scan_on h1 h2]
        refine scan_none l _ fun g => h ⟨⟨h1, g.1⟩, fun i x hx => ?_⟩
        cases i with
        | zero =>
          simp at hx
          subst hx
          exact h2
        | succ i => exact g.2 i x (by simpa using hx)
      · exact scan_bad h2
end Go.Proofs.Ytkkjfbpflfknpaa
