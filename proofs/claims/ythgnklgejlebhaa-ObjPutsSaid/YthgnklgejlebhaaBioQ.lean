/-
  The program's reader (layer 11): take, New, Number, Text, Left, Short. No conditions beyond those that each theorem names.
-/
import Derived.Test.YthgnklgejlebhaaBioP
import Derived.Test.YthgnklgejlebhaaBioT
import Derived.Test.YthgnklgejlebhaaMathA
namespace Go.Proofs.Ythgnklgejlebhaa
open Go.ChangeShapes Go.WideShapes Go.ChangeAt Go.RowKit

abbrev PrT : TypeId := 90
structure PrAt (w : World) (pb : Nat) (l : List Nat) (sh : Bool) : Prop where
  is : ∃ v, RowAt w pb PrT [v, .bool sh] ∧ BytesAt w v l
  small : l.length ≤ 100000
  gone : sh = true → l = []
/- bytes do not lie where the reader does -/
theorem BytesAt.off_two {w : World} {v : Value} {l : List Nat} (h : BytesAt w v l) {pb : Nat} {x y : Value} {t : TypeId} (hr : RowAt w pb t [x, y]) (hx : ∀ z, x ≠ .int .u8 z) (hy : ∀ z, y ≠ .int .u8 z) {w' : World} (k : Kept (· = pb) w w') : BytesAt w' v l := by
  obtain ⟨⟨a, n, cap, rfl, h1, h2, h3, h4, h5⟩, hf⟩ := h
  refine ⟨⟨a, n, cap, rfl, h1, h2, h3, h4, ?_⟩, hf⟩
  rcases h5 with h5 | ⟨b, off, e, hl, hc⟩
  · exact .inl h5
  · rcases Nat.eq_zero_or_pos n with h0 | h0
    · exact .inl h0
    · have hb : b ≠ pb := by
        rintro rfl
        have := hc 0 h0
        rw [Nat.add_zero, hr.cell] at this
        match off, this with
        | 0, this => exact hx _ (by simpa using this)
        | 1, this => exact hy _ (by simpa using this)
        | off + 2, this => simp at this
      exact .inr ⟨b, off, e, Nat.lt_of_lt_of_le hl k.more, fun i hi => (k.cell (p := ⟨b, off + i, none⟩) hl hb).trans (hc i hi)⟩
theorem BytesAt.ne8 {w : World} {v : Value} {l : List Nat} (h : BytesAt w v l) : ∀ z, v ≠ .int .u8 z := by
  obtain ⟨a, cap, rfl, _⟩ := h.shape
  intro z e
  cases e
theorem ne8_bool (b : Bool) : ∀ z, Value.bool b ≠ .int .u8 z := fun z e => by cases e
/- a part of a slice -/
theorem BytesAt.sub {w : World} {a : Option Addr} {n cap : Nat} {l : List Nat} (h : BytesAt w (.slice a n cap) l) (i j : Nat) (hij : i ≤ j) (hj : j ≤ l.length) (ad : Option Addr) (had : (ad = none → cap = i) ∧ (i < j → ad = a.map fun x => x.add i)) :
    BytesAt w (.slice ad (j - i) (cap - i)) (piece l i j) := by
  obtain ⟨⟨a, n, cap, e, rfl, h2, h3, h4, h5⟩, hf⟩ := h
  cases e
  refine ⟨⟨ad, j - i, cap - i, rfl, (piece_length l i j hj).symm, by omega, by omega, fun e => by have := had.1 e; omega, ?_⟩, piece_lt hf i j⟩
  rcases Nat.lt_or_ge i j with hlt | hge
  · rcases h5 with h5 | ⟨b, off, rfl, hl, hc⟩
    · omega
    · refine .inr ⟨b, off + i, by rw [had.2 hlt, Option.map_some, Addr.add_lit], hl, fun m hm => ?_⟩
      rw [Nat.add_assoc, hc (i + m) (by omega), piece_getD l i j m hm]
  · exact .inl (by omega)
theorem add_zero_ (a : Option Addr) : (a.map fun x => x.add 0) = a := by
  cases a with
  | none => rfl
  | some x => simp [Addr.add]
theorem piece_take (l : List Nat) (k : Nat) : piece l 0 k = l.take k := by simp [piece]
theorem piece_drop (l : List Nat) (k : Nat) : piece l k l.length = l.drop k := by
  rw [piece, List.take_of_length_le (by rw [List.length_drop]; exact Nat.le_refl _)]
theorem PrAt.small_drop {l : List Nat} (h : l.length ≤ 100000) (k : Nat) : (l.drop k).length ≤ 100000 := by rw [List.length_drop]; omega

def takeV (l : List Nat) (k : Nat) : List Nat := if k ≤ l.length then l.take k else []
def takeL (l : List Nat) (k : Nat) : List Nat := if k ≤ l.length then l.drop k else []
def takeS (l : List Nat) (sh : Bool) (k : Nat) : Bool := sh || decide (l.length < k)
set_option maxRecDepth 100000 in
set_option maxHeartbeats 1000000 in
theorem take_any (pb : Nat) (l : List Nat) (sh : Bool) (k : Nat) (w : World) (h : PrAt w pb l sh) (hk : k ≤ 100000) :
    Calls Try.prog 66 #[.pointer (some ⟨pb, 0, none⟩), .int .i64 (k : Nat)] w fun e w' => ∃ v, e = .returned v ∧ BytesAt w' v (takeV l k) ∧ PrAt w' pb (takeL l k) (takeS l sh k) ∧ Kept (· = pb) w w' := by
  obtain ⟨v, hr, hb⟩ := h.is
  obtain ⟨a, cap, rfl, hcap, hmax, hnil⟩ := hb.shape
  have c0 := hr.cell 0
  have c1 := hr.cell 1
  have z0 := hr.free 0
  have z1 := hr.free 1
  simp only [List.getElem?_cons_zero, List.getElem?_cons_succ] at c0 c1
  obtain ⟨n, hn⟩ : ∃ n, n = l.length := ⟨_, rfl⟩
  by_cases hlt : n < k
  · have e1 : takeV l k = [] := if_neg (by omega)
    have e2 : takeL l k = [] := if_neg (by omega)
    have e3 : takeS l sh k = true := by simp [takeS]; omega
    rw [e1, e2, e3]
    have RES : Hid (PrAt ((w.setCell ⟨pb, 0, none⟩ (.slice none 0 0)).setCell ⟨pb, 1, none⟩ (.bool true)) pb [] true ∧ Kept (· = pb) w ((w.setCell ⟨pb, 0, none⟩ (.slice none 0 0)).setCell ⟨pb, 1, none⟩ (.bool true))) :=
      ⟨⟨⟨_, (hr.setCell 0 (.slice none 0 0)).setCell 1 (.bool true), ⟨⟨none, 0, 0, rfl, rfl, Nat.le_refl _, Nat.zero_le _, fun _ => rfl, .inl rfl⟩, fun x hx => by cases hx⟩⟩, by simp, fun _ => rfl⟩, (kept_set w pb 0 _).trans (kept_set _ pb 1 _)⟩
    have z1' := (hr.setCell 0 (.slice none 0 0)).free 1
    clear hr hb h e1 e2 e3
    rw [← hn] at c0
    have j1 : (n : Int) < (k : Int) := by omega
    clear hn
    go_enter Try.func66, Try.ntmps66
    go_wp2_with fail
    go_ret
    exact ⟨_, rfl, ⟨⟨none, 0, 0, rfl, rfl, Nat.le_refl _, Nat.zero_le _, fun _ => rfl, .inl rfl⟩, fun x hx => by cases hx⟩, RES.out⟩
  · have e1 : takeV l k = l.take k := if_pos (by omega)
    have e2 : takeL l k = l.drop k := if_pos (by omega)
    have e3 : takeS l sh k = sh := by simp [takeS]; omega
    rw [e1, e2, e3]
    rw [← hn] at c0 hcap
    have i1 : ¬ (n : Int) < (k : Int) := by omega
    have i2 : (k : Int) ≤ (cap : Int) := by omega
    have i3 : (k : Int) ≤ (n : Int) := by omega
    have RES : Hid (∀ ad, (ad = none → cap = k) → (k < n → ad = a.map fun x => x.add k) → BytesAt (w.setCell ⟨pb, 0, none⟩ (.slice ad (n - k) (cap - k))) (.slice a k cap) (l.take k) ∧ PrAt (w.setCell ⟨pb, 0, none⟩ (.slice ad (n - k) (cap - k))) pb (l.drop k) sh ∧ Kept (· = pb) w (w.setCell ⟨pb, 0, none⟩ (.slice ad (n - k) (cap - k)))) := fun ad a1 a2 => by
      have kp := kept_set w pb 0 (.slice ad (n - k) (cap - k))
      have q1 := hb.sub 0 k (Nat.zero_le _) (by omega) a ⟨fun e => hnil e, fun _ => (add_zero_ a).symm⟩
      have q2 := hb.sub k l.length (by omega) (Nat.le_refl _) ad ⟨a1, fun e => a2 (by omega)⟩
      rw [piece_take, Nat.sub_zero, Nat.sub_zero] at q1
      rw [piece_drop, ← hn] at q2
      exact ⟨q1.off_two hr hb.ne8 (ne8_bool _) kp, ⟨⟨_, hr.setCell 0 _, q2.off_two hr hb.ne8 (ne8_bool _) kp⟩, PrAt.small_drop h.small k, fun e => by rw [h.gone e]; exact List.drop_nil⟩, kp⟩
    have HNIL : Hid (a = none → cap = k) := fun e => by have := hnil e; omega
    have HMAP : Hid (cap ≠ k → (a.map fun x => x.add k) = none → cap = k) := fun hne e => by
      cases a with
      | none => exact HNIL.out rfl
      | some x => cases e
    have HCAP : Hid (n ≤ cap) := hcap
    clear hb hr hn h hnil e1 e2 e3 hcap
    by_cases hc : cap = k
    · have q := RES.out a HNIL.out (fun e => by have := HCAP.out; omega)
      rw [hc, Nat.sub_self] at q
      have Q := Lib.hid q
      clear q HMAP RES HNIL HCAP
      rw [hc] at c0
      clear i2 hmax
      have i2 : (k : Int) ≤ (k : Int) := Int.le_refl _
      clear hc cap
      go_enter Try.func66, Try.ntmps66
      go_wp2_with fail
      go_ret
      exact ⟨_, rfl, Q.out⟩
    · have Q := Lib.hid (RES.out _ (HMAP.out hc) (fun _ => rfl))
      go_enter Try.func66, Try.ntmps66
      go_wp2_with fail
      go_ret
      exact ⟨_, rfl, Q.out⟩

theorem wordN_val : ∀ l : List Nat, wordN l = valB l
  | [] => rfl
  | b :: l => by rw [wordN, valB, wordN_val l]
theorem takeV_lt {l : List Nat} (h : ∀ b ∈ l, b < 256) (k : Nat) : ∀ b ∈ takeV l k, b < 256 := by
  unfold takeV
  split
  · exact fun b hb => h b (List.mem_of_mem_take hb)
  · intro b hb; cases hb
theorem takeV_len (l : List Nat) (k : Nat) : (takeV l k).length ≤ k := by
  unfold takeV
  split
  · rw [List.length_take]; omega
  · exact Nat.zero_le _
def pnumV (l : List Nat) (k : Int) : Nat := if wideK k then valB (takeV l k.toNat) else 0
def pnumL (l : List Nat) (k : Int) : List Nat := if wideK k then takeL l k.toNat else l
def pnumS (l : List Nat) (sh : Bool) (k : Int) : Bool := if wideK k then takeS l sh k.toNat else sh
set_option maxRecDepth 100000 in
set_option maxHeartbeats 1000000 in
theorem bnum_any (pb : Nat) (l : List Nat) (sh : Bool) (k : Int) (w : World) (h : PrAt w pb l sh) :
    Calls Try.prog 50 #[.pointer (some ⟨pb, 0, none⟩), .int .i64 k] w fun e w' => e = .returned (.int .u32 ((pnumV l k : Nat) : Int)) ∧ PrAt w' pb (pnumL l k) (pnumS l sh k) ∧ Kept (· = pb) w w' := by
  cases hk : wideK k with
  | false =>
    have e1 : pnumV l k = 0 := by simp [pnumV, hk]
    have e2 : pnumL l k = l := by simp [pnumL, hk]
    have e3 : pnumS l sh k = sh := by simp [pnumS, hk]
    rw [e1, e2, e3]
    have RES : Hid (PrAt w pb l sh ∧ Kept (· = pb) w w) := ⟨h, Kept.refl _ _⟩
    clear h e1 e2 e3
    go_enter Try.func50, Try.ntmps50
    go_wp2_with fail
    refine (bwide_any k _).mono ?_
    rw [hk]
    rintro e w1 ⟨rfl, rfl⟩
    go_wp2_with fail
    go_ret
    exact ⟨rfl, RES.out⟩
  | true =>
    have e1 : pnumV l k = valB (takeV l k.toNat) := by simp [pnumV, hk]
    have e2 : pnumL l k = takeL l k.toNat := by simp [pnumL, hk]
    have e3 : pnumS l sh k = takeS l sh k.toNat := by simp [pnumS, hk]
    rw [e1, e2, e3]
    have hk' := hk
    simp [wideK] at hk'
    obtain ⟨k, rfl⟩ : ∃ m : Nat, k = m := ⟨k.toNat, by omega⟩
    simp only [Int.toNat_natCast]
    have H := Lib.hid (take_any pb l sh k w h (by omega))
    have H4 : Hid (k ≤ 4) := by have := hk'.2; show _ ≤ _; omega
    have HLEN := Lib.hid (takeV_len l k)
    clear h hk' e1 e2 e3
    go_enter Try.func50, Try.ntmps50
    go_wp2_with fail
    refine (bwide_any _ _).mono ?_
    rw [hk]
    rintro e w1 ⟨rfl, rfl⟩
    clear hk
    go_wp2_with fail
    refine H.out.mono ?_
    rintro e w2 ⟨v, rfl, hv, hp⟩
    have RES := Lib.hid hp
    clear hp H
    generalize ht : takeV l k = t at *
    have HT := Lib.hid ht
    clear ht
    obtain ⟨a, cap, rfl, hcap, hmax, hnil⟩ := hv.shape
    have HV := Lib.hid hv
    clear hv hcap hmax hnil
    rcases Nat.eq_zero_or_pos t.length with h0 | h0
    · have ht : t = [] := List.eq_nil_of_length_eq_zero h0
      subst ht
      clear HV HLEN h0
      rw [List.length_nil]
      go_wp2_with fail
      go_loopw [5, 15] (fun v i wr => w2 = wr ∧ i = .int .i64 0 ∧ v = .int .u32 0) (fun _ _ _ => 0)
      case atStart => exact ⟨rfl, rfl, rfl⟩
      case round =>
        obtain ⟨rfl, rfl, rfl⟩ := hrel
        go_wp2_with fail
        go_ret
        exact ⟨end_int (by rw [HT.out]; rfl), RES.out⟩
    · obtain ⟨b, off, cap', e, hc⟩ := HV.out.byte h0
      cases e
      have HC := Lib.hid hc
      have HF := Lib.hid HV.out.fit
      have hlen := HLEN.out
      have h4 := H4.out
      have HT4 : Hid (t.length ≤ 4) := by show _ ≤ _; omega
      clear hc h0 hlen h4
      go_wp2_with fail
      go_loopw [5, 15] (fun v i wr => w2 = wr ∧ ∃ m : Nat, m ≤ t.length ∧ i = .int .i64 m ∧ v = .int .u32 (wordN (t.take m) : Nat)) (fun _ i _ => t.length - (intOf i).toNat)
      case atStart => exact ⟨rfl, 0, Nat.zero_le _, rfl, rfl⟩
      case round =>
        obtain ⟨rfl, m, hm, rfl, rfl⟩ := hrel
        by_cases hlt : m < t.length
        · have hcell := HC.out m hlt
          have ht4 := HT4.out
          have hrd := Lib.hid (word_round t m HF.out hlt (by omega))
          have hbyte := getD_lt t m HF.out
          generalize t.getD m 0 = c at hcell hrd hbyte
          go_wp2_with fail
          go_roundw
          case rel => exact ⟨trivial, m + 1, by omega, by go_num, by rw [← hrd.out]⟩
          case measure => simp [intOf]; omega
        · obtain rfl : m = t.length := by omega
          rw [List.take_length, wordN_val]
          clear hlt hm
          go_wp2_with fail
          go_ret
          exact ⟨end_int (by rw [HT.out]), RES.out⟩
theorem pnum1_lt {l : List Nat} (h : ∀ b ∈ l, b < 256) : pnumV l 1 < 256 := by
  show valB (takeV l 1) < 256
  have h1 := valB_lt _ (takeV_lt h 1)
  have h2 := takeV_len l 1
  exact Nat.lt_of_lt_of_le h1 (Nat.pow_le_pow_right (n := 256) (by decide) h2)
theorem PrAt.fit {w : World} {pb : Nat} {l : List Nat} {sh : Bool} (h : PrAt w pb l sh) : ∀ b ∈ l, b < 256 := by
  obtain ⟨v, _, hb⟩ := h.is
  exact hb.fit
def ptxtV (l : List Nat) : List Nat := takeV (pnumL l 1) (pnumV l 1)
def ptxtL (l : List Nat) : List Nat := takeL (pnumL l 1) (pnumV l 1)
def ptxtS (l : List Nat) (sh : Bool) : Bool := takeS (pnumL l 1) (pnumS l sh 1) (pnumV l 1)
set_option maxRecDepth 100000 in
theorem btxt_any (pb : Nat) (l : List Nat) (sh : Bool) (w : World) (h : PrAt w pb l sh) :
    Calls Try.prog 51 #[.pointer (some ⟨pb, 0, none⟩)] w fun e w' => e = .returned (.string (strOf (ptxtV l))) ∧ PrAt w' pb (ptxtL l) (ptxtS l sh) ∧ Kept (· = pb) w w' := by
  have H := Lib.hid (bnum_any pb l sh 1 w h)
  have hx := pnum1_lt h.fit
  unfold ptxtV ptxtL ptxtS
  clear h
  generalize pnumV l 1 = x at *
  have j1 : IntKind.i64.wrap (x : Int) = (x : Int) := IntWalk.i64_in _ (by omega)
  have HX : Hid (x ≤ 100000) := by show _ ≤ _; omega
  clear hx
  go_enter Try.func51, Try.ntmps51
  go_wp2_with fail
  refine H.out.mono ?_
  rintro e w1 ⟨rfl, hp, hk⟩
  have H2 := Lib.hid (take_any pb _ _ x w1 hp HX.out)
  have HK := Lib.hid hk
  clear hp hk H
  go_wp2_with fail
  refine H2.out.mono ?_
  rintro e w2 ⟨v, rfl, hv, hp, hk⟩
  have RES := Lib.hid (And.intro hp (HK.out.trans hk))
  have hs := hv.string
  obtain ⟨a, cap, rfl, _⟩ := hv.shape
  clear hp hk hv HK H2
  go_wp2_with fail
  go_ret
  exact ⟨rfl, RES.out⟩
set_option maxRecDepth 100000 in
theorem bleft_any (pb : Nat) (l : List Nat) (sh : Bool) (w : World) (h : PrAt w pb l sh) :
    Calls Try.prog 34 #[.pointer (some ⟨pb, 0, none⟩)] w fun e w' => e = .returned (.int .i64 ((l.length : Nat) : Int)) ∧ w = w' := by
  obtain ⟨v, hr, hb⟩ := h.is
  obtain ⟨a, cap, rfl, _⟩ := hb.shape
  have c0 := hr.cell 0
  simp only [List.getElem?_cons_zero] at c0
  clear hr hb h
  generalize l.length = n at *
  go_enter Try.func34, Try.ntmps34
  go_wp2_with fail
  go_ret
  exact ⟨rfl, rfl⟩
set_option maxRecDepth 100000 in
theorem bshort_any (pb : Nat) (l : List Nat) (sh : Bool) (w : World) (h : PrAt w pb l sh) :
    Calls Try.prog 33 #[.pointer (some ⟨pb, 0, none⟩)] w fun e w' => e = .returned (.bool sh) ∧ w = w' := by
  obtain ⟨v, hr, hb⟩ := h.is
  have c1 := hr.cell 1
  simp only [List.getElem?_cons_zero, List.getElem?_cons_succ] at c1
  clear hr hb h
  go_enter Try.func33, Try.ntmps33
  go_wp2_with fail
  go_ret
  exact ⟨rfl, rfl⟩
set_option maxRecDepth 100000 in
theorem bnew_any (v : Value) (l : List Nat) (w : World) (h : BytesAt w v l) (small : l.length ≤ 100000) :
    Calls Try.prog 30 #[v] w fun e w' => ∃ pb, e = .returned (.pointer (some ⟨pb, 0, none⟩)) ∧ PrAt w' pb l false ∧ w.heap.size ≤ pb ∧ pb < w'.heap.size ∧ Below w.heap.size w w' := by
  obtain ⟨a, cap, rfl, _⟩ := h.shape
  have hb : Below w.heap.size w (w.alloc (.cells #[.slice a l.length cap, .bool false] PrT)) := (Below.refl _ _).alloc (Nat.le_refl _) _
  have RES : Hid (PrAt (w.alloc (.cells #[.slice a l.length cap, .bool false] PrT)) w.heap.size l false ∧ w.heap.size ≤ w.heap.size ∧ w.heap.size < (w.alloc (.cells #[.slice a l.length cap, .bool false] PrT)).heap.size ∧ Below w.heap.size w (w.alloc (.cells #[.slice a l.length cap, .bool false] PrT))) :=
    ⟨⟨⟨_, RowAt.new w PrT [.slice a l.length cap, .bool false], h.on hb⟩, small, fun e => by cases e⟩, Nat.le_refl _, by simp, hb⟩
  clear hb h
  generalize l.length = n at *
  go_enter Try.func30, Try.ntmps30
  go_wp2_with fail
  go_ret
  exact ⟨_, rfl, RES.out⟩
end Go.Proofs.Ythgnklgejlebhaa
