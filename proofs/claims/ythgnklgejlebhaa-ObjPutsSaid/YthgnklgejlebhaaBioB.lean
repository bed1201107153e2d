/-
  The program's reader (layer 11) over bytes that lie below a mark: what is written above the mark leaves it alone. No conditions beyond those that each theorem names.
-/
import Derived.Test.YthgnklgejlebhaaBioQ
namespace Go.Proofs.Ythgnklgejlebhaa
open Go.ChangeShapes Go.WideShapes Go.ChangeAt Go.RowKit

structure PrB (w : World) (pb B : Nat) (l : List Nat) (sh : Bool) : Prop where
  is : ∃ v, RowAt w pb PrT [v, .bool sh] ∧ BytesAt w v l ∧ (l ≠ [] → ∀ j, own v j → j < B)
  small : l.length ≤ 100000
  gone : sh = true → l = []
theorem PrB.at_ {w : World} {pb B : Nat} {l : List Nat} {sh : Bool} (h : PrB w pb B l sh) : PrAt w pb l sh := by
  obtain ⟨v, hr, hb, _⟩ := h.is
  exact ⟨⟨v, hr, hb⟩, h.small, h.gone⟩
theorem BytesAt.keep {S : Nat → Prop} {w w' : World} {v : Value} {l : List Nat} (h : BytesAt w v l) (k : Kept S w w') (hS : l ≠ [] → ∀ j, own v j → ¬ S j) : BytesAt w' v l := by
  obtain ⟨⟨a, n, cap, rfl, h1, h2, h3, h4, h5⟩, hf⟩ := h
  refine ⟨⟨a, n, cap, rfl, h1, h2, h3, h4, ?_⟩, hf⟩
  rcases h5 with h5 | ⟨b, off, e, hl, hc⟩
  · exact .inl h5
  · subst e
    rcases Nat.eq_zero_or_pos n with h0 | h0
    · exact .inl h0
    · exact .inr ⟨b, off, rfl, Nat.lt_of_lt_of_le hl k.more, fun i hi => (k.cell (p := ⟨b, off + i, none⟩) hl (hS (fun e => by rw [h1, e] at h0; cases h0) b rfl)).trans (hc i hi)⟩
theorem BytesAt.own_lt {w : World} {v : Value} {l : List Nat} (h : BytesAt w v l) (hne : l ≠ []) : ∀ j, own v j → j < w.heap.size := by
  obtain ⟨⟨a, n, cap, rfl, h1, h2, h3, h4, h5⟩, hf⟩ := h
  intro j hj
  rcases h5 with h5 | ⟨b, off, e, hl, hc⟩
  · exact absurd (List.eq_nil_of_length_eq_zero (h1.symm.trans h5)) hne
  · subst e
    rw [show j = b from hj]
    exact hl
theorem PrB.keep {S : Nat → Prop} {w w' : World} {pb B : Nat} {l : List Nat} {sh : Bool} (h : PrB w pb B l sh) (k : Kept S w w') (hp : ¬ S pb) (hB : ∀ j, S j → B ≤ j) : PrB w' pb B l sh := by
  obtain ⟨v, hr, hb, ho⟩ := h.is
  exact ⟨⟨v, hr.keep k hp, hb.keep k (fun hne j hj hs => by have := ho hne j hj; have := hB j hs; omega), ho⟩, h.small, h.gone⟩
theorem own_same (a : Option Addr) (n c n' c' : Nat) : ∀ j, own (.slice a n c) j → own (.slice a n' c') j := by
  intro j hj
  cases a with
  | none => exact hj
  | some x => exact hj
theorem own_add (a : Option Addr) (i n c n' c' : Nat) : ∀ j, own (.slice (a.map fun x => x.add i) n c) j → own (.slice a n' c') j := by
  intro j hj
  cases a with
  | none => exact hj
  | some x =>
    by_cases hi : i = 0
    · simpa [own, Addr.add, hi] using hj
    · simpa [own, Addr.add, hi] using hj

set_option maxRecDepth 100000 in
set_option maxHeartbeats 1000000 in
theorem takeB_any (pb B : Nat) (l : List Nat) (sh : Bool) (k : Nat) (w : World) (h : PrB w pb B l sh) (hk : k ≤ 100000) :
    Calls Try.prog 66 #[.pointer (some ⟨pb, 0, none⟩), .int .i64 (k : Nat)] w fun e w' => ∃ v, e = .returned v ∧ BytesAt w' v (takeV l k) ∧ PrB w' pb B (takeL l k) (takeS l sh k) ∧ Kept (· = pb) w w' := by
  obtain ⟨v, hr, hb, ho⟩ := h.is
  obtain ⟨a, cap, rfl, hcap, hmax, hnil⟩ := hb.shape
  have c0 := hr.cell 0
  have c1 := hr.cell 1
  have z0 := hr.free 0
  have z1 := hr.free 1
  simp only [List.getElem?_cons_zero, List.getElem?_cons_succ] at c0 c1
  obtain ⟨n, hn⟩ : ∃ n, n = l.length := ⟨_, rfl⟩
  by_cases hlt : n < k
  · have e1 : takeV l k = [] := if_neg (by omega)
    have e2 : takeL l k = [] := if_neg (by omega)
    have e3 : takeS l sh k = true := by simp [takeS]; omega
    rw [e1, e2, e3]
    have RES : Hid (PrB ((w.setCell ⟨pb, 0, none⟩ (.slice none 0 0)).setCell ⟨pb, 1, none⟩ (.bool true)) pb B [] true ∧ Kept (· = pb) w ((w.setCell ⟨pb, 0, none⟩ (.slice none 0 0)).setCell ⟨pb, 1, none⟩ (.bool true))) :=
      ⟨⟨⟨_, (hr.setCell 0 (.slice none 0 0)).setCell 1 (.bool true), ⟨⟨none, 0, 0, rfl, rfl, Nat.le_refl _, Nat.zero_le _, fun _ => rfl, .inl rfl⟩, fun x hx => by cases hx⟩, fun hne => absurd rfl hne⟩, by simp, fun _ => rfl⟩, (kept_set w pb 0 _).trans (kept_set _ pb 1 _)⟩
    have z1' := (hr.setCell 0 (.slice none 0 0)).free 1
    clear hr hb h ho e1 e2 e3
    rw [← hn] at c0
    have j1 : (n : Int) < (k : Int) := by omega
    clear hn
    go_enter Try.func66, Try.ntmps66
    go_wp2_with fail
    go_ret
    exact ⟨_, rfl, ⟨⟨none, 0, 0, rfl, rfl, Nat.le_refl _, Nat.zero_le _, fun _ => rfl, .inl rfl⟩, fun x hx => by cases hx⟩, RES.out⟩
  · have e1 : takeV l k = l.take k := if_pos (by omega)
    have e2 : takeL l k = l.drop k := if_pos (by omega)
    have e3 : takeS l sh k = sh := by simp [takeS]; omega
    rw [e1, e2, e3]
    rw [← hn] at c0 hcap
    have i1 : ¬ (n : Int) < (k : Int) := by omega
    have i2 : (k : Int) ≤ (cap : Int) := by omega
    have i3 : (k : Int) ≤ (n : Int) := by omega
    have RES : Hid (∀ ad, (ad = none → cap = k) → (k < n → ad = a.map fun x => x.add k) → (∀ j, own (.slice ad (n - k) (cap - k)) j → own (.slice a l.length cap) j) → BytesAt (w.setCell ⟨pb, 0, none⟩ (.slice ad (n - k) (cap - k))) (.slice a k cap) (l.take k) ∧ PrB (w.setCell ⟨pb, 0, none⟩ (.slice ad (n - k) (cap - k))) pb B (l.drop k) sh ∧ Kept (· = pb) w (w.setCell ⟨pb, 0, none⟩ (.slice ad (n - k) (cap - k)))) := fun ad a1 a2 a3 => by
      have kp := kept_set w pb 0 (.slice ad (n - k) (cap - k))
      have q1 := hb.sub 0 k (Nat.zero_le _) (by omega) a ⟨fun e => hnil e, fun _ => (add_zero_ a).symm⟩
      have q2 := hb.sub k l.length (by omega) (Nat.le_refl _) ad ⟨a1, fun e => a2 (by omega)⟩
      rw [piece_take, Nat.sub_zero, Nat.sub_zero] at q1
      rw [piece_drop, ← hn] at q2
      exact ⟨q1.off_two hr hb.ne8 (ne8_bool _) kp, ⟨⟨_, hr.setCell 0 _, q2.off_two hr hb.ne8 (ne8_bool _) kp, fun hne j hj => ho (fun e => hne (by rw [e]; exact List.drop_nil)) j (a3 j hj)⟩, PrAt.small_drop h.small k, fun e => by rw [h.gone e]; exact List.drop_nil⟩, kp⟩
    have HNIL : Hid (a = none → cap = k) := fun e => by have := hnil e; omega
    have HMAP : Hid (cap ≠ k → (a.map fun x => x.add k) = none → cap = k) := fun hne e => by
      cases a with
      | none => exact HNIL.out rfl
      | some x => cases e
    have HCAP : Hid (n ≤ cap) := hcap
    clear hb hr hn h ho hnil e1 e2 e3 hcap
    by_cases hc : cap = k
    · have q := RES.out a HNIL.out (fun e => by have := HCAP.out; omega) (own_same a _ _ _ _)
      rw [hc, Nat.sub_self] at q
      have Q := Lib.hid q
      clear q HMAP RES HNIL HCAP
      rw [hc] at c0
      clear i2 hmax
      have i2 : (k : Int) ≤ (k : Int) := Int.le_refl _
      clear hc cap
      go_enter Try.func66, Try.ntmps66
      go_wp2_with fail
      go_ret
      exact ⟨_, rfl, Q.out⟩
    · have Q := Lib.hid (RES.out _ (HMAP.out hc) (fun _ => rfl) (own_add a k _ _ _ _))
      go_enter Try.func66, Try.ntmps66
      go_wp2_with fail
      go_ret
      exact ⟨_, rfl, Q.out⟩

set_option maxRecDepth 100000 in
set_option maxHeartbeats 1000000 in
theorem bnumB_any (pb B : Nat) (l : List Nat) (sh : Bool) (k : Int) (w : World) (h : PrB w pb B l sh) :
    Calls Try.prog 50 #[.pointer (some ⟨pb, 0, none⟩), .int .i64 k] w fun e w' => e = .returned (.int .u32 ((pnumV l k : Nat) : Int)) ∧ PrB w' pb B (pnumL l k) (pnumS l sh k) ∧ Kept (· = pb) w w' := by
  cases hk : wideK k with
  | false =>
    have e1 : pnumV l k = 0 := by simp [pnumV, hk]
    have e2 : pnumL l k = l := by simp [pnumL, hk]
    have e3 : pnumS l sh k = sh := by simp [pnumS, hk]
    rw [e1, e2, e3]
    have RES : Hid (PrB w pb B l sh ∧ Kept (· = pb) w w) := ⟨h, Kept.refl _ _⟩
    clear h e1 e2 e3
    go_enter Try.func50, Try.ntmps50
    go_wp2_with fail
    refine (bwide_any k _).mono ?_
    rw [hk]
    rintro e w1 ⟨rfl, rfl⟩
    go_wp2_with fail
    go_ret
    exact ⟨rfl, RES.out⟩
  | true =>
    have e1 : pnumV l k = valB (takeV l k.toNat) := by simp [pnumV, hk]
    have e2 : pnumL l k = takeL l k.toNat := by simp [pnumL, hk]
    have e3 : pnumS l sh k = takeS l sh k.toNat := by simp [pnumS, hk]
    rw [e1, e2, e3]
    have hk' := hk
    simp [wideK] at hk'
    obtain ⟨k, rfl⟩ : ∃ m : Nat, k = m := ⟨k.toNat, by omega⟩
    simp only [Int.toNat_natCast]
    have H := Lib.hid (takeB_any pb B l sh k w h (by omega))
    have H4 : Hid (k ≤ 4) := by have := hk'.2; show _ ≤ _; omega
    have HLEN := Lib.hid (takeV_len l k)
    clear h hk' e1 e2 e3
    go_enter Try.func50, Try.ntmps50
    go_wp2_with fail
    refine (bwide_any _ _).mono ?_
    rw [hk]
    rintro e w1 ⟨rfl, rfl⟩
    clear hk
    go_wp2_with fail
    refine H.out.mono ?_
    rintro e w2 ⟨v, rfl, hv, hp⟩
    have RES := Lib.hid hp
    clear hp H
    generalize ht : takeV l k = t at *
    have HT := Lib.hid ht
    clear ht
    obtain ⟨a, cap, rfl, hcap, hmax, hnil⟩ := hv.shape
    have HV := Lib.hid hv
    clear hv hcap hmax hnil
    rcases Nat.eq_zero_or_pos t.length with h0 | h0
    · have ht : t = [] := List.eq_nil_of_length_eq_zero h0
      subst ht
      clear HV HLEN h0
      rw [List.length_nil]
      go_wp2_with fail
      go_loopw [5, 15] (fun v i wr => w2 = wr ∧ i = .int .i64 0 ∧ v = .int .u32 0) (fun _ _ _ => 0)
      case atStart => exact ⟨rfl, rfl, rfl⟩
      case round =>
        obtain ⟨rfl, rfl, rfl⟩ := hrel
        go_wp2_with fail
        go_ret
        exact ⟨end_int (by rw [HT.out]; rfl), RES.out⟩
    · obtain ⟨b, off, cap', e, hc⟩ := HV.out.byte h0
      cases e
      have HC := Lib.hid hc
      have HF := Lib.hid HV.out.fit
      have hlen := HLEN.out
      have h4 := H4.out
      have HT4 : Hid (t.length ≤ 4) := by show _ ≤ _; omega
      clear hc h0 hlen h4
      go_wp2_with fail
      go_loopw [5, 15] (fun v i wr => w2 = wr ∧ ∃ m : Nat, m ≤ t.length ∧ i = .int .i64 m ∧ v = .int .u32 (wordN (t.take m) : Nat)) (fun _ i _ => t.length - (intOf i).toNat)
      case atStart => exact ⟨rfl, 0, Nat.zero_le _, rfl, rfl⟩
      case round =>
        obtain ⟨rfl, m, hm, rfl, rfl⟩ := hrel
        by_cases hlt : m < t.length
        · have hcell := HC.out m hlt
          have ht4 := HT4.out
          have hrd := Lib.hid (word_round t m HF.out hlt (by omega))
          have hbyte := getD_lt t m HF.out
          generalize t.getD m 0 = c at hcell hrd hbyte
          go_wp2_with fail
          go_roundw
          case rel => exact ⟨trivial, m + 1, by omega, by go_num, by rw [← hrd.out]⟩
          case measure => simp [intOf]; omega
        · obtain rfl : m = t.length := by omega
          rw [List.take_length, wordN_val]
          clear hlt hm
          go_wp2_with fail
          go_ret
          exact ⟨end_int (by rw [HT.out]), RES.out⟩
set_option maxRecDepth 100000 in
theorem btxtB_any (pb B : Nat) (l : List Nat) (sh : Bool) (w : World) (h : PrB w pb B l sh) :
    Calls Try.prog 51 #[.pointer (some ⟨pb, 0, none⟩)] w fun e w' => e = .returned (.string (strOf (ptxtV l))) ∧ PrB w' pb B (ptxtL l) (ptxtS l sh) ∧ Kept (· = pb) w w' := by
  have H := Lib.hid (bnumB_any pb B l sh 1 w h)
  have hx := pnum1_lt h.at_.fit
  unfold ptxtV ptxtL ptxtS
  clear h
  generalize pnumV l 1 = x at *
  have j1 : IntKind.i64.wrap (x : Int) = (x : Int) := IntWalk.i64_in _ (by omega)
  have HX : Hid (x ≤ 100000) := by show _ ≤ _; omega
  clear hx
  go_enter Try.func51, Try.ntmps51
  go_wp2_with fail
  refine H.out.mono ?_
  rintro e w1 ⟨rfl, hp, hk⟩
  have H2 := Lib.hid (takeB_any pb B _ _ x w1 hp HX.out)
  have HK := Lib.hid hk
  clear hp hk H
  go_wp2_with fail
  refine H2.out.mono ?_
  rintro e w2 ⟨v, rfl, hv, hp, hk⟩
  have RES := Lib.hid (And.intro hp (HK.out.trans hk))
  have hs := hv.string
  obtain ⟨a, cap, rfl, _⟩ := hv.shape
  clear hp hk hv HK H2
  go_wp2_with fail
  go_ret
  exact ⟨rfl, RES.out⟩
set_option maxRecDepth 100000 in
theorem bnewB_any (v : Value) (B : Nat) (l : List Nat) (w : World) (h : BytesAt w v l) (ho : l ≠ [] → ∀ j, own v j → j < B) (small : l.length ≤ 100000) :
    Calls Try.prog 30 #[v] w fun e w' => ∃ pb, e = .returned (.pointer (some ⟨pb, 0, none⟩)) ∧ PrB w' pb B l false ∧ w.heap.size ≤ pb ∧ pb < w'.heap.size ∧ Below w.heap.size w w' := by
  obtain ⟨a, cap, rfl, _⟩ := h.shape
  have hb : Below w.heap.size w (w.alloc (.cells #[.slice a l.length cap, .bool false] PrT)) := (Below.refl _ _).alloc (Nat.le_refl _) _
  have RES : Hid (PrB (w.alloc (.cells #[.slice a l.length cap, .bool false] PrT)) w.heap.size B l false ∧ w.heap.size ≤ w.heap.size ∧ w.heap.size < (w.alloc (.cells #[.slice a l.length cap, .bool false] PrT)).heap.size ∧ Below w.heap.size w (w.alloc (.cells #[.slice a l.length cap, .bool false] PrT))) :=
    ⟨⟨⟨_, RowAt.new w PrT [.slice a l.length cap, .bool false], h.on hb, ho⟩, small, fun e => by cases e⟩, Nat.le_refl _, by simp, hb⟩
  clear hb h ho
  generalize l.length = n at *
  go_enter Try.func30, Try.ntmps30
  go_wp2_with fail
  go_ret
  exact ⟨_, rfl, RES.out⟩
end Go.Proofs.Ythgnklgejlebhaa
