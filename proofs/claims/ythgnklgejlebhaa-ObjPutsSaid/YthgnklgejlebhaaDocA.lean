/-
  The document's reader by what is left, its cells (layer 12). No conditions beyond those that each theorem names.
-/
import Derived.Test.YthgnklgejlebhaaBioC
import Derived.Test.YthgnklgejlebhaaBioT
import Derived.Test.YthgnklgejlebhaaObjR
namespace Go.Proofs.Ythgnklgejlebhaa
open Go.ChangeShapes Go.WideShapes Go.ChangeAt Go.RowKit

structure RdP (w : World) (rb B : Nat) (v : Value) (l : List Nat) (s : Ps) : Prop where
  is : ∃ at_ sh, RdAt w rb v l at_ sh ∧ s = (curL l at_ sh, sh)
  own : l ≠ [] → ∀ j, Go.Proofs.Ythgnklgejlebhaa.own v j → j < B
theorem RdP.cell2 {w : World} {rb B : Nat} {v : Value} {l : List Nat} {s : Ps} (h : RdP w rb B v l s) : w.cell? ⟨rb, 2, none⟩ = some (.bool s.2) := by
  obtain ⟨at_, sh, hr, rfl⟩ := h.is
  exact hr.cells.2.2
theorem RdP.lt {w : World} {rb B : Nat} {v : Value} {l : List Nat} {s : Ps} (h : RdP w rb B v l s) : rb < w.heap.size := by
  obtain ⟨at_, sh, hr, _⟩ := h.is
  exact hr.head.lt
theorem RdP.head {w : World} {rb B : Nat} {v : Value} {l : List Nat} {s : Ps} (h : RdP w rb B v l s) : ∃ ds, RowAt w rb RdT ds := by
  obtain ⟨at_, sh, hr, _⟩ := h.is
  exact ⟨_, hr.head⟩
theorem RdP.okay {w : World} {rb B : Nat} {v : Value} {l : List Nat} {s : Ps} (h : RdP w rb B v l s) : Okay s := by
  obtain ⟨at_, sh, hr, rfl⟩ := h.is
  constructor
  · intro b hb
    cases sh with
    | true => cases hb
    | false => exact hr.data.fit b (List.mem_of_mem_drop hb)
  · have := hr.small
    cases sh with
    | true => exact Nat.zero_le _
    | false =>
      show (l.drop at_).length ≤ 100000
      rw [List.length_drop]; omega
theorem RdP.keep {S : Nat → Prop} {w w' : World} {rb B : Nat} {v : Value} {l : List Nat} {s : Ps} (h : RdP w rb B v l s) (k : Kept S w w') (hr : ¬ S rb) (hB : ∀ j, S j → B ≤ j) : RdP w' rb B v l s := by
  obtain ⟨at_, sh, hd, rfl⟩ := h.is
  exact ⟨⟨at_, sh, ⟨hd.head.keep k hr, hd.data.keep k (fun hne j hj hs => by have := h.own hne j hj; have := hB j hs; omega), hd.le, hd.small⟩, rfl⟩, h.own⟩
theorem dn_any (rb B : Nat) (v : Value) (l : List Nat) (s : Ps) (k : Int) (w : World) (h : RdP w rb B v l s) :
    Calls Try.prog 20 #[.pointer (some ⟨rb, 0, none⟩), .int .i64 k] w fun e w' => e = .returned (.int .u32 (((pn s k).1 : Nat) : Int)) ∧ RdP w' rb B v l (pn s k).2 ∧ Kept (· = rb) w w' := by
  obtain ⟨at_, sh, hr, rfl⟩ := h.is
  have e := num_same l at_ sh k hr.le
  refine (rnum_any rb v l at_ sh k w hr).mono ?_
  rintro e' w' ⟨he, hr', hk⟩
  refine ⟨?_, ⟨⟨_, _, hr', Prod.ext e.2.1 e.2.2⟩, h.own⟩, hk⟩
  rw [he, ← e.1]
  rfl
theorem dt_any (rb B : Nat) (v : Value) (l : List Nat) (s : Ps) (w : World) (h : RdP w rb B v l s) :
    Calls Try.prog 19 #[.pointer (some ⟨rb, 0, none⟩)] w fun e w' => e = .returned (.string (pt s).1) ∧ RdP w' rb B v l (pt s).2 ∧ Kept (· = rb) w w' := by
  obtain ⟨at_, sh, hr, rfl⟩ := h.is
  have e := txt_same l at_ sh hr.le
  refine (rtxt_any rb v l at_ sh w hr).mono ?_
  rintro e' w' ⟨he, hr', hk⟩
  refine ⟨?_, ⟨⟨_, _, hr', Prod.ext e.2.1 e.2.2⟩, h.own⟩, hk⟩
  rw [he, ← e.1]
  rfl
theorem dl_any (rb B : Nat) (v : Value) (l : List Nat) (s : Ps) (w : World) (h : RdP w rb B v l s) :
    Calls Try.prog 22 #[.pointer (some ⟨rb, 0, none⟩)] w fun e w' => e = .returned (.int .i64 ((s.1.length : Nat) : Int)) ∧ Drawn w w' := by
  obtain ⟨at_, sh, hr, rfl⟩ := h.is
  refine (rleft_any rb v l at_ sh w hr).mono ?_
  rintro e' w' ⟨he, hk⟩
  refine ⟨?_, hk⟩
  rw [he, ← curL_length]

/- a list as the document reads it: where it isn't short, as the program does -/
structure DTold {α : Type} (E : TypeId) (k : Nat) (row : α → List Value) (rb B : Nat) (v0 : Value) (l : List Nat) (w : World) (L : List α) (s : Ps) (v : Value) (w' : World) : Prop where
  row : SRow E k w' v L.length (rows row L)
  rd : RdP w' rb B v0 l s
  kept : Kept (· = rb) w w'
  new : ∀ j, own v j → w.heap.size ≤ j
def LD {α : Type} (r : List α × Ps) (L : List α) (s : Ps) : Prop := r.2 = s ∧ (s.2 = false → r.1 = L)
/- while it is read: j more are asked for -/
def LM {α : Type} (f : Ps → α × Ps) (j : Nat) (r : List α × Ps) (L : List α) (s : Ps) : Prop := if s.2 then r.2 = s else plist f j L s = r
theorem LM.step {α : Type} {f : Ps → α × Ps} {j : Nat} {r : List α × Ps} {L : List α} {s : Ps} (h : LM f (j + 1) r L s) (hs : s.2 = false) : LM f j r (L ++ [(f s).1]) (f s).2 := by
  unfold LM at h ⊢
  rw [hs, if_neg (by decide), plist] at h
  cases hb : (f s).2.2 with
  | true =>
    rw [hb, if_pos rfl] at h
    rw [if_pos rfl, ← h]
  | false =>
    rw [hb, if_neg (by decide)] at h
    rw [if_neg (by decide)]
    exact h
theorem LM.done {α : Type} {f : Ps → α × Ps} {j : Nat} {r : List α × Ps} {L : List α} {s : Ps} (h : LM f j r L s) (hs : s.2 = true ∨ j = 0) : LD r L s := by
  unfold LM at h
  cases hb : s.2 with
  | true =>
    rw [hb, if_pos rfl] at h
    exact ⟨h, fun e => by rw [hb] at e; cases e⟩
  | false =>
    rw [hb, if_neg (by decide)] at h
    rcases hs with hs | rfl
    · rw [hb] at hs; cases hs
    · rw [← h]; exact ⟨rfl, fun _ => rfl⟩
theorem LM.start {α : Type} (f : Ps → α × Ps) (k : Int) (s : Ps) (h0 : (pn s k).2.2 = true → (pn s k).1 = 0) : LM f (pn s k).1 (plot f k s) [] (pn s k).2 := by
  unfold LM
  cases hb : (pn s k).2.2 with
  | true => rw [if_pos rfl, plot, h0 hb]; rfl
  | false => rw [if_neg (by decide)]; rfl
theorem short_none {s : Ps} (hg : s.2 = true → s.1 = []) (k : Int) (h : (pn s k).2.2 = true) : (pn s k).1 = 0 := by
  simp only [pn, pnumS, pnumV] at h ⊢
  split
  · next hw =>
    rw [if_pos hw] at h
    have : takeV s.1 k.toNat = [] := by
      unfold takeV
      rw [if_neg]
      intro hle
      simp only [takeS, Bool.or_eq_true, decide_eq_true_eq] at h
      rcases h with h | h
      · rw [hg h] at hle
        have := wide_pos hw
        simp at hle
        omega
      · omega
    rw [this]
    rfl
  · rfl
theorem RdP.gone {w : World} {rb B : Nat} {v : Value} {l : List Nat} {s : Ps} (h : RdP w rb B v l s) : s.2 = true → s.1 = [] := by
  obtain ⟨at_, sh, hr, rfl⟩ := h.is
  intro e
  simp only at e
  subst e
  rfl
theorem DTold.step {α : Type} {E : TypeId} {k : Nat} {row : α → List Value} {rb B : Nat} (hB : B ≤ rb) {v0 : Value} {l : List Nat} {w : World} (hp : rb < w.heap.size) {L : List α} {s s' : Ps} {x : α} {v v' : Value} {wr w1 w2 : World} (h : DTold E k row rb B v0 l w L s v wr) (h1 : RdP w1 rb B v0 l s') (hk : Kept (· = rb) wr w1)
    (h2 : SRow E k w2 v' (L ++ [x]).length (rows row (L ++ [x]))) (hg : Grew w1 w2 v v') : DTold E k row rb B v0 l w (L ++ [x]) s' v' w2 := by
  have h0 : ∀ j, own v j → w.heap.size ≤ j := h.new
  refine ⟨h2, h1.keep hg.1 (fun e => by have := h0 _ e; omega) (fun j e => by have := h0 _ e; omega), (h.kept.trans hk).then hg.1 (fun j hj e => by have := h0 _ e; omega), fun j hj => ?_⟩
  rcases hg.2 j hj with e | e
  · exact h0 j e
  · exact Nat.le_trans (h.kept.trans hk).more e
def DCells (rb B : Nat) (v0 : Value) (l : List Nat) (w : World) (r : List Int × Ps) (v : Value) (w' : World) : Prop := ∃ L s', DTold 3 1 intRow rb B v0 l w L s' v w' ∧ LD r L s'
set_option maxRecDepth 100000 in
set_option maxHeartbeats 1000000 in
theorem dcells_any (rb B : Nat) (hB : B ≤ rb) (v0 : Value) (l : List Nat) (s : Ps) (w : World) (h : RdP w rb B v0 l s) :
    Calls Try.prog 21 #[.pointer (some ⟨rb, 0, none⟩)] w fun e w' => ∃ v, e = .returned v ∧ DCells rb B v0 l w (plot pByte 1 s) v w' := by
  have H : Hid (Calls Try.prog 20 #[.pointer (some ⟨rb, 0, none⟩), .int .i64 1] w fun e w' => e = .returned (.int .u32 (((pn s 1).1 : Nat) : Int)) ∧ RdP w' rb B v0 l (pn s 1).2 ∧ Kept (· = rb) w w') := dn_any rb B v0 l s 1 w h
  have hm := LM.start pByte 1 s (short_none h.gone 1)
  have hx : (pn s 1).1 < 256 := pnum_lt h.okay.byte 1
  have HP := Lib.hid h.lt
  have HB := Lib.hid hB
  generalize plot pByte 1 s = r at *
  generalize (pn s 1).1 = N at *
  generalize (pn s 1).2 = s0 at *
  have HM := Lib.hid hm
  have HN := Lib.hid hx
  have j1 : IntKind.i64.wrap (N : Int) = (N : Int) := IntWalk.i64_in _ (by omega)
  clear h hm hx hB
  go_enter Try.func21, Try.ntmps21
  go_wp2_with fail
  refine H.out.mono ?_
  rintro e w1 ⟨rfl, hp, hk⟩
  have HD : Hid (DTold 3 1 intRow rb B v0 l w [] s0 (.slice none 0 0) w1) := ⟨SRow.nil _ _ _, hp, hk, fun j hj => hj.elim⟩
  clear hp hk H
  go_wp2_with fail
  clear j1
  go_loopw [3, 5] (fun v i wr => ∃ (m : Nat) (L : List Int) (sm : Ps), m ≤ N ∧ i = .int .i64 (m : Nat) ∧ L.length = m ∧ DTold 3 1 intRow rb B v0 l w L sm v wr ∧ LM pByte (N - m) r L sm) (fun _ i _ => N - (intOf i).toNat)
  case atStart => exact ⟨0, [], s0, Nat.zero_le _, rfl, rfl, HD.out, HM.out⟩
  case round =>
    clear HD HM
    obtain ⟨m, L, sm, hm, rfl, hlen, hd, hlm⟩ := hrel
    have HD := Lib.hid hd
    have HLM := Lib.hid hlm
    have HLEN := Lib.hid hlen
    have c2 := hd.rd.cell2
    have hn := HN.out
    clear hd hlm hlen
    by_cases hlt : m < N
    · have i1 : (m : Int) < (N : Int) := by omega
      cases hs : sm.2 with
      | true =>
        rw [hs] at c2
        have RES : Hid (DCells rb B v0 l w r _ wr) := ⟨L, sm, HD.out, HLM.out.done (.inl hs)⟩
        clear HD HLM hlt hm hn
        go_wp2_with fail
        go_ret
        exact ⟨_, rfl, RES.out⟩
      | false =>
        rw [hs] at c2
        have HS := Lib.hid hs
        have HLT : Hid (m < N) := hlt
        have HC : Hid (Calls Try.prog 20 #[.pointer (some ⟨rb, 0, none⟩), .int .i64 1] wr fun e w' => e = .returned (.int .u32 (((pn sm 1).1 : Nat) : Int)) ∧ RdP w' rb B v0 l (pByte sm).2 ∧ Kept (· = rb) wr w') := dn_any rb B v0 l sm 1 wr HD.out.rd
        have hx : (pn sm 1).1 < 256 := pnum_lt HD.out.rd.okay.byte 1
        have j2 : IntKind.i64.wrap (((pn sm 1).1 : Nat) : Int) = (((pn sm 1).1 : Nat) : Int) := IntWalk.i64_in _ (by omega)
        have i4 : IntKind.i64.wrap ((m : Int) + 1) = (m : Int) + 1 := IntWalk.i64_in _ (by omega)
        clear hlt hm hn hx hs
        go_wp2_with fail
        refine HC.out.mono ?_
        rintro e w2 ⟨rfl, hp, hk⟩
        have hs2 := SRow.keep HD.out.row hk (fun j hj e => by have := HD.out.new j hj; have := HP.out; omega)
        obtain ⟨v', w3, q0, q1, q2⟩ := more_el (T := 28) Try.underlying28 info_ints rfl (by decide) (fun _ => rfl) ones_int hs2 (pByte sm).1 (by have := HLEN.out; have := HN.out; have := HLT.out; omega)
        have HD2 := Lib.hid (HD.out.step HB.out HP.out hp hk q1 q2)
        have hlm := HLM.out
        rw [show N - m = (N - (m + 1)) + 1 by have := HLT.out; omega] at hlm
        have HLM2 := Lib.hid (hlm.step HS.out)
        clear hs2 q1 q2 hp hk HC HD HLM hlm c2
        go_wp2_with (at_builtin; refine Lib.wpList_append_run _ rfl _ _ _ _ rfl _ _ rfl rfl _ _ q0 ?_)
        go_roundw
        case rel => exact ⟨m + 1, _, _, HLT.out, by go_num, by rw [List.length_append, HLEN.out]; rfl, HD2.out, HLM2.out⟩
        case measure => have := HLT.out; simp [intOf]; omega
    · have i1 : ¬ (m : Int) < (N : Int) := by omega
      have RES : Hid (DCells rb B v0 l w r _ wr) := ⟨L, sm, HD.out, HLM.out.done (.inr (by omega))⟩
      clear HD HLM hlt hm hn c2
      go_wp2_with fail
      go_ret
      exact ⟨_, rfl, RES.out⟩
end Go.Proofs.Ythgnklgejlebhaa
