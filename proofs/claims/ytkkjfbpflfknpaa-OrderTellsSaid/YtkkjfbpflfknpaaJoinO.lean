/-
  Layer 18's tables as plain data: where a name stands in a list, how many lists hold it, what Add says, what Remove leaves. Nothing of the program.
-/
import Derived.Test.YtkkjfbpflfknpaaBase
import Derived.Test.YtkkjfbpflfknpaaObjK
import Derived.Maps.RangeWalk
import Derived.Test.YtkkjfbpflfknpaaInA
import Derived.RegionTactic
import Derived.Deep.RegionHeld3
import Derived.Test.YtkkjfbpflfknpaaOrM
import Derived.Test.YtkkjfbpflfknpaaJoinC
import Derived.Test.YtkkjfbpflfknpaaErrV
import Derived.Test.YtkkjfbpflfknpaaOrA
namespace Go.Proofs.Ytkkjfbpflfknpaa

/- the first place of a name; -1: it isn't there -/
def posV : List ByteArray → ByteArray → Int
  | [], _ => -1
  | x :: L, s => if x = s then 0 else if posV L s < 0 then -1 else posV L s + 1
theorem posV_none : ∀ {N : List ByteArray} {s : ByteArray}, s ∉ N → posV N s = -1
  | [], _, _ => rfl
  | x :: L, s, h => by
    have h1 : ¬ x = s := fun e => h (by rw [e]; exact List.mem_cons_self ..)
    have h2 := posV_none (N := L) (s := s) fun hm => h (List.mem_cons_of_mem _ hm)
    rw [posV, if_neg h1, h2]
    rfl
theorem posV_at : ∀ {N : List ByteArray} {s : ByteArray} {k : Nat}, N[k]? = some s → s ∉ N.take k → posV N s = (k : Int)
  | [], _, _, h, _ => by simp at h
  | x :: L, s, 0, h, _ => by
    obtain rfl : x = s := by simpa using h
    rw [posV, if_pos rfl]
    rfl
  | x :: L, s, k + 1, h, hn => by
    rw [List.take_succ_cons] at hn
    have h1 : ¬ x = s := fun e => hn (by rw [e]; exact List.mem_cons_self ..)
    have h2 := posV_at (N := L) (s := s) (k := k) (by simpa using h) fun hm => hn (List.mem_cons_of_mem _ hm)
    rw [posV, if_neg h1, h2, if_neg (by omega)]
    omega
theorem first_at : ∀ {N : List ByteArray} {s : ByteArray}, s ∈ N → ∃ k, N[k]? = some s ∧ s ∉ N.take k
  | [], _, h => by cases h
  | x :: L, s, h => by
    by_cases e : x = s
    · subst e
      exact ⟨0, rfl, fun hm => by cases hm⟩
    · have hm : s ∈ L := by
        rcases List.mem_cons.1 h with h1 | h1
        · exact absurd h1.symm e
        · exact h1
      obtain ⟨k, h1, h2⟩ := first_at hm
      refine ⟨k + 1, by simpa using h1, fun hm => ?_⟩
      rw [List.take_succ_cons] at hm
      rcases List.mem_cons.1 hm with h3 | h3
      · exact e h3.symm
      · exact h2 h3
theorem posV_some {N : List ByteArray} {s : ByteArray} (h : s ∈ N) : ∃ k : Nat, posV N s = k ∧ N[k]? = some s ∧ k < N.length := by
  obtain ⟨k, h1, h2⟩ := first_at h
  exact ⟨k, posV_at h1 h2, h1, (List.getElem?_eq_some_iff.1 h1).1⟩
theorem posV_neg {N : List ByteArray} {s : ByteArray} : posV N s < 0 ↔ s ∉ N := by
  refine ⟨fun h hm => ?_, fun h => by rw [posV_none h]; decide⟩
  obtain ⟨k, h1, _⟩ := posV_some hm
  omega
theorem posV_le (N : List ByteArray) (s : ByteArray) : -1 ≤ posV N s ∧ posV N s ≤ N.length := by
  by_cases h : s ∈ N
  · obtain ⟨k, h1, _, h2⟩ := posV_some h
    omega
  · rw [posV_none h]
    omega
theorem posV_nodup {N : List ByteArray} {s : ByteArray} {k : Nat} (hd : N.Nodup) (h : N[k]? = some s) : posV N s = (k : Int) := by
  refine posV_at h fun hm => ?_
  obtain ⟨j, hj, e⟩ := List.mem_iff_getElem.1 hm
  rw [List.length_take] at hj
  rw [List.getElem_take] at e
  obtain ⟨hk, e2⟩ := List.getElem?_eq_some_iff.1 h
  have := (List.getElem_inj hd).1 (e.trans e2.symm)
  omega
/- a name that isn't among the first m, and isn't the next one -/
theorem not_next {N : List ByteArray} {s x : ByteArray} {m : Nat} (h : s ∉ N.take m) (hx : N[m]? = some x) (hn : ¬ x = s) : s ∉ N.take (m + 1) := by
  rw [List.take_add_one, hx]
  intro hm
  rcases List.mem_append.1 hm with h1 | h1
  · exact h h1
  · simp at h1
    exact hn h1.symm
theorem not_all {N : List ByteArray} {s : ByteArray} {m : Nat} (h : s ∉ N.take m) (hm : N.length ≤ m) : s ∉ N := by
  rw [List.take_of_length_le hm] at h
  exact h
/- how many of the lists hold a name -/
open Classical in
noncomputable def refsT (I : List (List ByteArray)) (s : ByteArray) : Nat := (I.filter fun l => decide (s ∈ l)).length
theorem refsT_le (I : List (List ByteArray)) (s : ByteArray) : refsT I s ≤ I.length := List.length_filter_le _ _
theorem refsT_yes {I : List (List ByteArray)} {s : ByteArray} {m : Nat} {l : List ByteArray} (hx : I[m]? = some l) (h : s ∈ l) : refsT (I.take (m + 1)) s = refsT (I.take m) s + 1 := by
  unfold refsT
  rw [List.take_add_one, hx, List.filter_append, List.length_append]
  simp [h]
theorem refsT_no {I : List (List ByteArray)} {s : ByteArray} {m : Nat} {l : List ByteArray} (hx : I[m]? = some l) (h : s ∉ l) : refsT (I.take (m + 1)) s = refsT (I.take m) s := by
  unfold refsT
  rw [List.take_add_one, hx, List.filter_append, List.length_append]
  simp [h]
theorem refsT_all {I : List (List ByteArray)} {s : ByteArray} {m : Nat} (hm : I.length ≤ m) : refsT (I.take m) s = refsT I s := by
  rw [List.take_of_length_le hm]
theorem refsT_zero {I : List (List ByteArray)} {s : ByteArray} (h : refsT I s = 0) : ∀ l ∈ I, s ∉ l := by
  intro l hl hm
  unfold refsT at h
  have h0 := List.eq_nil_of_length_eq_zero h
  rw [List.filter_eq_nil_iff] at h0
  exact h0 l hl (by simpa using hm)
/- what Add says -/
open Classical in
noncomputable def addC (room : Nat) (N : List ByteArray) (s : ByteArray) (I : List ByteArray) : Nat :=
  if room ≤ N.length then 8 else if s ∈ N then 1 else if ∀ i ∈ I, i ∈ N then 0 else 3
theorem addC_full {room : Nat} {N : List ByteArray} {s : ByteArray} {I : List ByteArray} (h : room ≤ N.length) : addC room N s I = 8 := by rw [addC, if_pos h]
theorem addC_there {room : Nat} {N : List ByteArray} {s : ByteArray} {I : List ByteArray} (h : ¬ room ≤ N.length) (hs : s ∈ N) : addC room N s I = 1 := by rw [addC, if_neg h, if_pos hs]
theorem addC_none {room : Nat} {N : List ByteArray} {s : ByteArray} {I : List ByteArray} (h : ¬ room ≤ N.length) (hs : s ∉ N) (hi : ¬ ∀ i ∈ I, i ∈ N) : addC room N s I = 3 := by rw [addC, if_neg h, if_neg hs, if_neg hi]
theorem addC_on {room : Nat} {N : List ByteArray} {s : ByteArray} {I : List ByteArray} (h : ¬ room ≤ N.length) (hs : s ∉ N) (hi : ∀ i ∈ I, i ∈ N) : addC room N s I = 0 := by rw [addC, if_neg h, if_neg hs, if_pos hi]
theorem addC_zero {room : Nat} {N : List ByteArray} {s : ByteArray} {I : List ByteArray} (h : addC room N s I = 0) : N.length < room ∧ s ∉ N ∧ ∀ i ∈ I, i ∈ N := by
  unfold addC at h
  split at h
  · omega
  · split at h
    · omega
    · split at h
      · exact ⟨by omega, by assumption, by assumption⟩
      · omega
theorem addC_le (room : Nat) (N : List ByteArray) (s : ByteArray) (I : List ByteArray) : addC room N s I ≤ 13 := by
  unfold addC
  split
  · decide
  · split
    · decide
    · split <;> decide
/- what an import that isn't there makes of it, import by import -/
open Classical in
noncomputable def lackC (N : List ByteArray) (I : List ByteArray) : Nat := if ∀ i ∈ I, i ∈ N then 0 else 3
theorem lackC_nil (N : List ByteArray) : lackC N [] = 0 := by rw [lackC, if_pos fun i hi => by cases hi]
theorem lackC_no {N I : List ByteArray} {s : ByteArray} {m : Nat} (hx : I[m]? = some s) (h : s ∉ N) : lackC N (I.take (m + 1)) = 3 := by
  rw [lackC, if_neg]
  intro hall
  refine h (hall s ?_)
  rw [List.take_add_one, hx]
  simp
theorem lackC_yes {N I : List ByteArray} {s : ByteArray} {m : Nat} (hx : I[m]? = some s) (h : s ∈ N) : lackC N (I.take (m + 1)) = lackC N (I.take m) := by
  have : (∀ i ∈ I.take (m + 1), i ∈ N) ↔ ∀ i ∈ I.take m, i ∈ N := by
    rw [List.take_add_one, hx]
    refine ⟨fun h1 i hi => h1 i (by simp [hi]), fun h1 i hi => ?_⟩
    rcases List.mem_append.1 hi with h2 | h2
    · exact h1 i h2
    · simp at h2
      rw [h2]
      exact h
  unfold lackC
  by_cases h0 : ∀ i ∈ I.take m, i ∈ N
  · rw [if_pos h0, if_pos (this.2 h0)]
  · rw [if_neg h0, if_neg fun h1 => h0 (this.1 h1)]
theorem lackC_all {N I : List ByteArray} {m : Nat} (hm : I.length ≤ m) : lackC N (I.take m) = lackC N I := by rw [List.take_of_length_le hm]
theorem lackC_cases (N I : List ByteArray) : lackC N I = 0 ∨ lackC N I = 3 := by
  unfold lackC
  split
  · exact .inl rfl
  · exact .inr rfl
theorem addC_last {room : Nat} {N : List ByteArray} {s : ByteArray} {I : List ByteArray} (h : ¬ room ≤ N.length) (hs : s ∉ N) : addC room N s I = lackC N I := by rw [addC, if_neg h, if_neg hs, lackC]
end Go.Proofs.Ytkkjfbpflfknpaa

/-
  The program's Index, Contains over texts. Conditions: lists of at most 1000.
-/
namespace Go.Proofs.Ytkkjfbpflfknpaa
open Go.ChangeShapes Go.WideShapes Go.ChangeAt Go.RowKit

set_option maxRecDepth 100000 in
set_option maxHeartbeats 1000000 in
theorem tindex_any (u : Value) (I : List ByteArray) (s : ByteArray) (w : World) (g : ElsAt 1 sRow w u I) (small : I.length ≤ 1000) :
    Calls Try.prog 35 #[u, .string s] w fun e w' => e = .returned (.int .i64 (posV I s)) ∧ w = w' := by
  obtain ⟨a, c, rfl, hc1, hc2, _⟩ := g.shape
  have HG := Lib.hid g
  clear g
  generalize hn : I.length = n at *
  have HN := Lib.hid hn
  clear hn
  go_enter Try.func35, Try.ntmps35
  go_wp2_with fail
  go_loopw [5, 8] (fun _ i wr => ∃ k : Nat, k ≤ n ∧ i = .int .i64 k ∧ w = wr ∧ Hid (s ∉ I.take k)) (fun _ i _ => n - (intOf i).toNat)
  case atStart => exact ⟨0, Nat.zero_le _, rfl, rfl, fun hm => by simp at hm⟩
  case round =>
    obtain ⟨k, hk, rfl, rfl, HF⟩ := hrel
    by_cases hlt : k < n
    · obtain ⟨x, hx⟩ : ∃ x, I[k]? = some x := ⟨_, List.getElem?_eq_getElem (by rw [HN.out]; exact hlt)⟩
      obtain ⟨b, off, cap, hv, hb, c0⟩ := HG.out.cell1 hx (c0 := .string x) rfl
      rw [HN.out] at hv
      cases hv
      have HX := Lib.hid hx
      clear hx
      have e3 : (k : Int) < (n : Int) := by omega
      have e4 : (0 : Int) ≤ (k : Int) := by omega
      by_cases hq : x = s
      · as_aux_lemma =>
        subst hq
        have RES : Hid ((k : Int) = posV I x) := (posV_at HX.out HF.out).symm
        have hb1 : (x.toList == x.toList) = true := by simp
        go_wp2_with fail
        go_ret
        exact ⟨end_int RES.out, rfl⟩
      · as_aux_lemma =>
        have hb1 := str_ne (fun e => hq (Eq.symm e))
        have hb2 := str_nq (fun e => hq (Eq.symm e))
        have HF2 := Lib.hid (not_next HF.out HX.out hq)
        clear hq HX HF
        go_wp2_with fail
        go_roundw
        case rel => exact ⟨k + 1, by omega, by go_num, by trivial, HF2⟩
        case measure => simp [intOf]; omega
    · as_aux_lemma =>
      obtain rfl : k = n := by omega
      have RES : Hid ((-1 : Int) = posV I s) := (posV_none (not_all HF.out (by rw [HN.out]; exact Nat.le_refl _))).symm
      go_wp2_with fail
      go_ret
      exact ⟨end_int RES.out, rfl⟩
set_option maxRecDepth 100000 in
theorem tcontains_any (u : Value) (I : List ByteArray) (s : ByteArray) (w : World) (g : ElsAt 1 sRow w u I) (small : I.length ≤ 1000) :
    Calls Try.prog 30 #[u, .string s] w fun e w' => e = .returned (.bool (decide (0 ≤ posV I s))) ∧ w = w' := by
  have HI := Lib.hid (tindex_any u I s w g small)
  clear g
  generalize posV I s = r at *
  go_enter Try.func30, Try.ntmps30
  go_wp2_with fail
  refine HI.out.mono ?_
  rintro e w1 ⟨rfl, rfl⟩
  go_wp2_with fail
  go_ret
  exact ⟨rfl, rfl⟩
end Go.Proofs.Ytkkjfbpflfknpaa

/-
  A map from string to integers as a function that may have no value: look up, store, as a walk meets them. Nothing of the program but the numbers of the types.
-/
namespace Go.Proofs.Ytkkjfbpflfknpaa
open Go.ChangeShapes Go.WideShapes Go.ChangeAt Go.RowKit

abbrev SgT : TypeId := 9
theorem lawG : Maps.Keyed Try.prog SgT := Maps.string_keyed Try.underlying9
def keyG (s : ByteArray) : Lit := .string s.data.toList
theorem keyG_inj {s t : ByteArray} (h : keyG s = keyG t) : s = t := WideShapes.bytes_inj (by simpa [keyG] using h)
theorem keyGof {s : ByteArray} (h : s.size ≤ maxLen) : keyOf Try.prog SgT (.string s) = some (keyG s) := by simp [keyOf, Try.underlying9, mapKey, keyG, h]

abbrev DatG := DataW Unit
/- what the data say at a name -/
def SaysG (k : IntKind) (D : DatG) (f : ByteArray → Option Int) : Prop := ∀ s, Maps.has D (keyG s) = (f s).isSome ∧ D.atKey (keyG s) (.lit (.int k 0)) = .lit (.int k ((f s).getD 0))
def MapG (E : TypeId) (k : IntKind) (w : World) (mb n : Nat) (f : ByteArray → Option Int) : Prop := ∃ D : DatG, w.ownsMap Try.prog SgT (plainElem Try.prog E) mb n D ∧ SaysG k D f
section
variable {E M : TypeId} {k : IntKind} {w w' : World} {mb n : Nat} {f : ByteArray → Option Int}
theorem MapG.ext {g : ByteArray → Option Int} (h : MapG E k w mb n f) (e : ∀ s, f s = g s) : MapG E k w mb n g := by
  have : f = g := funext e
  subst this
  exact h
theorem MapG.mono {n' : Nat} (h : MapG E k w mb n f) (hn : n ≤ n') : MapG E k w mb n' f := by
  obtain ⟨D, h1, h2⟩ := h
  exact ⟨D, h1.mono hn, h2⟩
theorem MapG.obj (h : MapG E k w mb n f) : ∃ es c, w.heap[mb]? = some (.map es c) := by
  obtain ⟨D, ⟨es, c, hb, _⟩, _⟩ := h
  exact ⟨es, c, hb⟩
theorem MapG.lt (h : MapG E k w mb n f) : mb < w.heap.size := by
  obtain ⟨D, h1, _⟩ := h
  exact h1.lt
theorem MapG.keep {S : Nat → Prop} (h : MapG E k w mb n f) (kp : Kept S w w') (hS : ¬ S mb) : MapG E k w' mb n f := by
  obtain ⟨D, ⟨es, c, hb, r⟩, h2⟩ := h
  exact ⟨D, ⟨es, c, kp.block hb hS, r⟩, h2⟩
theorem MapG.new (w : World) : MapG E k (w.alloc (.map #[] 0)) w.heap.size 0 (fun _ => none) :=
  ⟨.map [], World.ownsMap_made _ _ _ _, fun _ => ⟨rfl, rfl⟩⟩
theorem MapG.no_cell (h : MapG E k w mb n f) (j : Nat) : w.cell? ⟨mb, j, none⟩ = none := by
  obtain ⟨es, c, hb⟩ := h.obj
  simp [World.cell?, hb]
theorem MapG.look (h : MapG E k w mb n f) (hM : Try.prog.underlying M = some (.map SgT E)) (hE : Try.prog.underlying E = some (.int k)) (hz : (zeroValue E).run Try.prog w = .ok (.int k 0) w) {s : ByteArray} (hs : s.size ≤ maxLen) :
    (Instr.lookup M (.map (some mb)) (.string s) false).run Try.prog w = .ok (.int k ((f s).getD 0)) w := by
  obtain ⟨D, h1, h2⟩ := h
  obtain ⟨c, hr, hc, _⟩ := World.ownsMap.lookup_int h1 lawG hM hE hz (keyGof hs)
  rw [(h2 s).2] at hc
  rw [hr]
  cases hc
  rfl
theorem MapG.look_ok (h : MapG E k w mb n f) (hM : Try.prog.underlying M = some (.map SgT E)) (hE : Try.prog.underlying E = some (.int k)) (hz : (zeroValue E).run Try.prog w = .ok (.int k 0) w) {s : ByteArray} (hs : s.size ≤ maxLen) :
    (Instr.lookup M (.map (some mb)) (.string s) true).run Try.prog w = .ok (.tuple #[.int k ((f s).getD 0), .bool (f s).isSome]) w := by
  obtain ⟨D, h1, h2⟩ := h
  obtain ⟨v, ps, hr, hv⟩ := World.ownsMap.look_ok h1 lawG hM hz (plainElem_int hE (by cases k <;> decide)) (keyGof hs)
  rw [(h2 s).2] at hv
  obtain ⟨c, rfl, hc, _⟩ := plainElem_int_inv hE hv
  simp at hc
  rw [hr, (h2 s).1, hc.1]
open Classical in
theorem SaysG.put {D : DatG} (h : SaysG k D f) (hm : Maps.IsMap D) {x : ByteArray} {c : Int} : SaysG k (D.put (keyG x) (.lit (.int k c))) (fun y => if y = x then some c else f y) := by
  intro y
  by_cases e : y = x
  · subst e
    refine ⟨?_, ?_⟩
    · rw [Maps.has_put_same (k := keyG y) hm trivial]
      simp
    · rw [Maps.atKey_put_same (k := keyG y) hm trivial]
      simp
  · have hne : keyG y ≠ keyG x := fun h => e (keyG_inj h)
    refine ⟨?_, ?_⟩
    · rw [Maps.has_put_other hne]
      simpa [e] using (h y).1
    · rw [Maps.atKey_put_other hne]
      simpa [e] using (h y).2
theorem kept_turnG {b : Nat} (h : w.mapTurned w' b) : Kept (· = b) w w' ∧ w'.heap.size = w.heap.size := by
  have g := h.grown
  refine ⟨⟨⟨g.os, g.tape, g.output⟩, g.size, fun k hk hS => g.block k hk (fun e => hS (by cases e; rfl))⟩, ?_⟩
  obtain ⟨es, ck, es', ck', hb, rfl⟩ := h
  simp [Go.ChangeMaps.setBlock]
open Classical in
theorem MapG.put (h : MapG E k w mb n f) (hM : Try.prog.underlying M = some (.map SgT E)) (hE : Try.prog.underlying E = some (.int k)) {s : ByteArray} {c : Int} (hs : s.size ≤ maxLen) (hc : (Lit.int k c).wf = true) (hn : n < 1000000) :
    ∃ w', (Instr.mapUpdate M (.map (some mb)) (.string s) (.int k c)).run Try.prog w = .ok () w' ∧ MapG E k w' mb (n + 1) (fun y => if y = s then some c else f y) ∧ Kept (· = mb) w w' ∧ w'.heap.size = w.heap.size := by
  obtain ⟨D, h1, h2⟩ := h
  obtain ⟨w', hr, ho, ht⟩ := World.ownsMap.store h1 lawG hM (by simp [maxLen]; omega) (keyGof hs) (plainElem_int hE hc)
  exact ⟨w', hr, ⟨_, ho, h2.put (World.ownsMap.isMap h1)⟩, kept_turnG ht⟩
end
end Go.Proofs.Ytkkjfbpflfknpaa

/-
  slices.Clone at seven kinds of elements. Conditions: at most 100000 elements. (Written by wip/tools/clo.py.)
-/
namespace Go.Proofs.Ytkkjfbpflfknpaa
open Go.ChangeShapes Go.WideShapes Go.ChangeAt Go.RowKit

theorem info_cm : (Try.prog.info? CmT).map (fun i => (i.zero, i.size, i.bytes)) = some (some (.agg #[.string ⟨#[]⟩, .int .i64 0]), 2, 24) := by kernel_rfl
theorem info_im : (Try.prog.info? ImT).map (fun i => (i.zero, i.size, i.bytes)) = some (some (.agg #[.string ⟨#[]⟩, .int .u32 0]), 2, 24) := by kernel_rfl
theorem info_ty : (Try.prog.info? TyT).map (fun i => (i.zero, i.size, i.bytes)) = some (some (.agg #[.int .i64 0, .int .i64 0, .int .i64 0]), 3, 24) := by kernel_rfl
theorem info_ex : (Try.prog.info? ExT).map (fun i => (i.zero, i.size, i.bytes)) = some (some (.agg #[.int .i64 0, .int .i64 0]), 2, 16) := by kernel_rfl
set_option maxRecDepth 100000 in
set_option maxHeartbeats 1000000 in
theorem clone_ints (v : Value) (L : List Int) (w : World) (h : ElsAt 1 intRow w v L) (h1 : ∀ x ∈ L, Ones (intRow x)) (small : L.length ≤ 100000) :
    Calls Try.prog 41 #[v] w fun e w' => ∃ v', e = .returned v' ∧ In w.heap.size InT 1 intRow w' v' L ∧ Below w.heap.size w w' := by
  obtain ⟨a, c, rfl, hc1, hc2, hc3⟩ := h.shape
  cases a with
  | none =>
    obtain rfl := hc3 rfl
    have hL : L = [] := List.eq_nil_of_length_eq_zero (by omega)
    subst hL
    have hq := Lib.run_eql_slice_nil (P := Try.prog) w 45 InT none 0 0 0 0 Try.underlying45
    clear h
    go_enter Try.func41, Try.ntmps41
    go_wp2_with fail
    go_ret
    exact ⟨_, rfl, In.nil _ _ _ _ _, Below.refl _ _⟩
  | some ad =>
    have hb0 : Below w.heap.size w (w.alloc (.cells #[] InT)) := (Below.refl _ _).alloc (Nat.le_refl _) _
    obtain ⟨v1, w1, q0, q1, q2, q3⟩ := append_all (T := 45) Try.underlying45 info_in rfl (by decide) (fun _ => rfl) (by decide) (SRow.empty InT 1 intRow w) (h.on hb0) h1 (by simp) (by simp; omega)
    rw [List.nil_append] at q1
    have RES : Hid (In w.heap.size InT 1 intRow w1 v1 L ∧ Below w.heap.size w w1) :=
      ⟨⟨q1, fun j hj => by
        rcases q2.2 j hj with e | e
        · have e : j = w.heap.size := e
          omega
        · exact Nat.le_trans hb0.size e⟩, q2.1.below hb0 hb0.size fun j _ hj => by have e : j = w.heap.size := hj; omega⟩
    have hq := Lib.run_eql_slice_nil (P := Try.prog) w 45 InT (some ad) L.length c 0 0 Try.underlying45
    have HR1 := Lib.hid q0
    generalize L.length = n at *
    clear h h1 q0 q1 q2 q3 hb0
    go_enter Try.func41, Try.ntmps41
    go_wp2_with (at_builtin; refine Lib.wpList_append_run _ rfl _ _ _ _ rfl _ _ rfl rfl _ _ HR1.out ?_)
    go_ret
    exact ⟨_, rfl, RES.out⟩
set_option maxRecDepth 100000 in
set_option maxHeartbeats 1000000 in
theorem clone_cmds (v : Value) (L : List (ByteArray × Int)) (w : World) (h : ElsAt 2 cmdRow w v L) (h1 : ∀ x ∈ L, Ones (cmdRow x)) (small : L.length ≤ 100000) :
    Calls Try.prog 39 #[v] w fun e w' => ∃ v', e = .returned v' ∧ In w.heap.size CmT 2 cmdRow w' v' L ∧ Below w.heap.size w w' := by
  obtain ⟨a, c, rfl, hc1, hc2, hc3⟩ := h.shape
  cases a with
  | none =>
    obtain rfl := hc3 rfl
    have hL : L = [] := List.eq_nil_of_length_eq_zero (by omega)
    subst hL
    have hq := Lib.run_eql_slice_nil (P := Try.prog) w 43 CmT none 0 0 0 0 Try.underlying43
    clear h
    go_enter Try.func39, Try.ntmps39
    go_wp2_with fail
    go_ret
    exact ⟨_, rfl, In.nil _ _ _ _ _, Below.refl _ _⟩
  | some ad =>
    have hb0 : Below w.heap.size w (w.alloc (.cells #[] CmT)) := (Below.refl _ _).alloc (Nat.le_refl _) _
    obtain ⟨v1, w1, q0, q1, q2, q3⟩ := append_all (T := 43) Try.underlying43 info_cm rfl (by decide) (fun _ => rfl) (by decide) (SRow.empty CmT 2 cmdRow w) (h.on hb0) h1 (by simp) (by simp; omega)
    rw [List.nil_append] at q1
    have RES : Hid (In w.heap.size CmT 2 cmdRow w1 v1 L ∧ Below w.heap.size w w1) :=
      ⟨⟨q1, fun j hj => by
        rcases q2.2 j hj with e | e
        · have e : j = w.heap.size := e
          omega
        · exact Nat.le_trans hb0.size e⟩, q2.1.below hb0 hb0.size fun j _ hj => by have e : j = w.heap.size := hj; omega⟩
    have hq := Lib.run_eql_slice_nil (P := Try.prog) w 43 CmT (some ad) L.length c 0 0 Try.underlying43
    have HR1 := Lib.hid q0
    generalize L.length = n at *
    clear h h1 q0 q1 q2 q3 hb0
    go_enter Try.func39, Try.ntmps39
    go_wp2_with (at_builtin; refine Lib.wpList_append_run _ rfl _ _ _ _ rfl _ _ rfl rfl _ _ HR1.out ?_)
    go_ret
    exact ⟨_, rfl, RES.out⟩
set_option maxRecDepth 100000 in
set_option maxHeartbeats 1000000 in
theorem clone_imps (v : Value) (L : List (ByteArray × Nat)) (w : World) (h : ElsAt 2 impRow w v L) (h1 : ∀ x ∈ L, Ones (impRow x)) (small : L.length ≤ 100000) :
    Calls Try.prog 36 #[v] w fun e w' => ∃ v', e = .returned v' ∧ In w.heap.size ImT 2 impRow w' v' L ∧ Below w.heap.size w w' := by
  obtain ⟨a, c, rfl, hc1, hc2, hc3⟩ := h.shape
  cases a with
  | none =>
    obtain rfl := hc3 rfl
    have hL : L = [] := List.eq_nil_of_length_eq_zero (by omega)
    subst hL
    have hq := Lib.run_eql_slice_nil (P := Try.prog) w 40 ImT none 0 0 0 0 Try.underlying40
    clear h
    go_enter Try.func36, Try.ntmps36
    go_wp2_with fail
    go_ret
    exact ⟨_, rfl, In.nil _ _ _ _ _, Below.refl _ _⟩
  | some ad =>
    have hb0 : Below w.heap.size w (w.alloc (.cells #[] ImT)) := (Below.refl _ _).alloc (Nat.le_refl _) _
    obtain ⟨v1, w1, q0, q1, q2, q3⟩ := append_all (T := 40) Try.underlying40 info_im rfl (by decide) (fun _ => rfl) (by decide) (SRow.empty ImT 2 impRow w) (h.on hb0) h1 (by simp) (by simp; omega)
    rw [List.nil_append] at q1
    have RES : Hid (In w.heap.size ImT 2 impRow w1 v1 L ∧ Below w.heap.size w w1) :=
      ⟨⟨q1, fun j hj => by
        rcases q2.2 j hj with e | e
        · have e : j = w.heap.size := e
          omega
        · exact Nat.le_trans hb0.size e⟩, q2.1.below hb0 hb0.size fun j _ hj => by have e : j = w.heap.size := hj; omega⟩
    have hq := Lib.run_eql_slice_nil (P := Try.prog) w 40 ImT (some ad) L.length c 0 0 Try.underlying40
    have HR1 := Lib.hid q0
    generalize L.length = n at *
    clear h h1 q0 q1 q2 q3 hb0
    go_enter Try.func36, Try.ntmps36
    go_wp2_with (at_builtin; refine Lib.wpList_append_run _ rfl _ _ _ _ rfl _ _ rfl rfl _ _ HR1.out ?_)
    go_ret
    exact ⟨_, rfl, RES.out⟩
set_option maxRecDepth 100000 in
set_option maxHeartbeats 1000000 in
theorem clone_tys (v : Value) (L : List (Int × Int × Int)) (w : World) (h : ElsAt 3 typeRow w v L) (h1 : ∀ x ∈ L, Ones (typeRow x)) (small : L.length ≤ 100000) :
    Calls Try.prog 37 #[v] w fun e w' => ∃ v', e = .returned v' ∧ In w.heap.size TyT 3 typeRow w' v' L ∧ Below w.heap.size w w' := by
  obtain ⟨a, c, rfl, hc1, hc2, hc3⟩ := h.shape
  cases a with
  | none =>
    obtain rfl := hc3 rfl
    have hL : L = [] := List.eq_nil_of_length_eq_zero (by omega)
    subst hL
    have hq := Lib.run_eql_slice_nil (P := Try.prog) w 41 TyT none 0 0 0 0 Try.underlying41
    clear h
    go_enter Try.func37, Try.ntmps37
    go_wp2_with fail
    go_ret
    exact ⟨_, rfl, In.nil _ _ _ _ _, Below.refl _ _⟩
  | some ad =>
    have hb0 : Below w.heap.size w (w.alloc (.cells #[] TyT)) := (Below.refl _ _).alloc (Nat.le_refl _) _
    obtain ⟨v1, w1, q0, q1, q2, q3⟩ := append_all (T := 41) Try.underlying41 info_ty rfl (by decide) (fun _ => rfl) (by decide) (SRow.empty TyT 3 typeRow w) (h.on hb0) h1 (by simp) (by simp; omega)
    rw [List.nil_append] at q1
    have RES : Hid (In w.heap.size TyT 3 typeRow w1 v1 L ∧ Below w.heap.size w w1) :=
      ⟨⟨q1, fun j hj => by
        rcases q2.2 j hj with e | e
        · have e : j = w.heap.size := e
          omega
        · exact Nat.le_trans hb0.size e⟩, q2.1.below hb0 hb0.size fun j _ hj => by have e : j = w.heap.size := hj; omega⟩
    have hq := Lib.run_eql_slice_nil (P := Try.prog) w 41 TyT (some ad) L.length c 0 0 Try.underlying41
    have HR1 := Lib.hid q0
    generalize L.length = n at *
    clear h h1 q0 q1 q2 q3 hb0
    go_enter Try.func37, Try.ntmps37
    go_wp2_with (at_builtin; refine Lib.wpList_append_run _ rfl _ _ _ _ rfl _ _ rfl rfl _ _ HR1.out ?_)
    go_ret
    exact ⟨_, rfl, RES.out⟩
set_option maxRecDepth 100000 in
set_option maxHeartbeats 1000000 in
theorem clone_wds (v : Value) (L : List Nat) (w : World) (h : ElsAt 1 wordRow w v L) (h1 : ∀ x ∈ L, Ones (wordRow x)) (small : L.length ≤ 100000) :
    Calls Try.prog 38 #[v] w fun e w' => ∃ v', e = .returned v' ∧ In w.heap.size WdT 1 wordRow w' v' L ∧ Below w.heap.size w w' := by
  obtain ⟨a, c, rfl, hc1, hc2, hc3⟩ := h.shape
  cases a with
  | none =>
    obtain rfl := hc3 rfl
    have hL : L = [] := List.eq_nil_of_length_eq_zero (by omega)
    subst hL
    have hq := Lib.run_eql_slice_nil (P := Try.prog) w 42 WdT none 0 0 0 0 Try.underlying42
    clear h
    go_enter Try.func38, Try.ntmps38
    go_wp2_with fail
    go_ret
    exact ⟨_, rfl, In.nil _ _ _ _ _, Below.refl _ _⟩
  | some ad =>
    have hb0 : Below w.heap.size w (w.alloc (.cells #[] WdT)) := (Below.refl _ _).alloc (Nat.le_refl _) _
    obtain ⟨v1, w1, q0, q1, q2, q3⟩ := append_all (T := 42) Try.underlying42 info_wd rfl (by decide) (fun _ => rfl) (by decide) (SRow.empty WdT 1 wordRow w) (h.on hb0) h1 (by simp) (by simp; omega)
    rw [List.nil_append] at q1
    have RES : Hid (In w.heap.size WdT 1 wordRow w1 v1 L ∧ Below w.heap.size w w1) :=
      ⟨⟨q1, fun j hj => by
        rcases q2.2 j hj with e | e
        · have e : j = w.heap.size := e
          omega
        · exact Nat.le_trans hb0.size e⟩, q2.1.below hb0 hb0.size fun j _ hj => by have e : j = w.heap.size := hj; omega⟩
    have hq := Lib.run_eql_slice_nil (P := Try.prog) w 42 WdT (some ad) L.length c 0 0 Try.underlying42
    have HR1 := Lib.hid q0
    generalize L.length = n at *
    clear h h1 q0 q1 q2 q3 hb0
    go_enter Try.func38, Try.ntmps38
    go_wp2_with (at_builtin; refine Lib.wpList_append_run _ rfl _ _ _ _ rfl _ _ rfl rfl _ _ HR1.out ?_)
    go_ret
    exact ⟨_, rfl, RES.out⟩
set_option maxRecDepth 100000 in
set_option maxHeartbeats 1000000 in
theorem clone_outs (v : Value) (L : List (Int × Int)) (w : World) (h : ElsAt 2 expRow w v L) (h1 : ∀ x ∈ L, Ones (expRow x)) (small : L.length ≤ 100000) :
    Calls Try.prog 40 #[v] w fun e w' => ∃ v', e = .returned v' ∧ In w.heap.size ExT 2 expRow w' v' L ∧ Below w.heap.size w w' := by
  obtain ⟨a, c, rfl, hc1, hc2, hc3⟩ := h.shape
  cases a with
  | none =>
    obtain rfl := hc3 rfl
    have hL : L = [] := List.eq_nil_of_length_eq_zero (by omega)
    subst hL
    have hq := Lib.run_eql_slice_nil (P := Try.prog) w 44 ExT none 0 0 0 0 Try.underlying44
    clear h
    go_enter Try.func40, Try.ntmps40
    go_wp2_with fail
    go_ret
    exact ⟨_, rfl, In.nil _ _ _ _ _, Below.refl _ _⟩
  | some ad =>
    have hb0 : Below w.heap.size w (w.alloc (.cells #[] ExT)) := (Below.refl _ _).alloc (Nat.le_refl _) _
    obtain ⟨v1, w1, q0, q1, q2, q3⟩ := append_all (T := 44) Try.underlying44 info_ex rfl (by decide) (fun _ => rfl) (by decide) (SRow.empty ExT 2 expRow w) (h.on hb0) h1 (by simp) (by simp; omega)
    rw [List.nil_append] at q1
    have RES : Hid (In w.heap.size ExT 2 expRow w1 v1 L ∧ Below w.heap.size w w1) :=
      ⟨⟨q1, fun j hj => by
        rcases q2.2 j hj with e | e
        · have e : j = w.heap.size := e
          omega
        · exact Nat.le_trans hb0.size e⟩, q2.1.below hb0 hb0.size fun j _ hj => by have e : j = w.heap.size := hj; omega⟩
    have hq := Lib.run_eql_slice_nil (P := Try.prog) w 44 ExT (some ad) L.length c 0 0 Try.underlying44
    have HR1 := Lib.hid q0
    generalize L.length = n at *
    clear h h1 q0 q1 q2 q3 hb0
    go_enter Try.func40, Try.ntmps40
    go_wp2_with (at_builtin; refine Lib.wpList_append_run _ rfl _ _ _ _ rfl _ _ rfl rfl _ _ HR1.out ?_)
    go_ret
    exact ⟨_, rfl, RES.out⟩
end Go.Proofs.Ytkkjfbpflfknpaa

/-
  Objects that lie in rows of their own; the program's clone of an object (layer 19). Conditions: a small object (Small).
-/
namespace Go.Proofs.Ytkkjfbpflfknpaa
open Go.ChangeShapes Go.WideShapes Go.ChangeAt Go.RowKit

/- an object whose lists lie in blocks of their own, from lo on -/
structure ObjIn (lo : Nat) (w : World) (V : ObjV) (o : ObjD) : Prop where
  i : In lo ImT 2 impRow w V.i o.imps
  t : In lo TyT 3 typeRow w V.t o.types
  c : In lo WdT 1 wordRow w V.c o.code
  m : In lo CmT 2 cmdRow w V.m o.cmds
  e : In lo ExT 2 expRow w V.e o.exps
  p : In lo InT 1 intRow w V.p o.ptrs
  q : In lo InT 1 intRow w V.q o.procs
  fit : ObjFit o
theorem ObjIn.at_ {lo : Nat} {w : World} {V : ObjV} {o : ObjD} (h : ObjIn lo w V o) : ObjAt w V o :=
  ⟨h.i.row.els impRow_len, h.t.row.els typeRow_len, h.c.row.els wordRow_len, h.m.row.els cmdRow_len, h.e.row.els expRow_len, h.p.row.els intRow_len, h.q.row.els intRow_len, h.fit⟩
theorem ObjIn.on {lo : Nat} {w w' : World} {V : ObjV} {o : ObjD} (h : ObjIn lo w V o) (hb : Below w.heap.size w w') : ObjIn lo w' V o :=
  ⟨h.i.on hb, h.t.on hb, h.c.on hb, h.m.on hb, h.e.on hb, h.p.on hb, h.q.on hb, h.fit⟩
theorem ObjIn.lower {lo lo' : Nat} {w : World} {V : ObjV} {o : ObjD} (h : ObjIn lo w V o) (hl : lo' ≤ lo) : ObjIn lo' w V o :=
  ⟨h.i.lower hl, h.t.lower hl, h.c.lower hl, h.m.lower hl, h.e.lower hl, h.p.lower hl, h.q.lower hl, h.fit⟩
/- the types of its rows -/
def ItsT (t : TypeId) : Prop := t = ImT ∨ t = TyT ∨ t = WdT ∨ t = CmT ∨ t = ExT ∨ t = InT
/- what is done to blocks that are no rows of these types leaves it -/
theorem ObjIn.keep {S : Nat → Prop} {lo : Nat} {w w' : World} {V : ObjV} {o : ObjD} (h : ObjIn lo w V o) (kp : Kept S w w') (hS : ∀ (j : Nat) (t : TypeId) (cs : List Value), RowAt w j t cs → lo ≤ j → ItsT t → ¬ S j) : ObjIn lo w' V o := by
  have key : ∀ {α : Type} {t : TypeId} {k : Nat} {row : α → List Value} {v : Value} {L : List α}, In lo t k row w v L → ItsT t → ∀ j, own v j → ¬ S j := fun {α t k row v L} g ht j hj => by
    rcases g.row.is with ⟨rfl, _⟩ | ⟨b, cap, rest, rfl, hr, _⟩
    · exact hj.elim
    · have e : j = b := hj
      subst e
      exact hS j t _ hr (g.low j rfl) ht
  exact ⟨h.i.keep kp (key h.i (.inl rfl)), h.t.keep kp (key h.t (.inr (.inl rfl))), h.c.keep kp (key h.c (.inr (.inr (.inl rfl)))), h.m.keep kp (key h.m (.inr (.inr (.inr (.inl rfl))))), h.e.keep kp (key h.e (.inr (.inr (.inr (.inr (.inl rfl)))))), h.p.keep kp (key h.p (.inr (.inr (.inr (.inr (.inr rfl)))))), h.q.keep kp (key h.q (.inr (.inr (.inr (.inr (.inr rfl)))))), h.fit⟩
/- a row of one of these types is no row of another one's block -/
theorem its_ne {w : World} {j b : Nat} {t T : TypeId} {cs ds : List Value} (h : RowAt w j t cs) (ht : ItsT t) (g : RowAt w b T ds) (hT : ∀ t, ItsT t → t ≠ T) : j ≠ b := by
  rintro rfl
  unfold RowAt at h g
  rw [h] at g
  injection g with g
  injection g with _ g2
  exact hT t ht g2
theorem its_ob : ∀ t, ItsT t → t ≠ OT := by
  rintro t (rfl | rfl | rfl | rfl | rfl | rfl) <;> decide

/- the copy, on its way -/
structure Oc (w wx : World) (V : ObjV) (o : ObjD) : Prop where
  row : RowAt wx w.heap.size OT (ocells V o)
  res : RowAt wx (w.heap.size + 1) OT (ocells nilO noObj)
  below : Below w.heap.size w wx
theorem Oc.on {w wx wy : World} {V : ObjV} {o : ObjD} (h : Oc w wx V o) (hb : Below wx.heap.size wx wy) : Oc w wy V o :=
  ⟨h.row.keep (Kept.of_below (S := fun _ => False) hb) (fun e => e), h.res.keep (Kept.of_below (S := fun _ => False) hb) (fun e => e), below_on h.below hb h.below.size⟩
theorem Oc.put {w wx : World} {V V' : ObjV} {o : ObjD} (h : Oc w wx V o) (j : Nat) (u : Value) (hs : (ocells V o).set j u = ocells V' o) : Oc w (wx.setCell ⟨w.heap.size, j, none⟩ u) V' o :=
  ⟨by rw [← hs]; exact h.row.setCell j u, h.res.keep (kept_set wx w.heap.size j u) (by omega), (kept_set wx w.heap.size j u).below h.below h.below.size fun k _ e => by omega⟩
theorem In.puto {α : Type} {lo : Nat} {t : TypeId} {k : Nat} {row : α → List Value} {w wx : World} {v : Value} {L : List α} {V : ObjV} {o : ObjD} (g : In lo t k row wx v L) (h : Oc w wx V o) (hne : t ≠ OT) (j : Nat) (u : Value) : In lo t k row (wx.setCell ⟨w.heap.size, j, none⟩ u) v L :=
  g.keep (kept_set wx w.heap.size j u) fun b hb e => by
    subst e
    exact g.row.off h.row hne hb
theorem start_oc (w : World) (V : ObjV) (o : ObjD) : Oc w ((w.alloc (.cells (ocells V o).toArray OT)).alloc (.cells (ocells nilO noObj).toArray OT)) V o := by
  refine ⟨(RowAt.new w OT _).keep (S := fun _ => False) ((Kept.refl _ _).alloc _) (fun h => h), ?_, ((Kept.refl (fun _ => False) w).alloc _ |>.alloc _).none⟩
  have h := RowAt.new (w.alloc (.cells (ocells V o).toArray OT)) OT (ocells nilO noObj)
  rw [show (w.alloc (.cells (ocells V o).toArray OT)).heap.size = w.heap.size + 1 by simp] at h
  exact h
theorem ones_v {V : ObjV} {o : ObjD} (hi : V.i.oneCell' = true) (ht : V.t.oneCell' = true) (hc : V.c.oneCell' = true) (hm : V.m.oneCell' = true) (he : V.e.oneCell' = true) (hp : V.p.oneCell' = true) (hq : V.q.oneCell' = true) : Ones (ocells V o) := by
  intro u hu
  simp only [ocells, List.mem_cons, List.not_mem_nil, or_false] at hu
  rcases hu with rfl | rfl | rfl | rfl | rfl | rfl | rfl | rfl | rfl | rfl | rfl | rfl | rfl | rfl | rfl <;> first | rfl | assumption
set_option maxRecDepth 100000 in
set_option maxHeartbeats 4000000 in
theorem oclone_any (V : ObjV) (o : ObjD) (w : World) (h : ObjAt w V o) (f : Small o) :
    Calls Try.prog 31 #[.agg (ocells V o).toArray] w fun e w' => ∃ Y : ObjV, e = .returned (.agg (ocells Y o).toArray) ∧ ObjIn w.heap.size w' Y o ∧ Below w.heap.size w w' := by
  have HI : Hid (∀ W, Below w.heap.size w W → Calls Try.prog 36 #[V.i] W fun e w' => Sli e fun v => In w.heap.size ImT 2 impRow w' v o.imps ∧ Below W.heap.size W w') :=
    fun W hb => (clone_imps V.i o.imps W (h.imps.on hb) (fun y _ => ones_imp y) (by have := f.imps; omega)).mono fun _ _ ⟨_, h1, h2, h3⟩ => h2.sli h1 hb.size h3
  have HT : Hid (∀ W, Below w.heap.size w W → Calls Try.prog 37 #[V.t] W fun e w' => Sli e fun v => In w.heap.size TyT 3 typeRow w' v o.types ∧ Below W.heap.size W w') :=
    fun W hb => (clone_tys V.t o.types W (h.types.on hb) (fun y _ => ones_type y) (by have := f.types; omega)).mono fun _ _ ⟨_, h1, h2, h3⟩ => h2.sli h1 hb.size h3
  have HC : Hid (∀ W, Below w.heap.size w W → Calls Try.prog 38 #[V.c] W fun e w' => Sli e fun v => In w.heap.size WdT 1 wordRow w' v o.code ∧ Below W.heap.size W w') :=
    fun W hb => (clone_wds V.c o.code W (h.code.on hb) (fun y _ => wordRow_one y) (by have := f.code; omega)).mono fun _ _ ⟨_, h1, h2, h3⟩ => h2.sli h1 hb.size h3
  have HM : Hid (∀ W, Below w.heap.size w W → Calls Try.prog 39 #[V.m] W fun e w' => Sli e fun v => In w.heap.size CmT 2 cmdRow w' v o.cmds ∧ Below W.heap.size W w') :=
    fun W hb => (clone_cmds V.m o.cmds W (h.cmds.on hb) (fun y _ => ones_cmd y) (by have := f.cmds; omega)).mono fun _ _ ⟨_, h1, h2, h3⟩ => h2.sli h1 hb.size h3
  have HE : Hid (∀ W, Below w.heap.size w W → Calls Try.prog 40 #[V.e] W fun e w' => Sli e fun v => In w.heap.size ExT 2 expRow w' v o.exps ∧ Below W.heap.size W w') :=
    fun W hb => (clone_outs V.e o.exps W (h.exps.on hb) (fun y _ => ones_exp y) (by have := f.exps; omega)).mono fun _ _ ⟨_, h1, h2, h3⟩ => h2.sli h1 hb.size h3
  have HP : Hid (∀ W, Below w.heap.size w W → Calls Try.prog 41 #[V.p] W fun e w' => Sli e fun v => In w.heap.size InT 1 intRow w' v o.ptrs ∧ Below W.heap.size W w') :=
    fun W hb => (clone_ints V.p o.ptrs W (h.ptrs.on hb) (fun y _ => intRow_one y) (by have := f.ptrs; omega)).mono fun _ _ ⟨_, h1, h2, h3⟩ => h2.sli h1 hb.size h3
  have HQ : Hid (∀ W, Below w.heap.size w W → Calls Try.prog 41 #[V.q] W fun e w' => Sli e fun v => In w.heap.size InT 1 intRow w' v o.procs ∧ Below W.heap.size W w') :=
    fun W hb => (clone_ints V.q o.procs W (h.procs.on hb) (fun y _ => intRow_one y) (by have := f.procs; omega)).mono fun _ _ ⟨_, h1, h2, h3⟩ => h2.sli h1 hb.size h3
  have HFT := Lib.hid h.fit
  have CL0 := Lib.hid (start_oc w V o)
  clear h f
  obtain ⟨i, t, c, m, e, p, q⟩ := V
  show Calls Try.prog 31 #[.agg #[.string o.name, .int .u32 (o.key : Nat), i, t, .int .i64 o.data, .string o.text, c, m, e, p, q, .int .i64 o.f0, .int .i64 o.f1, .int .i64 o.f2, .int .i64 o.body]] w _
  simp only at HI HT HC HM HE HP HQ CL0 ⊢
  have CL0 : Hid (Oc w ((w.alloc (.cells #[.string o.name, .int .u32 (o.key : Nat), i, t, .int .i64 o.data, .string o.text, c, m, e, p, q, .int .i64 o.f0, .int .i64 o.f1, .int .i64 o.f2, .int .i64 o.body] OT)).alloc (.cells #[.string ⟨#[]⟩, .int .u32 0, .slice none 0 0, .slice none 0 0, .int .i64 0, .string ⟨#[]⟩, .slice none 0 0, .slice none 0 0, .slice none 0 0, .slice none 0 0, .slice none 0 0, .int .i64 0, .int .i64 0, .int .i64 0, .int .i64 0] OT)) ⟨i, t, c, m, e, p, q⟩ o) := CL0
  go_enter Try.func31, Try.ntmps31
  go_upto_region 1 with fail
  generalize (w.alloc (.cells #[.string o.name, .int .u32 (o.key : Nat), i, t, .int .i64 o.data, .string o.text, c, m, e, p, q, .int .i64 o.f0, .int .i64 o.f1, .int .i64 o.f2, .int .i64 o.body] OT)).alloc (.cells #[.string ⟨#[]⟩, .int .u32 0, .slice none 0 0, .slice none 0 0, .int .i64 0, .string ⟨#[]⟩, .slice none 0 0, .slice none 0 0, .slice none 0 0, .slice none 0 0, .slice none 0 0, .int .i64 0, .int .i64 0, .int .i64 0, .int .i64 0] OT) = W0 at *
  go_cut [5] (fun s5 wx => ∃ a1 n1 k1 a2 n2 k2, s5 = .slice a1 n1 k1 ∧ Hid (Oc w wx ⟨.slice a1 n1 k1, .slice a2 n2 k2, c, m, e, p, q⟩ o) ∧ Hid (In w.heap.size ImT 2 impRow wx (.slice a1 n1 k1) o.imps) ∧ Hid (In w.heap.size TyT 3 typeRow wx (.slice a2 n2 k2) o.types))
  case first =>
    have c2 : W0.cell? ⟨w.heap.size, 2, none⟩ = some i := CL0.out.row.cell 2
    have c3 : W0.cell? ⟨w.heap.size, 3, none⟩ = some t := CL0.out.row.cell 3
    have D0 : Hid (Oc w W0.drew ⟨i, t, c, m, e, p, q⟩ o) := CL0.out.on ((Drawn.of_n W0 1).below _)
    go_region_with (first
      | (go_at_call 36; refine (HI.out _ (by first | exact CL0.out.below | exact D0.out.below)).mono ?_; rintro e1 w1 ⟨a1, n1, k1, rfl, hp1, hb1⟩;
         have j1 : Oc w w1 ⟨i, t, c, m, e, p, q⟩ o := (by first | exact CL0.out.on hb1 | exact D0.out.on hb1);
         have d3 : w1.cell? ⟨w.heap.size, 3, none⟩ = some t := j1.row.cell 3;
         have J1 := Lib.hid j1; have P1 := Lib.hid hp1; clear hb1 hp1 j1)
      | (go_at_call 37; refine (HT.out _ (by first | exact J1.out.below | exact (J1.out.on ((Drawn.of_n w1 1).below _)).below)).mono ?_; rintro e2 w2 ⟨a2, n2, k2, rfl, hq1, hb2⟩;
         have hb3 : Below w1.heap.size w1 w2 := (by first | exact hb2 | exact ((Drawn.of_n w1 1).below _).trans hb2);
         have P2 := Lib.hid (P1.out.on hb3); have J2 := Lib.hid (J1.out.on hb3); have Q2 := Lib.hid hq1;
         have f2 : w2.cell? ⟨w.heap.size, 2, none⟩ = some i := J2.out.row.cell 2;
         have f3 : w2.cell? ⟨w.heap.size, 3, none⟩ = some t := J2.out.row.cell 3;
         have ff := J2.out.row.free;
         clear hb2 hb3 hq1))
    all_goals
      have RES := Lib.hid (J2.out.put (V' := ⟨.slice a1 n1 k1, t, c, m, e, p, q⟩) 2 (.slice a1 n1 k1) rfl)
      have RES2 := Lib.hid (RES.out.put (V' := ⟨.slice a1 n1 k1, .slice a2 n2 k2, c, m, e, p, q⟩) 3 (.slice a2 n2 k2) rfl)
      have RP := Lib.hid ((P2.out.puto J2.out (by decide) 2 (.slice a1 n1 k1)).puto RES.out (by decide) 3 (.slice a2 n2 k2))
      have RQ := Lib.hid ((Q2.out.puto J2.out (by decide) 2 (.slice a1 n1 k1)).puto RES.out (by decide) 3 (.slice a2 n2 k2))
      clear RES c2 c3 d3 f2 f3 ff
      go_wp2_with fail
      go_meet
      exact ⟨a1, n1, k1, a2, n2, k2, rfl, RES2, RP, RQ⟩
  case rest =>
  obtain ⟨a1, n1, k1, a2, n2, k2, rfl, CL1, P1, Q1⟩ := hcut
  clear CL0 HI HT
  generalize wc = W1 at *
  go_upto_region 2 with fail
  go_cut [13] (fun s13 wx => ∃ a3 n3 k3 a4 n4 k4, s13 = .slice a3 n3 k3 ∧ Hid (Oc w wx ⟨.slice a1 n1 k1, .slice a2 n2 k2, .slice a3 n3 k3, .slice a4 n4 k4, e, p, q⟩ o) ∧ Hid (In w.heap.size ImT 2 impRow wx (.slice a1 n1 k1) o.imps) ∧ Hid (In w.heap.size TyT 3 typeRow wx (.slice a2 n2 k2) o.types) ∧ Hid (In w.heap.size WdT 1 wordRow wx (.slice a3 n3 k3) o.code) ∧ Hid (In w.heap.size CmT 2 cmdRow wx (.slice a4 n4 k4) o.cmds))
  case first =>
    have c6 : W1.cell? ⟨w.heap.size, 6, none⟩ = some c := CL1.out.row.cell 6
    have c7 : W1.cell? ⟨w.heap.size, 7, none⟩ = some m := CL1.out.row.cell 7
    have D0 : Hid (Oc w W1.drew ⟨.slice a1 n1 k1, .slice a2 n2 k2, c, m, e, p, q⟩ o) := CL1.out.on ((Drawn.of_n W1 1).below _)
    go_region_with (first
      | (go_at_call 38; refine (HC.out _ (by first | exact CL1.out.below | exact D0.out.below)).mono ?_; rintro e1 w1 ⟨a3, n3, k3, rfl, hi1, hb1⟩;
         have hb3 : Below W1.heap.size W1 w1 := (by first | exact hb1 | exact ((Drawn.of_n W1 1).below _).trans hb1);
         have d7 : w1.cell? ⟨w.heap.size, 7, none⟩ = some m := (CL1.out.on hb3).row.cell 7;
         have J1 := Lib.hid (CL1.out.on hb3); have P2 := Lib.hid (P1.out.on hb3); have Q2 := Lib.hid (Q1.out.on hb3); have I2 := Lib.hid hi1; clear hb1 hb3 hi1)
      | (go_at_call 39; refine (HM.out _ (by first | exact J1.out.below | exact (J1.out.on ((Drawn.of_n w1 1).below _)).below)).mono ?_; rintro e2 w2 ⟨a4, n4, k4, rfl, hc2, hb2⟩;
         have hb3 : Below w1.heap.size w1 w2 := (by first | exact hb2 | exact ((Drawn.of_n w1 1).below _).trans hb2);
         have P3 := Lib.hid (P2.out.on hb3); have Q3 := Lib.hid (Q2.out.on hb3); have I3 := Lib.hid (I2.out.on hb3); have J2 := Lib.hid (J1.out.on hb3); have C3 := Lib.hid hc2;
         have f6 : w2.cell? ⟨w.heap.size, 6, none⟩ = some c := J2.out.row.cell 6;
         have f7 : w2.cell? ⟨w.heap.size, 7, none⟩ = some m := J2.out.row.cell 7;
         have ff := J2.out.row.free;
         clear hb2 hb3 hc2))
    all_goals
      have RES := Lib.hid (J2.out.put (V' := ⟨.slice a1 n1 k1, .slice a2 n2 k2, .slice a3 n3 k3, m, e, p, q⟩) 6 (.slice a3 n3 k3) rfl)
      have RES2 := Lib.hid (RES.out.put (V' := ⟨.slice a1 n1 k1, .slice a2 n2 k2, .slice a3 n3 k3, .slice a4 n4 k4, e, p, q⟩) 7 (.slice a4 n4 k4) rfl)
      have RP := Lib.hid ((P3.out.puto J2.out (by decide) 6 (.slice a3 n3 k3)).puto RES.out (by decide) 7 (.slice a4 n4 k4))
      have RQ := Lib.hid ((Q3.out.puto J2.out (by decide) 6 (.slice a3 n3 k3)).puto RES.out (by decide) 7 (.slice a4 n4 k4))
      have RI := Lib.hid ((I3.out.puto J2.out (by decide) 6 (.slice a3 n3 k3)).puto RES.out (by decide) 7 (.slice a4 n4 k4))
      have RC := Lib.hid ((C3.out.puto J2.out (by decide) 6 (.slice a3 n3 k3)).puto RES.out (by decide) 7 (.slice a4 n4 k4))
      clear RES c6 c7 d7 f6 f7 ff
      go_wp2_with fail
      go_meet
      exact ⟨a3, n3, k3, a4, n4, k4, rfl, RES2, RP, RQ, RI, RC⟩
  case rest =>
  obtain ⟨a3, n3, k3, a4, n4, k4, rfl, CL2, P2, Q2, I2, C2⟩ := hcut
  clear CL1 P1 Q1 HC HM
  generalize wc = W2 at *
  have c8 : W2.cell? ⟨w.heap.size, 8, none⟩ = some e := CL2.out.row.cell 8
  go_wp2_with fail
  refine (HE.out W2 CL2.out.below).mono ?_
  rintro e3 w3 ⟨a5, n5, k5, rfl, he3, hb3⟩
  have J3 := Lib.hid (CL2.out.on hb3)
  have P3 := Lib.hid (P2.out.on hb3)
  have Q3 := Lib.hid (Q2.out.on hb3)
  have I3 := Lib.hid (I2.out.on hb3)
  have C3 := Lib.hid (C2.out.on hb3)
  have E3 := Lib.hid he3
  have f8 : w3.cell? ⟨w.heap.size, 8, none⟩ = some e := J3.out.row.cell 8
  have g8 : w3.frozen? ⟨w.heap.size, 8, none⟩ = false := J3.out.row.free 8
  clear hb3 he3 c8 CL2 P2 Q2 I2 C2 HE
  go_upto_region 4 with fail
  have CL4 := Lib.hid (J3.out.put (V' := ⟨.slice a1 n1 k1, .slice a2 n2 k2, .slice a3 n3 k3, .slice a4 n4 k4, .slice a5 n5 k5, p, q⟩) 8 (.slice a5 n5 k5) rfl)
  have P4 := Lib.hid (P3.out.puto J3.out (by decide) 8 (.slice a5 n5 k5))
  have Q4 := Lib.hid (Q3.out.puto J3.out (by decide) 8 (.slice a5 n5 k5))
  have I4 := Lib.hid (I3.out.puto J3.out (by decide) 8 (.slice a5 n5 k5))
  have C4 := Lib.hid (C3.out.puto J3.out (by decide) 8 (.slice a5 n5 k5))
  have E4 := Lib.hid (E3.out.puto J3.out (by decide) 8 (.slice a5 n5 k5))
  clear f8 g8 J3 P3 Q3 I3 C3 E3
  generalize w3.setCell ⟨w.heap.size, 8, none⟩ (.slice a5 n5 k5) = W4 at *
  go_cut [25] (fun s25 wx => ∃ a6 n6 k6 a7 n7 k7, s25 = .slice a6 n6 k6 ∧ Hid (Oc w wx ⟨.slice a1 n1 k1, .slice a2 n2 k2, .slice a3 n3 k3, .slice a4 n4 k4, .slice a5 n5 k5, .slice a6 n6 k6, .slice a7 n7 k7⟩ o) ∧ Hid (ObjIn w.heap.size wx ⟨.slice a1 n1 k1, .slice a2 n2 k2, .slice a3 n3 k3, .slice a4 n4 k4, .slice a5 n5 k5, .slice a6 n6 k6, .slice a7 n7 k7⟩ o))
  case first =>
    have c9 : W4.cell? ⟨w.heap.size, 9, none⟩ = some p := CL4.out.row.cell 9
    have c10 : W4.cell? ⟨w.heap.size, 10, none⟩ = some q := CL4.out.row.cell 10
    have D0 : Hid (Oc w W4.drew ⟨.slice a1 n1 k1, .slice a2 n2 k2, .slice a3 n3 k3, .slice a4 n4 k4, .slice a5 n5 k5, p, q⟩ o) := CL4.out.on ((Drawn.of_n W4 1).below _)
    go_region_with (first
      | (go_at_call 41; refine (HP.out _ (by first | exact CL4.out.below | exact D0.out.below)).mono ?_; rintro e1 w1 ⟨a6, n6, k6, rfl, hi1, hb1⟩;
         have hb3 : Below W4.heap.size W4 w1 := (by first | exact hb1 | exact ((Drawn.of_n W4 1).below _).trans hb1);
         have d10 : w1.cell? ⟨w.heap.size, 10, none⟩ = some q := (CL4.out.on hb3).row.cell 10;
         have J1 := Lib.hid (CL4.out.on hb3); have P5 := Lib.hid (P4.out.on hb3); have Q5 := Lib.hid (Q4.out.on hb3); have I5 := Lib.hid (I4.out.on hb3); have C5 := Lib.hid (C4.out.on hb3); have E5 := Lib.hid (E4.out.on hb3); have F5 := Lib.hid hi1; clear hb1 hb3 hi1)
      | (go_at_call 41; refine (HQ.out _ (by first | exact J1.out.below | exact (J1.out.on ((Drawn.of_n w1 1).below _)).below)).mono ?_; rintro e2 w2 ⟨a7, n7, k7, rfl, hc2, hb2⟩;
         have hb3 : Below w1.heap.size w1 w2 := (by first | exact hb2 | exact ((Drawn.of_n w1 1).below _).trans hb2);
         have J2 := Lib.hid (J1.out.on hb3); have P6 := Lib.hid (P5.out.on hb3); have Q6 := Lib.hid (Q5.out.on hb3); have I6 := Lib.hid (I5.out.on hb3); have C6 := Lib.hid (C5.out.on hb3); have E6 := Lib.hid (E5.out.on hb3); have F6 := Lib.hid (F5.out.on hb3); have G6 := Lib.hid hc2;
         have f9 : w2.cell? ⟨w.heap.size, 9, none⟩ = some p := J2.out.row.cell 9;
         have f10 : w2.cell? ⟨w.heap.size, 10, none⟩ = some q := J2.out.row.cell 10;
         have ff := J2.out.row.free;
         clear hb2 hb3 hc2))
    all_goals
      have RES := Lib.hid (J2.out.put (V' := ⟨.slice a1 n1 k1, .slice a2 n2 k2, .slice a3 n3 k3, .slice a4 n4 k4, .slice a5 n5 k5, .slice a6 n6 k6, q⟩) 9 (.slice a6 n6 k6) rfl)
      have RES2 := Lib.hid (RES.out.put (V' := ⟨.slice a1 n1 k1, .slice a2 n2 k2, .slice a3 n3 k3, .slice a4 n4 k4, .slice a5 n5 k5, .slice a6 n6 k6, .slice a7 n7 k7⟩) 10 (.slice a7 n7 k7) rfl)
      have ROB : Hid (ObjIn w.heap.size ((w2.setCell ⟨w.heap.size, 9, none⟩ (.slice a6 n6 k6)).setCell ⟨w.heap.size, 10, none⟩ (.slice a7 n7 k7)) ⟨.slice a1 n1 k1, .slice a2 n2 k2, .slice a3 n3 k3, .slice a4 n4 k4, .slice a5 n5 k5, .slice a6 n6 k6, .slice a7 n7 k7⟩ o) :=
        ⟨(P6.out.puto J2.out (by decide) 9 (.slice a6 n6 k6)).puto RES.out (by decide) 10 (.slice a7 n7 k7), (Q6.out.puto J2.out (by decide) 9 (.slice a6 n6 k6)).puto RES.out (by decide) 10 (.slice a7 n7 k7), (I6.out.puto J2.out (by decide) 9 (.slice a6 n6 k6)).puto RES.out (by decide) 10 (.slice a7 n7 k7), (C6.out.puto J2.out (by decide) 9 (.slice a6 n6 k6)).puto RES.out (by decide) 10 (.slice a7 n7 k7), (E6.out.puto J2.out (by decide) 9 (.slice a6 n6 k6)).puto RES.out (by decide) 10 (.slice a7 n7 k7), (F6.out.puto J2.out (by decide) 9 (.slice a6 n6 k6)).puto RES.out (by decide) 10 (.slice a7 n7 k7), (G6.out.puto J2.out (by decide) 9 (.slice a6 n6 k6)).puto RES.out (by decide) 10 (.slice a7 n7 k7), HFT.out⟩
      clear RES c9 c10 d10 f9 f10 ff P6 Q6 I6 C6 E6 F6 G6
      go_wp2_with fail
      go_meet
      exact ⟨a6, n6, k6, a7, n7, k7, rfl, RES2, ROB⟩
  case rest =>
  obtain ⟨a6, n6, k6, a7, n7, k7, rfl, CLK, LA⟩ := hcut
  clear CL4 P4 Q4 I4 C4 E4 HP HQ
  generalize wc = wr at *
  have hones : Ones (ocells ⟨.slice a1 n1 k1, .slice a2 n2 k2, .slice a3 n3 k3, .slice a4 n4 k4, .slice a5 n5 k5, .slice a6 n6 k6, .slice a7 n7 k7⟩ o) := ones_v rfl rfl rfl rfl rfl rfl rfl
  obtain ⟨r1, r2, r3⟩ := told_row CLK.out.res (xs := ocells ⟨.slice a1 n1 k1, .slice a2 n2 k2, .slice a3 n3 k3, .slice a4 n4 k4, .slice a5 n5 k5, .slice a6 n6 k6, .slice a7 n7 k7⟩ o) (k := 15) rfl rfl hones size_ob
  have RUN := Lib.hid r1
  have RES : Hid (ObjIn w.heap.size (wr.setRow (w.heap.size + 1) (ocells ⟨.slice a1 n1 k1, .slice a2 n2 k2, .slice a3 n3 k3, .slice a4 n4 k4, .slice a5 n5 k5, .slice a6 n6 k6, .slice a7 n7 k7⟩ o).toArray) ⟨.slice a1 n1 k1, .slice a2 n2 k2, .slice a3 n3 k3, .slice a4 n4 k4, .slice a5 n5 k5, .slice a6 n6 k6, .slice a7 n7 k7⟩ o ∧ Below w.heap.size w (wr.setRow (w.heap.size + 1) (ocells ⟨.slice a1 n1 k1, .slice a2 n2 k2, .slice a3 n3 k3, .slice a4 n4 k4, .slice a5 n5 k5, .slice a6 n6 k6, .slice a7 n7 k7⟩ o).toArray)) :=
    ⟨LA.out.keep r3 fun j t cs hr _ ht => its_ne hr ht CLK.out.res its_ob, r3.below CLK.out.below CLK.out.below.size fun j _ e => by omega⟩
  have R2 := Lib.hid r2
  clear r1 r2 r3 hones LA
  go_wp2_with (first | (refine load_row_on rfl _ _ rfl w.heap.size rfl OT #[.string o.name, .int .u32 (o.key : Nat), .slice a1 n1 k1, .slice a2 n2 k2, .int .i64 o.data, .string o.text, .slice a3 n3 k3, .slice a4 n4 k4, .slice a5 n5 k5, .slice a6 n6 k6, .slice a7 n7 k7, .int .i64 o.f0, .int .i64 o.f1, .int .i64 o.f2, .int .i64 o.body] (0, 0) _ CLK.out.row Try.underlying48 rfl (by rw [size_ob]; rfl) ?_) | (refine wpList_store_run _ rfl _ _ _ rfl _ _ rfl rfl (by exact RUN.out) ?_))
  exact bodyPost_ret (v := .agg (ocells ⟨.slice a1 n1 k1, .slice a2 n2 k2, .slice a3 n3 k3, .slice a4 n4 k4, .slice a5 n5 k5, .slice a6 n6 k6, .slice a7 n7 k7⟩ o).toArray) (results_one Try.results31 _ _ (w.heap.size + 1) OT _ (0, 0) _ rfl R2.out Try.underlying48 rfl (by rw [size_ob]; rfl)) rfl ⟨⟨.slice a1 n1 k1, .slice a2 n2 k2, .slice a3 n3 k3, .slice a4 n4 k4, .slice a5 n5 k5, .slice a6 n6 k6, .slice a7 n7 k7⟩, rfl, RES.out⟩
end Go.Proofs.Ytkkjfbpflfknpaa

/-
  What the program's resolver keeps, and what the document's state has, side by side, as plain data (layer 19). Nothing of the program.
-/
namespace Go.Proofs.Ytkkjfbpflfknpaa
open Go.RowKit

theorem keyV_none {A : List ObjD} {s : ByteArray} {k : Nat} (h : ∀ o ∈ A, o.name ≠ s) : keyV A s k = k := by
  induction A generalizing k with
  | nil => rfl
  | cons a A ih =>
    rw [keyV, if_neg (h a List.mem_cons_self)]
    exact ih fun o ho => h o (List.mem_cons_of_mem _ ho)
/- the keys of what was resolved -/
open Classical in
noncomputable def keysF (out : List ObjD) (s : ByteArray) : Option Int := if ∃ o ∈ out, o.name = s then some ((keyV out s 1 : Nat) : Int) else none
theorem keysF_yes {out : List ObjD} {s : ByteArray} (h : ∃ o ∈ out, o.name = s) : keysF out s = some ((keyV out s 1 : Nat) : Int) := by
  unfold keysF
  exact if_pos h
theorem keysF_no {out : List ObjD} {s : ByteArray} (h : ¬ ∃ o ∈ out, o.name = s) : keysF out s = none := by
  unfold keysF
  exact if_neg h
open Classical in
theorem keysF_more (out : List ObjD) (o : ObjD) (s : ByteArray) : keysF (out ++ [o]) s = if s = o.name then some ((o.key : Nat) : Int) else keysF out s := by
  by_cases h : s = o.name
  · rw [if_pos h, keysF_yes ⟨o, by simp, h.symm⟩, keyV_append, if_pos h.symm]
  · rw [if_neg h]
    by_cases g : ∃ p ∈ out, p.name = s
    · obtain ⟨p, hp, he⟩ := g
      rw [keysF_yes ⟨p, hp, he⟩, keysF_yes ⟨p, List.mem_append_left _ hp, he⟩, keyV_append, if_neg (fun e => h e.symm)]
    · rw [keysF_no g, keysF_no]
      rintro ⟨p, hp, he⟩
      rcases List.mem_append.1 hp with h1 | h1
      · exact g ⟨p, h1, he⟩
      · rw [List.mem_singleton.1 h1] at he
        exact h he.symm

/- the names that are under way with the program, pw, and the document's state -/
structure Link (ld : List ByteArray) (st : OSt) (pw : List ByteArray) : Prop where
  sub : ∀ x ∈ pw, x ∈ st.way
  sup : ∀ x ∈ st.way, x ∈ pw ∨ ∃ o ∈ st.out, o.name = x
  fresh : ∀ o ∈ st.out, o.name ∉ ld
  keys : ∀ o ∈ st.out, o.key < 4294967296
section
variable {ld : List ByteArray} {st : OSt} {pw : List ByteArray} {s : ByteArray}
theorem Link.start (ld : List ByteArray) : Link ld ⟨[], []⟩ [] := ⟨(fun x hx => by cases hx), (fun x hx => by cases hx), (fun o ho => by cases ho), (fun o ho => by cases ho)⟩
theorem Link.way (h : Link ld st pw) (hk : ¬ Known ld st s) : s ∈ st.way ↔ s ∈ pw :=
  ⟨fun hm => (h.sup s hm).elim (fun e => e) fun e => absurd (.inl e) hk, h.sub s⟩
theorem Link.into (h : Link ld st pw) (s : ByteArray) : Link ld ⟨st.out, st.way ++ [s]⟩ (pw ++ [s]) :=
  ⟨fun x hx => (List.mem_append.1 hx).elim (fun e => List.mem_append_left _ (h.sub x e)) fun e => List.mem_append_right _ e,
    fun x hx => (List.mem_append.1 hx).elim (fun e => (h.sup x e).elim (fun g => .inl (List.mem_append_left _ g)) .inr) fun e => .inl (List.mem_append_right _ e), h.fresh, h.keys⟩
theorem Link.done {o : ObjD} (h : Link ld st (pw ++ [s])) (ho : o.name = s) (hl : s ∉ ld) (hk : o.key < 4294967296) : Link ld ⟨st.out ++ [o], st.way⟩ pw :=
  ⟨fun x hx => h.sub x (List.mem_append_left _ hx),
    fun x hx => by
      rcases h.sup x hx with e | ⟨p, hp, e⟩
      · rcases List.mem_append.1 e with g | g
        · exact .inl g
        · exact .inr ⟨o, by simp, by rw [List.mem_singleton.1 g]; exact ho⟩
      · exact .inr ⟨p, List.mem_append_left _ hp, e⟩,
    fun p hp => by
      rcases List.mem_append.1 hp with g | g
      · exact h.fresh p g
      · rw [List.mem_singleton.1 g, ho]; exact hl,
    fun p hp => by
      rcases List.mem_append.1 hp with g | g
      · exact h.keys p g
      · rw [List.mem_singleton.1 g]; exact hk⟩
theorem Link.lt (h : Link ld st pw) (s : ByteArray) : keyV st.out s 1 < 4294967296 := keyV_lt (by decide) h.keys
/- the key of what is loaded -/
theorem Link.loaded (h : Link ld st pw) (hs : s ∈ ld) : keyV st.out s 1 = 1 := keyV_none fun o ho e => h.fresh o ho (by rw [e]; exact hs)
end
theorem known_not {ld : List ByteArray} {st : OSt} {s : ByteArray} (hk : ¬ Known ld st s) : s ∉ ld ∧ ¬ ∃ o ∈ st.out, o.name = s := ⟨fun h => hk (.inr h), fun h => hk (.inl h)⟩

/- what the program gets of a name -/
inductive FRes
  | bad (k : Nat)
  | good (o : ObjD)
open Classical in
noncomputable def fetN (l : List (ByteArray × ObjD)) (pw : List ByteArray) (s : ByteArray) : FRes :=
  if s ∈ pw then .bad 6 else if 8 < pw.length then .bad 7 else match findF l s with
  | none => .bad 3
  | some o => if o.name = s ∧ (refsV o).isSome = true then .good o else .bad 4
section
variable {l : List (ByteArray × ObjD)} {ld : List ByteArray} {pw : List ByteArray} {s : ByteArray} {st : OSt} {n : Nat}
theorem fet_cycle (h : s ∈ pw) : fetN l pw s = .bad 6 := by unfold fetN; rw [if_pos h]
theorem fet_deep (h : s ∉ pw) (h8 : 8 < pw.length) : fetN l pw s = .bad 7 := by unfold fetN; rw [if_neg h, if_pos h8]
theorem fet_none (h : s ∉ pw) (h8 : ¬ 8 < pw.length) (hf : findF l s = none) : fetN l pw s = .bad 3 := by
  unfold fetN
  simp only [if_neg h, if_neg h8, hf]
theorem fet_form {o : ObjD} (h : s ∉ pw) (h8 : ¬ 8 < pw.length) (hf : findF l s = some o) (ho : ¬ (o.name = s ∧ (refsV o).isSome = true)) : fetN l pw s = .bad 4 := by
  unfold fetN
  simp only [if_neg h, if_neg h8, hf, if_neg ho]
theorem fet_good {o : ObjD} (h : s ∉ pw) (h8 : ¬ 8 < pw.length) (hf : findF l s = some o) (ho : o.name = s ∧ (refsV o).isSome = true) : fetN l pw s = .good o := by
  unfold fetN
  simp only [if_neg h, if_neg h8, hf, if_pos ho]
theorem fet_at {o : ObjD} (h : fetN l pw s = .good o) : findF l s = some o ∧ o.name = s ∧ (refsV o).isSome = true ∧ pw.length ≤ 8 := by
  unfold fetN at h
  split at h
  · cases h
  · split at h
    · cases h
    · rename_i h8
      cases hf : findF l s with
      | none => rw [hf] at h; cases h
      | some p =>
        rw [hf] at h
        simp only at h
        split at h
        · rename_i ho
          cases h
          exact ⟨rfl, ho.1, ho.2, by omega⟩
        · cases h
/- what is resolved is what the program gets, and then its imports -/
theorem res_fet_bad {k : Nat} (hl : Link ld st pw) (hk : ¬ Known ld st s) (hn : pw.length + n = 9) (h : fetN l pw s = .bad k) : resN l ld n st s = .bad k := by
  have hw := hl.way hk
  by_cases h1 : s ∈ pw
  · rw [fet_cycle h1] at h
    cases h
    exact res_cycle hk (hw.2 h1)
  · have h1' : s ∉ st.way := fun e => h1 (hw.1 e)
    by_cases h8 : 8 < pw.length
    · rw [fet_deep h1 h8] at h
      cases h
      obtain rfl : n = 0 := by omega
      exact res_deep hk h1'
    · obtain ⟨m, rfl⟩ : ∃ m, n = m + 1 := ⟨n - 1, by omega⟩
      cases hf : findF l s with
      | none =>
        rw [fet_none h1 h8 hf] at h
        cases h
        exact res_none hk h1' hf
      | some o =>
        by_cases ho : o.name = s ∧ (refsV o).isSome = true
        · rw [fet_good h1 h8 hf ho] at h
          cases h
        · rw [fet_form h1 h8 hf ho] at h
          cases h
          exact res_form hk h1' hf ho
theorem res_fet_good {o : ObjD} (hl : Link ld st pw) (hk : ¬ Known ld st s) (hn : pw.length + n = 9) (h : fetN l pw s = .good o) :
    ∃ m, n = m + 1 ∧ s ∉ st.way ∧ s ∈ l.map (·.1) ∧ resN l ld n st s = endN o (impsN (resN l ld m) o.imps ⟨st.out, st.way ++ [s]⟩) := by
  obtain ⟨hf, ho, hv, h8⟩ := fet_at h
  have h1 : s ∉ pw := fun e => by rw [fet_cycle e] at h; cases h
  have h1' : s ∉ st.way := fun e => h1 ((hl.way hk).1 e)
  obtain ⟨m, rfl⟩ : ∃ m, n = m + 1 := ⟨n - 1, by omega⟩
  exact ⟨m, rfl, h1', (find_mem hf).1, res_go hk h1' hf ⟨ho, hv⟩⟩
end
/- an answer that is good keeps the link -/
theorem imps_link {ld : List ByteArray} {pw : List ByteArray} {f : OSt → ByteArray → ORes} (hf : ∀ (st : OSt) (s : ByteArray) (st' : OSt), Link ld st pw → f st s = .good st' → Link ld st' pw) :
    ∀ (t : List (ByteArray × Nat)) (st st' : OSt), Link ld st pw → impsN f t st = .good st' → Link ld st' pw
  | [], st, st', h, he => by
    rw [impsN] at he
    cases he
    exact h
  | x :: t, st, st', h, he => by
    cases hx : f st x.1 with
    | bad k => rw [imps_bad hx] at he; cases he
    | good st1 =>
      by_cases hk : keyV st1.out x.1 1 = x.2
      · rw [imps_on hx hk] at he
        exact imps_link hf t st1 st' (hf st x.1 st1 h hx) he
      · rw [imps_key hx hk] at he
        cases he
theorem res_link {l : List (ByteArray × ObjD)} {ld : List ByteArray} (hkey : ∀ f ∈ l, f.2.key < 4294967296) : ∀ (n : Nat) (pw : List ByteArray) (st : OSt) (s : ByteArray) (st' : OSt), Link ld st pw → resN l ld n st s = .good st' → Link ld st' pw := by
  intro n
  induction n with
  | zero =>
    intro pw st s st' h he
    by_cases hk : Known ld st s
    · rw [res_known hk] at he
      cases he
      exact h
    · by_cases hw : s ∈ st.way
      · rw [res_cycle hk hw] at he
        cases he
      · rw [res_deep hk hw] at he
        cases he
  | succ n ih =>
    intro pw st s st' h he
    by_cases hk : Known ld st s
    · rw [res_known hk] at he
      cases he
      exact h
    · by_cases hw : s ∈ st.way
      · rw [res_cycle hk hw] at he
        cases he
      · cases hf : findF l s with
        | none => rw [res_none hk hw hf] at he; cases he
        | some o =>
          by_cases ho : o.name = s ∧ (refsV o).isSome = true
          · rw [res_go hk hw hf ho] at he
            obtain ⟨f, hm, e⟩ := (find_mem hf).2
            cases hi : impsN (resN l ld n) o.imps ⟨st.out, st.way ++ [s]⟩ with
            | bad k => rw [hi] at he; cases he
            | good st1 =>
              rw [hi] at he
              cases he
              exact (imps_link (ih (pw ++ [s])) o.imps _ st1 (h.into s) hi).done ho.1 (known_not hk).1 (by rw [← e]; exact hkey f hm)
          · rw [res_form hk hw hf ho] at he
            cases he
/- errors' numbers -/
theorem imps_num {f : OSt → ByteArray → ORes} (hf : ∀ (st : OSt) (s : ByteArray) (k : Nat), f st s = .bad k → 3 ≤ k ∧ k ≤ 7) : ∀ (t : List (ByteArray × Nat)) (st : OSt) (k : Nat), impsN f t st = .bad k → 3 ≤ k ∧ k ≤ 7
  | [], st, k, he => by rw [impsN] at he; cases he
  | x :: t, st, k, he => by
    cases hx : f st x.1 with
    | bad j =>
      rw [imps_bad hx] at he
      cases he
      exact hf st x.1 k hx
    | good st1 =>
      by_cases hk : keyV st1.out x.1 1 = x.2
      · rw [imps_on hx hk] at he
        exact imps_num hf t st1 k he
      · rw [imps_key hx hk] at he
        cases he
        decide
theorem res_num {l : List (ByteArray × ObjD)} {ld : List ByteArray} : ∀ (n : Nat) (st : OSt) (s : ByteArray) (k : Nat), resN l ld n st s = .bad k → 3 ≤ k ∧ k ≤ 7 := by
  intro n
  induction n with
  | zero =>
    intro st s k he
    by_cases hk : Known ld st s
    · rw [res_known hk] at he
      cases he
    · by_cases hw : s ∈ st.way
      · rw [res_cycle hk hw] at he
        cases he
        decide
      · rw [res_deep hk hw] at he
        cases he
        decide
  | succ n ih =>
    intro st s k he
    by_cases hk : Known ld st s
    · rw [res_known hk] at he
      cases he
    · by_cases hw : s ∈ st.way
      · rw [res_cycle hk hw] at he
        cases he
        decide
      · cases hf : findF l s with
        | none => rw [res_none hk hw hf] at he; cases he; decide
        | some o =>
          by_cases ho : o.name = s ∧ (refsV o).isSome = true
          · rw [res_go hk hw hf ho] at he
            cases hi : impsN (resN l ld n) o.imps ⟨st.out, st.way ++ [s]⟩ with
            | bad j =>
              rw [hi] at he
              cases he
              exact imps_num ih o.imps _ k hi
            | good st1 => rw [hi] at he; cases he
          · rw [res_form hk hw hf ho] at he
            cases he
            decide
end Go.Proofs.Ytkkjfbpflfknpaa

/-
  The program's resolver in memory, what gets files and what is loaded (Env); known, fetch (layer 19). Conditions: names of at most 300 signs, small files.
-/
namespace Go.Proofs.Ytkkjfbpflfknpaa
open Go.ChangeShapes Go.WideShapes Go.ChangeAt Go.RowKit

abbrev RsT : TypeId := 62
abbrev KyT : TypeId := 60
def fnV (f : Nat) (c : Array Value) : Value := .func (.func f) #[] c
/- the resolver -/
structure Rsv (lo : Nat) (w : World) (rb kb fg fh : Nat) (cg ch : Array Value) (vw vo : Value) (pw : List ByteArray) (LO : List (ObjV × ObjD)) : Prop where
  head : RowAt w rb RsT [.func (.func fg) #[] cg, .func (.func fh) #[] ch, vw, .map (some kb), vo]
  way : SRow StT 1 w vw pw.length (rows sRow pw)
  ord : SRow OT 15 w vo LO.length (rows objRow LO)
  objs : ∀ x ∈ LO, ObjIn lo w x.1 x.2
  keys : MapG WdT .u32 w kb LO.length (keysF (LO.map (·.2)))
  low : lo ≤ rb
  klow : lo ≤ kb
  wlow : ∀ j, own vw j → lo ≤ j
  olow : ∀ j, own vo j → lo ≤ j
section
variable {lo : Nat} {w w' : World} {rb kb fg fh : Nat} {cg ch : Array Value} {vw vo : Value} {pw : List ByteArray} {LO : List (ObjV × ObjD)}
theorem Rsv.on (h : Rsv lo w rb kb fg fh cg ch vw vo pw LO) (hb : Below w.heap.size w w') : Rsv lo w' rb kb fg fh cg ch vw vo pw LO :=
  ⟨h.head.keep (Kept.of_below (S := fun _ => False) hb) (fun e => e), h.way.keep (Kept.of_below (S := fun _ => False) hb) (fun _ _ e => e), h.ord.keep (Kept.of_below (S := fun _ => False) hb) (fun _ _ e => e), fun x hx => (h.objs x hx).on hb, h.keys.keep (Kept.of_below (S := fun _ => False) hb) (fun e => e), h.low, h.klow, h.wlow, h.olow⟩
/- what is done below lo leaves it -/
theorem Rsv.keep {S : Nat → Prop} (h : Rsv lo w rb kb fg fh cg ch vw vo pw LO) (kp : Kept S w w') (hS : ∀ j, S j → j < lo) : Rsv lo w' rb kb fg fh cg ch vw vo pw LO :=
  ⟨h.head.keep kp (fun e => by have := hS _ e; have := h.low; omega), h.way.keep kp (fun j hj e => by have := hS _ e; have := h.wlow j hj; omega), h.ord.keep kp (fun j hj e => by have := hS _ e; have := h.olow j hj; omega),
    fun x hx => (h.objs x hx).keep kp fun j t cs _ hl _ e => by have := hS _ e; omega, h.keys.keep kp (fun e => by have := hS _ e; have := h.klow; omega), h.low, h.klow, h.wlow, h.olow⟩
theorem Rsv.lt (h : Rsv lo w rb kb fg fh cg ch vw vo pw LO) : lo ≤ w.heap.size := Nat.le_trans h.low (Nat.le_of_lt h.head.lt)
end

/- what get tells of a name -/
def GetR (l : List (ByteArray × ObjD)) (s : ByteArray) (e : Ending) (w' : World) : Prop :=
  match findF l s with
  | none => e = .returned (.tuple #[.agg (ocells nilO noObj).toArray, errV 3])
  | some o => ∃ V, e = .returned (.tuple #[.agg (ocells V o).toArray, .nilIface]) ∧ ObjAt w' V o
/- files that are got by fg, modules that are loaded by fh; I is what they stand on, with the names that were got; G is what a get writes -/
structure Env (l : List (ByteArray × ObjD)) (ld : List ByteArray) (lo : Nat) (G : Nat → Prop) (I : World → List ByteArray → Prop) (fg fh : Nat) (cg ch : Array Value) : Prop where
  eg : ∀ args w, (callFunc fg args).run Try.prog w = .ok (.enter fg args) w
  eh : ∀ args w, (callFunc fh args).run Try.prog w = .ok (.enter fh args) w
  small : ∀ f ∈ l, Small f.2
  glow : ∀ j, G j → j < lo
  keep : ∀ w w' g, I w g → Kept (fun j => lo ≤ j) w w' → I w' g
  get : ∀ s g w, lo ≤ w.heap.size → I w g → s ∉ g → g.length ≤ 1000 → s.size ≤ 300 → Calls Try.prog fg (#[.string s] ++ cg) w fun e w' => GetR l s e w' ∧ I w' (g ++ [s]) ∧ Kept G w w'
  yes : ∀ s g w, I w g → s ∈ ld → Calls Try.prog fh (#[.string s] ++ ch) w fun e w' => e = .returned (.tuple #[.int .u32 1, .bool true]) ∧ w = w'
  no : ∀ s g w, I w g → s ∉ ld → Calls Try.prog fh (#[.string s] ++ ch) w fun e w' => e = .returned (.tuple #[.int .u32 0, .bool false]) ∧ w = w'
section
variable {l : List (ByteArray × ObjD)} {ld : List ByteArray} {lo : Nat} {G : Nat → Prop} {I : World → List ByteArray → Prop} {fg fh : Nat} {cg ch : Array Value}
theorem Env.on (h : Env l ld lo G I fg fh cg ch) {w w' : World} {g : List ByteArray} (hi : I w g) (hb : Below w.heap.size w w') : I w' g := h.keep w w' g hi (Kept.of_below hb)
set_option maxRecDepth 100000 in
theorem zeroW (w : World) : (zeroValue WdT).run Try.prog w = .ok (.int .u32 0) w := by kernel_rfl

set_option maxRecDepth 100000 in
set_option maxHeartbeats 1000000 in
theorem known_yes (h : Env l ld lo G I fg fh cg ch) (rb kb : Nat) (vw vo : Value) (pw : List ByteArray) (LO : List (ObjV × ObjD)) (st : OSt) (g : List ByteArray) (s : ByteArray) (w : World)
    (hr : Rsv lo w rb kb fg fh cg ch vw vo pw LO) (hi : I w g) (hl : Link ld st pw) (ho : LO.map (·.2) = st.out) (hs : s.size ≤ 300) (hk : Known ld st s) :
    Calls Try.prog 23 #[.pointer (some ⟨rb, 0, none⟩), .string s] w fun e w' => e = .returned (.tuple #[.int .u32 ((keyV st.out s 1 : Nat) : Int), .bool true]) ∧ w = w' := by
  have c1 : w.cell? ⟨rb, 1, none⟩ = some (.func (.func fh) #[] ch) := hr.head.cell 1
  have c3 : w.cell? ⟨rb, 3, none⟩ = some (.map (some kb)) := hr.head.cell 3
  have eh := h.eh
  by_cases hm : s ∈ ld
  · as_aux_lemma =>
    rw [hl.loaded hm]
    have HH := Lib.hid (h.yes s g w hi hm)
    clear h hr hi hl ho hk hm c3
    go_enter Try.func23, Try.ntmps23
    go_wp2_with fail
    refine HH.out.mono ?_
    rintro e w1 ⟨rfl, rfl⟩
    go_wp2_with fail
    go_ret2
    exact ⟨rfl, rfl⟩
  · as_aux_lemma =>
    have hk2 : ∃ o ∈ st.out, o.name = s := hk.elim (fun e => e) fun e => absurd e hm
    have HH := Lib.hid (h.no s g w hi hm)
    have HLK := hr.keys.look_ok (M := KyT) Try.underlying60 Try.underlying26 (zeroW w) (s := s) (Nat.le_trans hs (by decide))
    rw [ho, keysF_yes hk2] at HLK
    simp only [Option.getD_some, Option.isSome_some] at HLK
    generalize keyV st.out s 1 = kv at *
    clear h hr hi hl ho hk hm hk2
    go_enter Try.func23, Try.ntmps23
    go_wp2_with fail
    refine HH.out.mono ?_
    rintro e w1 ⟨rfl, rfl⟩
    go_wp2_with fail
    go_ret2
    exact ⟨rfl, rfl⟩
set_option maxRecDepth 100000 in
set_option maxHeartbeats 1000000 in
theorem known_no (h : Env l ld lo G I fg fh cg ch) (rb kb : Nat) (vw vo : Value) (pw : List ByteArray) (LO : List (ObjV × ObjD)) (st : OSt) (g : List ByteArray) (s : ByteArray) (w : World)
    (hr : Rsv lo w rb kb fg fh cg ch vw vo pw LO) (hi : I w g) (ho : LO.map (·.2) = st.out) (hs : s.size ≤ 300) (hk : ¬ Known ld st s) :
    Calls Try.prog 23 #[.pointer (some ⟨rb, 0, none⟩), .string s] w fun e w' => e = .returned (.tuple #[.int .u32 0, .bool false]) ∧ w = w' := by
  have c1 : w.cell? ⟨rb, 1, none⟩ = some (.func (.func fh) #[] ch) := hr.head.cell 1
  have c3 : w.cell? ⟨rb, 3, none⟩ = some (.map (some kb)) := hr.head.cell 3
  have eh := h.eh
  have HH := Lib.hid (h.no s g w hi (known_not hk).1)
  have HLK := hr.keys.look_ok (M := KyT) Try.underlying60 Try.underlying26 (zeroW w) (s := s) (Nat.le_trans hs (by decide))
  rw [ho, keysF_no (known_not hk).2] at HLK
  simp only [Option.getD_none, Option.isSome_none] at HLK
  clear h hr hi ho hk
  go_enter Try.func23, Try.ntmps23
  go_wp2_with fail
  refine HH.out.mono ?_
  rintro e w1 ⟨rfl, rfl⟩
  go_wp2_with fail
  go_ret2
  exact ⟨rfl, rfl⟩
end
end Go.Proofs.Ytkkjfbpflfknpaa

/-
  The program's fetch (layer 19): what it tells of a name, and what it does. Conditions: names of at most 300 signs, small files.
-/
namespace Go.Proofs.Ytkkjfbpflfknpaa
open Go.ChangeShapes Go.WideShapes Go.ChangeAt Go.RowKit

theorem Kept.weak {S T : Nat → Prop} {a b : World} (h : Kept S a b) (hS : ∀ k, k < a.heap.size → S k → T k) : Kept T a b := (Kept.refl T a).then h hS
theorem ones_nil : Ones (ocells nilO noObj) := ones_v rfl rfl rfl rfl rfl rfl rfl
section
variable {l : List (ByteArray × ObjD)} {ld : List ByteArray} {lo : Nat} {G : Nat → Prop} {I : World → List ByteArray → Prop} {fg fh : Nat} {cg ch : Array Value}
set_option maxRecDepth 100000 in
set_option maxHeartbeats 1000000 in
theorem fetch_cycle (h : Env l ld lo G I fg fh cg ch) (rb kb : Nat) (vw vo : Value) (pw : List ByteArray) (LO : List (ObjV × ObjD)) (g : List ByteArray) (s : ByteArray) (w : World)
    (hr : Rsv lo w rb kb fg fh cg ch vw vo pw LO) (hi : I w g) (hp : pw.length ≤ 9) (hm : s ∈ pw) :
    Calls Try.prog 24 #[.pointer (some ⟨rb, 0, none⟩), .string s] w fun e w' => e = .returned (.tuple #[.agg (ocells nilO noObj).toArray, errV 6]) ∧ I w' g ∧ Kept G w w' := by
  obtain ⟨a, c, hvw, hc1, hc2⟩ := hr.way.shape
  subst hvw
  have HLO := Lib.hid hr.lt
  have HE := Lib.hid h
  have HB0 : Hid (Below w.heap.size w (w.alloc (.cells #[.string ⟨#[]⟩, .int .u32 0, .slice none 0 0, .slice none 0 0, .int .i64 0, .string ⟨#[]⟩, .slice none 0 0, .slice none 0 0, .slice none 0 0, .slice none 0 0, .slice none 0 0, .int .i64 0, .int .i64 0, .int .i64 0, .int .i64 0] OT))) := (Below.refl _ _).alloc (Nat.le_refl _) _
  have HZ0 : Hid (RowAt (w.alloc (.cells #[.string ⟨#[]⟩, .int .u32 0, .slice none 0 0, .slice none 0 0, .int .i64 0, .string ⟨#[]⟩, .slice none 0 0, .slice none 0 0, .slice none 0 0, .slice none 0 0, .slice none 0 0, .int .i64 0, .int .i64 0, .int .i64 0, .int .i64 0] OT)) w.heap.size OT (ocells nilO noObj)) := RowAt.new w OT (ocells nilO noObj)
  have HR0 := Lib.hid (hr.on HB0.out)
  have HI0 := Lib.hid (h.on hi HB0.out)
  clear hr hi h
  go_enter Try.func24, Try.ntmps24
  go_upto_region 1 with fail
  generalize w.alloc (.cells #[.string ⟨#[]⟩, .int .u32 0, .slice none 0 0, .slice none 0 0, .int .i64 0, .string ⟨#[]⟩, .slice none 0 0, .slice none 0 0, .slice none 0 0, .slice none 0 0, .slice none 0 0, .int .i64 0, .int .i64 0, .int .i64 0, .int .i64 0] OT) = W0 at *
  have c2 : W0.cell? ⟨rb, 2, none⟩ = some (.slice a pw.length c) := HR0.out.head.cell 2
  have HC := Lib.hid (tcontains_any (.slice a pw.length c) pw s W0 (HR0.out.way.els sRow_len) (by omega))
  have hpos : decide (0 ≤ posV pw s) = true := by
    obtain ⟨k, e, _⟩ := posV_some hm
    simp
    omega
  rw [hpos] at HC
  clear hpos hm hp hc1 hc2
  go_wp2_with fail
  refine HC.out.mono ?_
  rintro e W1 ⟨rfl, rfl⟩
  have HZX := Lib.hid HZ0.out
  have HI1 := Lib.hid HI0.out
  have HK1 : Hid (Kept G w W0) := Kept.of_below HB0.out
  have RUN := Lib.hid (told_row HZX.out (xs := ocells nilO noObj) (k := 15) rfl rfl ones_nil size_ob)
  have HIX := Lib.hid (HE.out.keep _ _ _ HI1.out (RUN.out.2.2.weak fun k _ e => by have := HLO.out; omega))
  have HKX := Lib.hid (HK1.out.setRow (g := w.heap.size) (fun e => absurd e (Nat.lt_irrefl _)) (ocells nilO noObj).toArray)
  go_wp2_with (refine wpList_store_run _ rfl _ _ _ rfl _ _ rfl rfl (by exact RUN.out.1) ?_)
  refine bodyPost_ret (v := .tuple #[.agg (ocells nilO noObj).toArray, errV 6]) ?_ rfl ⟨rfl, HIX.out, HKX.out⟩
  exact results_two Try.results24 _ _ w.heap.size OT _ _ _ _ rfl rfl RUN.out.2.1 Try.underlying48 rfl (by rw [size_ob]; rfl)
set_option maxRecDepth 100000 in
set_option maxHeartbeats 1000000 in
theorem fetch_deep (h : Env l ld lo G I fg fh cg ch) (rb kb : Nat) (vw vo : Value) (pw : List ByteArray) (LO : List (ObjV × ObjD)) (g : List ByteArray) (s : ByteArray) (w : World)
    (hr : Rsv lo w rb kb fg fh cg ch vw vo pw LO) (hi : I w g) (hp : pw.length ≤ 9) (hm : s ∉ pw) (h8 : 8 < pw.length) :
    Calls Try.prog 24 #[.pointer (some ⟨rb, 0, none⟩), .string s] w fun e w' => e = .returned (.tuple #[.agg (ocells nilO noObj).toArray, errV 7]) ∧ I w' g ∧ Kept G w w' := by
  obtain ⟨a, c, hvw, hc1, hc2⟩ := hr.way.shape
  subst hvw
  have HLO := Lib.hid hr.lt
  have HE := Lib.hid h
  have HB0 : Hid (Below w.heap.size w (w.alloc (.cells #[.string ⟨#[]⟩, .int .u32 0, .slice none 0 0, .slice none 0 0, .int .i64 0, .string ⟨#[]⟩, .slice none 0 0, .slice none 0 0, .slice none 0 0, .slice none 0 0, .slice none 0 0, .int .i64 0, .int .i64 0, .int .i64 0, .int .i64 0] OT))) := (Below.refl _ _).alloc (Nat.le_refl _) _
  have HZ0 : Hid (RowAt (w.alloc (.cells #[.string ⟨#[]⟩, .int .u32 0, .slice none 0 0, .slice none 0 0, .int .i64 0, .string ⟨#[]⟩, .slice none 0 0, .slice none 0 0, .slice none 0 0, .slice none 0 0, .slice none 0 0, .int .i64 0, .int .i64 0, .int .i64 0, .int .i64 0] OT)) w.heap.size OT (ocells nilO noObj)) := RowAt.new w OT (ocells nilO noObj)
  have HR0 := Lib.hid (hr.on HB0.out)
  have HI0 := Lib.hid (h.on hi HB0.out)
  clear hr hi h
  go_enter Try.func24, Try.ntmps24
  go_upto_region 1 with fail
  generalize w.alloc (.cells #[.string ⟨#[]⟩, .int .u32 0, .slice none 0 0, .slice none 0 0, .int .i64 0, .string ⟨#[]⟩, .slice none 0 0, .slice none 0 0, .slice none 0 0, .slice none 0 0, .slice none 0 0, .int .i64 0, .int .i64 0, .int .i64 0, .int .i64 0] OT) = W0 at *
  have c2 : W0.cell? ⟨rb, 2, none⟩ = some (.slice a pw.length c) := HR0.out.head.cell 2
  have HC := Lib.hid (tcontains_any (.slice a pw.length c) pw s W0 (HR0.out.way.els sRow_len) (by omega))
  rw [posV_none hm, show decide ((0 : Int) ≤ -1) = false from rfl] at HC
  have i8 : (8 : Int) < (pw.length : Int) := by omega
  clear hm hp hc1 hc2 h8
  generalize pw.length = n at *
  go_wp2_with fail
  refine HC.out.mono ?_
  rintro e W1 ⟨rfl, rfl⟩
  have HZX := Lib.hid HZ0.out
  have HI1 := Lib.hid HI0.out
  have HK1 : Hid (Kept G w W0) := Kept.of_below HB0.out
  have RUN := Lib.hid (told_row HZX.out (xs := ocells nilO noObj) (k := 15) rfl rfl ones_nil size_ob)
  have HIX := Lib.hid (HE.out.keep _ _ _ HI1.out (RUN.out.2.2.weak fun k _ e => by have := HLO.out; omega))
  have HKX := Lib.hid (HK1.out.setRow (g := w.heap.size) (fun e => absurd e (Nat.lt_irrefl _)) (ocells nilO noObj).toArray)
  go_wp2_with (refine wpList_store_run _ rfl _ _ _ rfl _ _ rfl rfl (by exact RUN.out.1) ?_)
  refine bodyPost_ret (v := .tuple #[.agg (ocells nilO noObj).toArray, errV 7]) ?_ rfl ⟨rfl, HIX.out, HKX.out⟩
  exact results_two Try.results24 _ _ w.heap.size OT _ _ _ _ rfl rfl RUN.out.2.1 Try.underlying48 rfl (by rw [size_ob]; rfl)
set_option maxRecDepth 100000 in
set_option maxHeartbeats 1000000 in
theorem fetch_none (h : Env l ld lo G I fg fh cg ch) (rb kb : Nat) (vw vo : Value) (pw : List ByteArray) (LO : List (ObjV × ObjD)) (g : List ByteArray) (s : ByteArray) (w : World)
    (hr : Rsv lo w rb kb fg fh cg ch vw vo pw LO) (hi : I w g) (hp : pw.length ≤ 9) (hm : s ∉ pw) (h8 : ¬ 8 < pw.length) (hg : s ∉ g) (hgl : g.length ≤ 1000) (hs : s.size ≤ 300) (hf : findF l s = none) :
    Calls Try.prog 24 #[.pointer (some ⟨rb, 0, none⟩), .string s] w fun e w' => e = .returned (.tuple #[.agg (ocells nilO noObj).toArray, errV 3]) ∧ I w' (g ++ [s]) ∧ Kept G w w' := by
  obtain ⟨a, c, hvw, hc1, hc2⟩ := hr.way.shape
  subst hvw
  have HLO := Lib.hid hr.lt
  have HE := Lib.hid h
  have HB0 : Hid (Below w.heap.size w (w.alloc (.cells #[.string ⟨#[]⟩, .int .u32 0, .slice none 0 0, .slice none 0 0, .int .i64 0, .string ⟨#[]⟩, .slice none 0 0, .slice none 0 0, .slice none 0 0, .slice none 0 0, .slice none 0 0, .int .i64 0, .int .i64 0, .int .i64 0, .int .i64 0] OT))) := (Below.refl _ _).alloc (Nat.le_refl _) _
  have HZ0 : Hid (RowAt (w.alloc (.cells #[.string ⟨#[]⟩, .int .u32 0, .slice none 0 0, .slice none 0 0, .int .i64 0, .string ⟨#[]⟩, .slice none 0 0, .slice none 0 0, .slice none 0 0, .slice none 0 0, .slice none 0 0, .int .i64 0, .int .i64 0, .int .i64 0, .int .i64 0] OT)) w.heap.size OT (ocells nilO noObj)) := RowAt.new w OT (ocells nilO noObj)
  have HR0 := Lib.hid (hr.on HB0.out)
  have HI0 := Lib.hid (h.on hi HB0.out)
  clear hr hi h
  go_enter Try.func24, Try.ntmps24
  go_upto_region 1 with fail
  generalize w.alloc (.cells #[.string ⟨#[]⟩, .int .u32 0, .slice none 0 0, .slice none 0 0, .int .i64 0, .string ⟨#[]⟩, .slice none 0 0, .slice none 0 0, .slice none 0 0, .slice none 0 0, .slice none 0 0, .int .i64 0, .int .i64 0, .int .i64 0, .int .i64 0] OT) = W0 at *
  have c2 : W0.cell? ⟨rb, 2, none⟩ = some (.slice a pw.length c) := HR0.out.head.cell 2
  have HC := Lib.hid (tcontains_any (.slice a pw.length c) pw s W0 (HR0.out.way.els sRow_len) (by omega))
  rw [posV_none hm, show decide ((0 : Int) ≤ -1) = false from rfl] at HC
  have i8 : ¬ (8 : Int) < (pw.length : Int) := by omega
  have HG := Lib.hid (HE.out.get s g W0 (Nat.le_trans HLO.out HB0.out.size) HI0.out hg hgl hs)
  have eg := HE.out.eg
  have c0 : W0.cell? ⟨rb, 0, none⟩ = some (.func (.func fg) #[] cg) := HR0.out.head.cell 0
  unfold GetR at HG
  clear hm hp hc1 hc2 h8 hg hgl
  generalize pw.length = n at *
  simp only [hf] at HG
  rw [show errV 3 = .iface 57 (.int .i64 3) from rfl] at HG
  clear hf
  go_wp2_with fail
  refine HC.out.mono ?_
  rintro e W1 ⟨rfl, rfl⟩
  go_wp2_with fail
  refine HG.out.mono ?_
  clear HG
  rintro e W2 ⟨rfl, hi2, hk2⟩
  have HI2 := Lib.hid hi2
  have HK2 : Hid (Kept G w W2) := (Kept.of_below HB0.out).trans hk2
  have HZ2 := Lib.hid (HZ0.out.keep hk2 (fun e => by have := HE.out.glow _ e; have := HLO.out; omega))
  have RUN0 := Lib.hid (box_obj W2 W2.heap.size rfl nilO noObj ones_nil)
  have hb2 : Below W2.heap.size W2 (W2.alloc (.cells (ocells nilO noObj).toArray OT)) := (Below.refl _ _).alloc (Nat.le_refl _) _
  have HI1 := Lib.hid (HE.out.on HI2.out hb2)
  have HK1 : Hid (Kept G w (W2.alloc (.cells (ocells nilO noObj).toArray OT))) := HK2.out.trans (Kept.of_below hb2)
  have HZX := Lib.hid (HZ2.out.keep (Kept.of_below (S := fun _ => False) hb2) (fun e => e))
  clear hi2 hk2 hb2 HI2 HK2 HZ2 HZ0 HI0 HR0 HB0 c0 c2
  go_upto_region 6 with (refine wpList_store_run _ rfl _ _ _ rfl _ _ rfl rfl (by exact RUN0.out) ?_)
  clear RUN0
  generalize W2.alloc (.cells (ocells nilO noObj).toArray OT) = W3 at *
  have RUN := Lib.hid (told_row HZX.out (xs := ocells nilO noObj) (k := 15) rfl rfl ones_nil size_ob)
  have HIX := Lib.hid (HE.out.keep _ _ _ HI1.out (RUN.out.2.2.weak fun k _ e => by have := HLO.out; omega))
  have HKX := Lib.hid (HK1.out.setRow (g := w.heap.size) (fun e => absurd e (Nat.lt_irrefl _)) (ocells nilO noObj).toArray)
  go_wp2_with (refine wpList_store_run _ rfl _ _ _ rfl _ _ rfl rfl (by exact RUN.out.1) ?_)
  refine bodyPost_ret (v := .tuple #[.agg (ocells nilO noObj).toArray, .iface 57 (.int .i64 3)]) ?_ rfl ⟨rfl, HIX.out, HKX.out⟩
  exact results_two Try.results24 _ _ w.heap.size OT _ _ _ _ rfl rfl RUN.out.2.1 Try.underlying48 rfl (by rw [size_ob]; rfl)
set_option maxRecDepth 100000 in
set_option maxHeartbeats 1000000 in
theorem fetch_form (h : Env l ld lo G I fg fh cg ch) (rb kb : Nat) (vw vo : Value) (pw : List ByteArray) (LO : List (ObjV × ObjD)) (g : List ByteArray) (s : ByteArray) (w : World) (o : ObjD)
    (hr : Rsv lo w rb kb fg fh cg ch vw vo pw LO) (hi : I w g) (hp : pw.length ≤ 9) (hm : s ∉ pw) (h8 : ¬ 8 < pw.length) (hg : s ∉ g) (hgl : g.length ≤ 1000) (hs : s.size ≤ 300) (hf : findF l s = some o) (ho : ¬ (o.name = s ∧ (refsV o).isSome = true)) :
    Calls Try.prog 24 #[.pointer (some ⟨rb, 0, none⟩), .string s] w fun e w' => e = .returned (.tuple #[.agg (ocells nilO noObj).toArray, errV 4]) ∧ I w' (g ++ [s]) ∧ Kept G w w' := by
  have HOF := Lib.hid ho
  clear ho
  obtain ⟨a, c, hvw, hc1, hc2⟩ := hr.way.shape
  subst hvw
  have HLO := Lib.hid hr.lt
  have HE := Lib.hid h
  have HB0 : Hid (Below w.heap.size w (w.alloc (.cells #[.string ⟨#[]⟩, .int .u32 0, .slice none 0 0, .slice none 0 0, .int .i64 0, .string ⟨#[]⟩, .slice none 0 0, .slice none 0 0, .slice none 0 0, .slice none 0 0, .slice none 0 0, .int .i64 0, .int .i64 0, .int .i64 0, .int .i64 0] OT))) := (Below.refl _ _).alloc (Nat.le_refl _) _
  have HZ0 : Hid (RowAt (w.alloc (.cells #[.string ⟨#[]⟩, .int .u32 0, .slice none 0 0, .slice none 0 0, .int .i64 0, .string ⟨#[]⟩, .slice none 0 0, .slice none 0 0, .slice none 0 0, .slice none 0 0, .slice none 0 0, .int .i64 0, .int .i64 0, .int .i64 0, .int .i64 0] OT)) w.heap.size OT (ocells nilO noObj)) := RowAt.new w OT (ocells nilO noObj)
  have HR0 := Lib.hid (hr.on HB0.out)
  have HI0 := Lib.hid (h.on hi HB0.out)
  clear hr hi h
  go_enter Try.func24, Try.ntmps24
  go_upto_region 1 with fail
  generalize w.alloc (.cells #[.string ⟨#[]⟩, .int .u32 0, .slice none 0 0, .slice none 0 0, .int .i64 0, .string ⟨#[]⟩, .slice none 0 0, .slice none 0 0, .slice none 0 0, .slice none 0 0, .slice none 0 0, .int .i64 0, .int .i64 0, .int .i64 0, .int .i64 0] OT) = W0 at *
  have c2 : W0.cell? ⟨rb, 2, none⟩ = some (.slice a pw.length c) := HR0.out.head.cell 2
  have HC := Lib.hid (tcontains_any (.slice a pw.length c) pw s W0 (HR0.out.way.els sRow_len) (by omega))
  rw [posV_none hm, show decide ((0 : Int) ≤ -1) = false from rfl] at HC
  have i8 : ¬ (8 : Int) < (pw.length : Int) := by omega
  have HG := Lib.hid (HE.out.get s g W0 (Nat.le_trans HLO.out HB0.out.size) HI0.out hg hgl hs)
  have eg := HE.out.eg
  have c0 : W0.cell? ⟨rb, 0, none⟩ = some (.func (.func fg) #[] cg) := HR0.out.head.cell 0
  unfold GetR at HG
  clear hm hp hc1 hc2 h8 hg hgl
  generalize pw.length = n at *
  simp only [hf] at HG
  have hon : o ∈ l.map (·.2) := (find_mem hf).2.elim fun p hp => List.mem_map.2 ⟨p, hp.1, hp.2⟩
  have HSM : Hid (Small o) := by
    obtain ⟨p, hp, e⟩ := List.mem_map.1 hon
    show Small o
    rw [← e]
    exact HE.out.small p hp
  clear hf hon
  go_wp2_with fail
  refine HC.out.mono ?_
  rintro e W1 ⟨rfl, rfl⟩
  go_wp2_with fail
  refine HG.out.mono ?_
  clear HG
  rintro e W2 ⟨⟨V, rfl, hoa⟩, hi2, hk2⟩
  have HI2 := Lib.hid hi2
  have HK2 : Hid (Kept G w W2) := (Kept.of_below HB0.out).trans hk2
  have HZ2 := Lib.hid (HZ0.out.keep hk2 (fun e => by have := HE.out.glow _ e; have := HLO.out; omega))
  have RUN0 := Lib.hid (box_obj W2 W2.heap.size rfl V o (ones_obj14 V o W2 hoa))
  have hb2 : Below W2.heap.size W2 (W2.alloc (.cells (ocells V o).toArray OT)) := (Below.refl _ _).alloc (Nat.le_refl _) _
  have HI3 := Lib.hid (HE.out.on HI2.out hb2)
  have HK3 : Hid (Kept G w (W2.alloc (.cells (ocells V o).toArray OT))) := HK2.out.trans (Kept.of_below hb2)
  have HZ3 := Lib.hid (HZ2.out.keep (Kept.of_below (S := fun _ => False) hb2) (fun e => e))
  have HT3 : Hid (RowAt (W2.alloc (.cells (ocells V o).toArray OT)) W2.heap.size OT (ocells V o)) := RowAt.new W2 OT _
  have HC3 := Lib.hid (oclone_any V o (W2.alloc (.cells (ocells V o).toArray OT)) (hoa.on hb2) HSM.out)
  clear hi2 hk2 hb2 hoa HI2 HK2 HZ2 HZ0 HI0 HR0 HB0 c0 c2
  go_upto_region 6 with (refine wpList_store_run _ rfl _ _ _ rfl _ _ rfl rfl (by exact RUN0.out) ?_)
  clear RUN0
  generalize W2.alloc (.cells (ocells V o).toArray OT) = W3 at *
  generalize W2.heap.size = tb at *
  go_wp2_with (refine load_row_on rfl _ _ rfl tb rfl OT (ocells V o).toArray (0, 0) _ HT3.out Try.underlying48 rfl (by rw [size_ob]; rfl) ?_)
  refine HC3.out.mono ?_
  rintro e W4 ⟨Y, rfl, hoi, hb4⟩
  have HI4 := Lib.hid (HE.out.on HI3.out hb4)
  have HK4 : Hid (Kept G w W4) := HK3.out.trans (Kept.of_below hb4)
  have HZ4 := Lib.hid (HZ3.out.keep (Kept.of_below (S := fun _ => False) hb4) (fun e => e))
  have RUN0 := Lib.hid (box_obj W4 W4.heap.size rfl Y o (ones_obj14 Y o W4 hoi.at_))
  have hb5 : Below W4.heap.size W4 (W4.alloc (.cells (ocells Y o).toArray OT)) := (Below.refl _ _).alloc (Nat.le_refl _) _
  have HI5 := Lib.hid (HE.out.on HI4.out hb5)
  have HK5 : Hid (Kept G w (W4.alloc (.cells (ocells Y o).toArray OT))) := HK4.out.trans (Kept.of_below hb5)
  have HZ5 := Lib.hid (HZ4.out.keep (Kept.of_below (S := fun _ => False) hb5) (fun e => e))
  have HO5 : Hid (RowAt (W4.alloc (.cells (ocells Y o).toArray OT)) W4.heap.size OT (ocells Y o)) := RowAt.new W4 OT _
  have HOI : Hid (ObjIn lo (W4.alloc (.cells (ocells Y o).toArray OT)) Y o) := (hoi.on hb5).lower (by have := HK3.out.more; have := HLO.out; omega)
  clear hoi hb4 hb5 HC3 HI4 HK4 HZ4 HI3 HK3 HZ3 HT3
  go_upto_region 9 with (refine wpList_store_run _ rfl _ _ _ rfl _ _ rfl rfl (by exact RUN0.out) ?_)
  clear RUN0
  generalize W4.alloc (.cells (ocells Y o).toArray OT) = W5 at *
  generalize W4.heap.size = ob at *
  have n0 : W5.cell? ⟨ob, 0, none⟩ = some (.string o.name) := HO5.out.cell 0
  by_cases hos : o.name = s
  rotate_left
  · as_aux_lemma =>
    have t1 := str_ne hos
    have t2 := str_nq hos
    clear hos HOF
    have HZX := Lib.hid HZ5.out
    have HI1 := Lib.hid HI5.out
    have HK1 := Lib.hid HK5.out
    have RUN := Lib.hid (told_row HZX.out (xs := ocells nilO noObj) (k := 15) rfl rfl ones_nil size_ob)
    have HIX := Lib.hid (HE.out.keep _ _ _ HI1.out (RUN.out.2.2.weak fun k _ e => by have := HLO.out; omega))
    have HKX := Lib.hid (HK1.out.setRow (g := w.heap.size) (fun e => absurd e (Nat.lt_irrefl _)) (ocells nilO noObj).toArray)
    go_wp2_with (refine wpList_store_run _ rfl _ _ _ rfl _ _ rfl rfl (by exact RUN.out.1) ?_)
    refine bodyPost_ret (v := .tuple #[.agg (ocells nilO noObj).toArray, errV 4]) ?_ rfl ⟨rfl, HIX.out, HKX.out⟩
    exact results_two Try.results24 _ _ w.heap.size OT _ _ _ _ rfl rfl RUN.out.2.1 Try.underlying48 rfl (by rw [size_ob]; rfl)
  · as_aux_lemma =>
    have t1 : (o.name.toList == s.toList) = true := by rw [hos]; simp
    have hv : (refsV o).isSome = false := by
      cases hq : (refsV o).isSome with
      | true => exact absurd ⟨hos, hq⟩ HOF.out
      | false => rfl
    have HV := Lib.hid (valid_no Y o W5 HOI.out.at_ hv)
    clear hv hos HOF
    go_wp2_with (refine load_row_on rfl _ _ rfl ob rfl OT (ocells Y o).toArray (0, 0) _ HO5.out Try.underlying48 rfl (by rw [size_ob]; rfl) ?_)
    refine HV.out.mono ?_
    rintro e W6 ⟨rfl, hb6⟩
    have HZX := Lib.hid (HZ5.out.keep (Kept.of_below (S := fun _ => False) hb6) (fun e => e))
    have HI1 := Lib.hid (HE.out.on HI5.out hb6)
    have HK1 : Hid (Kept G w W6) := HK5.out.trans (Kept.of_below hb6)
    clear hb6
    have RUN := Lib.hid (told_row HZX.out (xs := ocells nilO noObj) (k := 15) rfl rfl ones_nil size_ob)
    have HIX := Lib.hid (HE.out.keep _ _ _ HI1.out (RUN.out.2.2.weak fun k _ e => by have := HLO.out; omega))
    have HKX := Lib.hid (HK1.out.setRow (g := w.heap.size) (fun e => absurd e (Nat.lt_irrefl _)) (ocells nilO noObj).toArray)
    go_wp2_with (refine wpList_store_run _ rfl _ _ _ rfl _ _ rfl rfl (by exact RUN.out.1) ?_)
    refine bodyPost_ret (v := .tuple #[.agg (ocells nilO noObj).toArray, errV 4]) ?_ rfl ⟨rfl, HIX.out, HKX.out⟩
    exact results_two Try.results24 _ _ w.heap.size OT _ _ _ _ rfl rfl RUN.out.2.1 Try.underlying48 rfl (by rw [size_ob]; rfl)
set_option maxRecDepth 100000 in
set_option maxHeartbeats 1000000 in
theorem fetch_good (h : Env l ld lo G I fg fh cg ch) (rb kb : Nat) (vw vo : Value) (pw : List ByteArray) (LO : List (ObjV × ObjD)) (g : List ByteArray) (s : ByteArray) (w : World) (o : ObjD)
    (hr : Rsv lo w rb kb fg fh cg ch vw vo pw LO) (hi : I w g) (hp : pw.length ≤ 9) (hm : s ∉ pw) (h8 : ¬ 8 < pw.length) (hg : s ∉ g) (hgl : g.length ≤ 1000) (hs : s.size ≤ 300) (hf : findF l s = some o) (hos : o.name = s) (hv : (refsV o).isSome = true) :
    Calls Try.prog 24 #[.pointer (some ⟨rb, 0, none⟩), .string s] w fun e w' => (∃ Y, e = .returned (.tuple #[.agg (ocells Y o).toArray, .nilIface]) ∧ ObjIn lo w' Y o) ∧ I w' (g ++ [s]) ∧ Kept G w w' := by
  have HOS := Lib.hid hos
  have HVS := Lib.hid hv
  clear hos hv
  obtain ⟨a, c, hvw, hc1, hc2⟩ := hr.way.shape
  subst hvw
  have HLO := Lib.hid hr.lt
  have HE := Lib.hid h
  have HB0 : Hid (Below w.heap.size w (w.alloc (.cells #[.string ⟨#[]⟩, .int .u32 0, .slice none 0 0, .slice none 0 0, .int .i64 0, .string ⟨#[]⟩, .slice none 0 0, .slice none 0 0, .slice none 0 0, .slice none 0 0, .slice none 0 0, .int .i64 0, .int .i64 0, .int .i64 0, .int .i64 0] OT))) := (Below.refl _ _).alloc (Nat.le_refl _) _
  have HZ0 : Hid (RowAt (w.alloc (.cells #[.string ⟨#[]⟩, .int .u32 0, .slice none 0 0, .slice none 0 0, .int .i64 0, .string ⟨#[]⟩, .slice none 0 0, .slice none 0 0, .slice none 0 0, .slice none 0 0, .slice none 0 0, .int .i64 0, .int .i64 0, .int .i64 0, .int .i64 0] OT)) w.heap.size OT (ocells nilO noObj)) := RowAt.new w OT (ocells nilO noObj)
  have HR0 := Lib.hid (hr.on HB0.out)
  have HI0 := Lib.hid (h.on hi HB0.out)
  clear hr hi h
  go_enter Try.func24, Try.ntmps24
  go_upto_region 1 with fail
  generalize w.alloc (.cells #[.string ⟨#[]⟩, .int .u32 0, .slice none 0 0, .slice none 0 0, .int .i64 0, .string ⟨#[]⟩, .slice none 0 0, .slice none 0 0, .slice none 0 0, .slice none 0 0, .slice none 0 0, .int .i64 0, .int .i64 0, .int .i64 0, .int .i64 0] OT) = W0 at *
  have c2 : W0.cell? ⟨rb, 2, none⟩ = some (.slice a pw.length c) := HR0.out.head.cell 2
  have HC := Lib.hid (tcontains_any (.slice a pw.length c) pw s W0 (HR0.out.way.els sRow_len) (by omega))
  rw [posV_none hm, show decide ((0 : Int) ≤ -1) = false from rfl] at HC
  have i8 : ¬ (8 : Int) < (pw.length : Int) := by omega
  have HG := Lib.hid (HE.out.get s g W0 (Nat.le_trans HLO.out HB0.out.size) HI0.out hg hgl hs)
  have eg := HE.out.eg
  have c0 : W0.cell? ⟨rb, 0, none⟩ = some (.func (.func fg) #[] cg) := HR0.out.head.cell 0
  unfold GetR at HG
  clear hm hp hc1 hc2 h8 hg hgl
  generalize pw.length = n at *
  simp only [hf] at HG
  have hon : o ∈ l.map (·.2) := (find_mem hf).2.elim fun p hp => List.mem_map.2 ⟨p, hp.1, hp.2⟩
  have HSM : Hid (Small o) := by
    obtain ⟨p, hp, e⟩ := List.mem_map.1 hon
    show Small o
    rw [← e]
    exact HE.out.small p hp
  clear hf hon
  go_wp2_with fail
  refine HC.out.mono ?_
  rintro e W1 ⟨rfl, rfl⟩
  go_wp2_with fail
  refine HG.out.mono ?_
  clear HG
  rintro e W2 ⟨⟨V, rfl, hoa⟩, hi2, hk2⟩
  have HI2 := Lib.hid hi2
  have HK2 : Hid (Kept G w W2) := (Kept.of_below HB0.out).trans hk2
  have HZ2 := Lib.hid (HZ0.out.keep hk2 (fun e => by have := HE.out.glow _ e; have := HLO.out; omega))
  have RUN0 := Lib.hid (box_obj W2 W2.heap.size rfl V o (ones_obj14 V o W2 hoa))
  have hb2 : Below W2.heap.size W2 (W2.alloc (.cells (ocells V o).toArray OT)) := (Below.refl _ _).alloc (Nat.le_refl _) _
  have HI3 := Lib.hid (HE.out.on HI2.out hb2)
  have HK3 : Hid (Kept G w (W2.alloc (.cells (ocells V o).toArray OT))) := HK2.out.trans (Kept.of_below hb2)
  have HZ3 := Lib.hid (HZ2.out.keep (Kept.of_below (S := fun _ => False) hb2) (fun e => e))
  have HT3 : Hid (RowAt (W2.alloc (.cells (ocells V o).toArray OT)) W2.heap.size OT (ocells V o)) := RowAt.new W2 OT _
  have HC3 := Lib.hid (oclone_any V o (W2.alloc (.cells (ocells V o).toArray OT)) (hoa.on hb2) HSM.out)
  clear hi2 hk2 hb2 hoa HI2 HK2 HZ2 HZ0 HI0 HR0 HB0 c0 c2
  go_upto_region 6 with (refine wpList_store_run _ rfl _ _ _ rfl _ _ rfl rfl (by exact RUN0.out) ?_)
  clear RUN0
  generalize W2.alloc (.cells (ocells V o).toArray OT) = W3 at *
  generalize W2.heap.size = tb at *
  go_wp2_with (refine load_row_on rfl _ _ rfl tb rfl OT (ocells V o).toArray (0, 0) _ HT3.out Try.underlying48 rfl (by rw [size_ob]; rfl) ?_)
  refine HC3.out.mono ?_
  rintro e W4 ⟨Y, rfl, hoi, hb4⟩
  have HI4 := Lib.hid (HE.out.on HI3.out hb4)
  have HK4 : Hid (Kept G w W4) := HK3.out.trans (Kept.of_below hb4)
  have HZ4 := Lib.hid (HZ3.out.keep (Kept.of_below (S := fun _ => False) hb4) (fun e => e))
  have RUN0 := Lib.hid (box_obj W4 W4.heap.size rfl Y o (ones_obj14 Y o W4 hoi.at_))
  have hb5 : Below W4.heap.size W4 (W4.alloc (.cells (ocells Y o).toArray OT)) := (Below.refl _ _).alloc (Nat.le_refl _) _
  have HI5 := Lib.hid (HE.out.on HI4.out hb5)
  have HK5 : Hid (Kept G w (W4.alloc (.cells (ocells Y o).toArray OT))) := HK4.out.trans (Kept.of_below hb5)
  have HZ5 := Lib.hid (HZ4.out.keep (Kept.of_below (S := fun _ => False) hb5) (fun e => e))
  have HO5 : Hid (RowAt (W4.alloc (.cells (ocells Y o).toArray OT)) W4.heap.size OT (ocells Y o)) := RowAt.new W4 OT _
  have HOI : Hid (ObjIn lo (W4.alloc (.cells (ocells Y o).toArray OT)) Y o) := (hoi.on hb5).lower (by have := HK3.out.more; have := HLO.out; omega)
  clear hoi hb4 hb5 HC3 HI4 HK4 HZ4 HI3 HK3 HZ3 HT3
  go_upto_region 9 with (refine wpList_store_run _ rfl _ _ _ rfl _ _ rfl rfl (by exact RUN0.out) ?_)
  clear RUN0
  generalize W4.alloc (.cells (ocells Y o).toArray OT) = W5 at *
  generalize W4.heap.size = ob at *
  have n0 : W5.cell? ⟨ob, 0, none⟩ = some (.string o.name) := HO5.out.cell 0
  have t1 : (o.name.toList == s.toList) = true := by rw [HOS.out]; simp
  have HV := Lib.hid (valid_yes Y o W5 HOI.out.at_ HVS.out)
  go_wp2_with (refine load_row_on rfl _ _ rfl ob rfl OT (ocells Y o).toArray (0, 0) _ HO5.out Try.underlying48 rfl (by rw [size_ob]; rfl) ?_)
  refine HV.out.mono ?_
  rintro e W6 ⟨rfl, hb6⟩
  have HZX := Lib.hid (HZ5.out.keep (Kept.of_below (S := fun _ => False) hb6) (fun e => e))
  have HI1 := Lib.hid (HE.out.on HI5.out hb6)
  have HK1 : Hid (Kept G w W6) := HK5.out.trans (Kept.of_below hb6)
  have HO6 := Lib.hid (HO5.out.keep (Kept.of_below (S := fun _ => False) hb6) (fun e => e))
  have HOI6 := Lib.hid (HOI.out.on hb6)
  clear hb6 n0
  have RUN := Lib.hid (told_row HZX.out (xs := ocells Y o) (k := 15) rfl rfl (ones_obj14 Y o W6 HOI6.out.at_) size_ob)
  have HIX := Lib.hid (HE.out.keep _ _ _ HI1.out (RUN.out.2.2.weak fun k _ e => by have := HLO.out; omega))
  have HKX := Lib.hid (HK1.out.setRow (g := w.heap.size) (fun e => absurd e (Nat.lt_irrefl _)) (ocells Y o).toArray)
  have HOX := Lib.hid (HOI6.out.keep RUN.out.2.2 fun j t cs hr _ ht => its_ne hr ht HZX.out its_ob)
  go_wp2_with (first
    | (refine load_row_on rfl _ _ rfl ob rfl OT (ocells Y o).toArray (0, 0) _ HO6.out Try.underlying48 rfl (by rw [size_ob]; rfl) ?_)
    | (refine wpList_store_run _ rfl _ _ _ rfl _ _ rfl rfl (by exact RUN.out.1) ?_))
  refine bodyPost_ret (v := .tuple #[.agg (ocells Y o).toArray, .nilIface]) ?_ rfl ⟨⟨Y, rfl, HOX.out⟩, HIX.out, HKX.out⟩
  exact results_two Try.results24 _ _ w.heap.size OT _ _ _ _ rfl rfl RUN.out.2.1 Try.underlying48 rfl (by rw [size_ob]; rfl)
end
end Go.Proofs.Ytkkjfbpflfknpaa

/-
  What the program's resolver does to memory, step by step (layer 19): a name put under way, taken off, an object put behind the others. No conditions beyond those that each theorem names.
-/
namespace Go.Proofs.Ytkkjfbpflfknpaa
open Go.ChangeShapes Go.WideShapes Go.ChangeAt Go.RowKit

/- what goes on between two states of a resolver -/
structure Mv (rb kb : Nat) (G : Nat → Prop) (w w' : World) (vw vo vw' vo' : Value) : Prop where
  kept : Kept (fun j => j = rb ∨ j = kb ∨ own vw j ∨ own vo j ∨ G j) w w'
  nw : ∀ j, own vw' j → own vw j ∨ w.heap.size ≤ j
  no : ∀ j, own vo' j → own vo j ∨ w.heap.size ≤ j
section
variable {rb kb : Nat} {G : Nat → Prop} {a b c : World} {vw vo vw' vo' vw'' vo'' : Value}
theorem Mv.of (h : Kept G a b) : Mv rb kb G a b vw vo vw vo := ⟨h.weak fun _ _ e => .inr (.inr (.inr (.inr e))), fun _ e => .inl e, fun _ e => .inl e⟩
theorem Mv.refl (a : World) : Mv rb kb G a a vw vo vw vo := Mv.of (Kept.refl G a)
theorem Mv.trans (h : Mv rb kb G a b vw vo vw' vo') (g : Mv rb kb G b c vw' vo' vw'' vo'') : Mv rb kb G a c vw vo vw'' vo'' :=
  ⟨h.kept.then g.kept fun k hk e => by
    rcases e with e | e | e | e | e
    · exact .inl e
    · exact .inr (.inl e)
    · rcases h.nw k e with f | f
      · exact .inr (.inr (.inl f))
      · omega
    · rcases h.no k e with f | f
      · exact .inr (.inr (.inr (.inl f)))
      · omega
    · exact .inr (.inr (.inr (.inr e))),
    fun j e => by
      rcases g.nw j e with f | f
      · exact h.nw j f
      · exact .inr (Nat.le_trans h.kept.more f),
    fun j e => by
      rcases g.no j e with f | f
      · exact h.no j f
      · exact .inr (Nat.le_trans h.kept.more f)⟩
/- of the whole: nothing below lo but what G has -/
theorem Mv.low {lo : Nat} (h : Mv rb kb G a b vw vo vw' vo') (h1 : lo ≤ rb) (h2 : lo ≤ kb) (h3 : ∀ j, own vw j → lo ≤ j) (h4 : ∀ j, own vo j → lo ≤ j) : Kept (fun j => lo ≤ j ∨ G j) a b :=
  h.kept.weak fun k _ e => by
    rcases e with e | e | e | e | e
    · exact .inl (by omega)
    · exact .inl (by omega)
    · exact .inl (h3 k e)
    · exact .inl (h4 k e)
    · exact .inr e
end

/- a resolver but for its keys -/
structure Rsx (lo : Nat) (w : World) (rb kb fg fh : Nat) (cg ch : Array Value) (vw vo : Value) (pw : List ByteArray) (LO : List (ObjV × ObjD)) : Prop where
  head : RowAt w rb RsT [.func (.func fg) #[] cg, .func (.func fh) #[] ch, vw, .map (some kb), vo]
  way : SRow StT 1 w vw pw.length (rows sRow pw)
  ord : SRow OT 15 w vo LO.length (rows objRow LO)
  objs : ∀ x ∈ LO, ObjIn lo w x.1 x.2
  low : lo ≤ rb
  klow : lo ≤ kb
  wlow : ∀ j, own vw j → lo ≤ j
  olow : ∀ j, own vo j → lo ≤ j
theorem its_rs : ∀ t, ItsT t → t ≠ RsT := by
  rintro t (rfl | rfl | rfl | rfl | rfl | rfl) <;> decide
theorem its_st : ∀ t, ItsT t → t ≠ StT := by
  rintro t (rfl | rfl | rfl | rfl | rfl | rfl) <;> decide
theorem row_own {t : TypeId} {k : Nat} {w : World} {v : Value} {n : Nat} {cs : List Value} (h : SRow t k w v n cs) (j : Nat) (hj : own v j) : ∃ ds, RowAt w j t ds := by
  rcases h.is with ⟨rfl, _⟩ | ⟨b, cap, rest, rfl, hr, _⟩
  · exact hj.elim
  · have e : j = b := hj
    subst e
    exact ⟨_, hr⟩
theorem own_apart {t t' : TypeId} {k k' : Nat} {w : World} {v v' : Value} {n n' : Nat} {cs cs' : List Value} (h : SRow t k w v n cs) (g : SRow t' k' w v' n' cs') (ht : t ≠ t') (j : Nat) (h1 : own v j) : ¬ own v' j := fun h2 => by
  obtain ⟨ds, hd⟩ := row_own h j h1
  obtain ⟨es, he⟩ := row_own g j h2
  unfold RowAt at hd he
  rw [hd] at he
  injection he with he
  injection he with _ he
  exact ht he
theorem row_map {E : TypeId} {k : IntKind} {w : World} {j mb n : Nat} {t : TypeId} {cs : List Value} {f : ByteArray → Option Int} (h : RowAt w j t cs) (g : MapG E k w mb n f) : j ≠ mb := by
  rintro rfl
  obtain ⟨es, c, hb⟩ := g.obj
  unfold RowAt at h
  rw [h] at hb
  cases hb
section
variable {lo : Nat} {w w' : World} {rb kb fg fh : Nat} {cg ch : Array Value} {vw vo : Value} {pw : List ByteArray} {LO : List (ObjV × ObjD)}
theorem Rsv.x (h : Rsv lo w rb kb fg fh cg ch vw vo pw LO) : Rsx lo w rb kb fg fh cg ch vw vo pw LO := ⟨h.head, h.way, h.ord, h.objs, h.low, h.klow, h.wlow, h.olow⟩
theorem Rsx.v (h : Rsx lo w rb kb fg fh cg ch vw vo pw LO) (hk : MapG WdT .u32 w kb LO.length (keysF (LO.map (·.2)))) : Rsv lo w rb kb fg fh cg ch vw vo pw LO := ⟨h.head, h.way, h.ord, h.objs, hk, h.low, h.klow, h.wlow, h.olow⟩
/- rows of an object's types are none of the resolver's -/
theorem Rsx.its (h : Rsx lo w rb kb fg fh cg ch vw vo pw LO) {j : Nat} {t : TypeId} {cs : List Value} (hr : RowAt w j t cs) (ht : ItsT t) : j ≠ rb ∧ ¬ own vw j ∧ ¬ own vo j :=
  ⟨its_ne hr ht h.head its_rs, fun e => by obtain ⟨ds, hd⟩ := row_own h.way j e; exact its_ne hr ht hd its_st rfl, fun e => by obtain ⟨ds, hd⟩ := row_own h.ord j e; exact its_ne hr ht hd its_ob rfl⟩
theorem Rsx.ways (h : Rsx lo w rb kb fg fh cg ch vw vo pw LO) : ¬ own vw rb := h.way.off h.head (by decide)
theorem Rsx.ords (h : Rsx lo w rb kb fg fh cg ch vw vo pw LO) : ¬ own vo rb := h.ord.off h.head (by decide)
theorem Rsx.both (h : Rsx lo w rb kb fg fh cg ch vw vo pw LO) (j : Nat) (h1 : own vw j) : ¬ own vo j := own_apart h.way h.ord (by decide) j h1
/- the rest of what changes -/
theorem Rsx.keep {S : Nat → Prop} (h : Rsx lo w rb kb fg fh cg ch vw vo pw LO) (kp : Kept S w w') (h1 : ¬ S rb) (h2 : ∀ j, own vw j → ¬ S j) (h3 : ∀ j, own vo j → ¬ S j) (h4 : ∀ (j : Nat) (t : TypeId) (cs : List Value), RowAt w j t cs → lo ≤ j → ItsT t → ¬ S j) : Rsx lo w' rb kb fg fh cg ch vw vo pw LO :=
  ⟨h.head.keep kp h1, h.way.keep kp h2, h.ord.keep kp h3, fun x hx => (h.objs x hx).keep kp h4, h.low, h.klow, h.wlow, h.olow⟩
theorem Rsx.drew (h : Rsx lo w rb kb fg fh cg ch vw vo pw LO) : Rsx lo w.drew rb kb fg fh cg ch vw vo pw LO :=
  h.keep (Kept.drawn (S := fun _ => False) (Drawn.of_n w 1)) (fun e => e) (fun _ _ e => e) (fun _ _ e => e) fun _ _ _ _ _ _ e => e
/- a name more is under way -/
theorem Rsx.push (h : Rsx lo w rb kb fg fh cg ch vw vo pw LO) (s : ByteArray) (hp : pw.length ≤ 9) (hlo : lo ≤ w.heap.size) :
    ∃ v' w3, (Builtin.append_ #[SlT, SlT] SlT #[vw, .slice (some ⟨w.heap.size, 0, none⟩) 1 1]).run Try.prog (w.alloc (.cells #[.string s] StT)) = .ok v' w3 ∧
      (w3.cell? ⟨rb, 2, none⟩ = some vw ∧ w3.frozen? ⟨rb, 2, none⟩ = false ∧ ∃ a n c, v' = .slice a n c) ∧ Rsx lo (w3.setCell ⟨rb, 2, none⟩ v') rb kb fg fh cg ch v' vo (pw ++ [s]) LO ∧ Kept (fun j => j = rb ∨ own vw j) w (w3.setCell ⟨rb, 2, none⟩ v') ∧ ∀ j, own v' j → own vw j ∨ w.heap.size ≤ j := by
  obtain ⟨v', w3, q0, q1, q2, q3⟩ := more_el (T := SlT) Try.underlying23 info_st rfl (by decide) sRow_len sRow_one h.way s (by omega)
  have hd2 := h.head.keep q2 h.ways
  have kp := kept_set w3 rb 2 v'
  have hk : Kept (fun j => j = rb ∨ own vw j) w (w3.setCell ⟨rb, 2, none⟩ v') := (q2.weak fun _ _ e => .inr e).then kp fun _ _ e => .inl e
  refine ⟨v', w3, q0, ⟨hd2.cell 2, hd2.free 2, ?_⟩, ⟨hd2.setCell 2 v', q1.keep kp fun j hj e => ?_, h.ord.keep hk fun j hj e => ?_, fun x hx => (h.objs x hx).keep hk fun j t cs hr _ ht e => ?_, h.low, h.klow, fun j hj => ?_, h.olow⟩, hk, q3⟩
  · obtain ⟨a, c, e, _⟩ := q1.shape
    exact ⟨a, _, c, e⟩
  · subst e
    exact q1.off hd2 (by decide) hj
  · rcases e with e | e
    · subst e
      exact h.ords hj
    · exact h.both j e hj
  · exact e.elim (h.its hr ht).1 (h.its hr ht).2.1
  · rcases q3 j hj with h1 | h1
    · exact h.wlow j h1
    · omega
/- the last name is taken off -/
theorem Rsx.pop {a : Option Addr} {n c : Nat} {s : ByteArray} (h : Rsx lo w rb kb fg fh cg ch (.slice a (n + 1) c) vo (pw ++ [s]) LO) :
    (w.cell? ⟨rb, 2, none⟩ = some (.slice a (n + 1) c) ∧ w.frozen? ⟨rb, 2, none⟩ = false) ∧ Rsx lo (w.setCell ⟨rb, 2, none⟩ (.slice a n c)) rb kb fg fh cg ch (.slice a n c) vo pw LO ∧ Kept (· = rb) w (w.setCell ⟨rb, 2, none⟩ (.slice a n c)) := by
  have kp := kept_set w rb 2 (.slice a n c)
  have hw := h.ways
  refine ⟨⟨h.head.cell 2, h.head.free 2⟩, ⟨h.head.setCell 2 (.slice a n c), ?_, h.ord.keep kp fun j hj e => ?_, fun x hx => (h.objs x hx).keep kp fun j t cs hr _ ht => (h.its hr ht).1, h.low, h.klow, fun j hj => h.wlow j (by cases a <;> exact hj), h.olow⟩, kp⟩
  · have hr := h.way.keep kp fun j hj e => by subst e; exact hw hj
    rcases hr.is with ⟨e, _⟩ | ⟨b, cap, rest, e, hb, h1, h2, h3⟩
    · cases e
    · rw [List.length_append, List.length_singleton] at e h1 h2
      injection e with e1 e2 e3
      have hn : n = pw.length := by omega
      subst e1 e3
      refine ⟨.inr ⟨b, c, rows sRow [s] ++ rest, by rw [hn], ?_, ?_, by omega, h3⟩, by rw [rows_length 1 sRow_len], fun u hu => h.way.one u (by rw [rows_append]; exact List.mem_append_left _ hu)⟩
      · rw [rows_append, List.append_assoc] at hb
        exact hb
      · rw [List.length_append, rows_length 1 sRow_len, List.length_singleton]
        omega
  · subst e
    exact h.ords hj
/- an object more is told -/
theorem Rsx.add (h : Rsx lo w rb kb fg fh cg ch vw vo pw LO) (Y : ObjV) (o : ObjD) (hy : ObjIn lo w Y o) (hl : LO.length ≤ 1000) (hlo : lo ≤ w.heap.size) :
    ∃ v' w3, (Builtin.append_ #[ObS, ObS] ObS #[vo, .slice (some ⟨w.heap.size, 0, none⟩) 1 1]).run Try.prog (w.alloc (.cells (ocells Y o).toArray OT)) = .ok v' w3 ∧
      (w3.cell? ⟨rb, 4, none⟩ = some vo ∧ w3.frozen? ⟨rb, 4, none⟩ = false ∧ ∃ a n c, v' = .slice a n c) ∧ Rsx lo (w3.setCell ⟨rb, 4, none⟩ v') rb kb fg fh cg ch vw v' pw (LO ++ [(Y, o)]) ∧ Kept (fun j => j = rb ∨ own vo j) w (w3.setCell ⟨rb, 4, none⟩ v') ∧ ∀ j, own v' j → own vo j ∨ w.heap.size ≤ j := by
  obtain ⟨v', w3, q0, q1, q2, q3⟩ := more_one (T := ObS) Try.underlying29 info_obj rfl (by decide) objRow_len h.ord (Y, o) (ones_obj14 Y o w hy.at_) (by omega)
  have hd2 := h.head.keep q2 h.ords
  have kp := kept_set w3 rb 4 v'
  have hk : Kept (fun j => j = rb ∨ own vo j) w (w3.setCell ⟨rb, 4, none⟩ v') := (q2.weak fun _ _ e => .inr e).then kp fun _ _ e => .inl e
  refine ⟨v', w3, q0, ⟨hd2.cell 4, hd2.free 4, ?_⟩, ⟨hd2.setCell 4 v', h.way.keep hk fun j hj e => ?_, q1.keep kp fun j hj e => ?_, fun x hx => ?_, h.low, h.klow, h.wlow, fun j hj => ?_⟩, hk, q3⟩
  · obtain ⟨a, c, e, _⟩ := q1.shape
    exact ⟨a, _, c, e⟩
  · rcases e with e | e
    · subst e
      exact h.ways hj
    · exact h.both j hj e
  · subst e
    exact q1.off hd2 (by decide) hj
  · have hm : ObjIn lo w x.1 x.2 := by
      rcases List.mem_append.1 hx with h1 | h1
      · exact h.objs x h1
      · rw [List.mem_singleton.1 h1]
        exact hy
    exact hm.keep hk fun j t cs hr _ ht e => e.elim (h.its hr ht).1 (h.its hr ht).2.2
  · rcases q3 j hj with h1 | h1
    · exact h.olow j h1
    · omega
/- a row that is none of the resolver's stays, whatever goes on -/
theorem Rsv.row {G : Nat → Prop} {vw' vo' : Value} (h : Rsv lo w rb kb fg fh cg ch vw vo pw LO) (hm : Mv rb kb G w w' vw vo vw' vo') (hG : ∀ j, G j → j < lo) {j : Nat} {t : TypeId} {cs : List Value} (hr : RowAt w j t cs) (hl : lo ≤ j) (h1 : t ≠ RsT) (h2 : t ≠ StT) (h3 : ¬ own vo j) : RowAt w' j t cs :=
  hr.keep hm.kept fun e => by
    rcases e with e | e | e | e | e
    · subst e
      have := h.head
      unfold RowAt at hr this
      rw [hr] at this
      injection this with this
      injection this with _ this
      exact h1 this
    · exact row_map hr h.keys e
    · obtain ⟨ds, hd⟩ := row_own h.way j e
      unfold RowAt at hr hd
      rw [hr] at hd
      injection hd with hd
      injection hd with _ hd
      exact h2 hd
    · exact h3 e
    · have := hG j e
      omega
theorem Rsv.mvits {G : Nat → Prop} (h : Rsv lo w rb kb fg fh cg ch vw vo pw LO) (hG : ∀ j, G j → j < lo) (j : Nat) (t : TypeId) (cs : List Value) (hr : RowAt w j t cs) (hl : lo ≤ j) (ht : ItsT t) : ¬ (j = rb ∨ j = kb ∨ own vw j ∨ own vo j ∨ G j) := by
  rintro (e | e | e | e | e)
  · exact (h.x.its hr ht).1 e
  · exact row_map hr h.keys e
  · exact (h.x.its hr ht).2.1 e
  · exact (h.x.its hr ht).2.2 e
  · have := hG j e
    omega
theorem Rsv.obj {G : Nat → Prop} {vw' vo' : Value} (h : Rsv lo w rb kb fg fh cg ch vw vo pw LO) (hm : Mv rb kb G w w' vw vo vw' vo') (hG : ∀ j, G j → j < lo) {Y : ObjV} {o : ObjD} (ho : ObjIn lo w Y o) : ObjIn lo w' Y o := ho.keep hm.kept (h.mvits hG)
theorem Rsv.in_ {G : Nat → Prop} {vw' vo' : Value} {α : Type} {t : TypeId} {k : Nat} {row : α → List Value} {v : Value} {L : List α} (h : Rsv lo w rb kb fg fh cg ch vw vo pw LO) (hm : Mv rb kb G w w' vw vo vw' vo') (hG : ∀ j, G j → j < lo) (ht : ItsT t) (hi : In lo t k row w v L) : In lo t k row w' v L :=
  hi.keep hm.kept fun j hj e => by
    obtain ⟨ds, hd⟩ := row_own hi.row j hj
    exact h.mvits hG j t ds hd (hi.low j hj) ht e
end
end Go.Proofs.Ytkkjfbpflfknpaa

/-
  The program's resolveAll, if resolve does what the document says one level down (layer 19). Conditions: at most 1000 files, small ones.
-/
namespace Go.Proofs.Ytkkjfbpflfknpaa
open Go.ChangeShapes Go.WideShapes Go.ChangeAt Go.RowKit

theorem errV_pos {k : Nat} (h : k ≠ 0) : errV k = .iface 57 (.int .i64 ((k : Nat) : Int)) := by
  cases k with
  | zero => exact absurd rfl h
  | succ n => rfl
section
variable (l : List (ByteArray × ObjD)) (ld : List ByteArray) (lo : Nat) (G : Nat → Prop) (I : World → List ByteArray → Prop) (rb kb fg fh : Nat) (cg ch : Array Value)
/- the resolver beside the document's state -/
structure Bsd (w : World) (vw vo : Value) (pw : List ByteArray) (LO : List (ObjV × ObjD)) (st : OSt) : Prop where
  rs : Rsv lo w rb kb fg fh cg ch vw vo pw LO
  is : LO.map (·.2) = st.out
  inv : I w st.way
  link : Link ld st pw
  oi : OInv l st
def Failed (w w' : World) : Prop := (∃ g, g.Nodup ∧ I w' g) ∧ Kept (fun j => lo ≤ j ∨ G j) w w'
def Went (w : World) (vw vo : Value) (pw : List ByteArray) (st : OSt) (w' : World) : Prop := ∃ vw' vo' LO', Bsd l ld lo I rb kb fg fh cg ch w' vw' vo' pw LO' st ∧ Mv rb kb G w w' vw vo vw' vo'
def OneTold (w : World) (vw vo : Value) (pw : List ByteArray) (s : ByteArray) (r : ORes) (e : Ending) (w' : World) : Prop :=
  match r with
  | .bad k => e = .returned (.tuple #[.int .u32 0, errV k]) ∧ Failed lo G I w w'
  | .good st => e = .returned (.tuple #[.int .u32 ((keyV st.out s 1 : Nat) : Int), .nilIface]) ∧ Went l ld lo G I rb kb fg fh cg ch w vw vo pw st w'
def AllTold (w : World) (vw vo : Value) (pw : List ByteArray) (r : ORes) (e : Ending) (w' : World) : Prop :=
  match r with
  | .bad k => e = .returned (errV k) ∧ Failed lo G I w w'
  | .good st => e = .returned .nilIface ∧ Went l ld lo G I rb kb fg fh cg ch w vw vo pw st w'
end
section
variable {l : List (ByteArray × ObjD)} {ld : List ByteArray} {lo : Nat} {G : Nat → Prop} {I : World → List ByteArray → Prop} {rb kb fg fh : Nat} {cg ch : Array Value}
theorem Bsd.on (hE : Env l ld lo G I fg fh cg ch) {w w' : World} {vw vo : Value} {pw : List ByteArray} {LO : List (ObjV × ObjD)} {st : OSt} (h : Bsd l ld lo I rb kb fg fh cg ch w vw vo pw LO st) (hb : Below w.heap.size w w') : Bsd l ld lo I rb kb fg fh cg ch w' vw vo pw LO st :=
  ⟨h.rs.on hb, h.is, hE.on h.inv hb, h.link, h.oi⟩
theorem Failed.from_ {w w1 w2 : World} (h : Failed lo G I w1 w2) (k : Kept (fun j => lo ≤ j ∨ G j) w w1) : Failed lo G I w w2 := ⟨h.1, k.trans h.2⟩
theorem Mv.lows {w w' : World} {vw vo vw' vo' : Value} {pw : List ByteArray} {LO : List (ObjV × ObjD)} (h : Mv rb kb G w w' vw vo vw' vo') (hr : Rsv lo w rb kb fg fh cg ch vw vo pw LO) : Kept (fun j => lo ≤ j ∨ G j) w w' := h.low hr.low hr.klow hr.wlow hr.olow
theorem AllTold.bad {w w' : World} {vw vo : Value} {pw : List ByteArray} {r : ORes} {k : Nat} (hr : r = .bad k) (hk : k ≠ 0) (hf : Failed lo G I w w') : AllTold l ld lo G I rb kb fg fh cg ch w vw vo pw r (.returned (.iface 57 (.int .i64 ((k : Nat) : Int)))) w' := by
  subst hr
  exact ⟨by rw [errV_pos hk], hf⟩
theorem AllTold.good {w w' : World} {vw vo : Value} {pw : List ByteArray} {r : ORes} {st : OSt} (hr : r = .good st) (hf : Went l ld lo G I rb kb fg fh cg ch w vw vo pw st w') : AllTold l ld lo G I rb kb fg fh cg ch w vw vo pw r (.returned .nilIface) w' := by
  subst hr
  exact ⟨rfl, hf⟩
set_option maxRecDepth 100000 in
set_option maxHeartbeats 4000000 in
theorem all_step (n : Nat) (hE : Env l ld lo G I fg fh cg ch) (hkey : ∀ f ∈ l, f.2.key < 4294967296)
    (IH : ∀ vw vo pw LO st s w, Bsd l ld lo I rb kb fg fh cg ch w vw vo pw LO st → pw.length + n = 9 → s.size ≤ 300 →
      Calls Try.prog 17 #[.pointer (some ⟨rb, 0, none⟩), .string s] w fun e w' => OneTold l ld lo G I rb kb fg fh cg ch w vw vo pw s (resN l ld n st s) e w')
    (vw vo : Value) (pw : List ByteArray) (LO : List (ObjV × ObjD)) (st : OSt) (vi : Value) (imps : List (ByteArray × Nat)) (w : World) (h : Bsd l ld lo I rb kb fg fh cg ch w vw vo pw LO st) (hp : pw.length + n = 9) (hi : In lo ImT 2 impRow w vi imps) (hs : ∀ x ∈ imps, x.1.size ≤ 300) :
    Calls Try.prog 25 #[.pointer (some ⟨rb, 0, none⟩), vi] w fun e w' => AllTold l ld lo G I rb kb fg fh cg ch w vw vo pw (impsN (resN l ld n) imps st) e w' := by
  obtain ⟨r, hr⟩ : ∃ r, r = impsN (resN l ld n) imps st := ⟨_, rfl⟩
  rw [← hr]
  have HE := Lib.hid hE
  have HIH := Lib.hid IH
  have HP := Lib.hid hp
  have HS := Lib.hid hs
  have HK := Lib.hid hkey
  have HB := Lib.hid h
  have HI := Lib.hid hi
  have HR : Hid (impsN (resN l ld n) (imps.drop 0) st = r) := hr.symm
  obtain ⟨ai, ci, hvi, hc1, hc2⟩ := hi.row.shape
  obtain ⟨ni, hni⟩ : ∃ n, n = imps.length := ⟨_, rfl⟩
  rw [← hni] at hvi hc1
  have HN := Lib.hid hni
  have HVI := Lib.hid hvi
  have sn : ni ≤ 9223372036854775807 := Nat.le_trans hc1 hc2
  subst hvi
  clear hE IH hp hs hkey h hi hr hni hc1 hc2
  have HM : Hid (Mv rb kb G w w vw vo vw vo) := Mv.refl _
  go_enter Try.func25, Try.ntmps25
  go_wp2_with fail
  go_loopw [6, 7, 8, 11] (fun _ _ _ i wr => ∃ (m : Nat) (st1 : OSt) (vw1 vo1 : Value) (LO1 : List (ObjV × ObjD)), m ≤ ni ∧ i = .int .i64 (m : Nat) ∧ Hid (Bsd l ld lo I rb kb fg fh cg ch wr vw1 vo1 pw LO1 st1) ∧ Hid (Mv rb kb G w wr vw vo vw1 vo1) ∧ Hid (In lo ImT 2 impRow wr (.slice ai ni ci) imps) ∧ Hid (impsN (resN l ld n) (imps.drop m) st1 = r)) (fun _ _ _ i _ => ni - (intOf i).toNat)
  case atStart => exact ⟨0, st, vw, vo, LO, Nat.zero_le _, rfl, HB, HM, HI, HR⟩
  case round =>
    obtain ⟨m, st1, vw1, vo1, LO1, hm, rfl, HB1, HM1, HI1, HR1⟩ := hrel
    clear HI HR HM
    by_cases hlt : m < ni
    · obtain ⟨⟨x1, x2⟩, hx⟩ : ∃ x, imps[m]? = some x := ⟨_, List.getElem?_eq_getElem (by have := HN.out; omega)⟩
      have HD : Hid (imps.drop m = (x1, x2) :: imps.drop (m + 1)) := by
        have hl := (List.getElem?_eq_some_iff.1 hx).1
        have := List.drop_eq_getElem_cons hl
        rw [(List.getElem?_eq_some_iff.1 hx).2] at this
        exact this
      obtain ⟨b, off, cap, e0, hb, d0, d1⟩ := (HI1.out.row.els impRow_len).cell2 hx rfl
      rw [← HN.out] at e0
      have ea : ai = some ⟨b, off, none⟩ := by cases e0; rfl
      subst ea
      have HXS : Hid (x1.size ≤ 300) := HS.out (x1, x2) (List.mem_of_getElem? hx)
      have i1 : (m : Int) < (ni : Int) := by omega
      have i2 : (0 : Int) ≤ (m : Int) := by omega
      have HLT : Hid (m < ni) := hlt
      have RUN : Hid ((Instr.storeAt ImT (.pointer (some ⟨wr.heap.size, 0, none⟩)) (.agg #[.string x1, .int .u32 (x2 : Nat)])).run Try.prog (wr.alloc (.cells #[.string ⟨#[]⟩, .int .u32 0] ImT)) = .ok () (wr.alloc (.cells #[.string x1, .int .u32 (x2 : Nat)] ImT))) :=
        box_el wr ImT 2 [.string ⟨#[]⟩, .int .u32 0] (impRow (x1, x2)) rfl rfl (ones_imp _) size_im
      have hbl : Below wr.heap.size wr (wr.alloc (.cells #[.string x1, .int .u32 (x2 : Nat)] ImT)) := (Below.refl _ _).alloc (Nat.le_refl _) _
      have HB2 := Lib.hid (HB1.out.on HE.out hbl)
      have HI2 := Lib.hid (HI1.out.on hbl)
      have HM2 : Hid (Mv rb kb G w (wr.alloc (.cells #[.string x1, .int .u32 (x2 : Nat)] ImT)) vw vo vw1 vo1) := HM1.out.trans (Mv.of (Kept.of_below hbl))
      have HRX : Hid (RowAt (wr.alloc (.cells #[.string x1, .int .u32 (x2 : Nat)] ImT)) wr.heap.size ImT [.string x1, .int .u32 (x2 : Nat)]) := RowAt.new wr ImT _
      have HLB : Hid (lo ≤ wr.heap.size) := HB1.out.rs.lt
      have HNO : Hid (¬ own vo1 wr.heap.size) := fun e => by have := HB1.out.rs.ord.own_lt _ e; omega
      clear e0 hx hb hm hlt hbl HB1 HI1 HM1
      go_upto_region 4 with (refine wpList_store_run _ rfl _ _ _ rfl _ _ rfl rfl (by exact RUN.out) ?_)
      clear RUN d0 d1
      generalize wr.alloc (.cells #[.string x1, .int .u32 (x2 : Nat)] ImT) = w1 at *
      generalize wr.heap.size = nb at *
      have c0 : w1.cell? ⟨nb, 0, none⟩ = some (.string x1) := HRX.out.cell 0
      have HC := Lib.hid (HIH.out vw1 vo1 pw LO1 st1 x1 w1 HB2.out HP.out HXS.out)
      go_wp2_with fail
      refine HC.out.mono ?_
      rintro e w2 ht
      clear HC c0
      cases hr : resN l ld n st1 x1 with
      | bad k =>
        as_aux_lemma =>
        rw [hr] at ht
        obtain ⟨rfl, hf⟩ := ht
        have hk := res_num n st1 x1 k hr
        have RES : Hid (r = .bad k) := by
          have h := HR1.out
          rw [HD.out, imps_bad (x := (x1, x2)) hr] at h
          exact h.symm
        have HF : Hid (Failed lo G I w w2) := hf.from_ (HM2.out.lows HB.out.rs)
        have HK0 : Hid (k ≠ 0) := by show k ≠ 0; omega
        rw [errV_pos HK0.out]
        clear hr hf hk
        go_wp2_with fail
        go_ret
        exact AllTold.bad RES.out HK0.out HF.out
      | good st2 =>
        rw [hr] at ht
        obtain ⟨rfl, vw2, vo2, LO2, hb2, hm2⟩ := ht
        have HB3 := Lib.hid hb2
        have HI3 := Lib.hid (HB2.out.rs.in_ hm2 HE.out.glow (.inl rfl) HI2.out)
        have HM3 := Lib.hid (HM2.out.trans hm2)
        have HRX3 := Lib.hid (HB2.out.rs.row hm2 HE.out.glow HRX.out HLB.out (by decide) (by decide) HNO.out)
        have d1 : w2.cell? ⟨nb, 1, none⟩ = some (.int .u32 (x2 : Nat)) := HRX3.out.cell 1
        have HGR := Lib.hid hr
        clear hr hb2 hm2 HB2 HI2 HM2 HRX
        by_cases hky : keyV st2.out x1 1 = x2
        rotate_left
        · as_aux_lemma =>
          have RES : Hid (r = .bad 5) := by
            have h := HR1.out
            rw [HD.out, imps_key (x := (x1, x2)) HGR.out hky] at h
            exact h.symm
          have HF : Hid (Failed lo G I w w2) := ⟨⟨st2.way, HB3.out.oi.nodup, HB3.out.inv⟩, HM3.out.lows HB.out.rs⟩
          have t1 : (((keyV st2.out x1 1 : Nat) : Int) != ((x2 : Nat) : Int)) = true := by simp; omega
          have t2 : ¬ ((keyV st2.out x1 1 : Nat) : Int) = ((x2 : Nat) : Int) := by omega
          clear hky HRX3
          generalize keyV st2.out x1 1 = kv at *
          go_wp2_with fail
          go_ret
          exact AllTold.bad RES.out (by decide) HF.out
        · as_aux_lemma =>
          have HG : Hid (impsN (resN l ld n) (imps.drop (m + 1)) st2 = r) := by
            have h := HR1.out
            rw [HD.out, imps_on (x := (x1, x2)) HGR.out hky] at h
            exact h
          have t1 : (((keyV st2.out x1 1 : Nat) : Int) != ((x2 : Nat) : Int)) = false := by simp; omega
          have t2 : ((keyV st2.out x1 1 : Nat) : Int) = ((x2 : Nat) : Int) := by omega
          clear hky HRX3 HGR
          rw [t2] at t1 ⊢
          clear t2
          go_wp2_with fail
          go_roundw
          case rel => exact ⟨m + 1, st2, vw2, vo2, LO2, HLT.out, by go_num, HB3, HM3, HI3, HG⟩
          case measure => have := HLT.out; simp [intOf]; omega
    · as_aux_lemma =>
      have i1 : ¬ (m : Int) < (ni : Int) := by omega
      have RES : Hid (r = .good st1) := by
        have h := HR1.out
        rw [List.drop_of_length_le (by have := HN.out; omega), impsN] at h
        exact h.symm
      have HF : Hid (Went l ld lo G I rb kb fg fh cg ch w vw vo pw st1 wr) := ⟨vw1, vo1, LO1, HB1.out, HM1.out⟩
      clear hlt hm HR1 HB1 HM1 HI1
      go_wp2_with fail
      go_ret
      exact AllTold.good RES.out HF.out
end
end Go.Proofs.Ytkkjfbpflfknpaa

/-
  The program's resolve (layer 19): what the document says, at each depth. Conditions: at most 1000 files, small ones; names of at most 300 signs.
-/
namespace Go.Proofs.Ytkkjfbpflfknpaa
open Go.ChangeShapes Go.WideShapes Go.ChangeAt Go.RowKit

section
variable {l : List (ByteArray × ObjD)} {ld : List ByteArray} {lo : Nat} {G : Nat → Prop} {I : World → List ByteArray → Prop} {rb kb fg fh : Nat} {cg ch : Array Value}
theorem its_rsob {w : World} {a b : Nat} {cs ds : List Value} (h : RowAt w a OT cs) (g : RowAt w b RsT ds) : a ≠ b := by
  rintro rfl
  unfold RowAt at h g
  rw [h] at g
  injection g with g
  injection g with _ g
  exact absurd g (by decide)
theorem fetch_bad (hE : Env l ld lo G I fg fh cg ch) (hlen : l.length ≤ 1000) {w : World} {vw vo : Value} {pw : List ByteArray} {LO : List (ObjV × ObjD)} {st : OSt} {s : ByteArray} {k : Nat} (h : Bsd l ld lo I rb kb fg fh cg ch w vw vo pw LO st) (hp : pw.length ≤ 9) (hs : s.size ≤ 300) (hk : ¬ Known ld st s) (hf : fetN l pw s = .bad k) :
    Calls Try.prog 24 #[.pointer (some ⟨rb, 0, none⟩), .string s] w fun e w' => e = .returned (.tuple #[.agg (ocells nilO noObj).toArray, errV k]) ∧ (∃ g, g.Nodup ∧ I w' g) ∧ Kept G w w' := by
  have hw := h.link.way hk
  have hgl : st.way.length ≤ 1000 := Nat.le_trans h.oi.way hlen
  by_cases h1 : s ∈ pw
  · rw [fet_cycle h1] at hf
    cases hf
    exact (fetch_cycle hE rb kb vw vo pw LO st.way s w h.rs h.inv hp h1).mono fun _ _ ⟨a, b, c⟩ => ⟨a, ⟨_, h.oi.nodup, b⟩, c⟩
  · have h1' : s ∉ st.way := fun e => h1 (hw.1 e)
    have hn : (st.way ++ [s]).Nodup := by
      rw [List.nodup_append]
      exact ⟨h.oi.nodup, by simp, fun a ha b hb e => by rw [List.mem_singleton.1 hb] at e; subst e; exact h1' ha⟩
    by_cases h8 : 8 < pw.length
    · rw [fet_deep h1 h8] at hf
      cases hf
      exact (fetch_deep hE rb kb vw vo pw LO st.way s w h.rs h.inv hp h1 h8).mono fun _ _ ⟨a, b, c⟩ => ⟨a, ⟨_, h.oi.nodup, b⟩, c⟩
    · cases hg : findF l s with
      | none =>
        rw [fet_none h1 h8 hg] at hf
        cases hf
        exact (fetch_none hE rb kb vw vo pw LO st.way s w h.rs h.inv hp h1 h8 h1' hgl hs hg).mono fun _ _ ⟨a, b, c⟩ => ⟨a, ⟨_, hn, b⟩, c⟩
      | some o =>
        by_cases ho : o.name = s ∧ (refsV o).isSome = true
        · rw [fet_good h1 h8 hg ho] at hf
          cases hf
        · rw [fet_form h1 h8 hg ho] at hf
          cases hf
          exact (fetch_form hE rb kb vw vo pw LO st.way s w o h.rs h.inv hp h1 h8 h1' hgl hs hg ho).mono fun _ _ ⟨a, b, c⟩ => ⟨a, ⟨_, hn, b⟩, c⟩
theorem OneTold.bad {w w' : World} {vw vo : Value} {pw : List ByteArray} {s : ByteArray} {r : ORes} {k : Nat} (hr : r = .bad k) (hk : k ≠ 0) (hf : Failed lo G I w w') : OneTold l ld lo G I rb kb fg fh cg ch w vw vo pw s r (.returned (.tuple #[.int .u32 0, .iface 57 (.int .i64 ((k : Nat) : Int))])) w' := by
  subst hr
  exact ⟨by rw [errV_pos hk], hf⟩
theorem OneTold.good {w w' : World} {vw vo : Value} {pw : List ByteArray} {s : ByteArray} {r : ORes} {st : OSt} {kv : Nat} (hr : r = .good st) (hk : kv = keyV st.out s 1) (hf : Went l ld lo G I rb kb fg fh cg ch w vw vo pw st w') : OneTold l ld lo G I rb kb fg fh cg ch w vw vo pw s r (.returned (.tuple #[.int .u32 ((kv : Nat) : Int), .nilIface])) w' := by
  subst hr hk
  exact ⟨rfl, hf⟩
set_option maxRecDepth 100000 in
set_option maxHeartbeats 4000000 in
theorem one_step (n : Nat) (hE : Env l ld lo G I fg fh cg ch) (hlen : l.length ≤ 1000) (hkey : ∀ f ∈ l, f.2.key < 4294967296)
    (IH : ∀ m, n = m + 1 → ∀ vw vo pw LO st vi imps w, Bsd l ld lo I rb kb fg fh cg ch w vw vo pw LO st → pw.length + m = 9 → In lo ImT 2 impRow w vi imps → (∀ x ∈ imps, x.1.size ≤ 300) →
      Calls Try.prog 25 #[.pointer (some ⟨rb, 0, none⟩), vi] w fun e w' => AllTold l ld lo G I rb kb fg fh cg ch w vw vo pw (impsN (resN l ld m) imps st) e w')
    (vw vo : Value) (pw : List ByteArray) (LO : List (ObjV × ObjD)) (st : OSt) (s : ByteArray) (w : World) (h : Bsd l ld lo I rb kb fg fh cg ch w vw vo pw LO st) (hp : pw.length + n = 9) (hs : s.size ≤ 300) :
    Calls Try.prog 17 #[.pointer (some ⟨rb, 0, none⟩), .string s] w fun e w' => OneTold l ld lo G I rb kb fg fh cg ch w vw vo pw s (resN l ld n st s) e w' := by
  have HE := Lib.hid hE
  have HB := Lib.hid h
  obtain ⟨r, hr⟩ : ∃ r, r = resN l ld n st s := ⟨_, rfl⟩
  rw [← hr]
  have HR := Lib.hid hr
  by_cases hk : Known ld st s
  · as_aux_lemma =>
    have HK := Lib.hid (known_yes hE rb kb vw vo pw LO st st.way s w h.rs h.inv h.link h.is hs hk)
    have RES : Hid (r = .good st) := HR.out.trans (res_known hk)
    have HF : Hid (Went l ld lo G I rb kb fg fh cg ch w vw vo pw st w) := ⟨vw, vo, LO, h, Mv.refl _⟩
    obtain ⟨kv, hkv⟩ : ∃ kv, kv = keyV st.out s 1 := ⟨_, rfl⟩
    rw [← hkv] at HK
    have HKV := Lib.hid hkv
    clear hk hkv hE h hr hlen hkey IH hp hs
    go_enter Try.func17, Try.ntmps17
    go_wp2_with fail
    refine HK.out.mono ?_
    rintro e w1 ⟨rfl, rfl⟩
    go_wp2_with fail
    go_ret2
    exact OneTold.good RES.out HKV.out HF.out
  have HKN := Lib.hid hk
  have HK := Lib.hid (known_no hE rb kb vw vo pw LO st st.way s w h.rs h.inv h.is hs hk)
  cases hf : fetN l pw s with
  | bad k =>
    as_aux_lemma =>
    have HF := Lib.hid (fetch_bad hE hlen h (by omega) hs hk hf)
    have RES : Hid (r = .bad k) := HR.out.trans (res_fet_bad h.link hk hp hf)
    have HK0 : Hid (k ≠ 0) := by
      have := res_num n st s k (HR.out.symm.trans RES.out)
      show k ≠ 0
      omega
    rw [errV_pos HK0.out] at HF
    clear hE h hr hlen hkey IH hp hs hk hf
    go_enter Try.func17, Try.ntmps17
    go_wp2_with fail
    refine HK.out.mono ?_
    rintro e w1 ⟨rfl, rfl⟩
    go_wp2_with fail
    refine HF.out.mono ?_
    rintro e w2 ⟨rfl, ⟨g, hg, hi⟩, hk2⟩
    have RUN := Lib.hid (box_obj w2 w2.heap.size rfl nilO noObj ones_nil)
    have hb2 : Below w2.heap.size w2 (w2.alloc (.cells (ocells nilO noObj).toArray OT)) := (Below.refl _ _).alloc (Nat.le_refl _) _
    have HFA : Hid (Failed lo G I w (w2.alloc (.cells (ocells nilO noObj).toArray OT))) := ⟨⟨g, hg, HE.out.on hi hb2⟩, (hk2.weak fun _ _ e => .inr e).trans (Kept.of_below hb2)⟩
    clear hg hi hk2 hb2 HF HK
    go_wp2_with (refine wpList_store_run _ rfl _ _ _ rfl _ _ rfl rfl (by exact RUN.out) ?_)
    go_ret2
    exact OneTold.bad RES.out HK0.out HFA.out
  | good o =>
    obtain ⟨hff, hos, hov, h8⟩ := fet_at hf
    obtain ⟨m, hnm, hsw, hsl, hres⟩ := res_fet_good h.link hk hp hf
    have hspw : s ∉ pw := fun e => hsw (h.link.sub s e)
    have HF := Lib.hid (fetch_good hE rb kb vw vo pw LO st.way s w o h.rs h.inv (by omega) hspw (by omega) hsw (Nat.le_trans h.oi.way hlen) hs hff hos hov)
    obtain ⟨f0, hf0, hfo⟩ := (find_mem hff).2
    have HSM : Hid (Small o) := by show Small o; rw [← hfo]; exact hE.small f0 hf0
    have HKY : Hid (o.key < 4294967296) := by show _ < _; rw [← hfo]; exact hkey f0 hf0
    have HOS := Lib.hid hos
    have HNM := Lib.hid hnm
    have HP := Lib.hid hp
    have HIH := Lib.hid (IH m hnm)
    have HLEN := Lib.hid hlen
    have HLO := Lib.hid h.rs.lt
    have HRES : Hid (r = endN o (impsN (resN l ld m) o.imps ⟨st.out, st.way ++ [s]⟩)) := HR.out.trans hres
    have HOI := Lib.hid (h.oi.into hsw hsl)
    have HLK := Lib.hid (h.link.into s)
    have HPL : Hid (pw.length ≤ 8) := h8
    clear hE h hr hlen hkey IH hp hs hk hf hff hos hov h8 hnm hsw hsl hres hspw hf0 hfo
    go_enter Try.func17, Try.ntmps17
    go_wp2_with fail
    refine HK.out.mono ?_
    rintro e w1 ⟨rfl, rfl⟩
    go_wp2_with fail
    refine HF.out.mono ?_
    rintro e w1 ⟨⟨Y, rfl, hoi⟩, hi1, hk1⟩
    have RUN := Lib.hid (box_obj w1 w1.heap.size rfl Y o (ones_obj14 Y o w1 hoi.at_))
    have hb2 : Below w1.heap.size w1 (w1.alloc (.cells (ocells Y o).toArray OT)) := (Below.refl _ _).alloc (Nat.le_refl _) _
    have HI2 := Lib.hid (HE.out.on hi1 hb2)
    have HX2 := Lib.hid (((HB.out.rs.keep hk1 HE.out.glow).on hb2))
    have HO2 := Lib.hid (hoi.on hb2)
    have HOB : Hid (RowAt (w1.alloc (.cells (ocells Y o).toArray OT)) w1.heap.size OT (ocells Y o)) := RowAt.new w1 OT _
    have HM2 : Hid (Mv rb kb G w (w1.alloc (.cells (ocells Y o).toArray OT)) vw vo vw vo) := Mv.of (hk1.trans (Kept.of_below hb2))
    have HLB : Hid (lo ≤ w1.heap.size) := Nat.le_trans HLO.out hk1.more
    have HNO : Hid (¬ own vo w1.heap.size) := fun e => by have := HB.out.rs.ord.own_lt _ e; have := hk1.more; omega
    have HZ2 : Hid (lo ≤ (w1.alloc (.cells (ocells Y o).toArray OT)).heap.size) := Nat.le_trans (Nat.le_trans HLO.out hk1.more) hb2.size
    clear hoi hi1 hk1 hb2 HF HK
    go_upto_region 5 with (refine wpList_store_run _ rfl _ _ _ rfl _ _ rfl rfl (by exact RUN.out) ?_)
    clear RUN
    generalize w1.alloc (.cells (ocells Y o).toArray OT) = W2 at *
    generalize w1.heap.size = ob at *
    obtain ⟨av, cv, hvv, _⟩ := HX2.out.way.shape
    have HVV := Lib.hid hvv
    clear hvv
    obtain ⟨v3, w3, q0, ⟨c2, f2, a3, n3, k3, hv3⟩, hx4, hk4, ho4⟩ := HX2.out.x.push s (Nat.le_trans HPL.out (by decide)) HZ2.out
    have c02 : W2.cell? ⟨rb, 2, none⟩ = some vw := HX2.out.head.cell 2
    rw [HVV.out] at c02 c2 q0
    subst hv3
    have HX4 : Hid (Rsv lo (w3.setCell ⟨rb, 2, none⟩ (.slice a3 n3 k3)) rb kb fg fh cg ch (.slice a3 n3 k3) vo (pw ++ [s]) LO) :=
      hx4.v (HX2.out.keys.keep hk4 fun e => e.elim (fun g => row_map HX2.out.head HX2.out.keys g.symm) fun g => by obtain ⟨ds, hd⟩ := row_own HX2.out.way _ g; exact row_map hd HX2.out.keys rfl)
    have HI4 : Hid (I (w3.setCell ⟨rb, 2, none⟩ (.slice a3 n3 k3)) (st.way ++ [s])) := HE.out.keep _ _ _ HI2.out (hk4.weak fun j _ e => e.elim (fun g => by rw [g]; exact HX2.out.low) fun g => HX2.out.wlow j g)
    have HM4 : Hid (Mv rb kb G W2 (w3.setCell ⟨rb, 2, none⟩ (.slice a3 n3 k3)) vw vo (.slice a3 n3 k3) vo) := ⟨hk4.weak fun j _ e => e.elim .inl fun g => .inr (.inr (.inl g)), ho4, fun _ e => .inl e⟩
    have HO4 := Lib.hid (HX2.out.obj HM4.out HE.out.glow HO2.out)
    have HOB4 := Lib.hid (HX2.out.row HM4.out HE.out.glow HOB.out HLB.out (by decide) (by decide) HNO.out)
    have HAP := Lib.hid q0
    have HMW := Lib.hid (HM2.out.trans HM4.out)
    clear q0 hx4 hk4 ho4
    go_upto_region 8 with (at_builtin; refine Lib.wpList_append_run _ rfl _ _ _ _ rfl _ _ rfl rfl _ _ HAP.out ?_)
    clear HAP c2 f2 c02 HX2 HI2 HM2 HM4 HO2 HOB
    generalize w3.setCell ⟨rb, 2, none⟩ (.slice a3 n3 k3) = W4 at *
    have HB4 : Hid (Bsd l ld lo I rb kb fg fh cg ch W4 (.slice a3 n3 k3) vo (pw ++ [s]) LO ⟨st.out, st.way ++ [s]⟩) := ⟨HX4.out, HB.out.is, HI4.out, HLK.out, HOI.out⟩
    have d2 : W4.cell? ⟨ob, 2, none⟩ = some Y.i := HOB4.out.cell 2
    have HC := Lib.hid (HIH.out (.slice a3 n3 k3) vo (pw ++ [s]) LO ⟨st.out, st.way ++ [s]⟩ Y.i o.imps W4 HB4.out (by have := HP.out; have := HNM.out; simp; omega) HO4.out.i (fun x hx => by obtain ⟨i, hi⟩ := List.getElem?_of_mem hx; exact HSM.out.impn i x hi))
    go_wp2_with fail
    refine HC.out.mono ?_
    rintro e W5 ht
    clear HC d2
    cases hr : impsN (resN l ld m) o.imps ⟨st.out, st.way ++ [s]⟩ with
    | bad k =>
      as_aux_lemma =>
      rw [hr] at ht
      obtain ⟨rfl, hf⟩ := ht
      have RES : Hid (r = .bad k) := by
        have h := HRES.out
        rw [hr] at h
        exact h
      have HK0 : Hid (k ≠ 0) := by
        have := imps_num (fun st s k h => res_num m st s k h) o.imps _ k hr
        show k ≠ 0
        omega
      have HFA : Hid (Failed lo G I w W5) := hf.from_ (HMW.out.lows HB.out.rs)
      rw [errV_pos HK0.out]
      clear hr hf
      go_wp2_with fail
      go_ret2
      exact OneTold.bad RES.out HK0.out HFA.out
    | good st1 =>
      rw [hr] at ht
      obtain ⟨rfl, vw5, vo5, LO5, hb5, hm5⟩ := ht
      have RES : Hid (r = .good ⟨st1.out ++ [o], st1.way⟩) := by
        have h := HRES.out
        rw [hr] at h
        exact h
      have HB5 := Lib.hid hb5
      have HO5 := Lib.hid (HB4.out.rs.obj hm5 HE.out.glow HO4.out)
      have HOB5 := Lib.hid (HB4.out.rs.row hm5 HE.out.glow HOB4.out HLB.out (by decide) (by decide) HNO.out)
      have HNO5 : Hid (¬ own vo5 ob) := fun e => (hm5.no ob e).elim HNO.out fun g => by have := HOB4.out.lt; omega
      have HM5 := Lib.hid (HMW.out.trans hm5)
      have HZ5 : Hid (lo ≤ W5.heap.size) := hb5.rs.lt
      clear hr hb5 hm5 HB4 HO4 HOB4 HNO HMW HI4 HX4 HRES HIH
      obtain ⟨a5, c5, hv5, hc5, hd5⟩ := HB5.out.rs.way.shape
      rw [List.length_append, List.length_singleton] at hv5 hc5
      generalize hn5 : pw.length = n5 at *
      have HN5 := Lib.hid hn5
      subst hv5
      clear hn5
      obtain ⟨wb, wcap, hwe, hwb, _⟩ := HB5.out.rs.way.cell (by simp)
      have hwe2 : a5 = some ⟨wb, 0, none⟩ := by injection hwe
      subst hwe2
      clear hwe hwb
      obtain ⟨⟨c2, f2⟩, hx6, hk6⟩ := HB5.out.rs.x.drew.pop
      have c02 : W5.cell? ⟨rb, 2, none⟩ = some (.slice (some ⟨wb, 0, none⟩) (n5 + 1) c5) := c2
      have f02 : W5.frozen? ⟨rb, 2, none⟩ = false := f2
      have i1 : (n5 : Int) ≤ 8 := by have := HPL.out; omega
      have i2 : (n5 : Int) + 1 ≤ (c5 : Int) := by omega
      have i3 : (c5 : Int) ≤ 9223372036854775807 := by have := hd5; have e : maxLen = 9223372036854775807 := rfl; omega
      have i4 : (0 : Int) ≤ (n5 : Int) := by omega
      have i7 : (n5 : Int) ≤ (c5 : Int) := by omega
      have i8 : ((n5 : Int)).toNat = n5 := by omega
      have i5 : IntKind.i64.wrap ((n5 : Int) + 1 - 1) = (n5 : Int) := by simp only [IntKind.wrap_i64]; omega
      have i6 : ((n5 + 1 : Nat) : Int) - 1 = (n5 : Int) := by omega
      have HX6 := Lib.hid hx6
      have HK6 := Lib.hid hk6
      clear hx6 hk6 hc5 hd5
      go_upto_region 11 with fail
      go_region
      have HX7 : Hid (Rsx lo (W5.setCell ⟨rb, 2, none⟩ (.slice (some ⟨wb, 0, none⟩) n5 c5)).drew rb kb fg fh cg ch (.slice (some ⟨wb, 0, none⟩) n5 c5) vo5 pw LO5) := HX6.out
      have HK7 : Hid (Kept (· = rb) W5 (W5.setCell ⟨rb, 2, none⟩ (.slice (some ⟨wb, 0, none⟩) n5 c5)).drew) := (kept_set W5 rb 2 (.slice (some ⟨wb, 0, none⟩) n5 c5)).drew
      clear c2 f2 c02 f02 i1 i2 i3 i4 i5 i6 i7 i8 HX6 HK6
      generalize (W5.setCell ⟨rb, 2, none⟩ (.slice (some ⟨wb, 0, none⟩) n5 c5)).drew = W6 at *
      have HKM := Lib.hid (HB5.out.rs.keys.keep HK7.out fun e => row_map HB5.out.rs.head HB5.out.rs.keys e.symm)
      have HO6 := Lib.hid (HO5.out.keep HK7.out fun j t cs hr _ ht => (HB5.out.rs.x.its hr ht).1)
      have HOB6 := Lib.hid (HOB5.out.keep HK7.out fun e => its_rsob HOB5.out HB5.out.rs.head e)
      have HI6 := Lib.hid (HE.out.keep _ _ _ HB5.out.inv (HK7.out.weak fun j _ e => by rw [e]; exact HB5.out.rs.low))
      have HM6 : Hid (Mv rb kb G W5 W6 (.slice (some ⟨wb, 0, none⟩) (n5 + 1) c5) vo5 (.slice (some ⟨wb, 0, none⟩) n5 c5) vo5) := ⟨HK7.out.weak fun _ _ e => .inl e, fun _ e => .inl e, fun _ e => .inl e⟩
      have HM7 := Lib.hid (HM5.out.trans HM6.out)
      have hls : s.size ≤ maxLen := by rw [← HOS.out]; exact HO6.out.fit.name
      have hll : LO5.length ≤ 1000 := by
        have h1 := HB5.out.oi.way
        have h2 := HB5.out.oi.few
        have h3 := congrArg List.length HB5.out.is
        rw [List.length_map] at h3
        have := HLEN.out
        omega
      obtain ⟨w7, hput, hmap, hk7, hz7⟩ := (HKM.out.keep (Kept.drawn (S := fun _ => False) (Drawn.of_n W6 1)) (fun e => e)).put (M := KyT) Try.underlying60 Try.underlying26 (s := s) (c := ((o.key : Nat) : Int)) hls (WalkArith.wf_u32 (by have := HKY.out; omega)) (by omega)
      have hput : (Instr.mapUpdate KyT (.map (some kb)) (.string s) (.int .u32 ((o.key : Nat) : Int))).run Try.prog W6.drew = .ok () w7 := hput
      have hx7 : Rsx lo w7 rb kb fg fh cg ch (.slice (some ⟨wb, 0, none⟩) n5 c5) vo5 pw LO5 := HX7.out.drew.keep hk7 (fun e => row_map HX7.out.head HKM.out e) (fun j hj e => by obtain ⟨ds, hd⟩ := row_own HX7.out.way j hj; exact row_map hd HKM.out e) (fun j hj e => by obtain ⟨ds, hd⟩ := row_own HX7.out.ord j hj; exact row_map hd HKM.out e) fun j t cs hr _ _ e => row_map (w := W6) hr HKM.out e
      have ho7 : ObjIn lo w7 Y o := HO6.out.keep (Kept.then (S := (· = kb)) (Kept.drawn (Drawn.of_n W6 1)) hk7 fun _ _ e => e) fun j t cs hr _ _ e => row_map hr HKM.out e
      have hob7 : RowAt w7 ob OT (ocells Y o) := HOB6.out.drew.keep hk7 fun e => row_map HOB6.out HKM.out e
      have HI7 := Lib.hid (HE.out.keep _ _ _ HI6.out (Kept.then (S := fun j => lo ≤ j) (Kept.drawn (Drawn.of_n W6 1)) hk7 fun j _ e => by rw [e]; exact HB5.out.rs.klow))
      have HM8 : Hid (Mv rb kb G w w7 vw vo (.slice (some ⟨wb, 0, none⟩) n5 c5) vo5) := HM7.out.trans ⟨Kept.then (S := fun j => j = rb ∨ j = kb ∨ own (.slice (some ⟨wb, 0, none⟩) n5 c5) j ∨ own vo5 j ∨ G j) (Kept.drawn (Drawn.of_n W6 1)) hk7 fun _ _ e => .inr (.inl e), fun _ e => .inl e, fun _ e => .inl e⟩
      have HX8 := Lib.hid hx7
      have HO8 := Lib.hid ho7
      have HOB8 := Lib.hid hob7
      have HMP := Lib.hid hmap
      have HZ7 : Hid (lo ≤ w7.heap.size) := by have := HZ5.out; have := HK7.out.more; have := hk7.more; simp at this; show lo ≤ _; omega
      have c3 : W6.cell? ⟨rb, 3, none⟩ = some (.map (some kb)) := HX7.out.head.cell 3
      have d1 : W6.cell? ⟨ob, 1, none⟩ = some (.int .u32 ((o.key : Nat) : Int)) := HOB6.out.cell 1
      clear hmap hk7 hz7 hx7 ho7 hob7 hls hll HKM HO6 HOB6 HI6 HM6 HM7 HM5 HO5 HOB5 HX7 HK7
      go_upto_region 12 with fail
      go_region
      clear hput c3 d1
      have hll : LO5.length ≤ 1000 := by
        have h1 := HB5.out.oi.way
        have h2 := HB5.out.oi.few
        have h3 := congrArg List.length HB5.out.is
        rw [List.length_map] at h3
        have := HLEN.out
        omega
      have HK2 : Hid (MapG WdT .u32 w7 kb (LO5 ++ [(Y, o)]).length (keysF ((LO5 ++ [(Y, o)]).map (·.2)))) := by
        rw [List.map_append, List.length_append]
        exact HMP.out.ext fun y => by
          rw [show List.map (fun x : ObjV × ObjD => x.2) [(Y, o)] = [o] from rfl, keysF_more, HOS.out]
      obtain ⟨v9, w9, q0, ⟨c9, f9, a9, n9, k9, hv9⟩, hx9, hk9, ho9⟩ := HX8.out.drew.add Y o (HO8.out.on ((Drawn.of_n w7 1).below _)) hll HZ7.out
      subst hv9
      obtain ⟨ao, co, hvo, _⟩ := HX8.out.ord.shape
      generalize hno : LO5.length = no at *
      have HNL := Lib.hid hno
      clear hno
      subst hvo
      have HA : Hid ((Builtin.append_ #[ObS, ObS] ObS #[.slice ao no co, .slice (some ⟨w7.heap.size, 0, none⟩) 1 1]).run Try.prog (w7.alloc (.cells #[.string o.name, .int .u32 (o.key : Nat), Y.i, Y.t, .int .i64 o.data, .string o.text, Y.c, Y.m, Y.e, Y.p, Y.q, .int .i64 o.f0, .int .i64 o.f1, .int .i64 o.f2, .int .i64 o.body] OT)).drew = .ok (.slice a9 n9 k9) w9) := q0
      have c4 : w7.cell? ⟨rb, 4, none⟩ = some (.slice ao no co) := HX8.out.head.cell 4
      have HX0 : Hid (Rsx lo (w7.drew.alloc (.cells #[.string o.name, .int .u32 (o.key : Nat), Y.i, Y.t, .int .i64 o.data, .string o.text, Y.c, Y.m, Y.e, Y.p, Y.q, .int .i64 o.f0, .int .i64 o.f1, .int .i64 o.f2, .int .i64 o.body] OT)) rb kb fg fh cg ch (.slice (some ⟨wb, 0, none⟩) n5 c5) (.slice ao no co) pw LO5) :=
        HX8.out.drew.keep (S := fun _ => False) ((Kept.refl _ _).alloc _) (fun e => e) (fun _ _ e => e) (fun _ _ e => e) fun _ _ _ _ _ _ e => e
      have c5' : (w7.alloc (.cells #[.string o.name, .int .u32 (o.key : Nat), Y.i, Y.t, .int .i64 o.data, .string o.text, Y.c, Y.m, Y.e, Y.p, Y.q, .int .i64 o.f0, .int .i64 o.f1, .int .i64 o.f2, .int .i64 o.body] OT)).cell? ⟨rb, 4, none⟩ = some (.slice ao no co) := HX0.out.head.cell 4
      have e0 : w7.cell? ⟨ob, 0, none⟩ = some (.string o.name) := HOB8.out.cell 0
      have e1 : w7.cell? ⟨ob, 1, none⟩ = some (.int .u32 (o.key : Nat)) := HOB8.out.cell 1
      have e2 : w7.cell? ⟨ob, 2, none⟩ = some Y.i := HOB8.out.cell 2
      have e3 : w7.cell? ⟨ob, 3, none⟩ = some Y.t := HOB8.out.cell 3
      have e4 : w7.cell? ⟨ob, 4, none⟩ = some (.int .i64 o.data) := HOB8.out.cell 4
      have e5 : w7.cell? ⟨ob, 5, none⟩ = some (.string o.text) := HOB8.out.cell 5
      have e6 : w7.cell? ⟨ob, 6, none⟩ = some Y.c := HOB8.out.cell 6
      have e7 : w7.cell? ⟨ob, 7, none⟩ = some Y.m := HOB8.out.cell 7
      have e8 : w7.cell? ⟨ob, 8, none⟩ = some Y.e := HOB8.out.cell 8
      have e9 : w7.cell? ⟨ob, 9, none⟩ = some Y.p := HOB8.out.cell 9
      have e10 : w7.cell? ⟨ob, 10, none⟩ = some Y.q := HOB8.out.cell 10
      have e11 : w7.cell? ⟨ob, 11, none⟩ = some (.int .i64 o.f0) := HOB8.out.cell 11
      have e12 : w7.cell? ⟨ob, 12, none⟩ = some (.int .i64 o.f1) := HOB8.out.cell 12
      have e13 : w7.cell? ⟨ob, 13, none⟩ = some (.int .i64 o.f2) := HOB8.out.cell 13
      have e14 : w7.cell? ⟨ob, 14, none⟩ = some (.int .i64 o.body) := HOB8.out.cell 14
      have hnb : ob ≠ rb := its_rsob HOB8.out HX8.out.head
      have hk9' : Kept (fun j => j = rb ∨ own (.slice ao no co) j) w7 (w9.setCell ⟨rb, 4, none⟩ (.slice a9 n9 k9)) := Kept.then (Kept.drawn (Drawn.of_n w7 1)) hk9 fun _ _ e => e
      have HOB9 : Hid (RowAt (w9.setCell ⟨rb, 4, none⟩ (.slice a9 n9 k9)) ob OT (ocells Y o)) := HOB8.out.keep hk9' fun e => e.elim hnb HNO5.out
      have HRS9 : Hid (Rsv lo (w9.setCell ⟨rb, 4, none⟩ (.slice a9 n9 k9)) rb kb fg fh cg ch (.slice (some ⟨wb, 0, none⟩) n5 c5) (.slice a9 n9 k9) pw (LO5 ++ [(Y, o)])) :=
        hx9.v (HK2.out.keep hk9' fun e => e.elim (fun g => row_map HX8.out.head HMP.out g.symm) fun g => by obtain ⟨ds, hd⟩ := row_own HX8.out.ord _ g; exact row_map hd HMP.out rfl)
      have HI9 : Hid (I (w9.setCell ⟨rb, 4, none⟩ (.slice a9 n9 k9)) st1.way) := HE.out.keep _ _ _ HI7.out (hk9'.weak fun j _ e => e.elim (fun g => by rw [g]; exact HX8.out.low) fun g => HX8.out.olow j g)
      have HM9 : Hid (Mv rb kb G w (w9.setCell ⟨rb, 4, none⟩ (.slice a9 n9 k9)) vw vo (.slice (some ⟨wb, 0, none⟩) n5 c5) (.slice a9 n9 k9)) := HM8.out.trans ⟨hk9'.weak fun _ _ e => e.elim .inl fun g => .inr (.inr (.inr (.inl g))), fun _ e => .inl e, ho9⟩
      clear q0 hx9 hk9 hk9' ho9 hll hnb
      go_upto_region 13 with fail
      go_region_law (refine step_append rfl (.tmp 70) (.tmp 72) ObS ObS rfl _ _ (by simp [Act.eval]) (by simp [Act.eval]) HA.out ?_)
      all_goals
        clear c4 c5' e0 e1 e2 e3 e4 e5 e6 e7 e8 e9 e10 e11 e12 e13 e14 c9 f9 HA HX0
        generalize w9.setCell ⟨rb, 4, none⟩ (.slice a9 n9 k9) = W10 at *
        have d1 : W10.cell? ⟨ob, 1, none⟩ = some (.int .u32 ((o.key : Nat) : Int)) := HOB9.out.cell 1
        have HKV : Hid (o.key = keyV (st1.out ++ [o]) s 1) := by
          show _ = _
          rw [keyV_append, if_pos HOS.out]
        have HW : Hid (Went l ld lo G I rb kb fg fh cg ch w vw vo pw ⟨st1.out ++ [o], st1.way⟩ W10) :=
          ⟨_, _, LO5 ++ [(Y, o)], ⟨HRS9.out, by rw [List.map_append, HB5.out.is]; rfl, HI9.out, HB5.out.link.done HOS.out (known_not HKN.out).1 HKY.out, (res_inv n st s _ HB.out.oi (HR.out.symm.trans RES.out)).1⟩, HM9.out⟩
        clear hput HOB9
        go_wp2_with fail
        go_ret2
        exact OneTold.good RES.out HKV.out HW.out
/- resolve, at each depth -/
theorem resolve_any (hE : Env l ld lo G I fg fh cg ch) (hlen : l.length ≤ 1000) (hkey : ∀ f ∈ l, f.2.key < 4294967296) : ∀ (n : Nat) (vw vo : Value) (pw : List ByteArray) (LO : List (ObjV × ObjD)) (st : OSt) (s : ByteArray) (w : World), Bsd l ld lo I rb kb fg fh cg ch w vw vo pw LO st → pw.length + n = 9 → s.size ≤ 300 →
    Calls Try.prog 17 #[.pointer (some ⟨rb, 0, none⟩), .string s] w fun e w' => OneTold l ld lo G I rb kb fg fh cg ch w vw vo pw s (resN l ld n st s) e w' := by
  intro n
  induction n with
  | zero => exact one_step 0 hE hlen hkey fun m hm => by omega
  | succ n ih => exact one_step (n + 1) hE hlen hkey fun m hm => by cases hm; exact all_step n hE hkey ih
end
end Go.Proofs.Ytkkjfbpflfknpaa

/-
  The program's Resolve (layer 19): the document's answer. Conditions: at most 1000 files, small ones; a name of at most 300 signs.
-/
namespace Go.Proofs.Ytkkjfbpflfknpaa
open Go.ChangeShapes Go.WideShapes Go.ChangeAt Go.RowKit

theorem size_rs : (Try.prog.info? RsT).map (·.size) = some 5 := by kernel_rfl
set_option maxRecDepth 100000 in
theorem get_some (f : Nat) (c : Array Value) (w : World) : (binOp .eql 35 (.func (.func f) #[] c) .nilFunc).run Try.prog w = .ok (.bool false) w := by kernel_rfl
set_option maxRecDepth 100000 in
theorem has_some (f : Nat) (c : Array Value) (w : World) : (binOp .eql 59 (.func (.func f) #[] c) .nilFunc).run Try.prog w = .ok (.bool false) w := by kernel_rfl
set_option maxRecDepth 100000 in
theorem get_nil (w : World) : (binOp .eql 35 .nilFunc .nilFunc).run Try.prog w = .ok (.bool true) w := by kernel_rfl
/- what Resolve tells -/
def TopTold (lo : Nat) (G : Nat → Prop) (I : World → List ByteArray → Prop) (w : World) (r : ORes) (e : Ending) (w' : World) : Prop :=
  match r with
  | .bad k => e = .returned (.tuple #[.slice none 0 0, errV k]) ∧ (∃ g, g.Nodup ∧ I w' g) ∧ Kept G w w'
  | .good st => (∃ v LO, e = .returned (.tuple #[v, .nilIface]) ∧ SRow OT 15 w' v LO.length (rows objRow LO) ∧ (∀ x ∈ LO, ObjIn lo w' x.1 x.2) ∧ LO.map (·.2) = st.out ∧ (∀ j, own v j → lo ≤ j)) ∧ I w' st.way ∧ Kept G w w'
theorem TopTold.bad {lo : Nat} {G : Nat → Prop} {I : World → List ByteArray → Prop} {w w' : World} {r : ORes} {k : Nat} (hr : r = .bad k) (hk : k ≠ 0) (h : (∃ g, g.Nodup ∧ I w' g) ∧ Kept G w w') : TopTold lo G I w r (.returned (.tuple #[.slice none 0 0, .iface 57 (.int .i64 ((k : Nat) : Int))])) w' := by
  subst hr
  exact ⟨by rw [errV_pos hk], h⟩
theorem TopTold.good {lo : Nat} {G : Nat → Prop} {I : World → List ByteArray → Prop} {w w' : World} {r : ORes} {st : OSt} {v : Value} {LO : List (ObjV × ObjD)} (hr : r = .good st) (h1 : SRow OT 15 w' v LO.length (rows objRow LO)) (h2 : ∀ x ∈ LO, ObjIn lo w' x.1 x.2) (h3 : LO.map (·.2) = st.out) (h4 : ∀ j, own v j → lo ≤ j) (h : I w' st.way ∧ Kept G w w') : TopTold lo G I w r (.returned (.tuple #[v, .nilIface])) w' := by
  subst hr
  exact ⟨⟨v, LO, rfl, h1, h2, h3, h4⟩, h⟩
section
variable {l : List (ByteArray × ObjD)} {ld : List ByteArray} {lo : Nat} {G : Nat → Prop} {I : World → List ByteArray → Prop} {fg fh : Nat} {cg ch : Array Value}
theorem start_bsd (hE : Env l ld lo G I fg fh cg ch) (w : World) (hlo : lo = w.heap.size) (hi : I w []) :
    Bsd l ld lo I (w.heap.size + 1) w.heap.size fg fh cg ch ((w.alloc (.map #[] 0)).alloc (.cells #[.func (.func fg) #[] cg, .func (.func fh) #[] ch, .slice none 0 0, .map (some w.heap.size), .slice none 0 0] RsT)) (.slice none 0 0) (.slice none 0 0) [] [] ⟨[], []⟩ := by
  have hb : Below (w.alloc (.map #[] 0)).heap.size (w.alloc (.map #[] 0)) ((w.alloc (.map #[] 0)).alloc (.cells #[.func (.func fg) #[] cg, .func (.func fh) #[] ch, .slice none 0 0, .map (some w.heap.size), .slice none 0 0] RsT)) := (Below.refl _ _).alloc (Nat.le_refl _) _
  have hr := RowAt.new (w.alloc (.map #[] 0)) RsT [.func (.func fg) #[] cg, .func (.func fh) #[] ch, .slice none 0 0, .map (some w.heap.size), .slice none 0 0]
  rw [show (w.alloc (.map #[] 0)).heap.size = w.heap.size + 1 by simp] at hr
  refine ⟨⟨hr, SRow.nil _ _ _, SRow.nil _ _ _, (fun x hx => by cases hx), ?_, by omega, by omega, fun j hj => hj.elim, fun j hj => hj.elim⟩, rfl, ?_, Link.start ld, OInv.start l⟩
  · refine MapG.ext ((MapG.new w).keep (Kept.of_below (S := fun _ => False) hb) fun e => e) fun s => ?_
    rw [keysF_no]
    rintro ⟨o, ho, _⟩
    cases ho
  · exact hE.on (hE.on hi ((Below.refl _ _).alloc (Nat.le_refl _) _)) hb
set_option maxRecDepth 100000 in
set_option maxHeartbeats 1000000 in
theorem top_any (s : ByteArray) (w : World) (hE : Env l ld w.heap.size G I fg fh cg ch) (hlen : l.length ≤ 1000) (hkey : ∀ f ∈ l, f.2.key < 4294967296) (hi : I w []) (hs : s.size ≤ 300) :
    Calls Try.prog 8 #[.string s, .func (.func fg) #[] cg, .func (.func fh) #[] ch] w fun e w' => TopTold w.heap.size G I w (resN l ld 9 ⟨[], []⟩ s) e w' := by
  have HB := Lib.hid (start_bsd hE w rfl hi)
  have HC := Lib.hid (resolve_any (rb := w.heap.size + 1) (kb := w.heap.size) hE hlen hkey 9 _ _ [] [] ⟨[], []⟩ s _ HB.out rfl hs)
  have hkb : Kept (fun j => w.heap.size ≤ j ∨ G j) w ((w.alloc (.map #[] 0)).alloc (.cells #[.func (.func fg) #[] cg, .func (.func fh) #[] ch, .slice none 0 0, .map (some w.heap.size), .slice none 0 0] RsT)) := ((Kept.refl _ w).alloc _).alloc _
  have HKB := Lib.hid hkb
  have RUN : Hid ((Instr.storeAt RsT (.pointer (some ⟨w.heap.size + 1, 0, none⟩)) (.agg #[.func (.func fg) #[] cg, .func (.func fh) #[] ch, .slice none 0 0, .map (some w.heap.size), .slice none 0 0])).run Try.prog ((w.alloc (.map #[] 0)).alloc (.cells #[.nilFunc, .nilFunc, .slice none 0 0, .map none, .slice none 0 0] RsT)) = .ok () ((w.alloc (.map #[] 0)).alloc (.cells #[.func (.func fg) #[] cg, .func (.func fh) #[] ch, .slice none 0 0, .map (some w.heap.size), .slice none 0 0] RsT))) := by
    have h := box_el (w.alloc (.map #[] 0)) RsT 5 [.nilFunc, .nilFunc, .slice none 0 0, .map none, .slice none 0 0] [.func (.func fg) #[] cg, .func (.func fh) #[] ch, .slice none 0 0, .map (some w.heap.size), .slice none 0 0] rfl rfl (by intro u hu; simp only [List.mem_cons, List.not_mem_nil, or_false] at hu; rcases hu with rfl | rfl | rfl | rfl | rfl <;> rfl) size_rs
    rw [show (w.alloc (.map #[] 0)).heap.size = w.heap.size + 1 by simp] at h
    exact h
  have HKG : Hid (∀ w', Kept (fun j => w.heap.size ≤ j ∨ G j) w w' → Kept G w w') := fun w' h => h.weak fun k hk e => e.elim (fun e => by omega) fun e => e
  obtain ⟨r, hr0⟩ : ∃ r, r = resN l ld 9 ⟨[], []⟩ s := ⟨_, rfl⟩
  rw [← hr0]
  have HR := Lib.hid hr0
  have hmm := @run_makeMap Try.prog
  have hg0 := get_some fg cg
  have hh0 := has_some fh ch
  clear hE hlen hkey hi hs hkb hr0
  go_enter Try.func8, Try.ntmps8
  go_upto_region 4 with (refine wpList_store_run _ rfl _ _ _ rfl _ _ rfl rfl (by exact RUN.out) ?_)
  clear RUN hg0 hh0 hmm
  generalize (w.alloc (.map #[] 0)).alloc (.cells #[.func (.func fg) #[] cg, .func (.func fh) #[] ch, .slice none 0 0, .map (some w.heap.size), .slice none 0 0] RsT) = W at *
  go_wp2_with fail
  refine HC.out.mono ?_
  rintro e w2 ht
  clear HC
  cases hr : resN l ld 9 ⟨[], []⟩ s with
  | bad k =>
    as_aux_lemma =>
    rw [hr] at ht
    obtain ⟨rfl, hg, hk⟩ := ht
    have hk0 : k ≠ 0 := by have := res_num 9 _ s k hr; omega
    have RES : Hid ((∃ g, g.Nodup ∧ I w2 g) ∧ Kept G w w2) := ⟨hg, HKG.out w2 (HKB.out.trans hk)⟩
    rw [errV_pos hk0]
    have HK0 := Lib.hid hk0
    have HRB := Lib.hid (HR.out.trans hr)
    clear hg hk hk0 hr
    go_wp2_with fail
    go_ret2
    exact TopTold.bad HRB.out HK0.out RES.out
  | good st =>
    as_aux_lemma =>
    rw [hr] at ht
    obtain ⟨rfl, vw, vo, LO, hb, hm⟩ := ht
    have HB2 := Lib.hid hb
    have RES : Hid (I w2 st.way ∧ Kept G w w2) := ⟨hb.inv, HKG.out w2 (HKB.out.trans (hm.lows HB.out.rs))⟩
    have c4 : w2.cell? ⟨w.heap.size + 1, 4, none⟩ = some vo := hb.rs.head.cell 4
    have HRB := Lib.hid (HR.out.trans hr)
    clear hb hm hr
    go_wp2_with fail
    go_ret2
    exact TopTold.good HRB.out HB2.out.rs.ord HB2.out.rs.objs HB2.out.is HB2.out.rs.olow RES.out
end
set_option maxRecDepth 100000 in
/- no get -/
theorem top_nil (s : ByteArray) (hv : Value) (w : World) : Calls Try.prog 8 #[.string s, .nilFunc, hv] w fun e w' => e = .returned (.tuple #[.slice none 0 0, errV 1]) ∧ w = w' := by
  have hg0 := get_nil
  go_enter Try.func8, Try.ntmps8
  go_wp2_with fail
  go_ret2
  exact ⟨rfl, rfl⟩
end Go.Proofs.Ytkkjfbpflfknpaa
