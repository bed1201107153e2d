/-
  Contracts of slices.Replace, Clone, IndexFunc, ContainsFunc over holes, as package heap (layer 5) calls them. No conditions beyond those that each theorem names.
-/
import Derived.Test.YtiloflgpflgjnaaHeapC
import Derived.Shelf.Abstract
namespace Go.Proofs.Ytiloflgpflgjnaa
open Go.ChangeShapes Go.WideShapes Go.ChangeAt Go.RowKit

set_option maxRecDepth 100000 in
set_option maxHeartbeats 1000000 in
theorem replace_none (v : Value) (A B : List (Int × Int)) (x : Int × Int) (vb : Nat) (w : World) (h : SRow HT 2 w v (A.length + B.length) (pcs (A ++ B))) (hx : RowAt w vb HT (pcs [x])) (hne : ¬ own v vb) (small : A.length + B.length ≤ 100000) :
    Calls Try.prog 32 #[v, .int .i64 (A.length : Nat), .int .i64 (A.length : Nat), .slice (some ⟨vb, 0, none⟩) 1 1] w fun e w' => Inserted w w' v e (A ++ x :: B) := by
  have HI := Lib.hid (insert_any v A B x vb w h hx hne small)
  rcases h.is with ⟨rfl, h0⟩ | ⟨b, cap, rest, rfl, hr, h1, h2, h3⟩
  · have hA : A.length = 0 := by omega
    have hB : B.length = 0 := by omega
    rw [hA] at HI ⊢
    clear h hx hne hA hB h0 small
    go_enter Try.func32, Try.ntmps32
    go_wp2_with fail
    refine HI.out.mono ?_
    rintro e w' ⟨v', rfl, hres⟩
    go_wp2_with fail
    go_ret
    exact ⟨v', rfl, hres⟩
  · have hm' : cap ≤ 9223372036854775807 := h3
    clear h hx hne hr h3
    generalize A.length = a at *
    generalize B.length = c at *
    have e6 : a ≤ cap := by omega
    by_cases hca : cap = a
    · subst hca
      go_enter Try.func32, Try.ntmps32
      go_wp2_with fail
      refine HI.out.mono ?_
      rintro e w' ⟨v', rfl, hres⟩
      go_wp2_with fail
      go_ret
      exact ⟨v', rfl, hres⟩
    · go_enter Try.func32, Try.ntmps32
      go_wp2_with fail
      refine HI.out.mono ?_
      rintro e w' ⟨v', rfl, hres⟩
      go_wp2_with fail
      go_ret
      exact ⟨v', rfl, hres⟩

theorem replace_any (v : Value) (A M B : List (Int × Int)) (x : Int × Int) (vb : Nat) (w : World) (h : SRow HT 2 w v (A.length + (M.length + B.length)) (pcs (A ++ (M ++ B)))) (hx : RowAt w vb HT (pcs [x])) (hne : ¬ own v vb) (small : A.length + (M.length + B.length) ≤ 100000) :
    Calls Try.prog 32 #[v, .int .i64 (A.length : Nat), .int .i64 ((A.length : Nat) + (M.length : Nat)), .slice (some ⟨vb, 0, none⟩) 1 1] w fun e w' => Inserted w w' v e (A ++ x :: B) := by
  by_cases hM : M = []
  · subst hM
    have := replace_none v A B x vb w (by simpa using h) hx hne (by simpa using small)
    simpa using this
  · rcases h.is with ⟨_, h0⟩ | ⟨b, cap, rest, rfl, hr, h1, h2, h3⟩
    · exact absurd (List.eq_nil_of_length_eq_zero (by omega)) hM
    · by_cases hB : B = []
      · subst hB
        have := replace_end b cap A M x rest vb w (by simpa using hr) (by simpa using h1) h3 hM hx (by simpa using small)
        simpa using this
      · exact replace_mid b cap A M B x rest vb w hr h1 h3 hM hB hx small

theorem clone_any (v : Value) (L : List (Int × Int)) (w : World) (h : SRow HT 2 w v L.length (pcs L)) (small : L.length ≤ 100000) :
    Calls Try.prog 28 #[v] w fun e w' => ∃ v', e = .returned v' ∧ SRow HT 2 w' v' L.length (pcs L) ∧ Kept (fun _ => False) w w' ∧ ∀ j, own v' j → w.heap.size ≤ j := by
  have his := h.is
  rcases his with ⟨rfl, h0⟩ | ⟨b, cap, rest, rfl, hr, h1, h2, h3⟩
  · have hL : L = [] := List.eq_nil_of_length_eq_zero h0
    subst hL
    clear h
    have hq := Lib.run_eql_slice_nil (P := Try.prog) w 44 HT none 0 0 0 0 Try.underlying44
    go_enter Try.func28, Try.ntmps28
    go_wp2_with fail
    go_ret
    exact ⟨_, rfl, SRow.nil _ _ _, Kept.refl _ _, fun j hj => hj.elim⟩
  · have n0 : SRow HT 2 (w.alloc (.cells #[] HT)) (.slice (some ⟨w.heap.size, 0, none⟩) 0 0) 0 [] := ⟨.inr ⟨w.heap.size, 0, [], rfl, RowAt.new w HT [], by simp, Nat.le_refl _, by simp [maxLen]⟩, rfl, fun _ h => by cases h⟩
    have k0 : Kept (fun _ => False) w (w.alloc (.cells #[] HT)) := (Kept.refl _ w).alloc _
    have hs := (h.keep k0 (fun _ _ h => h)).src (P := Try.prog) Try.underlying44
    obtain ⟨v', w', hr', q1, q2, q3, q4⟩ := n0.append (P := Try.prog) 44 44 Try.underlying44 infoH rfl (by omega) hs (.inr (by simp)) (by omega)
    have hq := Lib.run_eql_slice_nil (P := Try.prog) w 44 HT (some ⟨b, 0, none⟩) L.length cap 0 0 Try.underlying44
    have RES : Hid (∃ v'', Ending.returned v' = .returned v'' ∧ SRow HT 2 w' v'' L.length (pcs L) ∧ Kept (fun _ => False) w w' ∧ ∀ j, own v'' j → w.heap.size ≤ j) :=
      ⟨v', rfl, by simpa using q1, k0.then q2 (fun k hk ht => by simp [own] at ht; omega), fun j hj => by
        rcases q3 j hj with h | h
        · simp [own] at h; omega
        · have := k0.more; omega⟩
    clear h hr n0 k0 hs q1 q2 q3 q4
    go_enter Try.func28, Try.ntmps28
    go_wp2_with (at_builtin; refine Lib.wpList_append_run _ rfl _ _ _ _ rfl _ _ rfl rfl _ _ hr' ?_)
    go_ret
    exact RES.out

/- which is the first of which p holds -/
def Found (p : Int × Int → Bool) (L : List (Int × Int)) (r : Int) : Prop :=
  (r = -1 ∧ ∀ x ∈ L, p x = false) ∨ ∃ A x B, L = A ++ x :: B ∧ r = (A.length : Nat) ∧ (∀ y ∈ A, p y = false) ∧ p x = true

def Asks (g : Nat) (lb : Array Value) (p : Int × Int → Bool) (L : List (Int × Int)) (w : World) : Prop := ∀ (W : World) (x : Int × Int), x ∈ L → Below w.heap.size w W →
  Calls Try.prog g (#[.agg #[.int .i64 x.1, .int .i64 x.2]] ++ lb) W fun e W' => e = .returned (.bool (p x)) ∧ Below w.heap.size w W'

set_option maxHeartbeats 1000000 in
theorem index_any (p : Int × Int → Bool) (g : Nat) (lb : Array Value) (eg : ∀ args w, (callFunc g args).run Try.prog w = .ok (.enter g args) w) (v : Value) (L : List (Int × Int)) (w : World) (h : SRow HT 2 w v L.length (pcs L)) (small : L.length ≤ 100000) (hp : Asks g lb p L w) :
    Calls Try.prog 25 #[v, .func (.func g) #[] lb] w fun e w' => (∃ r, e = .returned (.int .i64 r) ∧ Found p L r) ∧ Below w.heap.size w w' := by
  obtain ⟨a, c, rfl, hc1, hc2⟩ := h.shape
  have HS := Lib.hid h
  have HP := Lib.hid hp
  clear h hp
  generalize hn : L.length = n at *
  have HN := Lib.hid hn
  clear hn
  go_enter Try.func25, Try.ntmps25
  go_wp2_with fail
  go_loopw [5, 8] (fun _ i wr => ∃ k : Nat, k ≤ n ∧ i = .int .i64 k ∧ Hid (Below w.heap.size w wr) ∧ Hid (∀ y ∈ L.take k, p y = false)) (fun _ i _ => n - (intOf i).toNat)
  case atStart => exact ⟨0, Nat.zero_le _, rfl, Below.refl _ _, fun y hy => by simp at hy⟩
  case round =>
    obtain ⟨k, hk, rfl, HB, HF⟩ := hrel
    by_cases hlt : k < n
    · obtain ⟨b, cap, hv, hb, hcap1, hcap2, hcs⟩ := HS.out.cell (by omega)
      obtain ⟨x, hx⟩ : ∃ x, L[k]? = some x := ⟨_, List.getElem?_eq_getElem (by rw [HN.out]; exact hlt)⟩
      have c1 : wr.cell? ⟨b, k * 2, none⟩ = some (.int .i64 x.1) := by rw [HB.out.cell (p := ⟨b, k * 2, none⟩) hb, hcs _ (by omega), pcs_fst, hx]; rfl
      have c2 : wr.cell? ⟨b, k * 2 + 1, none⟩ = some (.int .i64 x.2) := by rw [HB.out.cell (p := ⟨b, k * 2 + 1, none⟩) hb, hcs _ (by omega), pcs_snd, hx]; rfl
      cases hv
      have HC := Lib.hid (HP.out wr x (List.mem_of_getElem? hx) HB.out)
      have hsplit : L = L.take k ++ x :: L.drop (k + 1) := by
        have hkl : k < L.length := by rw [HN.out]; exact hlt
        have hxe : L[k] = x := (List.getElem?_eq_some_iff.1 hx).2
        rw [← hxe, ← List.drop_eq_getElem_cons hkl, List.take_append_drop]
      have hlen : (L.take k).length = k := by rw [List.length_take, HN.out]; omega
      have HL := Lib.hid hlen
      have HSP := Lib.hid hsplit
      have HX := Lib.hid hx
      clear hsplit hx hlen hcs
      have e3 : (k : Int) < (n : Int) := by omega
      have e4 : (0 : Int) ≤ (k : Int) := by omega
      cases hq : p x with
      | true =>
        rw [hq] at HC
        go_wp2_with (go_at_fn g; refine HC.out.mono ?_; rintro e w' ⟨rfl, hb'⟩)
        go_ret
        exact ⟨⟨k, rfl, .inr ⟨L.take k, x, L.drop (k + 1), HSP.out, by rw [HL.out], HF.out, hq⟩⟩, hb'⟩
      | false =>
        rw [hq] at HC
        go_wp2_with (go_at_fn g; refine HC.out.mono ?_; rintro e w' ⟨rfl, hb'⟩)
        go_roundw
        case rel =>
          refine ⟨k + 1, by omega, by go_num, hb', (show Hid _ from fun y hy => ?_)⟩
          rw [List.take_add_one, HX.out] at hy
          rcases List.mem_append.1 hy with hy | hy
          · exact HF.out y hy
          · simp at hy; subst hy; exact hq
        case measure => simp [intOf]; omega
    · obtain rfl : k = n := by omega
      go_wp2_with fail
      go_ret
      exact ⟨⟨-1, rfl, .inl ⟨rfl, by have := HF.out; rw [List.take_of_length_le (by rw [HN.out]; exact Nat.le_refl _)] at this; exact this⟩⟩, HB.out⟩
end Go.Proofs.Ytiloflgpflgjnaa
