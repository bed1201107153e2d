/-
  The program's Index, Contains over texts. Conditions: lists of at most 1000.
-/
import Derived.Test.YtkkjfbpflfknpaaTbM
import Derived.Test.YtkkjfbpflfknpaaObjK
namespace Go.Proofs.Ytkkjfbpflfknpaa
open Go.ChangeShapes Go.WideShapes Go.ChangeAt Go.RowKit

set_option maxRecDepth 100000 in
set_option maxHeartbeats 1000000 in
theorem tindex_any (u : Value) (I : List ByteArray) (s : ByteArray) (w : World) (g : ElsAt 1 sRow w u I) (small : I.length ≤ 1000) :
    Calls Try.prog 35 #[u, .string s] w fun e w' => e = .returned (.int .i64 (posV I s)) ∧ w = w' := by
  obtain ⟨a, c, rfl, hc1, hc2, _⟩ := g.shape
  have HG := Lib.hid g
  clear g
  generalize hn : I.length = n at *
  have HN := Lib.hid hn
  clear hn
  go_enter Try.func35, Try.ntmps35
  go_wp2_with fail
  go_loopw [5, 8] (fun _ i wr => ∃ k : Nat, k ≤ n ∧ i = .int .i64 k ∧ w = wr ∧ Hid (s ∉ I.take k)) (fun _ i _ => n - (intOf i).toNat)
  case atStart => exact ⟨0, Nat.zero_le _, rfl, rfl, fun hm => by simp at hm⟩
  case round =>
    obtain ⟨k, hk, rfl, rfl, HF⟩ := hrel
    by_cases hlt : k < n
    · obtain ⟨x, hx⟩ : ∃ x, I[k]? = some x := ⟨_, List.getElem?_eq_getElem (by rw [HN.out]; exact hlt)⟩
      obtain ⟨b, off, cap, hv, hb, c0⟩ := HG.out.cell1 hx (c0 := .string x) rfl
      rw [HN.out] at hv
      cases hv
      have HX := Lib.hid hx
      clear hx
      have e3 : (k : Int) < (n : Int) := by omega
      have e4 : (0 : Int) ≤ (k : Int) := by omega
      by_cases hq : x = s
      · as_aux_lemma =>
        subst hq
        have RES : Hid ((k : Int) = posV I x) := (posV_at HX.out HF.out).symm
        have hb1 : (x.toList == x.toList) = true := by simp
        go_wp2_with fail
        go_ret
        exact ⟨end_int RES.out, rfl⟩
      · as_aux_lemma =>
        have hb1 := str_ne (fun e => hq (Eq.symm e))
        have hb2 := str_nq (fun e => hq (Eq.symm e))
        have HF2 := Lib.hid (not_next HF.out HX.out hq)
        clear hq HX HF
        go_wp2_with fail
        go_roundw
        case rel => exact ⟨k + 1, by omega, by go_num, by trivial, HF2⟩
        case measure => simp [intOf]; omega
    · as_aux_lemma =>
      obtain rfl : k = n := by omega
      have RES : Hid ((-1 : Int) = posV I s) := (posV_none (not_all HF.out (by rw [HN.out]; exact Nat.le_refl _))).symm
      go_wp2_with fail
      go_ret
      exact ⟨end_int RES.out, rfl⟩
set_option maxRecDepth 100000 in
theorem tcontains_any (u : Value) (I : List ByteArray) (s : ByteArray) (w : World) (g : ElsAt 1 sRow w u I) (small : I.length ≤ 1000) :
    Calls Try.prog 30 #[u, .string s] w fun e w' => e = .returned (.bool (decide (0 ≤ posV I s))) ∧ w = w' := by
  have HI := Lib.hid (tindex_any u I s w g small)
  clear g
  generalize posV I s = r at *
  go_enter Try.func30, Try.ntmps30
  go_wp2_with fail
  refine HI.out.mono ?_
  rintro e w1 ⟨rfl, rfl⟩
  go_wp2_with fail
  go_ret
  exact ⟨rfl, rfl⟩
end Go.Proofs.Ytkkjfbpflfknpaa
