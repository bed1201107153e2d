/-
  Contracts of package heap (layer 5): shrink, Take. No conditions beyond those that each theorem names.
-/
import Derived.Test.YtiloflgpflgjnaaHeapF
namespace Go.Proofs.Ytiloflgpflgjnaa
open Go.ChangeShapes Go.WideShapes Go.ChangeAt Go.RowKit

theorem pcs_set_fst (A B : List (Int × Int)) (x : Int × Int) (u : Int) (rest : List Value) : (pcs (A ++ x :: B) ++ rest).set (A.length * 2) (.int .i64 u) = pcs (A ++ (u, x.2) :: B) ++ rest := by
  have hA := pcs_length A
  simp only [pcs_append, pcs_cons, List.append_assoc]
  rw [List.set_append_right _ _ (by omega), hA, Nat.sub_self]
  rfl
theorem pcs_set_snd (A B : List (Int × Int)) (x : Int × Int) (u : Int) (rest : List Value) : (pcs (A ++ x :: B) ++ rest).set (A.length * 2 + 1) (.int .i64 u) = pcs (A ++ (x.1, u) :: B) ++ rest := by
  have hA := pcs_length A
  simp only [pcs_append, pcs_cons, List.append_assoc]
  rw [List.set_append_right _ _ (by omega), hA, Nat.add_sub_cancel_left]
  rfl

/- other holes are laid into a heap -/
theorem HeapAt.store {w : World} {p : Nat} {f t : Int} {u v' : Value} {L' : List (Int × Int)} (hh : RowAt w p 52 [.int .i64 f, .int .i64 t, u]) (hr : SRow HT 2 w v' L'.length (pcs L')) (ha : ¬ own v' p) (r : 0 ≤ f ∧ f ≤ t ∧ t ≤ 65536) (ht : Tidy f t L') :
    HeapAt (w.setCell ⟨p, 2, none⟩ v') p f t v' L' :=
  ⟨hh.setCell 2 v', hr.keep (kept_set w p 2 v') (fun _ hj e => ha (e ▸ hj)), ha, r, ht⟩

theorem shrink_all (p : Nat) (f t n : Int) (v : Value) (A B : List (Int × Int)) (x : Int × Int) (w : World) (h : HeapAt w p f t v (A ++ x :: B)) (hn : x.2 = n) (hT : Tidy f t (A ++ B)) :
    Calls Try.prog 27 #[.pointer (some ⟨p, 0, none⟩), .int .i64 (A.length : Nat), .int .i64 n] w fun e w' => e = .returned (.tuple #[]) ∧ Turned w w' p f t v (A ++ B) := by
  subst hn
  have few := h.few
  have r := h.range
  have c2 := h.c2
  have hh := h.head
  have ha := h.apart
  rcases h.row.is with ⟨_, h0⟩ | ⟨b, cap, rest, rfl, hr, h1, h2, h3⟩
  · simp at h0
  · have hbp : b ≠ p := fun e => ha (by simp [own, e])
    have e0 : (A ++ x :: B).length = A.length + (B.length + 1) := by simp
    rw [e0] at h1 h2 few c2 hh ⊢
    have cs : w.cell? ⟨b, A.length * 2 + 1, none⟩ = some (.int .i64 x.2) := by
      rw [hr.cell, List.getElem?_append_left (by rw [pcs_length, e0]; omega), pcs_snd]
      simp
    have HD := Lib.hid (delete_at b cap A B x rest w hr h1 h3)
    have hlt := hh.lt
    have HH := Lib.hid hh
    have hf := hh.free 2
    have hm' : cap ≤ 9223372036854775807 := h3
    have HT' := Lib.hid hT
    clear h hr hh ha hT h3 e0
    have HL : Hid ((A ++ B).length = A.length + B.length) := by show _ = _; simp
    generalize x.2 = n at *
    generalize hL : A ++ B = L' at *
    generalize A.length = a at *
    generalize B.length = c at *
    clear hL
    have e1 : (0 : Int) ≤ (a : Int) := by omega
    have e2 : (a : Int) < (a : Int) + ((c : Int) + 1) := by omega
    go_enter Try.func27, Try.ntmps27
    go_wp2_with fail
    refine HD.out.mono ?_
    rintro e w' ⟨rfl, ⟨rest', hr', hl'⟩, hk⟩
    have c2' : w'.cell? ⟨p, 2, none⟩ = _ := (hk.cell (p := ⟨p, 2, none⟩) hlt (fun e => hbp e.symm)).trans c2
    have hh' := HH.out.keep hk (fun e => hbp e.symm)
    have hf' := hh'.free 2
    have RES : Hid (Turned w (w'.setCell ⟨p, 2, none⟩ (.slice (some ⟨b, 0, none⟩) (a + c) cap)) p f t (.slice (some ⟨b, 0, none⟩) (a + (c + 1)) cap) L') :=
      ⟨_, HeapAt.store hh' ⟨.inr ⟨b, cap, rest', by rw [HL.out], hr', by rw [HL.out]; exact hl', by rw [HL.out]; omega, hm'⟩, pcs_length _, pcs_ones _⟩ (fun e => hbp (by simp [own] at e; exact e.symm)) r HT'.out,
        (hk.wide fun k hk => .inr hk).then (kept_set _ _ _ _) (fun _ _ h => .inl h), fun j hj => .inl hj⟩
    clear hr' hl' hk hh'
    go_wp2_with fail
    refine bodyPost_ret (results_none rfl _ _ _) rfl ?_
    exact ⟨rfl, RES.out⟩

theorem shrink_part (p : Nat) (f t n : Int) (v : Value) (A B : List (Int × Int)) (x : Int × Int) (w : World) (h : HeapAt w p f t v (A ++ x :: B)) (hn : 0 < n ∧ n < x.2) (hT : Tidy f t (A ++ (x.1 + n, x.2 - n) :: B)) :
    Calls Try.prog 27 #[.pointer (some ⟨p, 0, none⟩), .int .i64 (A.length : Nat), .int .i64 n] w fun e w' => e = .returned (.tuple #[]) ∧ Turned w w' p f t v (A ++ (x.1 + n, x.2 - n) :: B) := by
  have few := h.few
  have r := h.range
  have c2 := h.c2
  have hh := h.head
  have ha := h.apart
  have hx := h.tidy.each x (by simp)
  rcases h.row.is with ⟨_, h0⟩ | ⟨b, cap, rest, rfl, hr, h1, h2, h3⟩
  · simp at h0
  · have hbp : b ≠ p := fun e => ha (by simp [own, e])
    have e0 : (A ++ x :: B).length = A.length + (B.length + 1) := by simp
    have cs : w.cell? ⟨b, A.length * 2 + 1, none⟩ = some (.int .i64 x.2) := by
      rw [hr.cell, List.getElem?_append_left (by rw [pcs_length, e0]; omega), pcs_snd]
      simp
    have ca : w.cell? ⟨b, A.length * 2, none⟩ = some (.int .i64 x.1) := by
      rw [hr.cell, List.getElem?_append_left (by rw [pcs_length, e0]; omega), pcs_fst]
      simp
    have s1 := hr.setCell (A.length * 2) (.int .i64 (x.1 + n))
    rw [pcs_set_fst] at s1
    have s2 := s1.setCell (A.length * 2 + 1) (.int .i64 (x.2 - n))
    rw [pcs_set_snd] at s2
    have k2 := (kept_set w b (A.length * 2) (.int .i64 (x.1 + n))).then (kept_set _ b (A.length * 2 + 1) (.int .i64 (x.2 - n))) (fun _ _ h => h)
    have RES : Hid (Turned w ((w.setCell ⟨b, A.length * 2, none⟩ (.int .i64 (x.1 + n))).setCell ⟨b, A.length * 2 + 1, none⟩ (.int .i64 (x.2 - n))) p f t (.slice (some ⟨b, 0, none⟩) (A ++ x :: B).length cap) (A ++ (x.1 + n, x.2 - n) :: B)) :=
      ⟨_, ⟨hh.keep k2 (fun e => hbp e.symm), ⟨.inr ⟨b, cap, rest, by simp, s2, by simpa using h1, by simpa using h2, h3⟩, pcs_length _, pcs_ones _⟩, ha, r, hT⟩, k2.wide fun k hk => .inr hk, fun j hj => .inl hj⟩
    have f1 := hr.free (A.length * 2)
    have f2 := hr.free (A.length * 2 + 1)
    have hlt := hh.lt
    have hm' : cap ≤ 9223372036854775807 := h3
    rw [e0] at h1 h2 few c2 RES
    clear h hr hh ha hT h3 e0 s1 s2 k2
    generalize (A ++ (x.1 + n, x.2 - n) :: B) = L' at *
    generalize A.length = a at *
    generalize B.length = c at *
    have q : (x.2 == n) = false := by simp; omega
    have w1 : IntKind.i64.wrap (x.1 + n) = x.1 + n := IntWalk.i64_in _ (by omega)
    have w2 : IntKind.i64.wrap (x.2 - n) = x.2 - n := IntWalk.i64_in _ (by omega)
    have e1 : (0 : Int) ≤ (a : Int) := by omega
    have e2 : (a : Int) < (a : Int) + ((c : Int) + 1) := by omega
    go_enter Try.func27, Try.ntmps27
    go_wp2_with fail
    first | go_end0 | refine bodyPost_ret (results_none rfl _ _ _) rfl ?_
    exact ⟨rfl, RES.out⟩

theorem shrink_any (p : Nat) (f t n : Int) (v : Value) (A B : List (Int × Int)) (x : Int × Int) (w : World) (h : HeapAt w p f t v (A ++ x :: B)) (h0 : 0 < n) (h4 : n % 4 = 0) (hn : n ≤ x.2) :
    Calls Try.prog 27 #[.pointer (some ⟨p, 0, none⟩), .int .i64 (A.length : Nat), .int .i64 n] w fun e w' => e = .returned (.tuple #[]) ∧ Turned w w' p f t v (A ++ (rest_ x n ++ B)) := by
  have hT := h.tidy.take n h0 h4 hn
  unfold rest_ at *
  by_cases he : x.2 = n
  · rw [if_pos he] at hT ⊢
    exact shrink_all p f t n v A B x w h he hT
  · rw [if_neg he] at hT ⊢
    exact shrink_part p f t n v A B x w h ⟨h0, by omega⟩ hT

theorem ask_take (size : Int) (B : Nat) (L : List (Int × Int)) (w : World) (hB : B < w.heap.size) (hc : w.cell? ⟨B, 0, none⟩ = some (.int .i64 size)) : Asks 26 #[.pointer (some ⟨B, 0, none⟩)] (fun x => decide (size ≤ x.2)) L w := fun W x _ hb => by
  have hc' : W.cell? ⟨B, 0, none⟩ = some (.int .i64 size) := (hb.cell (p := ⟨B, 0, none⟩) hB).trans hc
  have hBW : B < W.heap.size := Nat.lt_of_lt_of_le hB hb.size
  have hne : B ≠ W.heap.size := by omega
  obtain ⟨a, s⟩ := x
  show Calls Try.prog 26 #[.agg #[.int .i64 a, .int .i64 s], .pointer (some ⟨B, 0, none⟩)] W _
  have HB := Lib.hid hb
  clear hb hc
  go_enter Try.func26, Try.ntmps26
  go_wp2
  go_ret
  exact ⟨rfl, HB.out.alloc HB.out.size _⟩

theorem found_some {p : Int × Int → Bool} {A B : List (Int × Int)} {x : Int × Int} {r : Int} (h : Found p (A ++ x :: B) r) (hA : ∀ y ∈ A, p y = false) (hx : p x = true) : r = (A.length : Nat) := by
  rcases h with ⟨_, h1⟩ | ⟨A', x', B', hL, rfl, h1, h2⟩
  · have := h1 x (by simp)
    rw [hx] at this
    cases this
  · have g1 : (A ++ x :: B)[A.length]? = some x := by simp
    have g2 : (A' ++ x' :: B')[A'.length]? = some x' := by simp
    rw [hL] at g1
    rw [← hL] at g2
    rcases Nat.lt_trichotomy A.length A'.length with h3 | h3 | h3
    · rw [List.getElem?_append_left h3] at g1
      have := h1 x (List.mem_of_getElem? g1)
      rw [hx] at this
      cases this
    · rw [h3]
    · rw [List.getElem?_append_left h3] at g2
      have := hA x' (List.mem_of_getElem? g2)
      rw [h2] at this
      cases this
theorem found_none {p : Int × Int → Bool} {L : List (Int × Int)} {r : Int} (h : Found p L r) (hL : ∀ y ∈ L, p y = false) : r = -1 := by
  rcases h with ⟨rfl, _⟩ | ⟨A, x, B, rfl, _, _, h2⟩
  · rfl
  · have := hL x (by simp)
    rw [h2] at this
    cases this

theorem take_bad (p : Nat) (size : Int) (w : World) (h : ¬ (1 ≤ size ∧ size ≤ 65536)) :
    Calls Try.prog 12 #[.pointer (some ⟨p, 0, none⟩), .int .i64 size] w fun e w' => e = .returned (.tuple #[.int .i64 0, .iface 29 (.int .i64 1)]) ∧ Below w.heap.size w w' := by
  have HS : Hid (decide (1 ≤ size ∧ size ≤ 65536) = false) := by show _ = _; simpa using h
  clear h
  go_enter Try.func12, Try.ntmps12
  go_wp2_with fail
  refine (sz_any size false _ HS.out).mono ?_
  rintro e w' ⟨rfl, rfl⟩
  go_wp2_with fail
  go_ret2
  exact ⟨rfl, (Below.refl _ _).alloc (Nat.le_refl _) _⟩

theorem take_none' (p : Nat) (f t size : Int) (v : Value) (L : List (Int × Int)) (w : World) (h : HeapAt w p f t v L) (hs : 1 ≤ size ∧ size ≤ 65536) (hL : ∀ y ∈ L, y.2 < up4 size) :
    Calls Try.prog 12 #[.pointer (some ⟨p, 0, none⟩), .int .i64 size] w fun e w' => e = .returned (.tuple #[.int .i64 0, .iface 29 (.int .i64 9)]) ∧ Below w.heap.size w w' := by
  have HS : Hid (decide (1 ≤ size ∧ size ≤ 65536) = true) := by show _ = _; simpa using hs
  have c2 := h.c2
  have hlt := h.head.lt
  have hne : p ≠ w.heap.size := by omega
  have k0 : Below w.heap.size w (w.alloc (.cells #[.int .i64 (up4 size)] 3)) := (Below.refl _ _).alloc (Nat.le_refl _) _
  have h1 := h.below k0
  have HI := Lib.hid (index_any _ 26 #[.pointer (some ⟨w.heap.size, 0, none⟩)] (fun _ _ => by rfl) v L _ h1.row (by have := h.few; omega) (ask_take (up4 size) w.heap.size L (w.alloc (.cells #[.int .i64 (up4 size)] 3)) (by simp) (by simp)))
  have HL : Hid (∀ y ∈ L, decide (up4 size ≤ y.2) = false) := fun y hy => by have := hL y hy; simp; omega
  have HR := Lib.hid (fun w => round_any size w hs.1 hs.2)
  have K0 := Lib.hid k0
  clear h h1 k0 hL
  generalize up4 size = z at *
  go_enter Try.func12, Try.ntmps12
  go_wp2_with fail
  refine (sz_any size true _ HS.out).mono ?_
  rintro e w' ⟨rfl, rfl⟩
  go_wp2_with fail
  refine (HR.out _).mono ?_
  rintro e w' ⟨rfl, rfl⟩
  go_wp2_with fail
  refine HI.out.mono ?_
  rintro e w2 ⟨⟨r, rfl, hr⟩, hb⟩
  obtain rfl := found_none hr HL.out
  clear hr
  go_wp2_with fail
  go_ret2
  exact ⟨rfl, below_on K0.out hb K0.out.size⟩

def Took (w w' : World) (e : Ending) (p : Nat) (f t : Int) (v : Value) (a : Int) (L' : List (Int × Int)) : Prop := e = .returned (.tuple #[.int .i64 a, .nilIface]) ∧ Turned w w' p f t v L'
set_option maxHeartbeats 1000000 in
theorem take_some (p : Nat) (f t size : Int) (v : Value) (A B : List (Int × Int)) (x : Int × Int) (w : World) (h : HeapAt w p f t v (A ++ x :: B)) (hs : 1 ≤ size ∧ size ≤ 65536) (hA : ∀ y ∈ A, y.2 < up4 size) (hx : up4 size ≤ x.2) :
    Calls Try.prog 12 #[.pointer (some ⟨p, 0, none⟩), .int .i64 size] w fun e w' => Took w w' e p f t v x.1 (A ++ (rest_ x (up4 size) ++ B)) := by
  have HS : Hid (decide (1 ≤ size ∧ size ≤ 65536) = true) := by show _ = _; simpa using hs
  have c2 := h.c2
  have hlt := h.head.lt
  have hne : p ≠ w.heap.size := by omega
  have hup := up4_range size
  have k0 : Below w.heap.size w (w.alloc (.cells #[.int .i64 (up4 size)] 3)) := (Below.refl _ _).alloc (Nat.le_refl _) _
  have h1 := h.below k0
  have HI := Lib.hid (index_any _ 26 #[.pointer (some ⟨w.heap.size, 0, none⟩)] (fun _ _ => by rfl) v (A ++ x :: B) _ h1.row (by have := h.few; omega) (ask_take (up4 size) w.heap.size (A ++ x :: B) (w.alloc (.cells #[.int .i64 (up4 size)] 3)) (by simp) (by simp)))
  have HL : Hid (∀ y ∈ A, decide (up4 size ≤ y.2) = false) := fun y hy => by have := hA y hy; simp; omega
  have HX : Hid (decide (up4 size ≤ x.2) = true) := by show _ = _; simpa using hx
  have HR := Lib.hid (fun w => round_any size w hs.1 hs.2)
  have HH := Lib.hid h1
  have HV := Lib.hid h.foot_lt
  have K0 := Lib.hid k0
  have few := h.few
  clear h h1 k0 hA
  rcases HH.out.row.cell (by simp <;> omega) with ⟨b, cap, rfl, hb0, hcap, hcap2, hcs⟩
  have ca := hcs (A.length * 2) (by simp <;> omega)
  rw [pcs_fst] at ca
  simp at ca
  have HCA := Lib.hid ca
  have hbw : b < w.heap.size := HV.out b (.inr rfl)
  have hm' : cap ≤ 9223372036854775807 := hcap2
  clear hcs ca hcap2 hb0
  have e0 : (A ++ x :: B).length = A.length + (B.length + 1) := by simp
  have HSH : Hid (∀ w', HeapAt w' p f t (.slice (some ⟨b, 0, none⟩) (A ++ x :: B).length cap) (A ++ x :: B) → Calls Try.prog 27 #[.pointer (some ⟨p, 0, none⟩), .int .i64 (A.length : Nat), .int .i64 (up4 size)] w' fun e w'' => e = .returned (.tuple #[]) ∧ Turned w' w'' p f t (.slice (some ⟨b, 0, none⟩) (A ++ x :: B).length cap) (A ++ (rest_ x (up4 size) ++ B))) :=
    fun w' h => shrink_any p f t (up4 size) _ A B x w' h (by omega) (by omega) hx
  have HFS : Hid (∀ r, Found (fun x => decide (up4 size ≤ x.2)) (A ++ x :: B) r → r = (A.length : Nat)) := fun r hr => found_some hr HL.out HX.out
  clear hx hup HL HX
  rw [e0] at HH HI HSH c2 few hcap ⊢
  generalize up4 size = z at *
  generalize (A ++ (rest_ x z ++ B)) = L' at *
  generalize A ++ x :: B = L at *
  generalize x.1 = a0 at *
  generalize A.length = a at *
  generalize B.length = c at *
  have e1 : (0 : Int) ≤ (a : Int) := by omega
  have e2 : (a : Int) < (a : Int) + ((c : Int) + 1) := by omega
  have e3 : ¬ (a : Int) < 0 := by omega
  go_enter Try.func12, Try.ntmps12
  go_wp2_with fail
  refine (sz_any size true _ HS.out).mono ?_
  rintro e w' ⟨rfl, rfl⟩
  go_wp2_with fail
  refine (HR.out _).mono ?_
  rintro e w' ⟨rfl, rfl⟩
  go_wp2_with fail
  refine HI.out.mono ?_
  rintro e w2 ⟨⟨r, rfl, hr⟩, hb⟩
  obtain rfl := HFS.out r hr
  clear hr HI
  have h2 := Lib.hid (HH.out.below hb)
  have ca2 : w2.cell? ⟨b, a * 2, none⟩ = some (.int .i64 a0) := (hb.cell (p := ⟨b, a * 2, none⟩) (by simp; omega)).trans HCA.out
  have cz : w2.cell? ⟨w.heap.size, 0, none⟩ = some (.int .i64 z) := (hb.cell (p := ⟨w.heap.size, 0, none⟩) (by simp)).trans (by simp)
  have c22 := h2.out.c2
  have HSH2 := Lib.hid (HSH.out w2 h2.out)
  have HB := Lib.hid (below_on K0.out hb K0.out.size)
  clear hb HSH HH
  go_wp2_with fail
  refine HSH2.out.mono ?_
  rintro e w3 ⟨rfl, hT⟩
  go_wp2_with fail
  go_ret2
  exact ⟨rfl, hT.after HB.out⟩
end Go.Proofs.Ytiloflgpflgjnaa
