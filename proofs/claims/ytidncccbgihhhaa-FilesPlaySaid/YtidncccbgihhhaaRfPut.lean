/-
  The document's files (layer 10): the contract of Put. No conditions beyond those that each theorem names.
-/
import Derived.Test.YtidncccbgihhhaaRefG
namespace Go.Proofs.Ytidncccbgihhhaa
open Go.ChangeShapes Go.WideShapes Go.ChangeAt Go.RowKit

set_option maxRecDepth 100000 in
theorem rput_bad (rb : Nat) (s : ByteArray) (v : Value) (w : World) (hs : s.size ≤ 1000) (hn : ¬ NameP s) :
    Calls Try.prog 12 #[.pointer (some ⟨rb, 0, none⟩), .string s, v] w fun e w' => e = .returned (.int .i64 2) ∧ w = w' := by
  have H := Lib.hid (refName_no s w hs hn)
  clear hs hn
  go_enter Try.func12, Try.ntmps12
  go_wp2_with fail
  refine H.out.mono ?_
  rintro e w1 ⟨rfl, rfl⟩
  go_wp2_with fail
  go_ret
  exact ⟨rfl, rfl⟩
set_option maxRecDepth 100000 in
theorem rput_large (rb : Nat) (s : ByteArray) (v : Value) (l : List Nat) (w : World) (hs : s.size ≤ 1000) (hn : NameP s) (hb : BytesAt w v l) (hl : 4000 < l.length) :
    Calls Try.prog 12 #[.pointer (some ⟨rb, 0, none⟩), .string s, v] w fun e w' => e = .returned (.int .i64 13) ∧ w = w' := by
  have H := Lib.hid (refName_yes s w hs hn)
  obtain ⟨a, cap, rfl, _⟩ := hb.shape
  clear hs hn hb
  generalize l.length = n at *
  have f1 : (4000 : Int) < (n : Int) := by omega
  clear hl
  go_enter Try.func12, Try.ntmps12
  go_wp2_with fail
  refine H.out.mono ?_
  rintro e w1 ⟨rfl, rfl⟩
  go_wp2_with fail
  go_ret
  exact ⟨rfl, rfl⟩
set_option maxRecDepth 100000 in
theorem rput_full (rb : Nat) (lv : Value) (R : RL) (s : ByteArray) (v : Value) (l : List Nat) (w : World) (h : RefAt w rb lv R) (hs : s.size ≤ 1000) (hn : NameP s) (hb : BytesAt w v l) (hl : l.length ≤ 4000) (hm : s ∉ nms R) (hf : 32 ≤ R.length) :
    Calls Try.prog 12 #[.pointer (some ⟨rb, 0, none⟩), .string s, v] w fun e w' => e = .returned (.int .i64 8) ∧ w = w' := by
  have H := Lib.hid (refName_yes s w hs hn)
  have HA := Lib.hid (at_no rb lv R s w h hm)
  have c1 := h.cell
  obtain ⟨a, cap, rfl, _⟩ := hb.shape
  obtain ⟨la, lc, rfl, _⟩ := h.row.shape
  clear hs hn hb h hm
  generalize l.length = n at *
  generalize R.length = m at *
  have f1 : ¬ (4000 : Int) < (n : Int) := by omega
  have f2 : (32 : Int) ≤ (m : Int) := by omega
  clear hl hf
  go_enter Try.func12, Try.ntmps12
  go_wp2_with fail
  refine H.out.mono ?_
  rintro e w1 ⟨rfl, rfl⟩
  go_wp2_with fail
  refine HA.out.mono ?_
  rintro e w1 ⟨rfl, rfl⟩
  go_wp2_with fail
  go_ret
  exact ⟨rfl, rfl⟩

/- the document's files behind a store into one of their elements -/
theorem RefAt.over {w w1 : World} {rb b n cap : Nat} {A B : RL} {s : ByteArray} {x0 : Value × List Nat} (h : RefAt w rb (.slice (some ⟨b, 0, none⟩) n cap) (A ++ (s, x0) :: B)) (hb : Below w.heap.size w w1) (u : Value) (l : List Nat)
    (hu : SRow BT 1 w1 u l.length (byteVals l)) (hf : ∀ x ∈ l, x < 256) :
    RefAt (w1.setCell ⟨b, A.length * 2 + 1, none⟩ u) rb (.slice (some ⟨b, 0, none⟩) n cap) (A ++ (s, (u, l)) :: B) ∧ Kept (Mine rb (.slice (some ⟨b, 0, none⟩) n cap)) w (w1.setCell ⟨b, A.length * 2 + 1, none⟩ u) := by
  have h1 := h.on hb
  have ks := kept_set w1 b (A.length * 2 + 1) u
  obtain ⟨cs0, hrow⟩ := h1.row.row (j := b) rfl
  have key : ∀ j t cs, RowAt w1 j t cs → t ≠ LT → ¬ j = b := fun j t cs hj ht e => by subst e; exact ht (row_type hj hrow)
  have hl : (A ++ (s, (u, l)) :: B).length = (A ++ (s, x0) :: B).length := by simp
  obtain ⟨_, _, e, _⟩ := h.row.shape
  obtain rfl : n = (A ++ (s, x0) :: B).length := by cases e; rfl
  have hset := h1.row.set (A.length * 2 + 1) (by simp; omega) u hu.one_cell
  rw [rcs_set A (s, x0) B (u, l)] at hset
  refine ⟨⟨h1.head.keep ks (key _ _ _ h1.head (by decide)), by rw [hl]; exact hset, fun p hp => ?_, ?_, by rw [hl]; exact h.le⟩, (Kept.of_below hb).trans (ks.wide fun j hj => .inr hj)⟩
  · have hp' : p = (s, (u, l)) ∨ p ∈ A ++ (s, x0) :: B := by
      simp only [List.mem_append, List.mem_cons] at hp ⊢
      rcases hp with hp | hp | hp
      · exact .inr (.inl hp)
      · exact .inl hp
      · exact .inr (.inr (.inr hp))
    rcases hp' with rfl | hp'
    · exact ⟨hu.keep_rows ks fun j cs hj => key _ _ _ hj (by decide), hf⟩
    · have hr := h1.rows p hp'
      exact ⟨hr.1.keep_rows ks fun j cs hj => key _ _ _ hj (by decide), hr.2⟩
  · have := h.nodup
    simpa [nms] using this

set_option maxRecDepth 100000 in
set_option maxHeartbeats 1000000 in
theorem rput_over (rb : Nat) (lv : Value) (A B : RL) (x0 : Value × List Nat) (s : ByteArray) (v : Value) (l : List Nat) (w : World) (h : RefAt w rb lv (A ++ (s, x0) :: B)) (hs : s.size ≤ 1000) (hn : NameP s) (hb : BytesAt w v l) (hl : l.length ≤ 4000) :
    Calls Try.prog 12 #[.pointer (some ⟨rb, 0, none⟩), .string s, v] w fun e w' => e = .returned (.int .i64 0) ∧ ∃ v', RefStep w w' rb lv (A ++ (s, (v', l)) :: B) := by
  have H := Lib.hid (refName_yes s w hs hn)
  have HA := Lib.hid (at_yes rb lv A B s x0 w h (nodup_parts h.nodup).1)
  have hlen : (A ++ (s, x0) :: B).length = A.length + (B.length + 1) := by simp
  obtain ⟨b, c, hv, hbl, hc1, hc2, hcs⟩ := h.row.cell (by omega)
  have hx0 := hcs (A.length * 2 + 1) (by omega)
  rw [(rcs_at (A ++ (s, x0) :: B) A.length (s, x0) (by simp)).2] at hx0
  rw [hlen] at hv hc1
  subst hv
  obtain ⟨v', w2, hr, r1, _, rb2, _⟩ := copy_run hb (by omega)
  obtain ⟨va, vc, rfl, _⟩ := r1.shape
  obtain ⟨cs0, hrow⟩ := h.row.row (j := b) rfl
  have hov := h.over rb2 _ l r1 hb.fit
  have RES := Lib.hid (show RefStep w _ rb _ _ from ⟨_, hov.1, hov.2, fun _ h => .inl h⟩)
  clear hov
  have c1 := h.cell
  have c2 : w2.cell? ⟨rb, 0, none⟩ = some (.slice (some ⟨b, 0, none⟩) (A.length + (B.length + 1)) c) := (rb2.cell (p := ⟨rb, 0, none⟩) h.head.lt).trans c1
  have c3 : w2.cell? ⟨b, A.length * 2 + 1, none⟩ = some x0.1 := (rb2.cell (p := ⟨b, A.length * 2 + 1, none⟩) hbl).trans hx0
  have c4 : w2.frozen? ⟨b, A.length * 2 + 1, none⟩ = false := (hrow.keep (Kept.of_below (S := fun _ => False) rb2) (fun h => h)).free _
  have hle := h.le
  rw [hlen] at hle
  obtain ⟨a, cap, rfl, _⟩ := hb.shape
  clear h hs hn hb hcs hx0 r1 rb2 hrow hlen
  generalize A.length = k at *
  generalize B.length = m at *
  generalize l.length = n at *
  have f1 : ¬ (4000 : Int) < (n : Int) := by omega
  have f2 : ¬ (k : Int) < 0 := by omega
  have f3 : (0 : Int) ≤ (k : Int) := by omega
  have f4 : (k : Int) < ((k + (m + 1) : Nat) : Int) := by omega
  have f5 : (k : Int) < (k : Int) + ((m : Int) + 1) := by omega
  clear hl
  go_enter Try.func12, Try.ntmps12
  go_wp2_with fail
  refine H.out.mono ?_
  rintro e w1 ⟨rfl, rfl⟩
  go_wp2_with fail
  refine HA.out.mono ?_
  rintro e w1 ⟨rfl, rfl⟩
  go_wp2_with (at_builtin; refine Lib.wpList_append_run _ rfl _ _ _ _ rfl _ _ rfl rfl _ _ hr ?_)
  go_ret
  exact ⟨rfl, _, RES.out⟩

set_option maxRecDepth 100000 in
set_option maxHeartbeats 1000000 in
theorem rput_new (rb : Nat) (lv : Value) (R : RL) (s : ByteArray) (v : Value) (l : List Nat) (w : World) (h : RefAt w rb lv R) (hs : s.size ≤ 1000) (hn : NameP s) (hb : BytesAt w v l) (hl : l.length ≤ 4000) (hm : s ∉ nms R) (hf : R.length < 32) :
    Calls Try.prog 12 #[.pointer (some ⟨rb, 0, none⟩), .string s, v] w fun e w' => e = .returned (.int .i64 0) ∧ ∃ v', RefStep w w' rb lv (R ++ [(s, (v', l))]) := by
  have H := Lib.hid (refName_yes s w hs hn)
  have HA := Lib.hid (at_no rb lv R s w h hm)
  have c1 := h.cell
  obtain ⟨v', w2, hr, r1, _, rb2, _⟩ := copy_run hb (by omega)
  obtain ⟨va, vc, rfl, _⟩ := r1.shape
  have h2 := h.on rb2
  obtain ⟨a2, n2, c2, w3, q0, q1, q2, q3⟩ := refs_more h2.row (s, (.slice va l.length vc, l)) r1.one_cell LS (by omega)
  have hc2 := h2.cell
  have k2 : Kept Nil w w2 := Kept.of_below rb2
  have key : ∀ j t cs, RowAt w2 j t cs → t ≠ LT → ¬ own lv j := fun j t cs hj ht ho => by obtain ⟨cs', hr'⟩ := h2.row.row ho; exact ht (row_type hj hr')
  have h3 := h2.head.keep q2 (key _ _ _ h2.head (by decide))
  have c3 := h3.cell 0
  have c4 := h3.free 0
  have hput : putF R s (.slice va l.length vc, l) = R ++ [(s, (.slice va l.length vc, l))] := by unfold putF; rw [if_neg hm]
  have hst := (h.stored (v1 := .slice a2 n2 c2) (R1 := R ++ [(s, (.slice va l.length vc, l))]) (k2.nil.trans q2) q1 (fun p hp => by
      rcases List.mem_append.1 hp with hp | hp
      · have hr := h2.rows p hp
        exact ⟨hr.1.keep_rows q2 fun j cs hj => key _ _ _ hj (by decide), hr.2⟩
      · obtain rfl : p = (s, (.slice va l.length vc, l)) := by simpa using hp
        exact ⟨r1.keep_rows q2 fun j cs hj => key _ _ _ hj (by decide), hb.fit⟩)
    (by have := nodup_put h.nodup s (.slice va l.length vc, l); rwa [hput] at this) (by simp; omega))
  have RES := Lib.hid (show RefStep w _ rb _ _ from ⟨_, hst.1, hst.2, fun j hj => (q3 j hj).imp id (Nat.le_trans rb2.size)⟩)
  clear hst
  obtain ⟨a, cap, rfl, _⟩ := hb.shape
  obtain ⟨la, lc, rfl, _⟩ := h.row.shape
  clear h hs hn hb r1 rb2 h2 q1 q2 q3 k2 key h3 hput hm
  generalize l.length = n at *
  generalize R.length = m at *
  have f1 : ¬ (4000 : Int) < (n : Int) := by omega
  have f2 : ¬ (32 : Int) ≤ (m : Int) := by omega
  clear hl hf
  go_enter Try.func12, Try.ntmps12
  go_wp2_with fail
  refine H.out.mono ?_
  rintro e w1 ⟨rfl, rfl⟩
  go_wp2_with fail
  refine HA.out.mono ?_
  rintro e w1 ⟨rfl, rfl⟩
  go_upto_region 10 with (at_builtin; refine Lib.wpList_append_run _ rfl _ _ _ _ rfl _ _ rfl rfl _ _ hr ?_)
  go_wp2_with (at_builtin; refine Lib.wpList_append_run _ rfl _ _ _ _ rfl _ _ rfl rfl _ _ q0 ?_)
  go_ret
  exact ⟨rfl, _, RES.out⟩

theorem rput_any (rb : Nat) (lv : Value) (R : RL) (s : ByteArray) (v : Value) (l : List Nat) (w : World) (h : RefAt w rb lv R) (hs : s.size ≤ 1000) (hb : BytesAt w v l) :
    Calls Try.prog 12 #[.pointer (some ⟨rb, 0, none⟩), .string s, v] w fun e w' => e = .returned (.int .i64 ((putC R s l.length : Nat) : Int)) ∧ ∃ v', RefStep w w' rb lv (putN R s l.length (v', l)) := by
  have no : ∀ c, putC R s l.length = c + 1 → ∃ v', RefStep w w rb lv (putN R s l.length (v', l)) := fun c hc => ⟨v, by unfold putN; rw [if_neg (by rw [hc]; omega)]; exact .none h⟩
  by_cases hn : NameP s
  · by_cases hl : 4000 < l.length
    · have hc : putC R s l.length = 13 := by simp [putC, hn, hl]
      rw [hc]
      refine (rput_large rb s v l w hs hn hb hl).mono ?_
      rintro e w' ⟨rfl, rfl⟩
      exact ⟨rfl, no 12 hc⟩
    · by_cases hm : s ∉ nms R ∧ 32 ≤ R.length
      · have hc : putC R s l.length = 8 := by simp [putC, hn, hl, hm]
        rw [hc]
        refine (rput_full rb lv R s v l w h hs hn hb (by omega) hm.1 hm.2).mono ?_
        rintro e w' ⟨rfl, rfl⟩
        exact ⟨rfl, no 7 hc⟩
      · have hc : putC R s l.length = 0 := by unfold putC; rw [if_pos hn, if_neg hl, if_neg hm]
        have hN : ∀ x, putN R s l.length x = putF R s x := fun x => by unfold putN; rw [if_pos hc]
        simp only [hN]
        rw [hc]
        by_cases hin : s ∈ nms R
        · obtain ⟨A, x, B, rfl, _⟩ := split_at hin
          simp only [set_split h.nodup]
          exact rput_over rb lv A B x s v l w h hs hn hb (by omega)
        · have hF : ∀ x, putF R s x = R ++ [(s, x)] := fun x => by unfold putF; rw [if_neg hin]
          simp only [hF]
          exact rput_new rb lv R s v l w h hs hn hb (by omega) hin (Nat.lt_of_not_le fun g => hm ⟨hin, g⟩)
  · have hc : putC R s l.length = 2 := by simp [putC, hn]
    rw [hc]
    refine (rput_bad rb s v w hs hn).mono ?_
    rintro e w' ⟨rfl, rfl⟩
    exact ⟨rfl, no 1 hc⟩
end Go.Proofs.Ytidncccbgihhhaa
