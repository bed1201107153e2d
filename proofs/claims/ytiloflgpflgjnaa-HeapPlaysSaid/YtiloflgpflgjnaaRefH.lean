/-
  Contracts of the document's heap (dowelref05): NewHeap, Take, Give. No conditions beyond those that each theorem names.
-/
import Derived.Test.YtiloflgpflgjnaaSeq
import Derived.Test.YtiloflgpflgjnaaRunM
import Derived.Test.YtiloflgpflgjnaaWide
import Derived.Lib.AppendZeros
namespace Go.Proofs.Ytiloflgpflgjnaa
open Go.ChangeShapes Go.WideShapes Go.ChangeAt Go.RowKit

theorem SRow.setCell {t : TypeId} {k : Nat} {w : World} {b n cap : Nat} {cs : List Value} (h : SRow t k w (.slice (some ⟨b, 0, none⟩) n cap) n cs) (i : Nat) (u : Value) (hi : i < n * k) (h1 : u.oneCell' = true) : SRow t k (w.setCell ⟨b, i, none⟩ u) (.slice (some ⟨b, 0, none⟩) n cap) n (cs.set i u) := by
  rcases h.is with ⟨hv, _⟩ | ⟨b', cap', rest, hv, hr, h2, h3, h4⟩
  · cases hv
  · cases hv
    refine ⟨.inr ⟨b, cap, rest, rfl, ?_, h2, h3, h4⟩, by rw [List.length_set]; exact h.len, fun x hx => ?_⟩
    · have := hr.setCell i u
      rwa [List.set_append_left _ _ (by rw [h.len]; exact hi)] at this
    · rcases List.mem_or_eq_of_mem_set hx with h5 | rfl
      · exact h.one x h5
      · exact h1

/- the cells of bools -/
def bls (F : List Bool) : List Value := F.map Value.bool
theorem bls_length (F : List Bool) : (bls F).length = F.length := by simp [bls]
theorem bls_ones (F : List Bool) : Ones (bls F) := by intro u hu; simp [bls] at hu; rcases hu with ⟨_, rfl⟩ | ⟨_, rfl⟩ <;> rfl
theorem bls_set (F : List Bool) (i : Nat) (b : Bool) : (bls F).set i (.bool b) = bls (F.set i b) := by simp [bls, List.map_set]
theorem bls_append (F G : List Bool) : bls (F ++ G) = bls F ++ bls G := by simp [bls]
abbrev TB : TypeId := 4
theorem infoB : (Try.prog.info? 4).map (fun i => (i.zero, i.size, i.bytes)) = some (some (.bool false), 1, 1) := by kernel_rfl

structure RefAt (w : World) (m : Nat) (f t : Int) (v : Value) (F : List Bool) : Prop where
  head : RowAt w m 57 [.int .i64 f, .int .i64 t, v]
  row : SRow TB 1 w v F.length (bls F)
  apart : ¬ own v m
  range : 0 ≤ f ∧ t ≤ 65536 ∧ f + 4 * (F.length : Int) = t
theorem RefAt.keep {S : Nat → Prop} {w w' : World} {m : Nat} {f t : Int} {v : Value} {F : List Bool} (h : RefAt w m f t v F) (k : Kept S w w') (hS : ∀ j, (j = m ∨ own v j) → ¬ S j) : RefAt w' m f t v F :=
  ⟨h.head.keep k (hS m (.inl rfl)), h.row.keep k (fun j hj => hS j (.inr hj)), h.apart, h.range⟩
theorem RefAt.c0 {w : World} {m : Nat} {f t : Int} {v : Value} {F : List Bool} (h : RefAt w m f t v F) : w.cell? ⟨m, 0, none⟩ = some (.int .i64 f) := by rw [h.head.cell]; rfl
theorem RefAt.c1 {w : World} {m : Nat} {f t : Int} {v : Value} {F : List Bool} (h : RefAt w m f t v F) : w.cell? ⟨m, 1, none⟩ = some (.int .i64 t) := by rw [h.head.cell]; rfl
theorem RefAt.c2 {w : World} {m : Nat} {f t : Int} {v : Value} {F : List Bool} (h : RefAt w m f t v F) : w.cell? ⟨m, 2, none⟩ = some v := by rw [h.head.cell]; rfl
theorem RefAt.count {w : World} {m : Nat} {f t : Int} {av : Option Addr} {N cv : Nat} {F : List Bool} (h : RefAt w m f t (.slice av N cv) F) : N = F.length ∧ N ≤ cv ∧ cv ≤ 9223372036854775807 := by
  obtain ⟨a, c, hv, h1, h2⟩ := h.row.shape
  cases hv
  exact ⟨rfl, h1, h2⟩
theorem RefAt.bit {w : World} {m : Nat} {f t : Int} {av : Option Addr} {N cv : Nat} {F : List Bool} (h : RefAt w m f t (.slice av N cv) F) (hF : 0 < F.length) : ∃ b, av = some ⟨b, 0, none⟩ ∧ b < w.heap.size ∧ b ≠ m ∧ ∀ j c, F[j]? = some c → w.cell? ⟨b, j, none⟩ = some (.bool c) ∧ w.frozen? ⟨b, j, none⟩ = false := by
  rcases h.row.is with ⟨_, h0⟩ | ⟨b, cap, rest, hv, hr, h1, h2, h3⟩
  · omega
  · cases hv
    refine ⟨b, rfl, hr.lt, fun e => h.apart (by simp [own, e]), fun j c hj => ⟨?_, hr.free j⟩⟩
    have hjl := (List.getElem?_eq_some_iff.1 hj).1
    rw [hr.cell, List.getElem?_append_left (by rw [bls_length]; exact hjl)]
    simp [bls, hj]
theorem RefAt.set {w : World} {m : Nat} {f t : Int} {b n cap : Nat} {F : List Bool} (h : RefAt w m f t (.slice (some ⟨b, 0, none⟩) n cap) F) (i : Nat) (c : Bool) (hi : i < F.length) : RefAt (w.setCell ⟨b, i, none⟩ (.bool c)) m f t (.slice (some ⟨b, 0, none⟩) n cap) (F.set i c) := by
  have hn : n = F.length := by
    obtain ⟨a, c', h1, _⟩ := h.row.shape
    cases h1; rfl
  subst hn
  refine ⟨h.head.keep (kept_set w b i (.bool c)) (fun e => h.apart (by simp [own, e])), ?_, h.apart, by rw [List.length_set]; exact h.range⟩
  have := h.row.setCell i (.bool c) (by omega) rfl
  rw [bls_set] at this
  rw [List.length_set]
  exact this

def NewRel (w wr : World) (m : Nat) (f t : Int) (i : Value) : Prop := ∃ (k : Nat) (v : Value), i = .int .i64 (f + 4 * (k : Int)) ∧ f + 4 * (k : Int) ≤ t ∧ RowAt wr m 57 [.int .i64 f, .int .i64 t, v] ∧ SRow TB 1 wr v k (bls (List.replicate k true)) ∧ (¬ own v m ∧ ∀ j, own v j → w.heap.size ≤ j) ∧ Below w.heap.size w wr
def RefMade (w w' : World) (e : Ending) (f t : Int) : Prop := ∃ m v, e = .returned (.pointer (some ⟨m, 0, none⟩)) ∧ RefAt w' m f t v (List.replicate ((t - f) / 4).toNat true) ∧ Below w.heap.size w w' ∧ w.heap.size ≤ m ∧ ∀ j, own v j → w.heap.size ≤ j

theorem new_step {w wr : World} {m : Nat} {f t : Int} {k : Nat} {v : Value} (hr : RowAt wr m 57 [.int .i64 f, .int .i64 t, v]) (hs : SRow TB 1 wr v k (bls (List.replicate k true))) (ho : ¬ own v m ∧ ∀ j, own v j → w.heap.size ≤ j) (hb : Below w.heap.size w wr) (hm : w.heap.size ≤ m) (small : k ≤ 20000) (ty : TypeId) :
    ∃ a n c w2, (Builtin.append_ #[55, 55] ty #[v, .slice (some ⟨wr.heap.size, 0, none⟩) 1 1]).run Try.prog (wr.alloc (.cells #[.bool true] TB)) = .ok (.slice a n c) w2 ∧ RowAt w2 m 57 [.int .i64 f, .int .i64 t, v] ∧
      NewRel w (w2.setCell ⟨m, 2, none⟩ (.slice a n c)) m f t (.int .i64 (f + 4 * ((k + 1 : Nat) : Int))) = (f + 4 * ((k + 1 : Nat) : Int) ≤ t) := by
  have k1 : Kept (fun _ => False) wr (wr.alloc (.cells #[.bool true] TB)) := (Kept.refl _ wr).alloc _
  have hx : RowAt (wr.alloc (.cells #[.bool true] TB)) wr.heap.size TB [.bool true] := RowAt.new wr TB [.bool true]
  have hsrc : Src Try.prog 1 55 (.slice (some ⟨wr.heap.size, 0, none⟩) 1 1) 1 [.bool true] (wr.alloc (.cells #[.bool true] TB)) :=
    Src.ofSlice _ Try.underlying55 _ _ _ _ rfl (fun j u hu => by rw [Addr.add_lit, Nat.zero_add, hx.cell, hu]) (by intro u hu; simp at hu; subst hu; rfl)
  have h2 := hs.keep k1 (fun _ _ h => h)
  have hr2 := hr.keep k1 (fun h => h)
  obtain ⟨v', w2, q0, q1, q2, q3, _⟩ := h2.append (P := Try.prog) 55 ty Try.underlying55 infoB rfl (by omega) hsrc (.inl (by omega)) (by omega)
  obtain ⟨a, c, rfl, _⟩ := q1.shape
  have hr3 := hr2.keep q2 ho.1
  refine ⟨a, _, c, w2, q0, hr3, propext ⟨fun ⟨k', _, h1, h2, _⟩ => ?_, fun hle => ?_⟩⟩
  · injection h1 with _ h1
    omega
  · have e1 : bls (List.replicate k true) ++ [.bool true] = bls (List.replicate (k + 1) true) := by simp [bls, List.replicate_succ']
    rw [e1] at q1
    have mlt := hr.lt
    have bg := hb.size
    refine ⟨k + 1, _, rfl, hle, hr3.setCell 2 _, q1.keep (kept_set w2 m 2 _) (fun j hj e => ?_), ⟨fun e => ?_, fun j hj => ?_⟩, ?_⟩
    · subst e
      rcases q3 j hj with h3 | h3
      · exact ho.1 h3
      · simp at h3; omega
    · rcases q3 m e with h3 | h3
      · exact ho.1 h3
      · simp at h3; omega
    · rcases q3 j hj with h3 | h3
      · exact ho.2 j h3
      · simp at h3; omega
    · exact (((k1.wide (fun _ h => h.elim)).trans (S := own v) q2).below hb bg (fun j _ hj => ho.2 j hj)).trans ((kept_set w2 m 2 _).below (Below.refl w.heap.size w2) (by have := q2.more; simp at this; omega) (fun j _ e => by omega))

set_option maxHeartbeats 1000000 in
theorem refNew (f t : Int) (w : World) (h : 0 ≤ f ∧ f ≤ t ∧ t ≤ 65536 ∧ f % 4 = 0 ∧ t % 4 = 0) :
    Calls Try.prog 7 #[.int .i64 f, .int .i64 t] w fun e w' => RefMade w w' e f t := by
  have S0 : Hid (NewRel w (w.alloc (.cells #[.int .i64 f, .int .i64 t, .slice none 0 0] 57)) w.heap.size f t (.int .i64 f)) :=
    ⟨0, _, by simp, by omega, RowAt.new w _ _, SRow.nil _ _ _, ⟨by simp [own], fun j hj => by simp [own] at hj⟩, (Below.refl _ _).alloc (Nat.le_refl _) _⟩
  obtain ⟨m, hm⟩ : ∃ m, m = w.heap.size := ⟨_, rfl⟩
  have HM := Lib.hid hm
  rw [← hm] at S0
  have hm1 : w.heap.size ≤ m := by omega
  clear hm
  go_enter Try.func7, Try.ntmps7
  go_wp2_with fail
  rw [← HM.out]
  go_loopw [6] (fun i wr => NewRel w wr m f t i) (fun i _ => (t - intOf i).toNat)
  case atStart => exact S0.out
  case round =>
    obtain ⟨k, v, rfl, hk, hr, hs, ho, hb⟩ := hrel
    have HS := Lib.hid hs
    have HR := Lib.hid hr
    have HO := Lib.hid ho
    have HB := Lib.hid hb
    clear hs hr ho hb
    by_cases hlt : f + 4 * (k : Int) < t
    · have hst := new_step HR.out HS.out HO.out HB.out hm1 (by omega) 55
      obtain ⟨a, n, c, w2, q0, q1, q2⟩ := hst
      have c2 : wr.cell? ⟨m, 2, none⟩ = some v := by rw [HR.out.cell]; rfl
      have c22 : w2.cell? ⟨m, 2, none⟩ = some v := by rw [q1.cell]; rfl
      have f22 := q1.free 2
      have HN : Hid (∀ z : Int, z = f + 4 * (k : Int) + 4 → NewRel w (w2.setCell ⟨m, 2, none⟩ (.slice a n c)) m f t (.int .i64 z)) := fun z hz => by
        rw [hz, show f + 4 * (k : Int) + 4 = f + 4 * ((k + 1 : Nat) : Int) by omega]
        exact q2 ▸ (by omega)
      have s1 : IntKind.i64.wrap (f + 4 * (k : Int) + 4) = f + 4 * (k : Int) + 4 := IntWalk.i64_in _ (by omega)
      have hml := HR.out.lt
      clear q1 q2
      go_wp2_with (at_builtin; refine Lib.wpList_append_run _ rfl _ _ _ _ rfl _ _ rfl rfl _ _ q0 ?_)
      go_roundw
      case rel => exact HN.out _ (by omega)
      case measure => simp [intOf]; omega
    · have hq : f + 4 * (k : Int) = t := by omega
      have hq2 : ((t - f) / 4).toNat = k := by omega
      have RES : Hid (∀ e, e = .returned (.pointer (some ⟨m, 0, none⟩)) → RefMade w wr e f t) := fun e he => ⟨m, v, he, ⟨HR.out, by rw [hq2, List.length_replicate]; exact HS.out, HO.out.1, by rw [hq2, List.length_replicate]; omega⟩, HB.out, hm1, HO.out.2⟩
      clear hq2
      go_wp2_with fail
      go_ret
      exact RES.out _ rfl
end Go.Proofs.Ytiloflgpflgjnaa
