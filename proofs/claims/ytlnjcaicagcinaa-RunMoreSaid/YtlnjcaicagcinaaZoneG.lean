/-
  Contracts of declare, declared, clone, slices.Clone over ints (layer 6). No conditions beyond those that each theorem names.
-/
import Derived.Test.YtlnjcaicagcinaaZoneF
namespace Go.Proofs.Ytlnjcaicagcinaa
open Go.ChangeShapes Go.WideShapes Go.ChangeAt Go.RowKit

theorem IntsAt.map_keep {w w' : World} {s : Sl} {xs : List Int} {mb n : Nat} {f : Int → Int} (h : IntsAt w s xs) (hm : MapIs w mb n f) (k : Kept (· = mb) w w') : IntsAt w' s xs := by
  refine ⟨h.len, h.cap, h.nil0, ?_, h.fit⟩
  rcases h.at_ with h0 | ⟨b, off, e, hl, hc⟩
  · exact .inl h0
  · rcases xs with _ | ⟨x, xs⟩
    · exact .inl h.len
    · have hne : b ≠ mb := by
        rintro rfl
        have := hc 0 x rfl
        rw [hm.no_cell] at this
        cases this
      exact .inr ⟨b, off, e, Nat.lt_of_lt_of_le hl k.more, fun j y hy => (k.cell (p := ⟨b, off + j, none⟩) hl hne).trans (hc j y hy)⟩
theorem Six.keep {S : Nat → Prop} {w w' : World} {b o : Nat} {x : ZR} (h : Six w b o x) (k : Kept S w w') (hl : b < w.heap.size) (hS : ¬ S b) : Six w' b o x := by
  have key : ∀ j, w'.cell? ⟨b, j, none⟩ = w.cell? ⟨b, j, none⟩ := fun j => k.cell (p := ⟨b, j, none⟩) hl hS
  exact ⟨(key _).trans h.c0, (key _).trans h.c1, (key _).trans h.c2, (key _).trans h.c3, (key _).trans h.c4, (key _).trans h.c5⟩

theorem DeclOk.take_succ {z : ZV} {f : Int → Int} {xs : List Int} {k : Nat} {x : Int} (h : DeclOk z f (xs.take k)) (hx : xs[k]? = some x) (h1 : upd f (xs.take k) 1 x = 0) (h2 : cellOk z x = true) : DeclOk z f (xs.take (k + 1)) := by
  obtain ⟨h3, h4⟩ := upd_ne h1 (by decide)
  rw [List.take_add_one, hx]
  refine ⟨List.nodup_append.2 ⟨h.1, by simp, fun a ha b hb => ?_⟩, fun y hy => ?_⟩
  · simp at hb
    subst hb
    rintro rfl
    exact h3 ha
  · rcases List.mem_append.1 hy with hy | hy
    · exact h.2 y hy
    · simp at hy
      subst hy
      exact ⟨h2, h4⟩
theorem DeclOk.not_of {z : ZV} {f : Int → Int} {xs : List Int} {k : Nat} {x : Int} (hx : xs[k]? = some x) (h : upd f (xs.take k) 1 x ≠ 0 ∨ cellOk z x = false) : ¬ DeclOk z f xs := by
  intro hd
  have hm : x ∈ xs := List.mem_of_getElem? hx
  rcases h with h | h
  · unfold upd at h
    split at h
    · rename_i hin
      have hk := List.getElem?_eq_some_iff.1 hx
      obtain ⟨hkl, rfl⟩ := hk
      have e : xs = xs.take k ++ xs[k] :: xs.drop (k + 1) := by rw [← List.drop_eq_getElem_cons hkl, List.take_append_drop]
      have hn := hd.1
      rw [e] at hn
      exact (List.nodup_append.1 hn).2.2 _ hin xs[k] List.mem_cons_self rfl
    · exact h (hd.2 x hm).2
  · rw [(hd.2 x hm).1] at h
    cases h
theorem upd_take_succ {f : Int → Int} {xs : List Int} {k : Nat} {x c : Int} (hx : xs[k]? = some x) (y : Int) : upd f (xs.take (k + 1)) c y = if y = x then c else upd f (xs.take k) c y := by
  rw [List.take_add_one, hx]
  unfold upd
  by_cases h : y = x
  · subst h; simp
  · by_cases h' : y ∈ xs.take k <;> simp [h, h']
theorem upd_zero {f : Int → Int} {xs : List Int} {c x : Int} (hc : c ≠ 0) : upd f xs c x = 0 ↔ upd f xs 1 x = 0 := by
  unfold upd
  split <;> simp [hc]

set_option maxRecDepth 100000 in
set_option maxHeartbeats 2000000 in
theorem declare_any (x : ZR) (s : Sl) (xs : List Int) (mb n : Nat) (f : Int → Int) (c : Int) (w : World) (hc : c = 1 ∨ c = 2) (hI : IntsAt w s xs) (hm : MapIs w mb n f) (hn : n + xs.length ≤ 1000) (hx : 0 ≤ x.z.b ∧ x.z.d ≤ 65536) :
    Calls Try.prog 38 #[x.v, .map (some mb), s.v, .int .i64 c] w fun e w' =>
      Kept (· = mb) w w' ∧ ((DeclOk x.z f xs ∧ e = .returned (.bool true) ∧ MapIs w' mb (n + xs.length) (upd f xs c)) ∨ (¬ DeclOk x.z f xs ∧ e = .returned (.bool false))) := by
  have hcw : (Lit.int .i64 c).wf = true := by rcases hc with rfl | rfl <;> rfl
  have hc0 : c ≠ 0 := by omega
  obtain ⟨W0, hW0⟩ : ∃ W0, W0 = w.alloc (.cells #[.int .i64 x.z.b, .int .i64 x.z.d, .int .i64 x.z.r, .int .i64 x.z.e, x.p.v, x.q.v] ZT) := ⟨_, rfl⟩
  have hr : RowAt W0 w.heap.size ZT x.el.cs := by rw [hW0]; exact RowAt.new w ZT x.el.cs
  have k0 : Kept (· = mb) w W0 := by rw [hW0]; exact (Kept.refl _ _).alloc _
  have hml := hm.lt
  have hm0 : MapIs W0 mb n f := hm.keep (S := fun _ => False) (by rw [hW0]; exact (Kept.refl _ _).alloc _) (fun h => h)
  have hI0 := hI.map_keep hm k0
  have hs0 : w.heap.size < W0.heap.size := hr.lt
  have H6 : Hid (∀ W, Kept (· = mb) W0 W → Six W w.heap.size 0 x) := fun W hk => (cells_zone hr).keep hk hs0 (by omega)
  have HI : Hid (∀ W, Kept (· = mb) W0 W → IntsAt W s xs) := fun W hk => hI0.map_keep hm0 hk
  have HC := Lib.hid (fun a w => iscell_any x a w hx.1 hx.2)
  have HM := Lib.hid hm0
  have K0 := Lib.hid k0
  have hlen := hI.len
  have hcap := hI.cap
  have HF := Lib.hid hI.fit
  obtain ⟨sa, sn, sc⟩ := s
  simp only at hlen hcap
  have HL := Lib.hid hlen
  show Calls Try.prog 38 #[.agg #[.int .i64 x.z.b, .int .i64 x.z.d, .int .i64 x.z.r, .int .i64 x.z.e, x.p.v, x.q.v], .map (some mb), .slice sa sn sc, .int .i64 c] w _
  have hsn : sn ≤ 1000 := by omega
  clear hm hI hm0 hI0 k0 hr hc hx hlen
  go_enter Try.func38, Try.ntmps38
  go_wp2_with fail
  rw [← hW0]
  clear hW0
  go_loopw [15] (fun i wr => ∃ k : Nat, k ≤ sn ∧ i = .int .i64 k ∧ Hid (Kept (· = mb) W0 wr) ∧ Hid (MapIs wr mb (n + k) (upd f (xs.take k) c)) ∧ Hid (DeclOk x.z f (xs.take k))) (fun i _ => sn - (intOf i).toNat)
  case atStart => exact ⟨0, Nat.zero_le _, rfl, Kept.refl _ _, (HM.out.ext (fun y => by simp [upd]) : MapIs _ _ _ _), ⟨by simp, by simp⟩⟩
  case round =>
    obtain ⟨k, hk, rfl, HK, HMr, HD⟩ := hrel
    by_cases hlt : k < sn
    · obtain ⟨y, hy⟩ : ∃ y, xs[k]? = some y := ⟨_, List.getElem?_eq_getElem (by have := HL.out; omega)⟩
      have hyw := HF.out y (List.mem_of_getElem? hy)
      obtain ⟨t0, t1, t2, t3, t4, t5⟩ := H6.out wr HK.out
      simp only [Nat.zero_add] at t1 t2 t3 t4 t5
      have hlo := HMr.out.look_ok hyw
      rcases (HI.out wr HK.out).at_ with h0 | ⟨b, off, ha, hbl, hcs⟩
      · simp only at h0; omega
      · simp only at ha
        subst ha
        have hyc := hcs k y hy
        have HY := Lib.hid hy
        have e3 : (k : Int) < (sn : Int) := by omega
        have e4 : (0 : Int) ≤ (k : Int) := by omega
        clear hcs hy
        by_cases hq : upd f (xs.take k) c y = 0
        · have HQ := Lib.hid ((upd_zero hc0).1 hq)
          rw [hq] at hlo
          have hlo' : (Instr.lookup MT (.map (some mb)) (.int .i64 y) true).run Try.prog wr = .ok (.tuple #[.int .i64 0, .bool false]) wr := hlo
          clear hlo hq
          have HCy := Lib.hid (HC.out y wr)
          cases hcq : cellOk x.z y with
          | false =>
            rw [hcq] at HCy
            go_wp2_with fail
            refine HCy.out.mono ?_
            rintro e w1 ⟨rfl, hb1⟩
            go_wp2_with fail
            go_ret
            exact ⟨K0.out.trans (HK.out.then (Kept.of_below (S := fun _ => False) hb1) (fun _ _ h => h.elim)), .inr ⟨DeclOk.not_of HY.out (.inr hcq), rfl⟩⟩
          | true =>
            rw [hcq] at HCy
            go_wp2_with fail
            refine HCy.out.mono ?_
            rintro e w1 ⟨rfl, hb1⟩
            obtain ⟨w2, hput, hM2, hK2, _⟩ := (HMr.out.keep (Kept.of_below (S := fun _ => False) hb1) (fun h => h)).put (c := c) hyw hcw hc0 (by have := HL.out; omega)
            have HM2 := Lib.hid hM2
            have HK2 : Hid (Kept (· = mb) W0 w2) := (HK.out.then (Kept.of_below (S := fun _ => False) hb1) (fun _ _ h => h.elim)).trans hK2
            clear hM2 hK2 hb1
            go_wp2_with fail
            go_roundw
            case rel =>
              refine ⟨k + 1, by omega, by go_num, HK2, (HM2.out.ext fun z => (upd_take_succ HY.out z).symm : MapIs _ _ _ _), (HD.out.take_succ HY.out HQ.out hcq : DeclOk _ _ _)⟩
            case measure => simp [intOf]; omega
        · have HQ := Lib.hid (mt (upd_zero hc0).2 hq)
          have hlo' : (Instr.lookup MT (.map (some mb)) (.int .i64 y) true).run Try.prog wr = .ok (.tuple #[.int .i64 (upd f (xs.take k) c y), .bool true]) wr := by rw [hlo]; simp [hq]
          clear hlo hq
          generalize upd f (xs.take k) c y = cc at *
          go_wp2_with fail
          go_ret
          exact ⟨K0.out.trans HK.out, .inr ⟨DeclOk.not_of HY.out (.inl HQ.out), rfl⟩⟩
    · obtain rfl : k = sn := by omega
      have e3 : ¬ (k : Int) < (k : Int) := by omega
      go_wp2_with fail
      go_ret
      have hfull : xs.take k = xs := List.take_of_length_le (by have := HL.out; omega)
      have h1 := HD.out
      have h2 := HMr.out
      rw [hfull] at h1 h2
      exact ⟨K0.out.trans HK.out, .inl ⟨h1, rfl, by rw [← HL.out]; exact h2⟩⟩
end Go.Proofs.Ytlnjcaicagcinaa
