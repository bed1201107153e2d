/-
  The document's zones (dowelref05): Remove, is, Ints; a zone as the document's. No conditions beyond those that each theorem names.
-/
import Derived.Test.YtlnjcaicagcinaaRefP
namespace Go.Proofs.Ytlnjcaicagcinaa
open Go.ChangeShapes Go.WideShapes Go.ChangeAt Go.RowKit

set_option maxRecDepth 100000 in
theorem infoR : (Try.prog.info? 58).map (fun i => (i.zero, i.size, i.bytes)) = some (some ZZ, 6, 80) := by kernel_rfl
set_option maxRecDepth 100000 in
theorem sizeR : (Try.prog.info? 58).map (·.size) = some 6 := by kernel_rfl

/- a list that the call makes: in blocks that are new -/
structure Made (w wr : World) (v : Value) (M : List ZR) : Prop where
  row : SRow RZT 6 wr v M.length (zcs M)
  kept : Kept No w wr
  new : ∀ j, own v j → w.heap.size ≤ j
theorem Made.nil (w : World) : Made w w (.slice none 0 0) [] := ⟨SRow.nil _ _ _, Kept.refl _ _, fun _ h => h.elim⟩
theorem Made.on {w wr w' : World} {v : Value} {M : List ZR} (h : Made w wr v M) (k : Kept No wr w') : Made w w' v M := ⟨h.row.keep k (fun _ _ h => h), h.kept.trans k, h.new⟩
theorem Made.push {w wr : World} {v : Value} {M : List ZR} (h : Made w wr v M) (x : ZR) (small : M.length ≤ 1000) (ty : TypeId) :
    ∃ v' w', (Builtin.append_ #[52, 52] ty #[v, .slice (some ⟨wr.heap.size, 0, none⟩) 1 1]).run Try.prog (wr.alloc (.cells #[.int .i64 x.z.b, .int .i64 x.z.d, .int .i64 x.z.r, .int .i64 x.z.e, x.p.v, x.q.v] RZT)) = .ok v' w' ∧ Made w w' v' (M ++ [x]) := by
  have hr : RowAt (wr.alloc (.cells #[.int .i64 x.z.b, .int .i64 x.z.d, .int .i64 x.z.r, .int .i64 x.z.e, x.p.v, x.q.v] RZT)) wr.heap.size RZT x.el.cs := RowAt.new wr RZT x.el.cs
  have k1 : Kept No wr (wr.alloc (.cells #[.int .i64 x.z.b, .int .i64 x.z.d, .int .i64 x.z.r, .int .i64 x.z.e, x.p.v, x.q.v] RZT)) := (Kept.refl _ _).alloc _
  have h1 := h.on k1
  have hs : Src Try.prog 6 52 (.slice (some ⟨wr.heap.size, 0, none⟩) 1 1) 1 x.el.cs (wr.alloc (.cells #[.int .i64 x.z.b, .int .i64 x.z.d, .int .i64 x.z.r, .int .i64 x.z.e, x.p.v, x.q.v] RZT)) :=
    Src.ofSlice _ Try.underlying52 _ _ _ _ (by rw [x.el.len]) (fun j u hu => by rw [Addr.add_lit, Nat.zero_add, hr.cell, hu]) x.el.one
  obtain ⟨v', w', e1, e2, e3, e4, _⟩ := h1.row.append (P := Try.prog) 52 ty Try.underlying52 infoR rfl (by omega) hs (.inl (by omega)) (by omega)
  refine ⟨v', w', e1, ⟨?_, h1.kept.then e3 (fun j hj ho => by have := h1.new j ho; omega), fun j hj => ?_⟩⟩
  · have : zcs (M ++ [x]) = zcs M ++ x.el.cs := by simp [zcs, ecs_append, ecs_one]
    rw [List.length_append, this]
    exact e2
  · rcases e4 j hj with ho | ho
    · exact h1.new j ho
    · exact Nat.le_trans h1.kept.more ho

set_option maxRecDepth 100000 in
theorem is_any (s : Sl) (xs : List Int) (u : Int) (w : World) (h : IntsAt w s xs) : Calls Try.prog 62 #[s.v, .int .i64 u] w fun e w' => e = .returned (.bool (decide (u ∈ xs))) ∧ w = w' := by
  obtain ⟨sa, sn, sc⟩ := s
  have hl : sn = xs.length := h.len
  have hc : sn ≤ sc ∧ sc ≤ maxLen := h.cap
  have HI := Lib.hid h
  have HL := Lib.hid hl
  clear h hl
  simp only [maxLen] at hc
  show Calls Try.prog 62 #[.slice sa sn sc, .int .i64 u] w _
  go_enter Try.func62, Try.ntmps62
  go_wp2_with fail
  go_loopw [5] (fun i wr => wr = w ∧ ∃ k : Nat, k ≤ sn ∧ i = .int .i64 k ∧ Hid (u ∉ xs.take k)) (fun i _ => sn - (intOf i).toNat)
  case atStart => exact ⟨rfl, 0, Nat.zero_le _, rfl, (fun h => by simp at h : ¬ _)⟩
  case round =>
    obtain ⟨rfl, k, hk, rfl, HF⟩ := hrel
    by_cases hlt : k < sn
    · obtain ⟨y, hy⟩ : ∃ y, xs[k]? = some y := ⟨_, List.getElem?_eq_getElem (by rw [← HL.out]; exact hlt)⟩
      rcases HI.out.at_ with h0 | ⟨b, off, ha, hb, hcs⟩
      · simp only at h0; omega
      · simp only at ha
        subst ha
        have hyc := hcs k y hy
        have HY := Lib.hid hy
        have e5 : (k : Int) < (sn : Int) := by omega
        have e6 : (0 : Int) ≤ (k : Int) := by omega
        clear hcs hy
        by_cases hq : y = u
        · have g1 : (y == u) = true := by simpa using hq
          have HQ : Hid (decide (u ∈ xs) = true) := by show _ = _; rw [← hq]; simpa using List.mem_of_getElem? HY.out
          clear hq
          go_wp2_with fail
          go_ret
          exact ⟨end_bool HQ.out.symm, rfl⟩
        · have g1 : (y == u) = false := by simpa using hq
          have HNo : Hid (u ∉ xs.take (k + 1)) := fun h => by
            rw [List.take_add_one, HY.out] at h
            rcases List.mem_append.1 h with h | h
            · exact HF.out h
            · simp at h; exact hq h.symm
          clear hq
          go_wp2_with fail
          go_roundw
          case rel => exact ⟨trivial, k + 1, by omega, by go_num, HNo⟩
          case measure => simp [intOf]; omega
    · obtain rfl : k = sn := by omega
      have e5 : ¬ (k : Int) < (k : Int) := by omega
      go_wp2_with fail
      go_ret
      refine ⟨end_bool ?_, rfl⟩
      symm
      have := HF.out
      rw [List.take_of_length_le (by rw [← HL.out]; exact Nat.le_refl _)] at this
      simpa using this
end Go.Proofs.Ytlnjcaicagcinaa
