/-
  The document's reader (layer 11): Number, Text, Left. No conditions beyond those that each theorem names.
-/
import Derived.Test.YthgnklgejlebhaaBioM
import Derived.Test.YthgnklgejlebhaaByteS
namespace Go.Proofs.Ythgnklgejlebhaa
open Go.ChangeShapes Go.WideShapes Go.ChangeAt Go.RowKit

abbrev RdT : TypeId := 62
structure RdAt (w : World) (rb : Nat) (v : Value) (l : List Nat) (at_ : Nat) (sh : Bool) : Prop where
  head : RowAt w rb RdT [v, .int .i64 (at_ : Nat), .bool sh]
  data : BytesAt w v l
  le : at_ ≤ l.length
  small : l.length ≤ 100000
/- bytes do not lie where the reader does -/
theorem BytesAt.off_row {w : World} {v : Value} {l : List Nat} (h : BytesAt w v l) {rb at_ : Nat} {sh : Bool} {x : Value} {t : TypeId} (hr : RowAt w rb t [x, .int .i64 (at_ : Nat), .bool sh]) (hx : ∀ z, x ≠ .int .u8 z) {w' : World} (k : Kept (· = rb) w w') : BytesAt w' v l := by
  obtain ⟨⟨a, n, cap, rfl, h1, h2, h3, h4, h5⟩, hf⟩ := h
  refine ⟨⟨a, n, cap, rfl, h1, h2, h3, h4, ?_⟩, hf⟩
  rcases h5 with h5 | ⟨b, off, e, hl, hc⟩
  · exact .inl h5
  · rcases Nat.eq_zero_or_pos n with h0 | h0
    · exact .inl h0
    · have hb : b ≠ rb := by
        rintro rfl
        have := hc 0 h0
        rw [Nat.add_zero, hr.cell] at this
        match off, this with
        | 0, this => exact hx _ (by simpa using this)
        | 1, this => simp at this
        | 2, this => simp at this
        | off + 3, this => simp at this
      exact .inr ⟨b, off, e, Nat.lt_of_lt_of_le hl k.more, fun i hi => (k.cell (p := ⟨b, off + i, none⟩) hl hb).trans (hc i hi)⟩
theorem RdAt.ne8 {w : World} {rb at_ : Nat} {v : Value} {l : List Nat} {sh : Bool} (h : RdAt w rb v l at_ sh) : ∀ z, v ≠ .int .u8 z := by
  obtain ⟨a, cap, rfl, _⟩ := h.data.shape
  intro z e
  cases e
theorem RdAt.on {w w' : World} {rb at_ : Nat} {v : Value} {l : List Nat} {sh : Bool} (h : RdAt w rb v l at_ sh) (hb : Below w.heap.size w w') : RdAt w' rb v l at_ sh :=
  ⟨h.head.keep (Kept.of_below (S := fun _ => False) hb) (fun h => h), h.data.on hb, h.le, h.small⟩
theorem RdAt.short {w : World} {rb at_ : Nat} {v : Value} {l : List Nat} {sh : Bool} (h : RdAt w rb v l at_ sh) (b : Bool) : RdAt (w.setCell ⟨rb, 2, none⟩ (.bool b)) rb v l at_ b :=
  ⟨h.head.setCell 2 (.bool b), h.data.off_row h.head h.ne8 (kept_set w rb 2 _), h.le, h.small⟩
theorem RdAt.move {w : World} {rb at_ : Nat} {v : Value} {l : List Nat} {sh : Bool} (h : RdAt w rb v l at_ sh) (a : Nat) (ha : a ≤ l.length) : RdAt (w.setCell ⟨rb, 1, none⟩ (.int .i64 (a : Nat))) rb v l a sh :=
  ⟨h.head.setCell 1 (.int .i64 (a : Nat)), h.data.off_row h.head h.ne8 (kept_set w rb 1 _), ha, h.small⟩
theorem RdAt.cells {w : World} {rb at_ : Nat} {v : Value} {l : List Nat} {sh : Bool} (h : RdAt w rb v l at_ sh) : w.cell? ⟨rb, 0, none⟩ = some v ∧ w.cell? ⟨rb, 1, none⟩ = some (.int .i64 (at_ : Nat)) ∧ w.cell? ⟨rb, 2, none⟩ = some (.bool sh) := ⟨h.head.cell 0, h.head.cell 1, h.head.cell 2⟩

/- what is asked of a number of so many bytes that is none -/
set_option maxRecDepth 100000 in
theorem rnum_not (rb : Nat) (v : Value) (l : List Nat) (at_ : Nat) (sh : Bool) (k : Int) (w : World) (h : RdAt w rb v l at_ sh) (hk : okN sh k = false) :
    Calls Try.prog 20 #[.pointer (some ⟨rb, 0, none⟩), .int .i64 k] w fun e w' => e = .returned (.int .u32 0) ∧ w = w' := by
  obtain ⟨_, _, c2⟩ := h.cells
  clear h
  by_cases h1 : k < 1
  · clear hk c2
    go_enter Try.func20, Try.ntmps20
    go_wp2_with fail
    go_ret
    exact ⟨rfl, rfl⟩
  · by_cases h4 : 4 < k
    · have g1 : decide (k < 1) = false := by simpa using h1
      have g2 : decide (4 < k) = true := by simpa using h4
      clear hk c2 h1 h4
      go_enter Try.func20, Try.ntmps20
      go_wp2_with fail
      go_ret
      exact ⟨rfl, rfl⟩
    · have g1 : decide (k < 1) = false := by simpa using h1
      have g2 : decide (4 < k) = false := by simpa using h4
      obtain rfl : sh = true := by
        cases sh with
        | true => rfl
        | false => simp [okN] at hk; omega
      clear hk h1 h4
      go_enter Try.func20, Try.ntmps20
      go_wp2_with fail
      go_ret
      exact ⟨rfl, rfl⟩

set_option maxRecDepth 100000 in
theorem rnum_far (rb : Nat) (v : Value) (l : List Nat) (at_ : Nat) (k : Nat) (w : World) (h : RdAt w rb v l at_ false) (h1 : 1 ≤ k) (h4 : k ≤ 4) (hf : l.length < at_ + k) :
    Calls Try.prog 20 #[.pointer (some ⟨rb, 0, none⟩), .int .i64 (k : Nat)] w fun e w' => e = .returned (.int .u32 0) ∧ RdAt w' rb v l at_ true ∧ Kept (· = rb) w w' := by
  obtain ⟨c0, c1, c2⟩ := h.cells
  have hfz := h.head.free 2
  have RES : Hid (∀ m, RdAt ((w.drewN m).setCell ⟨rb, 2, none⟩ (.bool true)) rb v l at_ true ∧ Kept (· = rb) w ((w.drewN m).setCell ⟨rb, 2, none⟩ (.bool true))) := fun m =>
    ⟨(h.on ((Drawn.of_n w m).below _)).short true, (Kept.drawn (Drawn.of_n w m)).trans (kept_set _ rb 2 _)⟩
  obtain ⟨a, cap, rfl, _⟩ := h.data.shape
  have hle := h.le
  have hsm := h.small
  clear h
  generalize l.length = n at *
  have g1 : decide ((k : Int) < 1) = false := by simp; omega
  have g2 : decide ((4 : Int) < (k : Int)) = false := by simp; omega
  have j1 : IntKind.i64.wrap ((at_ : Int) + (k : Int)) = (at_ : Int) + (k : Int) := IntWalk.i64_in _ (by omega)
  have j2 : (n : Int) < (at_ : Int) + (k : Int) := by omega
  have j3 : n < at_ + k := hf
  go_enter Try.func20, Try.ntmps20
  go_wp2_with fail
  go_quiet (fail)
  go_wp2_with fail
  go_ret
  exact ⟨rfl, RES.out _⟩

theorem BytesAt.byte {w : World} {v : Value} {l : List Nat} (h : BytesAt w v l) (h0 : 0 < l.length) : ∃ b off cap, v = .slice (some ⟨b, off, none⟩) l.length cap ∧ ∀ i, i < l.length → w.cell? ⟨b, off + i, none⟩ = some (.int .u8 ((l.getD i 0 : Nat) : Int)) := by
  obtain ⟨⟨a, n, cap, rfl, rfl, h2, h3, h4, h5⟩, hf⟩ := h
  rcases h5 with h5 | ⟨b, off, rfl, hl, hc⟩
  · omega
  · exact ⟨b, off, cap, rfl, hc⟩
theorem piece_at (l : List Nat) (a k m : Nat) (hm : m < k) (hf : a + k ≤ l.length) : (piece l a (a + k))[m]? = some (l.getD (a + m) 0) := by
  have hl : (piece l a (a + k)).length = k := by rw [piece_length _ _ _ hf]; omega
  rw [← piece_getD l a (a + k) m (by omega)]
  simp [List.getD, List.getElem?_eq_getElem (show m < (piece l a (a + k)).length by rw [hl]; exact hm)]
set_option maxRecDepth 100000 in
set_option maxHeartbeats 1000000 in
theorem rnum_fit (rb : Nat) (v : Value) (l : List Nat) (at_ : Nat) (k : Nat) (w : World) (h : RdAt w rb v l at_ false) (h1 : 1 ≤ k) (h4 : k ≤ 4) (hf : at_ + k ≤ l.length) :
    Calls Try.prog 20 #[.pointer (some ⟨rb, 0, none⟩), .int .i64 (k : Nat)] w fun e w' => e = .returned (.int .u32 ((valB (piece l at_ (at_ + k)) : Nat) : Int)) ∧ RdAt w' rb v l (at_ + k) false ∧ Kept (· = rb) w w' := by
  obtain ⟨c0, c1, c2⟩ := h.cells
  have hfz := h.head.free 1
  have RES : Hid (∀ w', Drawn w w' → RdAt (w'.setCell ⟨rb, 1, none⟩ (.int .i64 ((at_ + k : Nat) : Int))) rb v l (at_ + k) false ∧ Kept (· = rb) w (w'.setCell ⟨rb, 1, none⟩ (.int .i64 ((at_ + k : Nat) : Int)))) := fun w' hd =>
    ⟨(h.on (hd.below _)).move _ hf, (Kept.drawn hd).trans (kept_set _ rb 1 _)⟩
  obtain ⟨b, off, cap, hv, hcs⟩ := h.data.byte (by omega)
  have HF := Lib.hid h.data.fit
  subst hv
  have hle := h.le
  have hsm := h.small
  clear h
  have HC := Lib.hid hcs
  have HFK := Lib.hid hf
  obtain ⟨n, hn⟩ : ∃ n, n = l.length := ⟨_, rfl⟩
  have HN := Lib.hid hn
  rw [← hn] at c0 hle hsm hf
  have g1 : decide ((k : Int) < 1) = false := by simp; omega
  have g2 : decide ((4 : Int) < (k : Int)) = false := by simp; omega
  have j1 : IntKind.i64.wrap ((at_ : Int) + (k : Int)) = (at_ : Int) + (k : Int) := IntWalk.i64_in _ (by omega)
  have j2 : ¬ (n : Int) < (at_ : Int) + (k : Int) := by omega
  have j3 : ¬ n < at_ + k := by omega
  have j4 : IntKind.i64.wrap ((k : Int) - 1) = (k : Int) - 1 := IntWalk.i64_in _ (by omega)
  clear hcs hn
  go_enter Try.func20, Try.ntmps20
  go_wp2_with fail
  go_quiet (fail)
  go_wp2_with fail
  go_loopw [5, 6] (fun x i wr => ∃ m : Nat, m ≤ k ∧ i = .int .i64 ((m : Int) - 1) ∧ x = .int .u32 ((valB ((piece l at_ (at_ + k)).drop m) : Nat) : Int) ∧ Drawn w wr) (fun _ i _ => (intOf i + 1).toNat)
  case atStart =>
    refine ⟨k, Nat.le_refl _, rfl, ?_, Drawn.of_n _ _⟩
    rw [List.drop_of_length_le (by rw [piece_length _ _ _ HFK.out]; omega)]
    rfl
  case round =>
    obtain ⟨m, hm, rfl, rfl, hd⟩ := hrel
    have HD := Lib.hid hd
    have d0 := (HD.out.cell ⟨rb, 0, none⟩).trans c0
    have d1 := (HD.out.cell ⟨rb, 1, none⟩).trans c1
    have dz : wr.frozen? ⟨rb, 1, none⟩ = false := by obtain ⟨q, rfl⟩ := HD.out; exact hfz
    clear hd
    cases m with
    | zero =>
      have e1 : ¬ (0 : Int) ≤ (((0 : Nat) : Int) - 1) := by omega
      have j5 : (at_ : Int) + (k : Int) = ((at_ + k : Nat) : Int) := by omega
      rw [List.drop_zero]
      have HR := Lib.hid (RES.out wr HD.out)
      rw [← j5] at HR
      clear RES HD j5
      generalize hx : valB (piece l at_ (at_ + k)) = x at *
      have HXX := Lib.hid hx
      clear hx
      go_wp2_with fail
      go_ret
      exact ⟨end_int (by rw [HXX.out]), HR.out⟩
    | succ m =>
      have hk : m < k := by omega
      have hb := piece_at l at_ k m hk HFK.out
      have hc := (HD.out.cell ⟨b, off + (at_ + m), none⟩).trans (HC.out (at_ + m) (by have := HFK.out; omega))
      have hvd := valB_drop (piece l at_ (at_ + k)) m _ hb
      have hlt : valB ((piece l at_ (at_ + k)).drop (m + 1)) < 16777216 := by
        have := valB_lt _ (fun c hc => piece_lt HF.out at_ (at_ + k) c (List.mem_of_mem_drop (i := m + 1) hc))
        refine Nat.lt_of_lt_of_le this ?_
        rw [List.length_drop, piece_length _ _ _ HFK.out]
        calc 256 ^ (at_ + k - at_ - (m + 1)) ≤ 256 ^ 3 := Nat.pow_le_pow_right (by decide) (by omega)
          _ = 16777216 := by decide
      have hb8 : l.getD (at_ + m) 0 < 256 := by
        refine HF.out _ ?_
        have hlt : at_ + m < l.length := by have := HFK.out; omega
        simp [List.getD, List.getElem?_eq_getElem hlt]
      have HV := Lib.hid hvd
      have e0 : ((m + 1 : Nat) : Int) - 1 = (m : Int) := by omega
      rw [e0]
      clear hb hvd e0 RES
      generalize valB ((piece l at_ (at_ + k)).drop (m + 1)) = x at *
      generalize l.getD (at_ + m) 0 = y at *
      have e1 : (0 : Int) ≤ (m : Int) := by omega
      have i1 : IntKind.u32.wrap (256 * (x : Int)) = 256 * (x : Int) := by rw [IntKind.wrap_u32]; omega
      have i2 : IntKind.u32.wrap (y : Int) = (y : Int) := by rw [IntKind.wrap_u32]; omega
      have i3 : IntKind.u32.wrap (256 * (x : Int) + (y : Int)) = 256 * (x : Int) + (y : Int) := by rw [IntKind.wrap_u32]; omega
      have i4 : IntKind.i64.wrap ((at_ : Int) + (m : Int)) = (at_ : Int) + (m : Int) := IntWalk.i64_in _ (by omega)
      have i5 : IntKind.i64.wrap ((m : Int) - 1) = (m : Int) - 1 := IntWalk.i64_in _ (by omega)
      have i6 : (0 : Int) ≤ (at_ : Int) + (m : Int) := by omega
      have i7 : (at_ : Int) + (m : Int) < (n : Int) := by omega
      have i8 : ((at_ : Int) + (m : Int)).toNat = at_ + m := by omega
      have i9 : at_ + m < n := by omega
      have HY := Lib.hid hb8
      clear hlt hb8 j1 j2 j3 j4
      go_wp2_with fail
      go_quiet (fail)
      go_wp2_with fail
      go_roundw
      case rel => exact ⟨m, by omega, rfl, congrArg (Value.int .u32) (by rw [HV.out]; omega), HD.out.more _⟩
      case measure => simp [intOf]

theorem rnum_any (rb : Nat) (v : Value) (l : List Nat) (at_ : Nat) (sh : Bool) (k : Int) (w : World) (h : RdAt w rb v l at_ sh) :
    Calls Try.prog 20 #[.pointer (some ⟨rb, 0, none⟩), .int .i64 k] w fun e w' => e = .returned (.int .u32 ((numV l at_ sh k : Nat) : Int)) ∧ RdAt w' rb v l (numAt l at_ sh k) (numSh l at_ sh k) ∧ Kept (· = rb) w w' := by
  cases hk : okN sh k with
  | false =>
    have e1 : numV l at_ sh k = 0 := by simp [numV, hk]
    have e2 : numAt l at_ sh k = at_ := by simp [numAt, hk]
    have e3 : numSh l at_ sh k = sh := by simp [numSh, hk]
    rw [e1, e2, e3]
    refine (rnum_not rb v l at_ sh k w h hk).mono ?_
    rintro e w' ⟨rfl, rfl⟩
    exact ⟨rfl, h, Kept.refl _ _⟩
  | true =>
    have hk' := hk
    simp [okN] at hk'
    obtain ⟨⟨rfl, h1⟩, h4⟩ := hk'
    obtain ⟨n, rfl⟩ : ∃ n : Nat, k = n := ⟨k.toNat, by omega⟩
    cases hf : fitN l at_ n with
    | false =>
      have e1 : numV l at_ false (n : Nat) = 0 := by simp [numV, hk, hf]
      have e2 : numAt l at_ false (n : Nat) = at_ := by simp [numAt, hk, hf]
      have e3 : numSh l at_ false (n : Nat) = true := by simp [numSh, hk, hf]
      rw [e1, e2, e3]
      exact rnum_far rb v l at_ n w h (by omega) (by omega) (by simpa [fitN] using hf)
    | true =>
      have e1 : numV l at_ false (n : Nat) = valB (piece l at_ (at_ + n)) := by simp [numV, hk, hf]
      have e2 : numAt l at_ false (n : Nat) = at_ + n := by simp [numAt, hk, hf]
      have e3 : numSh l at_ false (n : Nat) = false := by simp [numSh, hk, hf]
      rw [e1, e2, e3]
      exact rnum_fit rb v l at_ n w h (by omega) (by omega) (by simpa [fitN] using hf)

set_option maxRecDepth 100000 in
theorem rleft_any (rb : Nat) (v : Value) (l : List Nat) (at_ : Nat) (sh : Bool) (w : World) (h : RdAt w rb v l at_ sh) :
    Calls Try.prog 22 #[.pointer (some ⟨rb, 0, none⟩)] w fun e w' => e = .returned (.int .i64 ((leftN l at_ sh : Nat) : Int)) ∧ Drawn w w' := by
  obtain ⟨c0, c1, c2⟩ := h.cells
  obtain ⟨a, cap, rfl, _⟩ := h.data.shape
  have hle := h.le
  have hsm := h.small
  clear h
  cases sh with
  | true =>
    rw [show leftN l at_ true = 0 from rfl]
    go_enter Try.func22, Try.ntmps22
    go_wp2_with fail
    go_ret
    exact ⟨rfl, Drawn.refl _⟩
  | false =>
    rw [show leftN l at_ false = l.length - at_ from rfl]
    generalize l.length = n at *
    have j1 : IntKind.i64.wrap ((n : Int) - (at_ : Int)) = (n : Int) - (at_ : Int) := IntWalk.i64_in _ (by omega)
    have HE : Hid (((n - at_ : Nat) : Int) = (n : Int) - (at_ : Int)) := by show _ = _; omega
    rw [HE.out]
    go_enter Try.func22, Try.ntmps22
    go_wp2_with fail
    go_quiet (fail)
    go_wp2_with fail
    go_ret
    exact ⟨rfl, Drawn.of_n _ _⟩
end Go.Proofs.Ythgnklgejlebhaa
