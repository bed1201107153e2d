/-
  How layer 7's laws read their blocks: a zone with its two slices, and a slice of words; and a slice of registers. No conditions.
-/
import Derived.Test.YtlnjcaicagcinaaIntsOf
import Derived.Test.YtlnjcaicagcinaaMemB
import Derived.Test.YtlnjcaicagcinaaSeq
import Derived.Test.YtlnjcaicagcinaaJoinQ
namespace Go.Proofs.Ytlnjcaicagcinaa
open Go.ChangeShapes Go.WideShapes Go.ChangeAt Go.RowKit

/- a slice of words, as it is read -/
structure U32At (w : World) (s : Sl) (xs : List Nat) : Prop where
  len : s.n = xs.length
  cap : s.n ≤ s.cap ∧ s.cap ≤ maxLen
  at_ : s.n = 0 ∨ ∃ b off, s.a = some ⟨b, off, none⟩ ∧ b < w.heap.size ∧ ∀ j x, xs[j]? = some x → w.cell? ⟨b, off + j, none⟩ = some (.int .u32 (x : Nat))
  lt : ∀ x ∈ xs, x < 4294967296
theorem U32At.on {w w' : World} {s : Sl} {xs : List Nat} (h : U32At w s xs) (hb : Below w.heap.size w w') : U32At w' s xs := by
  refine ⟨h.len, h.cap, ?_, h.lt⟩
  rcases h.at_ with h0 | ⟨b, off, ha, hl, hc⟩
  · exact .inl h0
  · exact .inr ⟨b, off, ha, Nat.lt_of_lt_of_le hl hb.size, fun j x hj => (hb.cell (p := ⟨b, off + j, none⟩) hl).trans (hc j x hj)⟩

structure Blk where
  x : ZR
  ws : Sl
  W : List Nat
instance : Inhabited Blk := ⟨⟨ZR0, ⟨none, 0, 0⟩, []⟩⟩
structure Blks (w : World) (a : Option Addr) (n : Nat) (B : List Blk) : Prop where
  len : B.length = n
  fit : n ≤ maxLen
  cells : n = 0 ∨ ∃ b off, a = some ⟨b, off, none⟩ ∧ b < w.heap.size ∧ ∀ i d, B[i]? = some d → Six w b (off + i * 7) d.x ∧ w.cell? ⟨b, off + i * 7 + 6, none⟩ = some d.ws.v
  ints : ∀ d ∈ B, IntsAt w d.x.p d.x.z.P ∧ IntsAt w d.x.q d.x.z.Q
  words : ∀ d ∈ B, U32At w d.ws d.W
theorem Blks.on {w w' : World} {a : Option Addr} {n : Nat} {B : List Blk} (h : Blks w a n B) (hb : Below w.heap.size w w') : Blks w' a n B := by
  refine ⟨h.len, h.fit, ?_, fun d hd => ⟨(h.ints d hd).1.on hb, (h.ints d hd).2.on hb⟩, fun d hd => (h.words d hd).on hb⟩
  rcases h.cells with h0 | ⟨b, off, ha, hl, hc⟩
  · exact .inl h0
  · exact .inr ⟨b, off, ha, Nat.lt_of_lt_of_le hl hb.size, fun i d hd => ⟨(hc i d hd).1.on hb hl, (hb.cell (p := ⟨b, _, none⟩) hl).trans (hc i d hd).2⟩⟩
/- the block that is next -/
theorem Blks.at_ {w : World} {a : Option Addr} {n : Nat} {B : List Blk} (h : Blks w a n B) {k : Nat} (hk : k < n) : ∃ b off d, a = some ⟨b, off, none⟩ ∧ b < w.heap.size ∧ B[k]? = some d ∧ Six w b (off + k * 7) d.x ∧ w.cell? ⟨b, off + k * 7 + 6, none⟩ = some d.ws.v ∧ IntsAt w d.x.p d.x.z.P ∧ IntsAt w d.x.q d.x.z.Q ∧ U32At w d.ws d.W := by
  rcases h.cells with h0 | ⟨b, off, rfl, hb, hc⟩
  · omega
  · obtain ⟨d, hd⟩ : ∃ d, B[k]? = some d := ⟨_, List.getElem?_eq_getElem (by rw [h.len]; exact hk)⟩
    have hm := List.mem_of_getElem? hd
    exact ⟨b, off, d, rfl, hb, hd, (hc k d hd).1, (hc k d hd).2, (h.ints d hm).1, (h.ints d hm).2, h.words d hm⟩

set_option maxRecDepth 100000 in
theorem words_of {H : Type} {enc : TypeId × Value → H} {w : World} {base : Nat} {sp : Nat → Bool} {held : Bool} {n : Nat} {c : Value} {y : DataW H × List MemPlace}
    (h : DataW.trod enc Try.prog w base sp held n 43 [c] = some y) : ∃ (s : Sl) (xs : List Nat), c = s.v ∧ U32At w s xs := by
  have shape : ∃ a l k, c = .slice a l k := by
    rcases Go.Deep.open_slice Try.underlying43 h with ⟨hcs, _⟩ | ⟨ad, l, k, m, n', D, Pl, hcs, _⟩
    · simp at hcs
      exact ⟨none, 0, 0, hcs⟩
    · simp at hcs
      exact ⟨some ad, l, k, hcs⟩
  obtain ⟨a, l, k, rfl⟩ := shape
  have ht : DataW.Trod enc Try.prog w base sp held 43 (.slice a l k) y.1 y.2 := ⟨n, by simpa [Value.cells] using h⟩
  obtain ⟨h1, h2, h3⟩ := elems_of Try.underlying43 (c := 1) (by kernel_rfl) (by decide) ht
  rcases h3 with rfl | ⟨b, off, rfl, hb, hi⟩
  · exact ⟨⟨a, 0, k⟩, [], rfl, rfl, ⟨h1, h2⟩, .inl rfl, by simp⟩
  · have key : ∀ i, i < l → ∃ x : Nat, w.cell? ⟨b, off + i, none⟩ = some (.int .u32 (x : Nat)) ∧ x < 4294967296 := by
      intro i hil
      obtain ⟨cs, n', x, hl, hc, hx⟩ := hi i hil
      match cs, hl with
      | [c0], _ =>
        obtain ⟨z0, e0, _, w0⟩ := DataW.trod_int Try.underlying39 hx
        simp at e0
        subst e0
        have := hc 0 (by decide)
        simp at this
        obtain ⟨m, rfl, hm⟩ := u32_nat w0
        exact ⟨m, this, hm⟩
    obtain ⟨f, hf⟩ := Go.Deep.choose_lt key
    refine ⟨⟨some ⟨b, off, none⟩, l, k⟩, (List.range l).map f, rfl, by simp, ⟨h1, h2⟩, .inr ⟨b, off, rfl, hb, fun j x hj => ?_⟩, fun x hx => ?_⟩
    · obtain ⟨hjl, rfl⟩ := range_at _ _ _ _ hj
      exact (hf _ hjl).1
    · simp at hx
      obtain ⟨i, hil, rfl⟩ := hx
      exact (hf i hil).2

set_option maxRecDepth 100000 in
theorem blks_of {H : Type} {enc : TypeId × Value → H} {w : World} {base : Nat} {sp : Nat → Bool} {held : Bool} {a : Option Addr} {len cap : Nat} {d : DataW H} {p : List MemPlace}
    (h : DataW.Trod enc Try.prog w base sp held 22 (.slice a len cap) d p) : ∃ B, Blks w a len B := by
  obtain ⟨hl1, hl2, h⟩ := elems_of Try.underlying22 (c := 7) (by kernel_rfl) (by decide) h
  rcases h with rfl | ⟨b, off, rfl, hb, hi⟩
  · exact ⟨[], rfl, Nat.zero_le _, .inl rfl, by simp, by simp⟩
  · have key : ∀ i, i < len → ∃ d : Blk, (Six w b (off + i * 7) d.x ∧ w.cell? ⟨b, off + i * 7 + 6, none⟩ = some d.ws.v) ∧ (IntsAt w d.x.p d.x.z.P ∧ IntsAt w d.x.q d.x.z.Q) ∧ U32At w d.ws d.W := by
      intro i hil
      obtain ⟨cs, n, x, hl, hc, ht⟩ := hi i hil
      match cs, hl with
      | [c0, c1, c2, c3, c4, c5, c6], _ =>
        obtain ⟨xs, n', _, _, _, hxl, hf⟩ := DataW.trod_struct Try.underlying45 ht
        match xs, hxl with
        | [y0, y1], _ =>
          have k3 : Try.prog.cellsOf 3 = 1 := by kernel_rfl
          have k28 : Try.prog.cellsOf 36 = 1 := by kernel_rfl
          have k30 : Try.prog.cellsOf 38 = 6 := by kernel_rfl
          have k87 : Try.prog.cellsOf 43 = 1 := by kernel_rfl
          have h0 := hf 0 _ rfl
          have h1 := hf 1 _ rfl
          simp [k30] at h0
          simp [k87] at h1
          obtain ⟨ws, W, rfl, hw⟩ := words_of h1
          obtain ⟨xs', n2, _, _, _, hxl', hf'⟩ := DataW.trod_struct Try.underlying38 h0
          match xs', hxl' with
          | [u0, u1, u2, u3, u4, u5], _ =>
            obtain ⟨z1, e1, _, _⟩ := DataW.trod_int Try.underlying3 (hf' 0 _ rfl)
            obtain ⟨z2, e2, _, _⟩ := DataW.trod_int Try.underlying3 (hf' 1 _ rfl)
            obtain ⟨z3, e3, _, _⟩ := DataW.trod_int Try.underlying3 (hf' 2 _ rfl)
            obtain ⟨z4, e4, _, _⟩ := DataW.trod_int Try.underlying3 (hf' 3 _ rfl)
            have h5 := hf' 4 _ rfl
            have h6 := hf' 5 _ rfl
            simp [k28] at h5 h6
            simp [k3] at e1 e2 e3 e4
            obtain ⟨sp', xp, rfl, hp⟩ := ints_of h5
            obtain ⟨sq', xq, rfl, hq⟩ := ints_of h6
            subst e1 e2 e3 e4
            exact ⟨⟨⟨⟨z1, z2, z3, z4, xp, xq⟩, sp', sq'⟩, ws, W⟩, ⟨⟨hc 0 (by decide), hc 1 (by decide), hc 2 (by decide), hc 3 (by decide), hc 4 (by decide), hc 5 (by decide)⟩, hc 6 (by decide)⟩, ⟨hp, hq⟩, hw⟩
    obtain ⟨f, hf⟩ := Go.Deep.choose_lt key
    refine ⟨(List.range len).map f, by simp, Nat.le_trans hl1 hl2, .inr ⟨b, off, rfl, hb, fun i d hd => ?_⟩, fun d hd => ?_, fun d hd => ?_⟩
    · obtain ⟨hil, rfl⟩ := range_at _ _ _ _ hd
      exact (hf _ hil).1
    · simp at hd
      obtain ⟨i, hil, rfl⟩ := hd
      exact (hf i hil).2.1
    · simp at hd
      obtain ⟨i, hil, rfl⟩ := hd
      exact (hf i hil).2.2

/- a slice of registers -/
structure RegsAt (w : World) (a : Option Addr) (n : Nat) (xs : List Int) : Prop where
  len : xs.length = n
  cells : n = 0 ∨ ∃ b off, a = some ⟨b, off, none⟩ ∧ b < w.heap.size ∧ ∀ j x, xs[j]? = some x → w.cell? ⟨b, off + j, none⟩ = some (.int .i32 x)
  fit : ∀ x ∈ xs, -2147483648 ≤ x ∧ x ≤ 2147483647
end Go.Proofs.Ytlnjcaicagcinaa

/-
  Contracts of layer 7's bounds (fewIs, Few). No conditions.
-/
namespace Go.Proofs.Ytlnjcaicagcinaa
open Go.ChangeShapes Go.WideShapes Go.ChangeAt Go.RowKit

def smallB (d : Blk) : Prop := d.W.length ≤ 200 ∧ d.x.z.P.length ≤ 40 ∧ d.x.z.Q.length ≤ 40 ∧ -10000 ≤ d.x.z.b ∧ d.x.z.b ≤ 100000
instance (d : Blk) : Decidable (smallB d) := by
  unfold smallB
  exact inferInstance
def FewB (B : List Blk) : Prop := (∀ d ∈ B, smallB d) ∧ B.length ≤ 10
instance (B : List Blk) : Decidable (FewB B) := by
  unfold FewB
  exact inferInstance

set_option maxRecDepth 100000 in
set_option maxHeartbeats 4000000 in
theorem fewIs_any (a : Option Addr) (n cap : Nat) (B : List Blk) (w : World) (h : Blks w a n B) :
    Calls Try.prog 10 #[.slice a n cap] w fun e w' => e = .returned (.bool (decide (FewB B))) ∧ w = w' := by
  have HB := Lib.hid h
  have HL := Lib.hid h.len
  have hfit := h.fit
  simp only [maxLen] at hfit
  clear h
  go_enter Try.func10, Try.ntmps10
  go_wp2_with fail
  go_loopw [3] (fun i wr => wr = w ∧ ∃ k : Nat, k ≤ n ∧ i = .int .i64 k ∧ Hid (∀ d ∈ B.take k, smallB d)) (fun i _ => n - (intOf i).toNat)
  case atStart => exact ⟨rfl, 0, Nat.zero_le _, rfl, fun d hd => by simp at hd⟩
  case round =>
    obtain ⟨rfl, k, hk, rfl, HF⟩ := hrel
    by_cases hlt : k < n
    · obtain ⟨b, off, d, rfl, hb, hd, hs, hw, hp, hq, hu⟩ := HB.out.at_ hlt
      obtain ⟨c0, c1, c2, c3, c4, c5⟩ := hs
      have HD := Lib.hid hd
      have e5 : (k : Int) < (n : Int) := by omega
      have e6 : (0 : Int) ≤ (k : Int) := by omega
      have HLen : Hid (d.ws.n = d.W.length ∧ d.x.p.n = d.x.z.P.length ∧ d.x.q.n = d.x.z.Q.length) := ⟨hu.len, hp.len, hq.len⟩
      have HNo : ¬ smallB d → Hid (decide (FewB B) = false) := fun hn => by
        show _ = _
        simp only [decide_eq_false_iff_not]
        exact fun hf => hn (hf.1 d (List.mem_of_getElem? hd))
      have HCap : Hid ((d.ws.n ≤ d.ws.cap ∧ d.ws.cap ≤ maxLen) ∧ (d.x.p.n ≤ d.x.p.cap ∧ d.x.p.cap ≤ maxLen) ∧ (d.x.q.n ≤ d.x.q.cap ∧ d.x.q.cap ≤ maxLen)) := ⟨hu.cap, hp.cap, hq.cap⟩
      clear hd hp hq hu
      obtain ⟨⟨xz, ⟨pa, pn, pc⟩, ⟨qa, qn, qc⟩⟩, ⟨wa, wn, wc⟩, W⟩ := d
      simp only [Sl.mk_v] at c0 c1 c2 c3 c4 c5 hw
      have hl3 := HLen.out
      have hc3 := HCap.out
      simp only [maxLen] at hl3 hc3
      by_cases h1 : wn ≤ 200
      · by_cases h2 : pn ≤ 40
        · by_cases h3 : qn ≤ 40
          · by_cases h4 : -10000 ≤ xz.b
            · by_cases h5 : xz.b ≤ 100000
              · have HYes : Hid (∀ d ∈ B.take (k + 1), smallB d) := fun d hd => by
                  rw [List.take_add_one, HD.out] at hd
                  rcases List.mem_append.1 hd with hd | hd
                  · exact HF.out d hd
                  · simp at hd
                    subst hd
                    exact ⟨by show W.length ≤ 200; omega, by show xz.P.length ≤ 40; omega, by show xz.Q.length ≤ 40; omega, h4, h5⟩
                clear HNo hl3
                go_wp2_with fail
                go_roundw
                case rel => exact ⟨trivial, k + 1, by omega, by go_num, HYes⟩
                case measure => simp [intOf]; omega
              · have HN := HNo (fun hs => h5 hs.2.2.2.2)
                clear HNo hl3
                go_wp2_with fail
                go_ret
                exact ⟨end_bool HN.out.symm, rfl⟩
            · have HN := HNo (fun hs => h4 hs.2.2.2.1)
              clear HNo hl3
              go_wp2_with fail
              go_ret
              exact ⟨end_bool HN.out.symm, rfl⟩
          · have HN := HNo (fun hs => by have := hs.2.2.1; simp only at this; omega)
            clear HNo hl3
            go_wp2_with fail
            go_ret
            exact ⟨end_bool HN.out.symm, rfl⟩
        · have HN := HNo (fun hs => by have := hs.2.1; simp only at this; omega)
          clear HNo hl3
          go_wp2_with fail
          go_ret
          exact ⟨end_bool HN.out.symm, rfl⟩
      · have HN := HNo (fun hs => by have := hs.1; simp only at this; omega)
        clear HNo hl3
        go_wp2_with fail
        go_ret
        exact ⟨end_bool HN.out.symm, rfl⟩
    · obtain rfl : k = n := by omega
      have e5 : ¬ (k : Int) < (k : Int) := by omega
      go_wp2_with fail
      go_ret
      refine ⟨end_bool ?_, rfl⟩
      have hall : ∀ d ∈ B, smallB d := fun d hd => HF.out d (by rw [List.take_of_length_le (by rw [HL.out]; exact Nat.le_refl _)]; exact hd)
      have hL := HL.out
      by_cases h10 : k ≤ 10
      · rw [show decide (FewB B) = true from decide_eq_true ⟨hall, by omega⟩]
        simp
        omega
      · rw [show decide (FewB B) = false from decide_eq_false fun hf => by have := hf.2; omega]
        simp
        omega

set_option maxRecDepth 100000 in
theorem few7_any (a : Option Addr) (n cap : Nat) (B : List Blk) (w : World) (h : Blks w a n B) :
    Calls Try.prog 5 #[.slice a n cap] w fun e w' => e = .returned (.int .i64 (if FewB B then 1 else 0)) ∧ w = w' := by
  have HF := Lib.hid (fewIs_any a n cap B w h)
  clear h
  by_cases hf : FewB B
  · rw [if_pos hf]
    rw [decide_eq_true hf] at HF
    go_enter Try.func5, Try.ntmps5
    go_wp2_with fail
    refine HF.out.mono ?_
    rintro e w1 ⟨rfl, rfl⟩
    go_wp2_with fail
    go_ret
    exact ⟨rfl, rfl⟩
  · rw [if_neg hf]
    rw [decide_eq_false hf] at HF
    go_enter Try.func5, Try.ntmps5
    go_wp2_with fail
    refine HF.out.mono ?_
    rintro e w1 ⟨rfl, rfl⟩
    go_wp2_with fail
    go_ret
    exact ⟨rfl, rfl⟩
end Go.Proofs.Ytlnjcaicagcinaa

/-
  Contracts of the document's Machine.Set (layers 7 and 8). No conditions beyond those that the theorem names.
-/
namespace Go.Proofs.Ytlnjcaicagcinaa
open Go.ChangeShapes Go.WideShapes Go.ChangeAt Go.RowKit

abbrev MCT : TypeId := 54
/- bytes set one behind the other -/
def sets (l : List Nat) (i x : Nat) : Nat → List Nat
  | 0 => l
  | j + 1 => (sets l i x j).set (i + j) (byteN x j)
theorem sets_length (l : List Nat) (i x j : Nat) : (sets l i x j).length = l.length := by
  induction j with
  | zero => rfl
  | succ j ih => rw [sets, List.length_set, ih]
theorem sets_four (l : List Nat) (i x : Nat) (h : i + 4 ≤ l.length) : sets l i x 4 = splice l i (bytes4 x) := by
  have e : ∃ A B, l = A ++ B ∧ A.length = i := ⟨l.take i, l.drop i, (List.take_append_drop i l).symm, by rw [List.length_take]; omega⟩
  obtain ⟨A, B, rfl, rfl⟩ := e
  rw [List.length_append] at h
  have h4 : 4 ≤ B.length := by omega
  match B, h4 with
  | b0 :: b1 :: b2 :: b3 :: B, _ => simp [sets, splice, bytes4]
  | [], h => exact absurd h (by decide)
  | [_], h => exact absurd h (by simp)
  | [_, _], h => exact absurd h (by simp)
  | [_, _, _], h => exact absurd h (by simp)
theorem byteN_256 (x j : Nat) : byteN x j < 256 := by
  unfold byteN
  exact Nat.mod_lt _ (by decide)

set_option maxRecDepth 100000 in
set_option maxHeartbeats 1000000 in
theorem machSet_any (xp xb N i x : Nat) (zv : Value) (l : List Nat) (w : World) (h : RowAt w xp MCT [.slice (some ⟨xb, 0, none⟩) N N, zv]) (hb : ByteRow w xb l) (hN : l.length = N) (hs : N ≤ 65536) (hi : i + 4 ≤ N) (hx : x < 4294967296) :
    Calls Try.prog 17 #[.pointer (some ⟨xp, 0, none⟩), .int .i64 i, .int .u32 x] w fun e w' => e = .returned (.tuple #[]) ∧ ByteRow w' xb (splice l i (bytes4 x)) ∧ Kept (· = xb) w w' := by
  have hne : xp ≠ xb := by
    rintro rfl
    have h1 : w.heap[xp]? = _ := h
    have h2 := hb.1
    rw [h1] at h2
    simp at h2
    exact absurd h2.2 (by decide)
  have c0 : w.cell? ⟨xp, 0, none⟩ = some (.slice (some ⟨xb, 0, none⟩) N N) := by rw [h.cell]; rfl
  have HC := Lib.hid c0
  have HB := Lib.hid hb
  have HNe := Lib.hid hne
  have HNl := Lib.hid hN
  have HX := Lib.hid hx
  have hpl := h.lt
  have hgl := hb.lt
  clear h hb hne hN c0
  go_enter Try.func17, Try.ntmps17
  go_wp2_with fail
  refine (refBytes_any x w HX.out).mono ?_
  rintro e w1 ⟨rfl, hw1⟩
  have rb := RowAt.new w 5 [.int .u8 (byteN x 0 : Nat), .int .u8 (byteN x 1 : Nat), .int .u8 (byteN x 2 : Nat), .int .u8 (byteN x 3 : Nat)]
  have rb1 : RowAt w1 w.heap.size 5 [.int .u8 (byteN x 0 : Nat), .int .u8 (byteN x 1 : Nat), .int .u8 (byteN x 2 : Nat), .int .u8 (byteN x 3 : Nat)] := hw1 ▸ rb
  have hk1 : Kept (fun _ => False) w w1 := hw1 ▸ (Kept.refl _ _).alloc _
  have HK1 := Lib.hid hk1
  have RB := Lib.hid rb1
  clear rb rb1 hk1 hw1
  go_wp2_with fail
  go_loopw [7] (fun j wr => ∃ k : Nat, k ≤ 4 ∧ j = .int .i64 k ∧ Hid (ByteRow wr xb (sets l i x k) ∧ Kept (· = xb) w1 wr)) (fun j _ => 4 - (intOf j).toNat)
  case atStart => exact ⟨0, by omega, rfl, HB.out.keep HK1.out (fun h => h), Kept.refl _ _⟩
  case round =>
    obtain ⟨k, hk, rfl, HI⟩ := hrel
    by_cases hlt : k < 4
    · have hmp : wr.cell? ⟨xp, 0, none⟩ = some (.slice (some ⟨xb, 0, none⟩) N N) := by
        have h1 := HK1.out.cell (p := ⟨xp, 0, none⟩) hpl (fun h => h)
        have h2 := HI.out.2.cell (p := ⟨xp, 0, none⟩) (Nat.lt_of_lt_of_le hpl HK1.out.more) (fun e => HNe.out e)
        exact h2.trans (h1.trans HC.out)
      have hrb : RowAt wr w.heap.size 5 _ := RB.out.keep HI.out.2 (fun e => by omega)
      have hcb : wr.cell? ⟨w.heap.size, k, none⟩ = some (.int .u8 (byteN x k : Nat)) := by
        rw [hrb.cell]
        have hc : k = 0 ∨ k = 1 ∨ k = 2 ∨ k = 3 := by omega
        rcases hc with rfl | rfl | rfl | rfl <;> rfl
      have hsl := sets_length l i x k
      obtain ⟨m, hm⟩ : ∃ m, i + k = m := ⟨_, rfl⟩
      have hc2 := HI.out.1.at_ m (by rw [hsl, HNl.out]; omega)
      have hf2 := HI.out.1.free m
      have hmi : (i : Int) + (k : Int) = (m : Int) := by omega
      have HRes : Hid (ByteRow (wr.setCell ⟨xb, m, none⟩ (.int .u8 (byteN x k : Nat))) xb (sets l i x (k + 1)) ∧ Kept (· = xb) w1 (wr.setCell ⟨xb, m, none⟩ (.int .u8 (byteN x k : Nat)))) :=
        ⟨by rw [sets, hm]; exact HI.out.1.setCell m (byteN x k) (byteN_256 x k), HI.out.2.trans (kept_set wr xb m _)⟩
      have e5 : (k : Int) < 4 := by omega
      have e6 : (0 : Int) ≤ (k : Int) := by omega
      have e7 : (m : Int) < (N : Int) := by omega
      have e8 : (0 : Int) ≤ (m : Int) := by omega
      have e9 : (m : Int) < 65536 := by omega
      have hw9 : IntKind.i64.wrap (m : Int) = (m : Int) := IntWalk.i64_in _ (by omega)
      generalize byteN x k = y at *
      generalize (sets l i x k).getD m 0 = y0 at *
      clear hsl hrb hm
      go_wp2_with fail
      go_region_with fail
      all_goals
        go_wp2_with fail
        go_roundw
        case rel => exact ⟨k + 1, by omega, by go_num, HRes.out.1, HRes.out.2.drew⟩
        case measure => simp [intOf]; omega
    · obtain rfl : k = 4 := by omega
      go_wp2_with fail
      refine bodyPost_end (results_none rfl _ _ _) rfl ?_
      have q := HI.out.1
      rw [sets_four l i x (by rw [HNl.out]; exact hi)] at q
      exact ⟨rfl, q, (⟨HK1.out.still, HK1.out.more, fun k hk _ => HK1.out.rest k hk fun h => h⟩ : Kept (· = xb) w w1).trans HI.out.2⟩
end Go.Proofs.Ytlnjcaicagcinaa

/-
  What layer 7's laws begin with: a memory and zones, and the document's beside them, held together (layer 7). No conditions beyond those that each theorem names.
-/
namespace Go.Proofs.Ytlnjcaicagcinaa
open Go.ChangeShapes Go.WideShapes Go.ChangeAt Go.RowKit

/- rows of other types than the program's zones are left alone -/
def SpareRows (w w' : World) : Prop := ∀ b t cs, RowAt w b t cs → t ≠ 76 → t ≠ ZT → RowAt w' b t cs
theorem SpareRows.of_no {w w' : World} (k : Kept No w w') : SpareRows w w' := fun _ _ _ h _ _ => h.keep k (fun h => h)
theorem SpareRows.of_own {w w' : World} {zp mb n : Nat} {lv : Value} {L : List ZR} (h : ZAt w zp mb lv L n) (k : Kept (Own3 zp mb lv) w w') : SpareRows w w' := fun b t cs hr h1 h2 => hr.keep k fun hj => by
  rcases hj with hj | hj | hj
  · exact (hr.ne_type h.head h1) hj
  · exact (hr.ne_map h.cells) hj
  · obtain ⟨ds, hr'⟩ := h.list.own_row b hj
    exact (hr.ne_type hr' h2) rfl

def AddedZ (L : List ZR) (z : ZV) (L' : List ZR) : Prop := (MayAdd (L.map ZR.z) z ∧ AddedTo (L.map ZR.z) z (L'.map ZR.z)) ∨ (¬ MayAdd (L.map ZR.z) z ∧ L'.map ZR.z = L.map ZR.z)
theorem zadd_one {B : Nat} {w0 w : World} {zp mb n : Nat} {L : List ZR} (h : Zoo B w0 w zp mb L n) (x : ZR) (hp : IntsAt w x.p x.z.P) (hq : IntsAt w x.q x.z.Q) (sp : x.z.P.length ≤ 100) (sq : x.z.Q.length ≤ 100) (few : L.length < 100) (nb : n ≤ 20000) :
    Calls Try.prog 13 #[.pointer (some ⟨zp, 0, none⟩), x.v] w fun e w' => ∃ v L', e = .returned v ∧ SpareRows w w' ∧ AddedZ L x.z L' ∧ L'.length ≤ L.length + 1 ∧ Zoo B w0 w' zp mb L' (n + 200) := by
  obtain ⟨lv, hz, ho⟩ := h.is
  have no : ¬ MayAdd (L.map ZR.z) x.z → AddedZ L x.z L := fun hn => .inr ⟨hn, rfl⟩
  have zk : ∀ {w'}, Kept No w w' → Zoo B w0 w' zp mb L (n + 200) := fun hk => (h.on hk.none).more (by omega)
  cases hb : blockZ x.z with
  | false => exact (add_bad zp mb lv L n x w hz hp hq hb).mono fun _ _ ⟨he, hk⟩ => ⟨_, L, he, .of_no hk, no (fun hm => by have := hm.1; rw [hb] at this; cases this), by omega, zk hk⟩
  | true =>
    cases hm : (L.map ZR.z).any (meetsZ x.z) with
    | true => exact (add_meet zp mb lv L n x w hz hp hq sp sq hb hm).mono fun _ _ ⟨he, hk⟩ => ⟨_, L, he, .of_no hk, no (fun h' => by have := h'.2.1; rw [hm] at this; cases this), by omega, zk hk⟩
    | false =>
      by_cases hc : cellsOk x.z
      · refine (add_yes zp mb lv L n x w hz hp hq sp sq few nb hb hm hc).mono ?_
        rintro e w' ⟨he, ⟨A, B', y, v', rfl, hs, hyz, hz', ho'⟩, hk⟩
        refine ⟨_, A ++ y :: B', he, .of_own hz hk, .inl ⟨⟨hb, hm, hc⟩, _, _, hs, by simp [hyz]⟩, by simp; omega, ⟨v', hz', fun j hj => ?_⟩, h.lz, h.lm, kept3_below h.below hk h.size h.lz h.lm ho, fun u hu => ?_⟩
        · rcases ho' j hj with h1 | h1
          · exact ho j h1
          · have := h.size; omega
        · have hcase : u ∈ A ++ B' ∨ u = y := by
            simp at hu ⊢
            rcases hu with hu | hu | hu <;> simp [hu]
          rcases hcase with hu | rfl
          · exact h.few u hu
          · rw [hyz]; exact ⟨sp, sq⟩
      · exact (add_decl zp mb lv L n x w hz hp hq sp sq hb hm hc).mono fun _ _ ⟨he, hk⟩ => ⟨_, L, he, .of_no hk, no (fun h' => hc h'.2.2), by omega, zk hk⟩

def AddedR (M : List ZR) (x : ZR) (M' : List ZR) : Prop := (MayAdd (M.map ZR.z) x.z ∧ ∃ A B, M = A ++ B ∧ Split (M.map ZR.z) (A.map ZR.z) (B.map ZR.z) x.z.b ∧ M' = A ++ x :: B) ∨ (¬ MayAdd (M.map ZR.z) x.z ∧ M' = M)
theorem radd_one (x : ZR) (v : Value) (M : List ZR) (w : World) (h : RefAt w v M) (g : Good (M.map ZR.z)) (small : M.length ≤ 100) (hp : IntsAt w x.p x.z.P) (hq : IntsAt w x.q x.z.Q) (sp : x.z.P.length ≤ 100) (sq : x.z.Q.length ≤ 100) :
    Calls Try.prog 14 #[v, x.v] w fun e w' => ∃ v' ok M', e = .returned (.tuple #[v', .bool ok]) ∧ SRow RZT 6 w' v' M'.length (zcs M') ∧ AddedR M x M' ∧ Kept No w w' := by
  refine (radd_any x v M w h g small hp hq sp sq).mono ?_
  rintro e w' (⟨hm, v', A, B, hM, hs, rfl, hd⟩ | ⟨hm, rfl, hk⟩)
  · exact ⟨v', true, A ++ x :: B, rfl, hd.row, .inl ⟨hm, A, B, hM, hs, rfl⟩, hd.kept⟩
  · exact ⟨v, false, M, rfl, h.row.keep hk (fun _ _ h => h), .inr ⟨hm, rfl⟩, hk⟩
theorem added_same {L L' M M' : List ZR} {x : ZR} (e : M.map ZR.z = L.map ZR.z) (h : AddedZ L x.z L') (h' : AddedR M x M') : M'.map ZR.z = L'.map ZR.z := by
  rcases h' with ⟨hm, A, B, hM, hs, rfl⟩ | ⟨hm, rfl⟩
  · rcases h with ⟨_, ha⟩ | ⟨hn, _⟩
    · exact same_add e ha hs
    · rw [e] at hm; exact absurd hm hn
  · rcases h with ⟨hy, _⟩ | ⟨_, hl⟩
    · rw [e] at hm; exact absurd hy hm
    · rw [hl, e]
theorem addedR_mem {M M' : List ZR} {x y : ZR} (h : AddedR M x M') (hy : y ∈ M') : y ∈ M ∨ y = x := by
  rcases h with ⟨_, A, B, hM, _, rfl⟩ | ⟨_, rfl⟩
  · rw [hM]
    simp at hy ⊢
    rcases hy with hy | hy | hy <;> simp [hy]
  · exact .inl hy

/- a memory and zones, and the document's beside them -/
structure Duo (w wr : World) (mp g zp mb xp xb : Nat) (L M : List ZR) (mv : Value) (n : Nat) (l : List Nat) : Prop where
  both : Both w wr zp mb L M mv n
  mem : MemAt wr mp g l
  mach : RowAt wr xp MCT [.slice (some ⟨xb, 0, none⟩) 2048 2048, mv]
  bytes : ByteRow wr xb l
  len : l.length = 2048
  low : w.heap.size ≤ mp ∧ w.heap.size ≤ g ∧ w.heap.size ≤ xp ∧ w.heap.size ≤ xb
  apart : xb ≠ g
theorem brow {w : World} {g : Nat} {l : List Nat} (h : ByteRow w g l) : RowAt w g 5 (byteVals l) := h.1
theorem mhead {w : World} {p g : Nat} {l : List Nat} (h : MemAt w p g l) : RowAt w p 70 [.slice (some ⟨g, 0, none⟩) l.length l.length] := h.head
theorem Duo.still {w wr w' : World} {mp g zp mb xp xb n : Nat} {L M : List ZR} {mv : Value} {l : List Nat} (h : Duo w wr mp g zp mb xp xb L M mv n l) (k : Kept No wr w') : Duo w w' mp g zp mb xp xb L M mv n l :=
  ⟨h.both.still k, h.mem.keep k (fun h => h) (fun h => h), h.mach.keep k (fun h => h), h.bytes.keep k (fun h => h), h.len, h.low, h.apart⟩
theorem memAt_spare {w w' : World} {p g : Nat} {l : List Nat} (h : MemAt w p g l) (s : SpareRows w w') : MemAt w' p g l :=
  ⟨s p _ _ (mhead h) (by decide) (by decide), ⟨s g _ _ (brow h.row) (by decide) (by decide), h.row.2⟩, h.apart, h.small⟩
theorem byteRow_spare {w w' : World} {g : Nat} {l : List Nat} (h : ByteRow w g l) (s : SpareRows w w') : ByteRow w' g l := ⟨s g _ _ (brow h) (by decide) (by decide), h.2⟩
/- zones, where rows of other types change -/
theorem Zoo.rows {B : Nat} {w0 w w' : World} {zp mb n : Nat} {L : List ZR} (h : Zoo B w0 w zp mb L n) {S : Nat → Prop} (k : Kept S w w') (hS : ∀ j, S j → B ≤ j ∧ ∃ t cs, RowAt w j t cs ∧ t ≠ 76 ∧ t ≠ ZT ∧ t ≠ 3) : Zoo B w0 w' zp mb L n := by
  obtain ⟨lv, hz, ho⟩ := h.is
  have ne : ∀ {b : Nat} {t : TypeId} {cs : List Value}, RowAt w b t cs → (t = 76 ∨ t = ZT ∨ t = 3) → ¬ S b := by
    intro b t cs hr ht hs
    obtain ⟨_, t', cs', hr', h1, h2, h3⟩ := hS b hs
    refine RowAt.ne_type hr' hr ?_ rfl
    rcases ht with rfl | rfl | rfl <;> assumption
  refine ⟨⟨lv, ⟨hz.head.keep k (ne hz.head (.inl rfl)), hz.list.keep k fun j hj => ?_, hz.cells.keep k fun hs => ?_, hz.good, fun x hx => (hz.read x hx).keep k fun b cs hr => ne hr (.inr (.inr rfl)), hz.small⟩, ho⟩, h.lz, h.lm, k.below h.below h.size fun j _ hs => (hS j hs).1, h.few⟩
  · obtain ⟨ds, hr⟩ := hz.list.own_row j hj
    exact ne hr (.inr (.inl rfl))
  · obtain ⟨_, t', cs', hr', _⟩ := hS mb hs
    exact hr'.ne_map hz.cells rfl
/- the program's bytes are others -/
theorem SRow.keep_row {t : TypeId} {k : Nat} {w w' : World} {v : Value} {n : Nat} {cs : List Value} (h : SRow t k w v n cs) {j : Nat} {u : TypeId} {ds : List Value} (kp : Kept (· = j) w w') (hr : RowAt w j u ds) (ne : u ≠ t) : SRow t k w' v n cs :=
  h.keep kp fun i hi e => by
    subst e
    obtain ⟨es, hr'⟩ := h.own_row i hi
    exact RowAt.ne_type hr hr' ne rfl
theorem Duo.setG {w wr w' : World} {mp g zp mb xp xb n : Nat} {L M : List ZR} {mv : Value} {l l' : List Nat} (h : Duo w wr mp g zp mb xp xb L M mv n l) (k : Kept (· = g) wr w') (hm : MemAt w' mp g l') :
    Both w w' zp mb L M mv n ∧ RowAt w' xp MCT [.slice (some ⟨xb, 0, none⟩) 2048 2048, mv] ∧ ByteRow w' xb l := by
  have hg := brow h.mem.row
  refine ⟨⟨h.both.zoo.rows k fun j hj => by subst hj; exact ⟨h.low.2.1, 5, _, hg, by decide, by decide, by decide⟩, h.both.row.keep_row k hg (by decide), h.both.ints, h.both.same⟩, h.mach.keep k (RowAt.ne_type h.mach hg (by decide)), h.bytes.keep k h.apart⟩

theorem Duo.word {w wr w1 w2 : World} {mp g zp mb xp xb n : Nat} {L M : List ZR} {mv : Value} {l l' : List Nat} (h : Duo w wr mp g zp mb xp xb L M mv n l) (k1 : Kept (· = g) wr w1) (hm : MemAt w1 mp g l') (k2 : Kept (· = xb) w1 w2) (hb : ByteRow w2 xb l') (hl : l'.length = 2048) : Duo w w2 mp g zp mb xp xb L M mv n l' := by
  obtain ⟨b1, m1, y1⟩ := h.setG k1 hm
  have hx := brow y1
  exact ⟨⟨b1.zoo.rows k2 fun j hj => by subst hj; exact ⟨h.low.2.2.2, 5, _, hx, by decide, by decide, by decide⟩, b1.row.keep_row k2 hx (by decide), b1.ints, b1.same⟩,
    hm.keep k2 (RowAt.ne_type (mhead hm) hx (by decide)) (fun e => h.apart e.symm), m1.keep k2 (RowAt.ne_type m1 hx (by decide)), hb, hl, h.low, h.apart⟩
theorem Duo.zone {w wr w1 w2 : World} {mp g zp mb xp xb n n' : Nat} {L M L' M' : List ZR} {mv mv' : Value} {l : List Nat} (h : Duo w wr mp g zp mb xp xb L M mv n l) (s : SpareRows wr w1) (hz : Zoo w.heap.size w w1 zp mb L' n') (k : Kept No w1 w2) (hr : SRow RZT 6 w2 mv' M'.length (zcs M'))
    (hi : ∀ y ∈ M', IntsAt w y.p y.z.P ∧ IntsAt w y.q y.z.Q) (e : M'.map ZR.z = L'.map ZR.z) : Duo w (w2.setCell ⟨xp, 1, none⟩ mv') mp g zp mb xp xb L' M' mv' n' l := by
  have m2 : RowAt w2 xp MCT _ := (s xp _ _ h.mach (by decide) (by decide)).keep k (fun h => h)
  have k3 : Kept (· = xp) w2 (w2.setCell ⟨xp, 1, none⟩ mv') := kept_set w2 xp 1 mv'
  have z2 := hz.on k.none
  have mm := (memAt_spare h.mem s).keep k (fun h => h) (fun h => h)
  have bb := (byteRow_spare h.bytes s).keep k (fun h => h)
  exact ⟨⟨z2.rows k3 fun j hj => by subst hj; exact ⟨h.low.2.2.1, MCT, _, m2, by decide, by decide, by decide⟩, hr.keep_row k3 m2 (by decide), hi, e⟩,
    mm.keep k3 (RowAt.ne_type (mhead mm) m2 (by decide)) (RowAt.ne_type (brow mm.row) m2 (by decide)), m2.setCell 1 mv', bb.keep k3 (RowAt.ne_type (brow bb) m2 (by decide)), h.len, h.low, h.apart⟩
end Go.Proofs.Ytlnjcaicagcinaa

/-
  Begun, of layer 7's laws: a memory and zones in which blocks are laid, and the document's. No conditions beyond those that each theorem names.
-/
namespace Go.Proofs.Ytlnjcaicagcinaa
open Go.ChangeShapes Go.WideShapes Go.ChangeAt Go.RowKit

/- words that are laid from a place on, as many as told -/
def laid (b : Int) (W : List Nat) (l : List Nat) : Nat → List Nat
  | 0 => l
  | j + 1 => if 0 ≤ b + 4 * (j : Int) ∧ b + 4 * (j : Int) ≤ 2044 ∧ (b + 4 * (j : Int)) % 4 = 0 then splice (laid b W l j) (b + 4 * (j : Int)).toNat (bytes4 (W.getD j 0)) else laid b W l j
def Begs (B : List Blk) : Nat → List ZR → List Nat → Prop
  | 0, L, l => L = [] ∧ l = List.replicate 2048 0
  | k + 1, L, l => ∃ L0 l0 d, Begs B k L0 l0 ∧ B[k]? = some d ∧ AddedZ L0 d.x.z L ∧ l = laid d.x.z.b d.W l0 d.W.length
theorem laid_length (b : Int) (W l : List Nat) (hl : l.length = 2048) (j : Nat) : (laid b W l j).length = 2048 := by
  induction j with
  | zero => exact hl
  | succ j ih =>
    rw [laid]
    split
    · rename_i h
      rw [length_splice _ _ _ (by simp [bytes4]; omega), ih]
    · exact ih

def BegunAt (w w' : World) (e : Ending) (B : List Blk) (n : Nat) : Prop :=
  ∃ mp g zp mb xp xb L M mv l, e = .returned (.tuple #[.pointer (some ⟨mp, 0, none⟩), .pointer (some ⟨zp, 0, none⟩), .pointer (some ⟨xp, 0, none⟩)]) ∧ Duo w w' mp g zp mb xp xb L M mv 2000 l ∧ Begs B n L l ∧ L.length ≤ n
def InBegun (w wr : World) (mp g zp mb xp xb n : Nat) (B : List Blk) (i : Value) : Prop :=
  ∃ k : Nat, k ≤ n ∧ i = .int .i64 k ∧ ∃ L M mv l, Duo w wr mp g zp mb xp xb L M mv (k * 200) l ∧ Begs B k L l ∧ L.length ≤ k

def InWords (w wr : World) (mp g zp mb xp xb nn : Nat) (L M : List ZR) (mv : Value) (d : Blk) (l : List Nat) (i : Value) : Prop :=
  ∃ j : Nat, j ≤ d.W.length ∧ i = .int .i64 j ∧ Duo w wr mp g zp mb xp xb L M mv nn (laid d.x.z.b d.W l j)

set_option maxRecDepth 100000 in
set_option maxHeartbeats 8000000 in
theorem begun_any (a : Option Addr) (n cap : Nat) (B : List Blk) (w : World) (h : Blks w a n B) (hf : FewB B) :
    Calls Try.prog 6 #[.slice a n cap] w fun e w' => BegunAt w w' e B n := by
  have HB := Lib.hid h
  have HF := Lib.hid hf
  have hn : n ≤ 10 := by have := hf.2; rw [h.len] at this; exact this
  have HN := Lib.hid Zoo.new
  have hmk := fun v => make_zeros 2048 2048 rfl (by omega) v
  clear h hf
  go_enter Try.func6, Try.ntmps6
  go_wp2_with fail
  refine (memNew_raw 2048 w (by omega) (by omega) (by omega)).mono ?_
  rintro e w1 ⟨rfl, hw1⟩
  have m1 : MemAt w1 (w.heap.size + 1) w.heap.size (List.replicate 2048 0) := hw1 ▸ newMem_at w 2048 (by omega)
  have k1 : Kept No w w1 := hw1 ▸ newMem_kept w 2048 _
  have s1 : w1.heap.size = w.heap.size + 2 := by rw [← hw1]; exact newMem_size w 2048
  have M1 := Lib.hid m1
  have K1 := Lib.hid k1
  clear m1 k1 hw1
  go_wp2_with fail
  refine (HN.out _).mono ?_
  rintro e w2 ⟨zp, mb, rfl, hz⟩
  have HZ2 := Lib.hid (hz.base K1.out.none)
  have M2 := Lib.hid (M1.out.keep (Kept.of_below hz.below : Kept No w1 w2) (fun h => h) (fun h => h))
  have S2 := hz.size
  clear hz
  obtain ⟨w3, hw3⟩ : ∃ w3, w3 = (w2.alloc (zeros 2048)).alloc (.cells #[.slice (some ⟨w2.heap.size, 0, none⟩) 2048 2048, .slice none 0 0] MCT) := ⟨_, rfl⟩
  have d3 : Duo w w3 (w.heap.size + 1) w.heap.size zp mb (w2.heap.size + 1) w2.heap.size [] [] (.slice none 0 0) 0 (List.replicate 2048 0) := by
    have kk : Kept No w2 w3 := by rw [hw3]; exact ((Kept.refl _ _).alloc _).alloc _
    have e0 : (w2.alloc (zeros 2048)).heap.size = w2.heap.size + 1 := by simp
    refine ⟨⟨HZ2.out.on kk.none, SRow.nil _ _ _, by simp, rfl⟩, M2.out.keep kk (fun h => h) (fun h => h), ?_, ?_, by simp, ⟨by omega, by omega, by omega, by omega⟩, by omega⟩
    · have := RowAt.new (w2.alloc (zeros 2048)) MCT [.slice (some ⟨w2.heap.size, 0, none⟩) 2048 2048, .slice none 0 0]
      rw [e0] at this
      rw [hw3]
      exact this
    · have := (ByteRow.new w2 (List.replicate 2048 0) (by simp)).keep (S := No) ((Kept.refl No _).alloc (.cells #[.slice (some ⟨w2.heap.size, 0, none⟩) 2048 2048, .slice none 0 0] MCT)) (fun h => h)
      rw [hw3]
      exact this
  have D3 := Lib.hid d3
  clear d3 M1 K1 s1 HZ2 M2 S2
  go_wp2_with fail
  clear hmk
  rw [← hw3]
  clear hw3
  generalize w.heap.size + 1 = mp at *
  generalize w2.heap.size + 1 = xp at *
  generalize w2.heap.size = xb at *
  obtain ⟨g, hg⟩ : ∃ g, w.heap.size = g := ⟨_, rfl⟩
  rw [hg] at D3
  clear hg
  go_loopw [9] (fun i wr => InBegun w wr mp g zp mb xp xb n B i) (fun i _ => n - (intOf i).toNat)
  case atStart => exact ⟨0, Nat.zero_le _, rfl, [], [], _, _, D3.out, ⟨rfl, rfl⟩, Nat.le_refl _⟩
  case round =>
    clear D3
    obtain ⟨k, hk, rfl, L, M, mv, l, hi⟩ := hrel
    have HI := Lib.hid hi
    clear hi
    by_cases hlt : k < n
    · obtain ⟨b, off, d, rfl, hb, hd, hs0, hw0, hp0, hq0, hu0⟩ := HB.out.at_ hlt
      have hsm := HF.out.1 d (List.mem_of_getElem? hd)
      have HD := Lib.hid hd
      have HA : Hid (∀ v, Below w.heap.size w v → Six v b (off + k * 7) d.x ∧ v.cell? ⟨b, off + k * 7 + 6, none⟩ = some d.ws.v ∧ IntsAt v d.x.p d.x.z.P ∧ IntsAt v d.x.q d.x.z.Q ∧ U32At v d.ws d.W) := fun v kb =>
        ⟨hs0.on kb hb, (kb.cell (p := ⟨b, _, none⟩) hb).trans hw0, hp0.on kb, hq0.on kb, hu0.on kb⟩
      have HSm := Lib.hid hsm
      have HPQ : Hid (IntsAt w d.x.p d.x.z.P ∧ IntsAt w d.x.q d.x.z.Q) := ⟨hp0, hq0⟩
      have HU := Lib.hid hu0
      clear hs0 hw0 hp0 hq0 hu0 hsm hd
      have e5 : (k : Int) < (n : Int) := by omega
      have e6 : (0 : Int) ≤ (k : Int) := by omega
      obtain ⟨⟨c0, c1, c2, c3, c4, c5⟩, -, hp, hq, -⟩ := HA.out _ HI.out.1.both.zoo.below
      have HP := Lib.hid (zadd_one HI.out.1.both.zoo d.x hp hq (by have := HSm.out.2.1; omega) (by have := HSm.out.2.2.1; omega) (by have := HI.out.2.2; omega) (by omega))
      clear hp hq
      go_wp2_with fail
      refine HP.out.mono ?_
      rintro e w4 ⟨v4, L', rfl, hsp, hadd, hlen, hz4⟩
      have HZ4 := Lib.hid hz4
      have HSP := Lib.hid hsp
      have HAdd := Lib.hid hadd
      have HLe := Lib.hid hlen
      have m4 := HSP.out xp _ _ HI.out.1.mach (by decide) (by decide)
      clear hz4 hsp hadd hlen c0 c1 c2 c3 c4 c5
      obtain ⟨⟨c0, c1, c2, c3, c4, c5⟩, -, -, -, -⟩ := HA.out _ HZ4.out.below
      have x1 : w4.cell? ⟨xp, 1, none⟩ = some mv := by rw [m4.cell]; rfl
      have x2 := m4.free 1
      have hxl := m4.lt
      have hbl : b < w4.heap.size := cell_lt c0
      have HM4 := Lib.hid m4
      clear m4
      have HR : Hid (∀ v, Kept No w4 v → Calls Try.prog 14 #[mv, .agg #[.int .i64 d.x.z.b, .int .i64 d.x.z.d, .int .i64 d.x.z.r, .int .i64 d.x.z.e, d.x.p.v, d.x.q.v]] v fun e w' => ∃ v' ok M', e = .returned (.tuple #[v', .bool ok]) ∧ SRow RZT 6 w' v' M'.length (zcs M') ∧ AddedR M d.x M' ∧ Kept No v w') := fun v kv => by
        have hbv : Below w.heap.size w v := (HZ4.out.on kv.none).below
        have hrow : SRow RZT 6 v mv M.length (zcs M) := by
          have h0 := HI.out.1.both.row
          refine ⟨?_, h0.len, h0.one⟩
          rcases h0.is with h1 | ⟨b', cap', rest', e', hr', h2⟩
          · exact .inl h1
          · exact .inr ⟨b', cap', rest', e', (HSP.out b' _ _ hr' (by decide) (by decide)).keep kv (fun h => h), h2⟩
        exact radd_one d.x mv M v ⟨hrow, fun x hx => ⟨(HI.out.1.both.ints x hx).1.on hbv, (HI.out.1.both.ints x hx).2.on hbv⟩⟩ HI.out.1.both.good (by have := HI.out.1.both.len; have := HI.out.2.2; omega) (HPQ.out.1.on hbv) (HPQ.out.2.on hbv) (by have := HSm.out.2.1; omega) (by have := HSm.out.2.2.1; omega)
      go_wp2_with fail
      go_region_with (first
        | (go_at_call 15; refine (as6_any d.x _).mono ?_; rintro e5 w5 ⟨rfl, k5⟩;
           have j5 : Kept No w4 w5 := (by first | exact k5 | exact ((Kept.refl _ _).drew).trans k5);
           have y1 : w5.cell? ⟨xp, 1, none⟩ = some mv := (j5.cell (p := ⟨xp, 1, none⟩) hxl (fun h => h)).trans x1;
           have J5 := Lib.hid j5; clear k5 j5)
        | (go_at_call 14; refine (HR.out _ (by first | exact J5.out | exact J5.out.drew)).mono ?_; rintro e6 w6 ⟨v6, ok6, M', rfl, hr6, ha6, k6⟩; obtain ⟨a6, cc6, rfl, -, -⟩ := hr6.shape;
           have j6 : Kept No w4 w6 := (by first | exact J5.out.trans k6 | exact J5.out.drew.trans k6);
           have z1 : w6.cell? ⟨xp, 1, none⟩ = some mv := (j6.cell (p := ⟨xp, 1, none⟩) hxl (fun h => h)).trans x1;
           have z2 := (HM4.out.keep j6 (fun h => h)).free 1;
           have J6 := Lib.hid j6; have HR6 := Lib.hid hr6; have HA6 := Lib.hid ha6; clear k6 j6 hr6 ha6))
      all_goals
        have dz : Duo w (w6.setCell ⟨xp, 1, none⟩ (.slice a6 M'.length cc6)) mp g zp mb xp xb L' M' (.slice a6 M'.length cc6) ((k + 1) * 200) l := by
          have q := HI.out.1.zone HSP.out HZ4.out J6.out HR6.out (fun y hy => by
            rcases addedR_mem HA6.out hy with h1 | rfl
            · exact HI.out.1.both.ints y h1
            · exact HPQ.out) (added_same HI.out.1.both.same HAdd.out HA6.out)
          have e : k * 200 + 200 = (k + 1) * 200 := by omega
          rw [e] at q
          exact q
        have DZ := Lib.hid dz
        clear dz z1 z2 x1 x2 y1 c0 c1 c2 c3 c4 c5 hxl hbl
        generalize w6.setCell ⟨xp, 1, none⟩ (.slice a6 M'.length cc6) = w7 at *
        clear J5 J6 HR6 HA6
        generalize hmv : Value.slice a6 M'.length cc6 = mv' at *
        clear hmv
        go_wp2_with fail
        go_loopw [10] (fun i wx => InWords w wx mp g zp mb xp xb ((k + 1) * 200) L' M' mv' d l i) (fun i _ => d.W.length - (intOf i).toNat)
        case atStart => exact ⟨0, Nat.zero_le _, rfl, DZ.out⟩
        case round =>
          clear DZ
          obtain ⟨j, hj, rfl, hi⟩ := hrel
          have HJ := Lib.hid hi
          clear hi
          obtain ⟨⟨c0, c1, c2, c3, c4, c5⟩, c6, -, -, hu⟩ := HA.out _ HJ.out.both.zoo.below
          have hwl := hu.len
          have hwc := hu.cap
          simp only [maxLen] at hwc
          have hsm := HSm.out
          unfold smallB at hsm
          obtain ⟨sm1, -, -, sm4, sm5⟩ := hsm
          by_cases hjl : j < d.W.length
          · obtain ⟨x, hx⟩ : ∃ x, d.W[j]? = some x := ⟨_, List.getElem?_eq_getElem hjl⟩
            have hxl := hu.lt x (List.mem_of_getElem? hx)
            have hwx : ∀ v, U32At v d.ws d.W → ∃ wb wo, d.ws.v = .slice (some ⟨wb, wo, none⟩) d.ws.n d.ws.cap ∧ v.cell? ⟨wb, wo + j, none⟩ = some (.int .u32 (x : Nat)) := fun v h => by
              rcases h.at_ with h0 | ⟨wb, wo, hwa, _, hc⟩
              · have := h.len
                omega
              · exact ⟨wb, wo, by rw [Sl.v, hwa], hc j x hx⟩
            obtain ⟨wb, wo, hv, cw⟩ := hwx _ hu
            rw [hv] at c6
            have HWX : Hid (∀ v, Below w.heap.size w v → v.cell? ⟨b, off + k * 7, none⟩ = some (.int .i64 d.x.z.b) ∧ v.cell? ⟨b, off + k * 7 + 6, none⟩ = some (.slice (some ⟨wb, wo, none⟩) d.ws.n d.ws.cap) ∧ v.cell? ⟨wb, wo + j, none⟩ = some (.int .u32 (x : Nat))) := fun v hbv => by
              obtain ⟨q1, q2, -, -, q3⟩ := HA.out v hbv
              obtain ⟨wb', wo', hv', cw'⟩ := hwx v q3
              rw [hv] at hv' q2
              cases hv'
              exact ⟨q1.c0, q2, cw'⟩
            have hgd : d.W.getD j 0 = x := by simp [List.getD, hx]
            have i1 : (j : Int) < (d.ws.n : Int) := by omega
            have i2 : (0 : Int) ≤ (j : Int) := by omega
            have i3 : (j : Int) ≤ 200 := by omega
            have HXL := Lib.hid hxl
            have HGd := Lib.hid hgd
            clear hwx hv hx hgd hu c1 c2 c3 c4 c5 hxl
            generalize d.ws.n = wn at *
            generalize d.ws.cap = wc at *
            by_cases hok : 0 ≤ d.x.z.b + 4 * (j : Int) ∧ d.x.z.b + 4 * (j : Int) ≤ 2044 ∧ (d.x.z.b + 4 * (j : Int)) % 4 = 0
            · obtain ⟨q, hq⟩ : ∃ q : Nat, d.x.z.b + 4 * (j : Int) = (q : Int) := ⟨(d.x.z.b + 4 * (j : Int)).toNat, by omega⟩
              have e4 : ((q : Int) % 4 == 0) = true := by simp; omega
              have hq2 : (q : Int) ≤ 2044 := by omega
              have hlj := HJ.out.len
              have HLj := Lib.hid hlj
              have HNext : Hid (laid d.x.z.b d.W l (j + 1) = splice (laid d.x.z.b d.W l j) q (bytes4 x)) := by
                show _ = _
                rw [laid, if_pos hok, HGd.out, hq]
                rfl
              have HQ4 : Hid (q % 4 = 0) := by show _ = _; omega
              have HS := Lib.hid (memSetWord_yes mp g (laid d.x.z.b d.W l j) q x wr HJ.out.mem HXL.out HQ4.out (by omega))
              clear hok hlj
              go_wp2_with fail
              refine HS.out.mono ?_
              rintro e w8 ⟨rfl, hm8, k8⟩
              have HM8 := Lib.hid hm8
              have K8 := Lib.hid k8
              obtain ⟨b8, m8, y8⟩ := HJ.out.setG k8 hm8
              clear c0 c6 cw hm8 k8
              obtain ⟨c0, c6, cw⟩ := HWX.out _ b8.zoo.below
              have HS2 := Lib.hid (machSet_any xp xb 2048 q x mv' (laid d.x.z.b d.W l j) w8 m8 y8 HLj.out (by omega) (by omega) HXL.out)
              clear b8 m8 y8
              go_wp2_with fail
              refine HS2.out.mono ?_
              rintro e w9 ⟨rfl, hb9, k9⟩
              have D9 := Lib.hid (HJ.out.word K8.out HM8.out k9 hb9 (by rw [length_splice _ _ _ (by rw [HLj.out]; simp [bytes4]; omega)]; exact HLj.out))
              clear hb9 k9
              go_wp2_with fail
              go_roundw
              case rel => exact ⟨j + 1, by omega, by go_num, by rw [HNext.out]; exact D9.out⟩
              case measure => simp [intOf]; omega
            · have HNext : Hid (laid d.x.z.b d.W l (j + 1) = laid d.x.z.b d.W l j) := by
                show _ = _
                rw [laid, if_neg hok]
              by_cases h1 : 0 ≤ d.x.z.b + 4 * (j : Int)
              · obtain ⟨q, hq⟩ : ∃ q : Nat, d.x.z.b + 4 * (j : Int) = (q : Int) := ⟨(d.x.z.b + 4 * (j : Int)).toNat, by omega⟩
                by_cases h2 : (q : Int) ≤ 2044
                · have e4 : ((q : Int) % 4 == 0) = false := by simp; omega
                  clear hok h1
                  go_wp2_with fail
                  go_roundw
                  case rel => exact ⟨j + 1, by omega, by go_num, by rw [HNext.out]; exact HJ.out⟩
                  case measure => simp [intOf]; omega
                · have h3 : ¬ (q : Int) ≤ 2044 := h2
                  clear hok h1
                  go_wp2_with fail
                  go_roundw
                  case rel => exact ⟨j + 1, by omega, by go_num, by rw [HNext.out]; exact HJ.out⟩
                  case measure => simp [intOf]; omega
              · clear hok
                go_wp2_with fail
                go_roundw
                case rel => exact ⟨j + 1, by omega, by go_num, by rw [HNext.out]; exact HJ.out⟩
                case measure => simp [intOf]; omega
          · obtain rfl : j = d.W.length := by omega
            have i1 : ¬ (d.W.length : Int) < (d.ws.n : Int) := by omega
            clear c0 c1 c2 c3 c4 c5 hu
            have HEnd := Lib.hid hjl
            rw [show d.ws.v = .slice d.ws.a d.ws.n d.ws.cap from rfl] at c6
            generalize d.ws.n = wn at *
            generalize d.ws.cap = wc at *
            generalize d.ws.a = wa at *
            have RES : Hid (InBegun w wr mp g zp mb xp xb n B (.int .i64 ((k + 1 : Nat) : Int))) :=
              ⟨k + 1, by omega, rfl, L', M', mv', _, HJ.out, ⟨L, l, d, HI.out.2.1, HD.out, HAdd.out, rfl⟩, by have := HLe.out; have := HI.out.2.2; omega⟩
            go_wp2_with fail
            go_roundw
            case rel => exact RES.out
            case measure => simp [intOf]; omega
    · obtain rfl : k = n := by omega
      have e5 : ¬ (k : Int) < (k : Int) := by omega
      go_wp2_with fail
      go_ret3
      exact ⟨mp, g, zp, mb, xp, xb, L, M, mv, l, rfl, ⟨HI.out.1.both.more (by omega), HI.out.1.mem, HI.out.1.mach, HI.out.1.bytes, HI.out.1.len, HI.out.1.low, HI.out.1.apart⟩, HI.out.2.1, HI.out.2.2⟩
end Go.Proofs.Ytlnjcaicagcinaa
