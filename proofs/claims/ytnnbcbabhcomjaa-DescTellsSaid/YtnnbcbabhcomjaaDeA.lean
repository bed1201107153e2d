/-
  The program's Line, Words, Extends (layer 16). Conditions: those that each theorem names.
-/
import Derived.Test.YtnnbcbabhcomjaaDeM
import Derived.Test.YtnnbcbabhcomjaaGrow
import Derived.Test.YtnnbcbabhcomjaaErr
import Derived.Deep.DeepCutAuto
import Derived.Lib.AppendZeros
import Derived.Laws.MakeOwn
namespace Go.Proofs.Ytnnbcbabhcomjaa
open Go.ChangeShapes Go.WideShapes Go.ChangeAt Go.RowKit

theorem intRow_len (x : Int) : (intRow x).length = 1 := rfl
theorem intRow_one (x : Int) : Ones (intRow x) := by intro u hu; simp only [intRow, List.mem_singleton] at hu; subst hu; rfl
abbrev InT : TypeId := 3
/- an append, at an operation that is wanted -/
theorem append_on {P : Program} {w : World} {ops : Array Oper} {rest : List Oper} {o : Oper} {a : Act} {Q : Exit → Act → World → Prop} (hw : Region.wanted o (yielded ops a.tmps) = true) (s x : Operand) (t tn : TypeId)
    (ho : o.op = .call { callee := .builtin .append, args := #[s, x], argTypes := #[t, tn] }) (vs vx : Value) (hs : a.eval s = vs) (hx : a.eval x = vx)
    (v' : Value) (w' : World) (hr : (Builtin.append_ #[t, tn] o.type #[vs, vx]).run P w = .ok v' w') (h : wpList P ops Q rest (a.put o.dst v') w') : wpList P ops Q (o :: rest) a w :=
  wpList_step fun _ hK => by
    rw [if_pos hw]
    exact Lib.wp_append_run w s x t tn ho vs vx hs hx v' w' hr (hK _ _ h)
theorem info_in : (Try.prog.info? InT).map (fun i => (i.zero, i.size, i.bytes)) = some (some (.int .i64 0), 1, 8) := by kernel_rfl
abbrev WdT : TypeId := 33
theorem info_wd : (Try.prog.info? WdT).map (fun i => (i.zero, i.size, i.bytes)) = some (some (.int .u32 0), 1, 4) := by kernel_rfl
theorem wordRow_len (x : Nat) : (wordRow x).length = 1 := rfl
theorem wordRow_one (x : Nat) : Ones (wordRow x) := by intro u hu; simp only [wordRow, List.mem_singleton] at hu; subst hu; rfl
theorem rows_words (cur : List Nat) : rows wordRow cur = cur.map fun x => Value.int .u32 ((x : Nat) : Int) := by
  induction cur with
  | nil => rfl
  | cons x cur ih => rw [rows_cons, ih]; rfl
/- make([]int, 0, m) -/
theorem make_line (m : Nat) (hm : m ≤ 4) (w : World) : (Instr.makeSlice 22 (.int .i64 0) (.int .i64 m)).run Try.prog w = .ok (.slice (some ⟨w.heap.size, 0, none⟩) 0 m) (w.alloc (.cells (madeCells #[.int .i64 0] m) InT)) := by
  obtain ⟨i, hi, hzz⟩ := Option.map_eq_some_iff.1 info_in
  simp only [Prod.mk.injEq] at hzz
  obtain ⟨hz, hs, hb⟩ := hzz
  have h := run_make (P := Try.prog) w 22 InT i _ Try.underlying22 hi hz .i64 .i64 0 (m : Int) (by omega) (by omega) (by rw [hb]; omega) (by omega)
  simp only [hs, Nat.mul_one, Int.toNat_zero, Int.toNat_natCast] at h
  exact h
/- append(append(make([]int, 0, n + 1), base..), at) -/
theorem line_run (wr : World) (v : Value) (base : List Int) (m : Nat) (at_ : Int) (h : ElsAt 1 intRow wr v base) (hm : base.length < m) (h4 : m ≤ 4) :
    ∃ a1 c1 w1 v2 w2, (Builtin.append_ #[22, 22] 22 #[.slice (some ⟨wr.heap.size, 0, none⟩) 0 m, v]).run Try.prog (wr.alloc (.cells (madeCells #[.int .i64 0] m) InT)) = .ok (.slice a1 base.length c1) w1 ∧
      (Builtin.append_ #[22, 22] 22 #[.slice a1 base.length c1, .slice (some ⟨w1.heap.size, 0, none⟩) 1 1]).run Try.prog (w1.alloc (.cells #[.int .i64 at_] InT)) = .ok v2 w2 ∧ ElsAt 1 intRow w2 v2 (base ++ [at_]) ∧ Below wr.heap.size wr w2 := by
  have hb0 : Below wr.heap.size wr (wr.alloc (.cells (madeCells #[.int .i64 0] m) InT)) := (Below.refl _ _).alloc (Nat.le_refl _) _
  have hr : RowAt (wr.alloc (.cells (madeCells #[.int .i64 0] m) InT)) wr.heap.size InT (madeCells #[.int .i64 0] m).toList := by
    have := RowAt.new wr InT (madeCells #[.int .i64 0] m).toList
    simpa using this
  have hs : SRow InT 1 (wr.alloc (.cells (madeCells #[.int .i64 0] m) InT)) (.slice (some ⟨wr.heap.size, 0, none⟩) 0 m) ([] : List Int).length (rows intRow ([] : List Int)) :=
    ⟨.inr ⟨_, m, (madeCells #[.int .i64 0] m).toList, rfl, hr, by simp [madeCells], Nat.zero_le _, Nat.le_trans h4 (by decide)⟩, by simp [rows], fun u hu => by cases hu⟩
  obtain ⟨v1, w1, q0, q1, q2, _⟩ := append_els (T := 22) Try.underlying22 info_in rfl (by decide) intRow_len intRow_one (by decide) hs (h.on hb0) (by simp) (by simp; omega)
  rw [List.nil_append] at q1
  obtain ⟨a1, c1, rfl, _⟩ := q1.shape
  have hb1 : Below wr.heap.size wr w1 := q2.1.below hb0 hb0.size fun j _ hj => by have e : j = wr.heap.size := hj; omega
  have hf : ∀ j, own (.slice a1 base.length c1) j → wr.heap.size ≤ j := fun j hj => by
    rcases q2.2 j hj with e | e
    · have e : j = wr.heap.size := e
      omega
    · exact Nat.le_trans hb0.size e
  obtain ⟨v2, w2, r0, r1, r2⟩ := more_el (T := 22) Try.underlying22 info_in rfl (by decide) intRow_len intRow_one q1 at_ (by omega)
  exact ⟨a1, c1, w1, v2, w2, q0, r0, r1.els intRow_len, r2.1.below hb1 hb1.size fun j _ hj => hf j hj⟩
set_option maxRecDepth 100000 in
set_option maxHeartbeats 1000000 in
theorem line_yes (v : Value) (base : List Int) (at_ : Int) (w : World) (h : ElsAt 1 intRow w v base) (hb : base.length ≤ 3) :
    Calls Try.prog 6 #[v, .int .i64 at_] w fun e w' => ∃ v', e = .returned (.tuple #[v', .nilIface]) ∧ ElsAt 1 intRow w' v' (base ++ [at_]) ∧ Below w.heap.size w w' := by
  obtain ⟨a1, c1, hv1, _⟩ := h.shape
  obtain ⟨m, hm⟩ : ∃ m, m = base.length + 1 := ⟨_, rfl⟩
  obtain ⟨p1, pc, w1, v2, w2, hr1, hr2, he, hbl⟩ := line_run w v base m at_ h (by omega) (by omega)
  obtain ⟨n, hn⟩ : ∃ n, n = base.length := ⟨_, rfl⟩
  rw [← hn] at hv1 hr1 hr2 hb hm
  subst hv1
  have HR1 := Lib.hid hr1
  have HR2 := Lib.hid hr2
  have RES : Hid (ElsAt 1 intRow w2 v2 (base ++ [at_]) ∧ Below w.heap.size w w2) := ⟨he, hbl⟩
  have hmk := fun w => make_line m (by omega) w
  have k1 : ¬ 3 < (n : Int) := by omega
  have k2 : IntKind.i64.wrap ((n : Int) + 1) = (m : Int) := (IntWalk.i64_in _ (by omega)).trans (by omega)
  clear h hr1 hr2 he hbl hn hm hb
  go_enter Try.func6, Try.ntmps6
  go_wp2_with (at_builtin; first
    | (refine append_on rfl _ _ _ _ rfl (.slice (some ⟨w.heap.size, 0, none⟩) 0 m) (.slice a1 n c1) rfl rfl _ _ HR1.out ?_)
    | (refine append_on rfl _ _ _ _ rfl (.slice p1 n pc) (.slice (some ⟨w1.heap.size, 0, none⟩) 1 1) rfl rfl _ _ HR2.out ?_))
  go_ret2
  exact ⟨_, rfl, RES.out⟩
set_option maxRecDepth 100000 in
theorem line_no (v : Value) (base : List Int) (at_ : Int) (w : World) (h : ElsAt 1 intRow w v base) (hb : 3 < base.length) :
    Calls Try.prog 6 #[v, .int .i64 at_] w fun e w' => e = .returned (.tuple #[.slice none 0 0, formV]) ∧ Below w.heap.size w w' := by
  obtain ⟨a1, c1, hv1, _⟩ := h.shape
  obtain ⟨n, hn⟩ : ∃ n, n = base.length := ⟨_, rfl⟩
  rw [← hn] at hv1 hb
  subst hv1
  have k1 : 3 < (n : Int) := by omega
  clear h hn hb
  go_enter Try.func6, Try.ntmps6
  go_wp2_with fail
  go_ret2
  exact ⟨rfl, Below.refl _ _⟩
/- a descriptor while its places are told -/
def partW (size : Int) (line : List Int) (m : Nat) : List Nat := [lowU size, if 0 < m then ancV line 0 else 0, if 1 < m then ancV line 1 else 0, if 2 < m then ancV line 2 else 0]
theorem partW_step (size : Int) (line : List Int) : ∀ m : Nat, m < 3 → (partW size line m).set (m + 1) (ancV line m) = partW size line (m + 1)
  | 0, _ => rfl
  | 1, _ => rfl
  | 2, _ => rfl
  | m + 3, h => by omega
theorem partW_at (size : Int) (line : List Int) : ∀ m : Nat, m < 3 → (partW size line m)[m + 1]? = some 0
  | 0, _ => rfl
  | 1, _ => rfl
  | 2, _ => rfl
  | m + 3, h => by omega
theorem partW_row0 (size : Int) (line : List Int) : rows wordRow (partW size line 0) = [.int .u32 (size % 4294967296), .int .u32 0, .int .u32 0, .int .u32 0] := by
  rw [← lowU_int]
  rfl
theorem partW_cell (size : Int) (line : List Int) {m : Nat} (h : m < 3) : (rows wordRow (partW size line m))[m + 1]? = some (.int .u32 0) := by
  rw [rows_words, List.getElem?_map, partW_at size line m h]
  rfl
theorem partW_set (size : Int) (line : List Int) {m : Nat} {x : Int} (h : m < 3) (hx : line[m]? = some x) (hm : m + 1 < line.length) : (rows wordRow (partW size line m)).set (m + 1) (.int .u32 (x % 4294967296)) = rows wordRow (partW size line (m + 1)) := by
  rw [← partW_step size line m h, rows_words, rows_words, List.map_set, ancV_some hx hm, lowU_int]
theorem partW_end (size : Int) (line : List Int) (k : Nat) (hk : line.length = k + 1) : partW size line k = descW size line := by
  have e : ∀ j : Nat, (if j < k then ancV line j else 0) = ancV line j := fun j => by
    split
    · rfl
    · exact (ancV_none (by omega)).symm
  unfold partW descW
  rw [e, e, e]
theorem desc_els {w : World} {b : Nat} {L : List Nat} (h : RowAt w b WdT (rows wordRow L)) (hl : L.length = 4) : ElsAt 1 wordRow w (.slice (some ⟨b, 0, none⟩) 4 4) L := by
  have hs : SRow WdT 1 w (.slice (some ⟨b, 0, none⟩) L.length 4) L.length (rows wordRow L) :=
    ⟨.inr ⟨_, 4, [], rfl, by rw [List.append_nil]; exact h, by simp [hl], by omega, by decide⟩, by rw [rows_length 1 wordRow_len], fun u hu => by obtain ⟨x, _, hx⟩ := List.mem_flatMap.1 hu; exact wordRow_one x u hx⟩
  rw [hl] at hs
  have := (hl ▸ hs : SRow WdT 1 w (.slice (some ⟨b, 0, none⟩) L.length 4) L.length (rows wordRow L)).els wordRow_len
  rw [hl] at this
  exact this
theorem make_desc (w : World) : (Instr.makeSlice 30 (.int .i64 4) (.int .i64 4)).run Try.prog w = .ok (.slice (some ⟨w.heap.size, 0, none⟩) 4 4) (w.alloc (.cells #[.int .u32 0, .int .u32 0, .int .u32 0, .int .u32 0] WdT)) := by kernel_rfl
set_option maxRecDepth 100000 in
set_option maxHeartbeats 2000000 in
theorem words_yes (size : Int) (v : Value) (line : List Int) (w : World) (h : ElsAt 1 intRow w v line) (h1 : 1 ≤ line.length) (h4 : line.length ≤ 4) :
    Calls Try.prog 8 #[.int .i64 size, v] w fun e w' => ∃ v', e = .returned (.tuple #[v', .nilIface]) ∧ ElsAt 1 wordRow w' v' (descW size line) ∧ Below w.heap.size w w' := by
  have HO := Lib.hid h
  obtain ⟨x0, hx0⟩ : ∃ x, line[0]? = some x := ⟨_, List.getElem?_eq_getElem h1⟩
  obtain ⟨b, off, cap0, hv, hlt, -⟩ := h.cell1 hx0 rfl
  obtain ⟨k, hk⟩ : ∃ k, line.length = k + 1 := ⟨line.length - 1, by omega⟩
  obtain ⟨n, hn⟩ : ∃ n, n = line.length := ⟨_, rfl⟩
  obtain ⟨a', cap, hv', hc, hm, -⟩ := h.shape
  obtain ⟨-, hcc⟩ : a' = some ⟨b, off, none⟩ ∧ cap0 = cap := by rw [hv] at hv'; cases hv'; exact ⟨rfl, rfl⟩
  subst hcc
  rw [← hn] at hv hc
  have HN := Lib.hid hn
  have HK := Lib.hid hk
  have HK3 : Hid (k ≤ 3) := by show k ≤ 3; omega
  subst hv
  have HLT := Lib.hid hlt
  have k1 : IntKind.i64.wrap ((n : Int) - 1) = (k : Int) := (IntWalk.i64_in _ (by have := HK.out; omega)).trans (by have := HK.out; omega)
  have k2 : ¬ (k : Int) < 0 := by omega
  have k3 : decide (3 < (k : Int)) = false := by have := HK.out; simp; omega
  have k4 : (k : Int) ≤ (cap0 : Int) := by have := HK.out; omega
  have k5 : (0 : Int) ≤ (k : Int) := by omega
  have hmk := make_desc
  clear h hn hk hv' hc hm hlt hx0 h1 h4
  go_enter Try.func8, Try.ntmps8
  go_wp2_with fail
  have HB : Hid (Below w.heap.size w (w.alloc (.cells #[.int .u32 (size % 4294967296), .int .u32 0, .int .u32 0, .int .u32 0] WdT))) := (Below.refl _ _).alloc (Nat.le_refl _) _
  have HR : Hid (RowAt (w.alloc (.cells #[.int .u32 (size % 4294967296), .int .u32 0, .int .u32 0, .int .u32 0] WdT)) w.heap.size WdT (rows wordRow (partW size line 0))) := by
    rw [partW_row0]
    exact RowAt.new w WdT _
  obtain ⟨wb, hwb⟩ : ∃ wb, wb = w.heap.size := ⟨_, rfl⟩
  have HWB : Hid (w.heap.size ≤ wb) := Nat.le_of_eq hwb.symm
  generalize w.alloc (.cells #[.int .u32 (size % 4294967296), .int .u32 0, .int .u32 0, .int .u32 0] WdT) = w0 at *
  rw [← hwb] at HR ⊢
  clear hwb hmk k3 k1
  go_loopw [29] (fun i wr => ∃ m : Nat, m ≤ k ∧ i = .int .i64 (m : Nat) ∧ RowAt wr wb WdT (rows wordRow (partW size line m)) ∧ Below w.heap.size w wr) (fun i _ => k - (intOf i).toNat)
  case atStart => exact ⟨0, Nat.zero_le _, rfl, HR.out, HB.out⟩
  case round =>
    clear HB HR
    obtain ⟨m, hm, rfl, hrow, hbl⟩ := hrel
    have HROW := Lib.hid hrow
    have HBL := Lib.hid hbl
    by_cases hlt : m < k
    · have HLK : Hid (m < k ∧ k ≤ 3) := ⟨hlt, HK3.out⟩
      obtain ⟨x, hx⟩ : ∃ x, line[m]? = some x := ⟨_, List.getElem?_eq_getElem (by have := HK.out; omega)⟩
      obtain ⟨b', off', cap', e0, -, u0⟩ := HO.out.cell1 hx rfl
      obtain ⟨rfl, rfl⟩ : b' = b ∧ off' = off := by cases e0; exact ⟨rfl, rfl⟩
      have u1 := (hbl.cell (p := ⟨b', off' + m, none⟩) HLT.out).trans u0
      have i1 : (m : Int) < (k : Int) := by omega
      have i0 : (0 : Int) ≤ (m : Int) := by omega
      obtain ⟨q, hq⟩ : ∃ q, q = m + 1 := ⟨_, rfl⟩
      have HQ := Lib.hid hq
      have i2 : IntKind.i64.wrap (1 + (m : Int)) = (q : Int) := (IntWalk.i64_in _ (by have := HLK.out; omega)).trans (by omega)
      have i5 : IntKind.i64.wrap ((m : Int) + 1) = (q : Int) := (IntWalk.i64_in _ (by have := HLK.out; omega)).trans (by omega)
      have i3 : (0 : Int) ≤ (q : Int) := by omega
      have i4 : (q : Int) < 4 := by have := HLK.out; omega
      have cc : wr.cell? ⟨wb, q, none⟩ = some (.int .u32 0) := by rw [hrow.cell, hq]; exact partW_cell size line (by have := HLK.out; omega)
      have ff := hrow.free q
      have HX := Lib.hid hx
      clear e0 u0 hrow hbl hm hlt hq hx
      go_wp2_with fail
      go_roundw
      case rel =>
        refine ⟨q, by have := HLK.out; have := HQ.out; omega, by have := HQ.out; go_num, ?_, (kept_set wr wb q _).below HBL.out HBL.out.size fun i _ e => by subst e; exact HWB.out⟩
        have := HROW.out.setCell q (.int .u32 (x % 4294967296))
        rw [HQ.out, partW_set size line (by have := HLK.out; omega) HX.out (by have := HK.out; have := HLK.out; omega)] at this
        rw [HQ.out]
        exact this
      case measure => have := HLK.out; have := HQ.out; simp [intOf]; omega
    · have i1 : ¬ (m : Int) < (k : Int) := by omega
      obtain rfl : m = k := by omega
      have RES : Hid (ElsAt 1 wordRow wr (.slice (some ⟨wb, 0, none⟩) 4 4) (descW size line)) := by
        rw [← partW_end size line m HK.out]
        exact desc_els hrow rfl
      clear hrow hbl hm hlt HROW
      go_wp2_with fail
      go_ret2
      exact ⟨_, rfl, RES.out, HBL.out⟩
set_option maxRecDepth 100000 in
theorem words_no (size : Int) (v : Value) (line : List Int) (w : World) (h : ElsAt 1 intRow w v line) (h1 : line.length < 1 ∨ 4 < line.length) :
    Calls Try.prog 8 #[.int .i64 size, v] w fun e w' => e = .returned (.tuple #[.slice none 0 0, formV]) ∧ Below w.heap.size w w' := by
  obtain ⟨a, cap, hv, hc, hm, -⟩ := h.shape
  obtain ⟨n, hn⟩ : ∃ n, n = line.length := ⟨_, rfl⟩
  rw [← hn] at hv h1 hc
  subst hv
  have hm' : (n : Int) ≤ 9223372036854775807 := by have : n ≤ 9223372036854775807 := Nat.le_trans hc hm; omega
  have k1 : IntKind.i64.wrap ((n : Int) - 1) = (n : Int) - 1 := IntWalk.i64_in _ (by omega)
  clear h hn hc hm
  go_enter Try.func8, Try.ntmps8
  rcases h1 with h1 | h1
  · have k2 : (n : Int) - 1 < 0 := by omega
    go_wp2_with fail
    go_ret2
    exact ⟨rfl, Below.refl _ _⟩
  · have k2 : ¬ (n : Int) - 1 < 0 := by omega
    have k3 : decide (3 < (n : Int) - 1) = true := by simp; omega
    go_wp2_with fail
    go_ret2
    exact ⟨rfl, Below.refl _ _⟩
set_option maxRecDepth 100000 in
set_option maxHeartbeats 2000000 in
theorem extends_any (v : Value) (words : List Nat) (at_ : Int) (r : Bool) (w : World) (h : ElsAt 1 wordRow w v words) (hf : ∀ x ∈ words, x < 4294967296) (ha : at_ ≤ 1000000) (hr : r = true ↔ ExtP words at_) :
    Calls Try.prog 9 #[v, .int .i64 at_] w fun e w' => e = .returned (.bool r) ∧ Below w.heap.size w w' := by
  have HO := Lib.hid h
  have HR := Lib.hid hr
  have HF := Lib.hid hf
  obtain ⟨a, cap, hv, hc, hm, -⟩ := h.shape
  obtain ⟨n, hn⟩ : ∃ n, n = words.length := ⟨_, rfl⟩
  rw [← hn] at hv hc
  have HN := Lib.hid hn
  have hsn : n ≤ 9223372036854775807 := Nat.le_trans hc hm
  have HSN := Lib.hid hsn
  subst hv
  clear h hf hr hn hm
  by_cases h1 : at_ < 1
  · as_aux_lemma =>
    have HRF : Hid (r = false) := by
      cases r with
      | false => rfl
      | true => have := (HR.out.1 rfl).1; omega
    go_enter Try.func9, Try.ntmps9
    go_wp2_with fail
    go_ret
    exact ⟨end_bool HRF.out.symm, Below.refl _ _⟩
  by_cases h0 : (n : Int) = 0
  · as_aux_lemma =>
    have HRF : Hid (r = false) := by
      cases r with
      | false => rfl
      | true =>
        obtain ⟨_, i, x, _, hx, _⟩ := HR.out.1 rfl
        have := (List.getElem?_eq_some_iff.1 hx).1
        have := HN.out
        omega
    have h0' : decide ((n : Int) = 0) = true := by simpa using h0
    go_enter Try.func9, Try.ntmps9
    go_wp2_with fail
    go_ret
    exact ⟨end_bool HRF.out.symm, Below.refl _ _⟩
  have h0' : decide ((n : Int) = 0) = false := by simpa using h0
  have h1' : 1 ≤ at_ := by omega
  have k1 : (1 : Int) ≤ (n : Int) := by omega
  obtain ⟨j, hj⟩ : ∃ j, n = j + 1 := ⟨n - 1, by omega⟩
  have HJ : Hid (words.length = j + 1) := HN.out.symm.trans hj
  have k6 : n - 1 = j := by omega
  obtain ⟨x0, hx0⟩ : ∃ x, words[0]? = some x := ⟨_, List.getElem?_eq_getElem (by have := HJ.out; omega)⟩
  obtain ⟨b, off, cap0, e0, -, -⟩ := HO.out.cell1 hx0 rfl
  have ea : a = some ⟨b, off, none⟩ := by cases e0; rfl
  subst ea
  have HSJ : Hid (j ≤ 9223372036854775807) := by show j ≤ _; omega
  clear e0 hx0 hj
  have sj : (j : Int) ≤ 9223372036854775807 := by have := HSJ.out; omega
  by_cases hc1 : cap = 1
  · as_aux_lemma =>
    have HJ0 : Hid (j = 0) := by show j = 0; omega
    go_enter Try.func9, Try.ntmps9
    go_wp2_with fail
    clear k6
    go_loopw [17] (fun i wr => w = wr ∧ ∃ m : Nat, m ≤ j ∧ i = .int .i64 (m : Nat) ∧ ∀ (i x : Nat), i < m → words[i + 1]? = some x → (x : Int) ≠ at_) (fun i _ => j - (intOf i).toNat)
    case atStart => exact ⟨rfl, 0, Nat.zero_le _, rfl, fun i x hi => by omega⟩
    case round =>
      obtain ⟨rfl, m, hm, rfl, hall⟩ := hrel
      have HALL := Lib.hid hall
      clear hall
      have hlt : ¬ m < j := by have := HJ0.out; omega
      have i1 : ¬ (m : Int) < (j : Int) := by omega
      have HRF : Hid (r = false) := by
        cases r with
        | false => rfl
        | true =>
          obtain ⟨_, i, x, hi, hx, he⟩ := HR.out.1 rfl
          have hl := (List.getElem?_eq_some_iff.1 hx).1
          obtain ⟨i', rfl⟩ : ∃ i', i = i' + 1 := ⟨i - 1, by omega⟩
          exact absurd he (HALL.out i' x (by have := HJ.out; omega) hx)
      clear hm hlt
      go_wp2_with fail
      go_ret
      exact ⟨end_bool HRF.out.symm, Below.refl _ _⟩
  · as_aux_lemma =>
    go_enter Try.func9, Try.ntmps9
    go_wp2_with fail
    clear k6
    go_loopw [17] (fun i wr => w = wr ∧ ∃ m : Nat, m ≤ j ∧ i = .int .i64 (m : Nat) ∧ ∀ (i x : Nat), i < m → words[i + 1]? = some x → (x : Int) ≠ at_) (fun i _ => j - (intOf i).toNat)
    case atStart => exact ⟨rfl, 0, Nat.zero_le _, rfl, fun i x hi => by omega⟩
    case round =>
      obtain ⟨rfl, m, hm, rfl, hall⟩ := hrel
      have HALL := Lib.hid hall
      clear hall
      by_cases hlt : m < j
      · obtain ⟨x, hx⟩ : ∃ x, words[m + 1]? = some x := ⟨_, List.getElem?_eq_getElem (by have := HJ.out; omega)⟩
        have HX := Lib.hid hx
        obtain ⟨b', off', cap', e0, -, u0⟩ := HO.out.cell1 hx rfl
        obtain ⟨rfl, rfl⟩ : b' = b ∧ off' = off := by cases e0; exact ⟨rfl, rfl⟩
        have u1 : w.cell? ⟨b', off' + 1 + m, none⟩ = some (.int .u32 ((x : Nat) : Int)) := by rw [show off' + 1 + m = off' + (m + 1) by omega]; exact u0
        have i0 : (0 : Int) ≤ (m : Int) := by omega
        have i1 : (m : Int) < (j : Int) := by omega
        have HLT : Hid (m < j) := hlt
        have kx : IntKind.i64.wrap ((x : Nat) : Int) = ((x : Nat) : Int) := IntWalk.i64_in _ (by have := HF.out x (List.mem_of_getElem? hx); omega)
        clear e0 u0 hx hm hlt
        by_cases he : ((x : Nat) : Int) = at_
        · as_aux_lemma =>
          have HRT : Hid (r = true) := HR.out.2 ⟨h1', m + 1, x, by omega, HX.out, he⟩
          go_wp2_with fail
          go_ret
          exact ⟨end_bool HRT.out.symm, Below.refl _ _⟩
        · as_aux_lemma =>
          have HOK : Hid (∀ (i x : Nat), i < m + 1 → words[i + 1]? = some x → (x : Int) ≠ at_) := fun i y hi hy => by
            rcases Nat.lt_succ_iff_lt_or_eq.1 hi with h | rfl
            · exact HALL.out i y h hy
            · have e := HX.out.symm.trans hy
              cases e
              exact he
          have he' : decide (((x : Nat) : Int) = at_) = false := by simpa using he
          go_wp2_with fail
          go_roundw
          case rel => exact ⟨by trivial, m + 1, HLT.out, by go_num, HOK.out⟩
          case measure => have := HLT.out; simp [intOf]; omega
      · have i1 : ¬ (m : Int) < (j : Int) := by omega
        have HRF : Hid (r = false) := by
          cases r with
          | false => rfl
          | true =>
            obtain ⟨_, i, x, hi, hx, he⟩ := HR.out.1 rfl
            have hl := (List.getElem?_eq_some_iff.1 hx).1
            obtain ⟨i', rfl⟩ : ∃ i', i = i' + 1 := ⟨i - 1, by omega⟩
            exact absurd he (HALL.out i' x (by have := HJ.out; omega) hx)
        clear hm hlt
        go_wp2_with fail
        go_ret
        exact ⟨end_bool HRF.out.symm, Below.refl _ _⟩
end Go.Proofs.Ytnnbcbabhcomjaa
