/-
  The document's Link (layer 17). Conditions: at most 1000 words, at most 1000 fixes, from and targets at most 1000000 from 0.
-/
import Derived.Test.YtjdahhckofjjhaaReM
import Derived.Test.YtjdahhckofjjhaaInsF
import Derived.Test.YtjdahhckofjjhaaInsP
import Derived.Test.YtjdahhckofjjhaaInsC
import Derived.Test.YtjdahhckofjjhaaGrow
import Derived.Test.YtjdahhckofjjhaaObjK
import Derived.Deep.DeepCutAuto
import Derived.Deep.RegionHeld3
namespace Go.Proofs.Ytjdahhckofjjhaa
open Go.ChangeShapes Go.WideShapes Go.ChangeAt Go.RowKit

abbrev FxT : TypeId := 28
abbrev IsT : TypeId := 39
abbrev WdT : TypeId := 36
theorem size_fx : (Try.prog.info? FxT).map (·.size) = some 2 := by kernel_rfl
theorem size_it : (Try.prog.info? IsT).map (·.size) = some 4 := by kernel_rfl
theorem info_wd : (Try.prog.info? WdT).map (fun i => (i.zero, i.size, i.bytes)) = some (some (.int .u32 0), 1, 4) := by kernel_rfl
theorem wordRow_len (x : Nat) : (wordRow x).length = 1 := rfl
theorem wordRow_one (x : Nat) : Ones (wordRow x) := by intro u hu; simp only [wordRow, List.mem_singleton] at hu; subst hu; rfl
theorem rows_words (cur : List Nat) : rows wordRow cur = cur.map fun x => Value.int .u32 ((x : Nat) : Int) := by
  induction cur with
  | nil => rfl
  | cons x cur ih => rw [rows_cons, ih]; rfl
theorem box_ins17 (wr : World) (o a b n : Int) :
    (Instr.storeAt IsT (.pointer (some ⟨wr.heap.size, 0, none⟩)) (.agg #[.int .i64 o, .int .i64 a, .int .i64 b, .int .i64 n])).run Try.prog (wr.alloc (.cells #[.int .i64 0, .int .i64 0, .int .i64 0, .int .i64 0] IsT)) = .ok () (wr.alloc (.cells #[.int .i64 o, .int .i64 a, .int .i64 b, .int .i64 n] IsT)) :=
  box_el wr IsT 4 [.int .i64 0, .int .i64 0, .int .i64 0, .int .i64 0] [.int .i64 o, .int .i64 a, .int .i64 b, .int .i64 n] rfl rfl (by intro u hu; simp only [List.mem_cons, List.not_mem_nil, or_false] at hu; rcases hu with rfl | rfl | rfl | rfl <;> rfl) size_it
/- while code is linked: its own row -/
structure Lk (w wr : World) (b cap n : Nat) (cur : List Nat) : Prop where
  row : SRow WdT 1 wr (.slice (some ⟨b, 0, none⟩) n cap) n (rows wordRow cur)
  len : cur.length = n
  fit : ∀ x ∈ cur, x < 4294967296
  hB : w.heap.size ≤ b
  below : Below w.heap.size w wr
theorem Lk.on {w wr w' : World} {b cap n : Nat} {cur : List Nat} (h : Lk w wr b cap n cur) (hb : Below wr.heap.size wr w') : Lk w w' b cap n cur :=
  ⟨h.row.keep (Kept.of_below (S := fun _ => False) hb) (fun _ _ e => e), h.len, h.fit, h.hB, below_on h.below hb h.below.size⟩
theorem Lk.cell {w wr : World} {b cap n k x : Nat} {cur : List Nat} (h : Lk w wr b cap n cur) (hx : cur[k]? = some x) : wr.cell? ⟨b, k, none⟩ = some (.int .u32 ((x : Nat) : Int)) := by
  have hk := (List.getElem?_eq_some_iff.1 hx).1
  obtain ⟨b', cap', e, _, _, _, hc⟩ := h.row.cell (by have := h.len; omega)
  obtain ⟨rfl, rfl⟩ : b' = b ∧ cap' = cap := by cases e; exact ⟨rfl, rfl⟩
  rw [hc k (by have := h.len; omega), rows_words]
  simp [hx]
theorem Lk.row_at {w wr : World} {b cap n : Nat} {cur : List Nat} (h : Lk w wr b cap n cur) : ∃ rest, RowAt wr b WdT (rows wordRow cur ++ rest) := by
  rcases h.row.is with ⟨e, _⟩ | ⟨b', cap', rest, e, hr, _⟩
  · cases e
  · obtain ⟨rfl, rfl⟩ : b' = b ∧ cap' = cap := by cases e; exact ⟨rfl, rfl⟩
    exact ⟨rest, hr⟩
theorem Lk.free {w wr : World} {b cap n : Nat} {cur : List Nat} (h : Lk w wr b cap n cur) (k : Nat) : wr.frozen? ⟨b, k, none⟩ = false := by
  obtain ⟨rest, hr⟩ := h.row_at
  exact hr.free k
theorem Lk.lt {w wr : World} {b cap n : Nat} {cur : List Nat} (h : Lk w wr b cap n cur) : b < wr.heap.size := by
  obtain ⟨rest, hr⟩ := h.row_at
  exact hr.lt
theorem Lk.set {w wr : World} {b cap n k : Nat} {cur : List Nat} (h : Lk w wr b cap n cur) (hk : k < n) {y : Nat} (hy : y < 4294967296) : Lk w (wr.setCell ⟨b, k, none⟩ (.int .u32 ((y : Nat) : Int))) b cap n (cur.set k y) := by
  refine ⟨?_, by rw [List.length_set]; exact h.len, fun x hx => ?_, h.hB, (kept_set wr b k _).below h.below h.below.size fun j _ e => by have := h.hB; omega⟩
  · have := h.row.set1 hk (.int .u32 ((y : Nat) : Int)) rfl
    rw [rows_words] at this ⊢
    rw [List.map_set]
    exact this
  · rcases List.mem_or_eq_of_mem_set hx with e | e
    · exact h.fit x e
    · omega
/- an answer of Link -/
def LinkTold (yes no : Value) (w : World) (ans : Option (List Nat)) (e : Ending) (w' : World) : Prop :=
  match ans with
  | some r => (∃ v, e = .returned (.tuple #[v, yes]) ∧ ElsAt 1 wordRow w' v r ∧ ∀ x ∈ r, x < 4294967296) ∧ Below w.heap.size w w'
  | none => e = .returned (.tuple #[.slice none 0 0, no]) ∧ Below w.heap.size w w'
theorem LinkTold.yes {yes no : Value} {w w' : World} {ans : Option (List Nat)} {r : List Nat} {b cap n : Nat} (h : Lk w w' b cap n r) (ha : ans = some r) : LinkTold yes no w ans (.returned (.tuple #[.slice (some ⟨b, 0, none⟩) n cap, yes])) w' := by
  subst ha
  refine ⟨⟨_, rfl, ?_, h.fit⟩, h.below⟩
  have := h.row
  rw [← h.len] at this ⊢
  exact this.els wordRow_len
theorem LinkTold.no {yes no : Value} {w w' : World} {ans : Option (List Nat)} (h : Below w.heap.size w w') (ha : ans = none) : LinkTold yes no w ans (.returned (.tuple #[.slice none 0 0, no])) w' := by
  subst ha
  exact ⟨rfl, h⟩
theorem newW_lt (x : Nat) (n : Int) : newW x n < 4294967296 := by
  exact insN_lt _ _ _ _ (getN_lt x 26 6) (getN_lt x 22 4) (getN_lt x 18 4) (lowN_lt n)
theorem may_range {o a b n : Int} (h : MayP o a b n) : -131072 ≤ n ∧ n ≤ 131071 := by
  have := h.2.2.2
  unfold isNumP at this
  omega
set_option maxRecDepth 100000 in
set_option maxHeartbeats 8000000 in
theorem rlink_any (v u : Value) (code : List Nat) (from_ : Int) (fixes : List (Int × Int)) (w : World) (h : ElsAt 1 wordRow w v code) (hf : ∀ x ∈ code, x < 4294967296) (g : ElsAt 2 fixRow w u fixes) (hn : code.length ≤ 1000) (hm : fixes.length ≤ 1000) (f1 : -1000000 ≤ from_) (f2 : from_ ≤ 1000000) (ht : ∀ (i : Nat) (x : Int × Int), fixes[i]? = some x → -1000000 ≤ x.2 ∧ x.2 ≤ 1000000) :
    Calls Try.prog 7 #[v, .int .i64 from_, u] w fun e w' => LinkTold (.bool true) (.bool false) w (linkV from_ code fixes) e w' := by
  have HC := Lib.hid g
  have HT := Lib.hid ht
  have HFIT := Lib.hid hf
  have hb0 : Below w.heap.size w (w.alloc (.cells #[] WdT)) := (Below.refl _ _).alloc (Nat.le_refl _) _
  obtain ⟨v1, w1, q0, q1, q2, q3⟩ := append_els (T := 22) Try.underlying22 info_wd rfl (by decide) wordRow_len wordRow_one (by decide) (SRow.empty WdT 1 wordRow w) (h.on hb0) (by simp) (by simp; omega)
  rw [List.nil_append] at q1
  obtain ⟨n, hnn⟩ : ∃ n, n = code.length := ⟨_, rfl⟩
  have HN := Lib.hid hnn
  obtain ⟨b, cap, rfl⟩ : ∃ b cap, v1 = .slice (some ⟨b, 0, none⟩) n cap := by
    rcases q1.is with ⟨e, _⟩ | ⟨b, cap, _, e, _⟩
    · exact absurd e q3
    · exact ⟨b, cap, by rw [hnn]; exact e⟩
  have HLK0 : Hid (Lk w w1 b cap n code) := by
    refine ⟨by rw [hnn] at q1 ⊢; exact q1, hnn.symm, hf, ?_, q2.1.below hb0 hb0.size fun j _ hj => by have e : j = w.heap.size := hj; omega⟩
    rcases q2.2 b rfl with e | e
    · have e : b = w.heap.size := e
      omega
    · exact Nat.le_trans hb0.size e
  obtain ⟨a1, c1, hv1, _⟩ := h.shape
  subst hv1
  have HR1 := Lib.hid q0
  obtain ⟨a2, c2, hv2, _⟩ := g.shape
  obtain ⟨nl, hnl⟩ : ∃ nl, nl = fixes.length := ⟨_, rfl⟩
  rw [← hnl] at hv2 hm
  have HNL := Lib.hid hnl
  subst hv2
  obtain ⟨ans, hans⟩ : ∃ ans, ans = linkV from_ code fixes := ⟨_, rfl⟩
  have HG0 : Hid (linkV from_ code (fixes.drop 0) = ans) := hans.symm
  rw [← hans]
  have n1000 : n ≤ 1000 := by omega
  clear h hf g ht hb0 q0 q1 q2 q3 hnn hnl hans hn
  go_enter Try.func7, Try.ntmps7
  go_wp2_with (at_builtin; refine Lib.wpList_append_run _ rfl _ _ _ _ rfl _ _ rfl rfl _ _ HR1.out ?_)
  clear HR1
  go_loopw [9] (fun i wr => ∃ (j : Nat) (cur : List Nat), j ≤ nl ∧ i = .int .i64 (j : Nat) ∧ Lk w wr b cap n cur ∧ linkV from_ cur (fixes.drop j) = ans) (fun i _ => nl - (intOf i).toNat)
  case atStart => exact ⟨0, code, Nat.zero_le _, rfl, HLK0.out, HG0.out⟩
  case round =>
    clear HLK0 HG0
    obtain ⟨j, cur, hj, rfl, hLK, hG⟩ := hrel
    have HLKR := Lib.hid hLK
    have HGR := Lib.hid hG
    clear hLK hG
    by_cases hlt : j < nl
    · obtain ⟨f, hx⟩ : ∃ f, fixes[j]? = some f := ⟨_, List.getElem?_eq_getElem (by have := HNL.out; omega)⟩
      have HD' : fixes.drop j = f :: fixes.drop (j + 1) := by
        have hl := (List.getElem?_eq_some_iff.1 hx).1
        have := List.drop_eq_getElem_cons hl
        rw [(List.getElem?_eq_some_iff.1 hx).2] at this
        exact this
      have htg := HT.out j f hx
      obtain ⟨at_, tg⟩ := f
      obtain ⟨bf, off, cap3, e0, hb, p0, p1⟩ := HC.out.cell2 hx (c0 := .int .i64 at_) (c1 := .int .i64 tg) rfl
      rw [← HNL.out] at e0
      have ea : a2 = some ⟨bf, off, none⟩ := by cases e0; rfl
      subst ea
      have u0 := (HLKR.out.below.cell (p := ⟨bf, off + j * 2, none⟩) hb).trans p0
      have u1 := (HLKR.out.below.cell (p := ⟨bf, off + j * 2 + 1, none⟩) hb).trans p1
      have i1 : (j : Int) < (nl : Int) := by omega
      have i2 : (0 : Int) ≤ (j : Int) := by omega
      have HJ : Hid (j < nl) := hlt
      have t1 : -1000000 ≤ tg := htg.1
      have t2 : tg ≤ 1000000 := htg.2
      have HG : Hid (linkV from_ cur ((at_, tg) :: fixes.drop (j + 1)) = ans) := by rw [← HD']; exact HGR.out
      have RUN := Lib.hid (box_el wr FxT 2 [.int .i64 0, .int .i64 0] [.int .i64 at_, .int .i64 tg] rfl rfl (fixRow_one (at_, tg)) size_fx)
      have hbel : Below wr.heap.size wr (wr.alloc (.cells #[.int .i64 at_, .int .i64 tg] FxT)) := (Below.refl _ _).alloc (Nat.le_refl _) _
      have HLK := Lib.hid (HLKR.out.on hbel)
      have HF1 : Hid (RowAt (wr.alloc (.cells #[.int .i64 at_, .int .i64 tg] FxT)) wr.heap.size FxT [.int .i64 at_, .int .i64 tg]) := RowAt.new wr FxT _
      clear e0 hb p0 p1 hx hlt hj HD' htg hbel HLKR HGR
      go_upto_region 6 with (refine wpList_store_run _ rfl _ _ _ rfl _ _ rfl rfl (by exact RUN.out) ?_)
      generalize wr.alloc (.cells #[.int .i64 at_, .int .i64 tg] FxT) = w2 at *
      generalize wr.heap.size = tb at *
      clear u0 u1 RUN
      have d0 : w2.cell? ⟨tb, 0, none⟩ = some (.int .i64 at_) := HF1.out.cell 0
      by_cases hlo : at_ < 0
      · have RES : Hid (ans = none) := HG.out.symm.trans (link_out (.inl hlo))
        as_aux_lemma =>
        go_wp2_with fail
        go_ret2
        exact LinkTold.no HLK.out.below RES.out
      by_cases hhi : (n : Int) ≤ at_
      · have RES : Hid (ans = none) := HG.out.symm.trans (link_out (.inr (by rw [HLK.out.len]; exact hhi)))
        have hhi' : decide ((n : Int) ≤ at_) = true := by simpa using hhi
        as_aux_lemma =>
        go_wp2_with fail
        go_ret2
        exact LinkTold.no HLK.out.below RES.out
      obtain ⟨k, rfl⟩ := Int.eq_ofNat_of_zero_le (show 0 ≤ at_ by omega)
      have hhi' : decide ((n : Int) ≤ (k : Int)) = false := by simpa using hhi
      have hk : k < n := by omega
      obtain ⟨x, hx⟩ : ∃ x, cur[k]? = some x := ⟨_, List.getElem?_eq_getElem (by have := HLK.out.len; omega)⟩
      have cx := HLK.out.cell hx
      have hx4 : x < 4294967296 := HLK.out.fit x (List.mem_of_getElem? hx)
      have HX := Lib.hid hx
      have HK : Hid (k < n) := hk
      have i3 : (k : Int) < (n : Int) := by omega
      have i4 : (0 : Int) ≤ (k : Int) := by omega
      have i5 : (k : Int) ≤ 1000 := by omega
      by_cases hix : InsP x
      rotate_left
      · as_aux_lemma =>
        have RES : Hid (ans = none) := HG.out.symm.trans (link_bad hx hix)
        have HGI := Lib.hid (fun w => refGetIns_no x w hx4 hix)
        clear hx hix hx4 hk hhi hlo
        go_wp2_with fail
        refine (HGI.out _).mono ?_
        rintro e w3 ⟨rfl, hb3⟩
        have RUN := Lib.hid (box_ins17 w3 0 0 0 0)
        have HB3 : Hid (Below w.heap.size w (w3.alloc (.cells #[.int .i64 0, .int .i64 0, .int .i64 0, .int .i64 0] IsT))) := by
          have h1 := below_on HLK.out.below hb3 HLK.out.below.size
          exact below_on h1 ((Below.refl _ _).alloc (Nat.le_refl _) _) h1.size
        clear hb3 HLK HGI
        go_wp2_with (refine wpList_store_run _ rfl _ _ _ rfl _ _ rfl rfl (by exact RUN.out) ?_)
        go_ret2
        exact LinkTold.no HB3.out RES.out
      have HIX := Lib.hid hix
      have HGI := Lib.hid (fun w => refGetIns_yes x w hx4 hix)
      clear hx hix hx4 hk hhi hlo
      go_wp2_with fail
      refine (HGI.out _).mono ?_
      rintro e w3 ⟨rfl, hb3⟩
      have RUN := Lib.hid (box_ins17 w3 (getN x 26 6 : Nat) (getN x 22 4 : Nat) (getN x 18 4 : Nat) (signI (getN x 0 18) 18))
      have hbel : Below w3.heap.size w3 (w3.alloc (.cells #[.int .i64 (getN x 26 6 : Nat), .int .i64 (getN x 22 4 : Nat), .int .i64 (getN x 18 4 : Nat), .int .i64 (signI (getN x 0 18) 18)] IsT)) := (Below.refl _ _).alloc (Nat.le_refl _) _
      have HLK4 := Lib.hid ((HLK.out.on hb3).on hbel)
      have HF4 := Lib.hid ((HF1.out.keep (Kept.of_below (S := fun _ => False) hb3) (fun e => e)).keep (Kept.of_below (S := fun _ => False) hbel) (fun e => e))
      have HI4 : Hid (RowAt (w3.alloc (.cells #[.int .i64 (getN x 26 6 : Nat), .int .i64 (getN x 22 4 : Nat), .int .i64 (getN x 18 4 : Nat), .int .i64 (signI (getN x 0 18) 18)] IsT)) w3.heap.size IsT [.int .i64 (getN x 26 6 : Nat), .int .i64 (getN x 22 4 : Nat), .int .i64 (getN x 18 4 : Nat), .int .i64 (signI (getN x 0 18) 18)]) := RowAt.new w3 IsT _
      have HIW : Hid (w.heap.size ≤ w3.heap.size) := (HLK.out.on hb3).below.size
      clear hb3 hbel HLK HF1 HGI d0 cx hhi'
      go_upto_region 9 with (refine wpList_store_run _ rfl _ _ _ rfl _ _ rfl rfl (by exact RUN.out) ?_)
      clear RUN
      generalize w3.alloc (.cells #[.int .i64 (getN x 26 6 : Nat), .int .i64 (getN x 22 4 : Nat), .int .i64 (getN x 18 4 : Nat), .int .i64 (signI (getN x 0 18) 18)] IsT) = w4 at *
      generalize w3.heap.size = ib at *
      have HXC := Lib.hid HX.out
      have HNE : Hid (tb ≠ b ∧ ib ≠ b) := by
        obtain ⟨rest, hr⟩ := HLK4.out.row_at
        refine ⟨fun e => ?_, fun e => ?_⟩
        · subst e
          have := HF4.out.symm.trans hr
          simp at this
          exact absurd this.2 (by decide)
        · subst e
          have := HI4.out.symm.trans hr
          simp at this
          exact absurd this.2 (by decide)
      have HTI : Hid (tb ≠ ib) := by
        show tb ≠ ib
        intro e
        subst e
        have := HF4.out.symm.trans HI4.out
        simp at this
      have d0 : w4.cell? ⟨tb, 0, none⟩ = some (.int .i64 (k : Nat)) := HF4.out.cell 0
      have d1 : w4.cell? ⟨tb, 1, none⟩ = some (.int .i64 tg) := HF4.out.cell 1
      have e0 : w4.cell? ⟨ib, 0, none⟩ = some (.int .i64 (getN x 26 6 : Nat)) := HI4.out.cell 0
      have e3 : w4.cell? ⟨ib, 3, none⟩ = some (.int .i64 (signI (getN x 0 18) 18)) := HI4.out.cell 3
      have f3 : w4.frozen? ⟨ib, 3, none⟩ = false := HI4.out.free 3
      by_cases h20 : getN x 26 6 = 20
      · have g20 : (((getN x 26 6 : Nat) : Int) == 20) = true := by simp; omega
        obtain ⟨N, hN⟩ : ∃ N, N = (tg - from_ - 4 * (k : Int) - 4).tdiv 4 := ⟨_, rfl⟩
        have HREL : Hid (relN (getN x 26 6) from_ ((k : Nat) : Int) tg = some N) := by
          show relN _ _ _ _ = _
          unfold relN
          rw [if_pos h20, hN]
        have HLK5 : Hid (Lk w (w4.setCell ⟨ib, 3, none⟩ (.int .i64 N)) b cap n cur) := ⟨HLK4.out.row.keep (kept_set w4 ib 3 _) (fun i hi e => by have e1 : i = b := hi; exact HNE.out.2 (e.symm.trans e1)), HLK4.out.len, HLK4.out.fit, HLK4.out.hB, (kept_set w4 ib 3 _).below HLK4.out.below HLK4.out.below.size fun i _ e => by subst e; exact HIW.out⟩
        have HI5 : Hid (RowAt (w4.setCell ⟨ib, 3, none⟩ (.int .i64 N)) ib IsT [.int .i64 (getN x 26 6 : Nat), .int .i64 (getN x 22 4 : Nat), .int .i64 (getN x 18 4 : Nat), .int .i64 N]) := HI4.out.setCell 3 (.int .i64 N)
        have HF5 := Lib.hid (HF4.out.keep (kept_set w4 ib 3 (.int .i64 N)) HTI.out)
        go_upto_region 16 with fail
        rw [← hN]
        clear hN g20 h20 d0 d1 e0 e3 f3 HLK4 HI4 HF4
        generalize w4.setCell ⟨ib, 3, none⟩ (.int .i64 N) = w5 at *
        by_cases hmn : MayP (getN x 26 6 : Nat) (getN x 22 4 : Nat) (getN x 18 4 : Nat) N
        rotate_left
        · as_aux_lemma =>
          have RES : Hid (ans = none) := HG.out.symm.trans (link_wide HX.out HIX.out HREL.out hmn)
          have HMY := Lib.hid (fun w => refMay_no (getN x 26 6 : Nat) (getN x 22 4 : Nat) (getN x 18 4 : Nat) N w hmn)
          clear hmn
          go_wp2_with (refine load_row_on rfl _ _ rfl ib rfl IsT #[.int .i64 (getN x 26 6 : Nat), .int .i64 (getN x 22 4 : Nat), .int .i64 (getN x 18 4 : Nat), .int .i64 N] (0, 0) _ HI5.out Try.underlying39 rfl (by rw [size_it]; rfl) ?_)
          refine (HMY.out _).mono ?_
          rintro e w6 ⟨rfl, hb6⟩
          have HB6 := Lib.hid (HLK5.out.on hb6).below
          clear hb6 HLK5
          go_wp2_with fail
          go_ret2
          exact LinkTold.no HB6.out RES.out
        as_aux_lemma =>
        have HGN : Hid (linkV from_ (cur.set k (newW x N)) (fixes.drop (j + 1)) = ans) := (link_on HX.out HIX.out HREL.out hmn).symm.trans HG.out
        have HMY := Lib.hid (fun w => refMay_yes (getN x 26 6 : Nat) (getN x 22 4 : Nat) (getN x 18 4 : Nat) N w hmn)
        have HPI : Hid (∀ w : World, Calls Try.prog 8 #[.agg #[.int .i64 (getN x 26 6 : Nat), .int .i64 (getN x 22 4 : Nat), .int .i64 (getN x 18 4 : Nat), .int .i64 N]] w fun e w' => e = .returned (.int .u32 (newW x N : Nat)) ∧ Below w.heap.size w w') := fun w => by
          have hr := may_range hmn
          exact refPutIns_any _ _ _ N w (getN_lt x 26 6) (getN_lt x 22 4) (getN_lt x 18 4) hr.1 hr.2
        have HNL4 := Lib.hid (newW_lt x N)
        clear hmn HG HX HIX HREL
        generalize newW x N = y at *
        generalize ((getN x 26 6 : Nat) : Int) = po at *
        generalize ((getN x 22 4 : Nat) : Int) = pa at *
        generalize ((getN x 18 4 : Nat) : Int) = pb at *
        go_wp2_with (refine load_row_on rfl _ _ rfl ib rfl IsT #[.int .i64 po, .int .i64 pa, .int .i64 pb, .int .i64 N] (0, 0) _ HI5.out Try.underlying39 rfl (by rw [size_it]; rfl) ?_)
        refine (HMY.out _).mono ?_
        rintro e w6 ⟨rfl, hb6⟩
        have HLK6 := Lib.hid (HLK5.out.on hb6)
        have HI6 := Lib.hid (HI5.out.keep (Kept.of_below (S := fun _ => False) hb6) (fun e => e))
        have HF6 := Lib.hid (HF5.out.keep (Kept.of_below (S := fun _ => False) hb6) (fun e => e))
        clear hb6 HLK5 HI5 HF5 HMY
        go_wp2_with fail
        refine wp_region_held_drew (S := fun w' => RowAt w' tb FxT [.int .i64 (k : Nat), .int .i64 tg] ∧ RowAt w' ib IsT [.int .i64 po, .int .i64 pa, .int .i64 pb, .int .i64 N]) (by kernel_rfl) ?_ (fun hHeld => ?_)
        · exact ⟨HF6.out.drew, HI6.out.drew⟩
        refine wpAnyH_take (i := 0) (v := ?_) rfl (by kernel_rfl) (by kernel_rfl) (by kernel_rfl) (fun _ _ _ h => h) (Or.inl ⟨by rfl, ?_⟩) (by assumption) ?_
        rotate_left
        · intro w hSw
          (try dsimp only at hSw)
          go_simp
          (try with_reducible rfl)
        try simp only [Act.put, List.getElem_toArray, List.getElem_cons_zero, List.setIfInBounds_toArray, List.set_cons_zero, List.set_cons_succ]
        refine wpAnyH_take (i := 1) (v := ?_) rfl (by kernel_rfl) (by kernel_rfl) (by kernel_rfl) (fun _ _ _ h => h) (Or.inl ⟨by rfl, ?_⟩) (by assumption) ?_
        rotate_left
        · intro w hSw
          (try dsimp only at hSw)
          go_simp
          (try with_reducible rfl)
        try simp only [Act.put, List.getElem_toArray, List.getElem_cons_zero, List.getElem_cons_succ, List.setIfInBounds_toArray, List.set_cons_zero, List.set_cons_succ]
        refine wpAnyH_take (i := 2) (v := ?_) rfl (by kernel_rfl) (by kernel_rfl) (by kernel_rfl) (fun _ _ _ h => h) (Or.inl ⟨by rfl, ?_⟩) (by assumption) ?_
        rotate_left
        · intro w hSw
          have d0 := hSw.1.cell 0
          (try dsimp only at hSw)
          go_simp
          (try with_reducible rfl)
        try simp only [Act.put, List.getElem_toArray, List.getElem_cons_zero, List.getElem_cons_succ, List.setIfInBounds_toArray, List.set_cons_zero, List.set_cons_succ]
        refine wpAnyH_take (i := 3) (v := _) rfl (by kernel_rfl) (by kernel_rfl) (by kernel_rfl) (fun _ _ _ h => h) (yieldsIf_load_mid (by rfl) _ _ rfl _ _ rfl _ _ (fun w hSw => hSw.2.rangeC) (Try.underlying39) rfl (by rw [size_it]; rfl)) (by assumption) ?_
        try simp only [Act.put, List.getElem_toArray, List.getElem_cons_zero, List.getElem_cons_succ, List.setIfInBounds_toArray, List.set_cons_zero, List.set_cons_succ]
        refine wpAnyH_ready (rs := [4]) (by kernel_rfl) (by simp) ?_
        refine AllReadyH.cons rfl (fun K hK => ?_) AllReadyH.nil
        go_simp
        refine (HPI.out _).mono ?_
        rintro e w7 ⟨rfl, hb7⟩
        have HLK7 := Lib.hid ((HLK6.out.on ((Drawn.of_n w6 1).below _)).on hb7)
        have hcc := HLK7.out.cell HXC.out
        have hff := HLK7.out.free k
        first | show K _ _ | go_wp2_with fail
        refine hK.out _ _ ?_ (fun hHeld1 => ?_)
        · exact ⟨hHeld.1.keep (Kept.of_below (S := fun _ => False) hb7) (fun e => e), hHeld.2.keep (Kept.of_below (S := fun _ => False) hb7) (fun e => e)⟩
        clear hK K
        try simp only [Act.put, List.getElem_toArray, List.getElem_cons_zero, List.getElem_cons_succ, List.setIfInBounds_toArray, List.set_cons_zero, List.set_cons_succ]
        refine wpAnyH_take (i := 5) (v := ?_) rfl (by kernel_rfl) (by kernel_rfl) (by kernel_rfl) (fun _ _ _ h => h) (Or.inl ⟨by rfl, ?_⟩) (by assumption) ?_
        rotate_left
        · intro w hSw
          (try dsimp only at hSw)
          go_simp
          (try with_reducible rfl)
        try simp only [Act.put, List.getElem_toArray, List.getElem_cons_zero, List.getElem_cons_succ, List.setIfInBounds_toArray, List.set_cons_zero, List.set_cons_succ]
        refine wpAnyH_ready (rs := [6]) (by kernel_rfl) (by simp) ?_
        refine AllReadyH.cons rfl (fun K hK => ?_) AllReadyH.nil
        go_simp
        refine hK.out _ _ ?_ (fun hHeld2 => ?_)
        · exact ⟨hHeld1.1.keep (kept_set w7 b k _) HNE.out.1, hHeld1.2.keep (kept_set w7 b k _) HNE.out.2⟩
        clear hK K
        try simp only [Act.put, List.getElem_toArray, List.getElem_cons_zero, List.getElem_cons_succ, List.setIfInBounds_toArray, List.set_cons_zero, List.set_cons_succ]
        refine wpAnyH_done (by kernel_rfl) ?_ _
        have HLK8 := Lib.hid (HLK7.out.set HK.out HNL4.out)
        clear hHeld hHeld1 hHeld2 hcc hff HLK7 HLK6 HI6 HF6 HPI hb7
        go_wp2_with fail
        go_roundw
        case rel => exact ⟨j + 1, _, HJ.out, by go_num, HLK8.out, HGN.out⟩
        case measure => have := HJ.out; simp [intOf]; omega
      have g20 : (((getN x 26 6 : Nat) : Int) == 20) = false := by simp; omega
      by_cases h1 : getN x 26 6 = 1
      · have g1 : (((getN x 26 6 : Nat) : Int) == 1) = true := by simp; omega
        obtain ⟨N, hN⟩ : ∃ N, N = tg := ⟨_, rfl⟩
        have HREL : Hid (relN (getN x 26 6) from_ ((k : Nat) : Int) tg = some N) := by
          show relN _ _ _ _ = _
          unfold relN
          rw [if_neg h20, if_pos h1, hN]
        have HNT := Lib.hid hN
        clear hN
        have HLK5 : Hid (Lk w (w4.setCell ⟨ib, 3, none⟩ (.int .i64 N)) b cap n cur) := ⟨HLK4.out.row.keep (kept_set w4 ib 3 _) (fun i hi e => by have e1 : i = b := hi; exact HNE.out.2 (e.symm.trans e1)), HLK4.out.len, HLK4.out.fit, HLK4.out.hB, (kept_set w4 ib 3 _).below HLK4.out.below HLK4.out.below.size fun i _ e => by subst e; exact HIW.out⟩
        have HI5 : Hid (RowAt (w4.setCell ⟨ib, 3, none⟩ (.int .i64 N)) ib IsT [.int .i64 (getN x 26 6 : Nat), .int .i64 (getN x 22 4 : Nat), .int .i64 (getN x 18 4 : Nat), .int .i64 N]) := HI4.out.setCell 3 (.int .i64 N)
        have HF5 := Lib.hid (HF4.out.keep (kept_set w4 ib 3 (.int .i64 N)) HTI.out)
        go_upto_region 16 with fail
        rw [show w4.setCell ⟨ib, 3, none⟩ (.int .i64 tg) = w4.setCell ⟨ib, 3, none⟩ (.int .i64 N) by rw [HNT.out]]
        clear HNT g1 g20 h20 h1 d0 d1 e0 e3 f3 HLK4 HI4 HF4
        generalize w4.setCell ⟨ib, 3, none⟩ (.int .i64 N) = w5 at *
        by_cases hmn : MayP (getN x 26 6 : Nat) (getN x 22 4 : Nat) (getN x 18 4 : Nat) N
        rotate_left
        · as_aux_lemma =>
          have RES : Hid (ans = none) := HG.out.symm.trans (link_wide HX.out HIX.out HREL.out hmn)
          have HMY := Lib.hid (fun w => refMay_no (getN x 26 6 : Nat) (getN x 22 4 : Nat) (getN x 18 4 : Nat) N w hmn)
          clear hmn
          go_wp2_with (refine load_row_on rfl _ _ rfl ib rfl IsT #[.int .i64 (getN x 26 6 : Nat), .int .i64 (getN x 22 4 : Nat), .int .i64 (getN x 18 4 : Nat), .int .i64 N] (0, 0) _ HI5.out Try.underlying39 rfl (by rw [size_it]; rfl) ?_)
          refine (HMY.out _).mono ?_
          rintro e w6 ⟨rfl, hb6⟩
          have HB6 := Lib.hid (HLK5.out.on hb6).below
          clear hb6 HLK5
          go_wp2_with fail
          go_ret2
          exact LinkTold.no HB6.out RES.out
        as_aux_lemma =>
        have HGN : Hid (linkV from_ (cur.set k (newW x N)) (fixes.drop (j + 1)) = ans) := (link_on HX.out HIX.out HREL.out hmn).symm.trans HG.out
        have HMY := Lib.hid (fun w => refMay_yes (getN x 26 6 : Nat) (getN x 22 4 : Nat) (getN x 18 4 : Nat) N w hmn)
        have HPI : Hid (∀ w : World, Calls Try.prog 8 #[.agg #[.int .i64 (getN x 26 6 : Nat), .int .i64 (getN x 22 4 : Nat), .int .i64 (getN x 18 4 : Nat), .int .i64 N]] w fun e w' => e = .returned (.int .u32 (newW x N : Nat)) ∧ Below w.heap.size w w') := fun w => by
          have hr := may_range hmn
          exact refPutIns_any _ _ _ N w (getN_lt x 26 6) (getN_lt x 22 4) (getN_lt x 18 4) hr.1 hr.2
        have HNL4 := Lib.hid (newW_lt x N)
        clear hmn HG HX HIX HREL
        generalize newW x N = y at *
        generalize ((getN x 26 6 : Nat) : Int) = po at *
        generalize ((getN x 22 4 : Nat) : Int) = pa at *
        generalize ((getN x 18 4 : Nat) : Int) = pb at *
        go_wp2_with (refine load_row_on rfl _ _ rfl ib rfl IsT #[.int .i64 po, .int .i64 pa, .int .i64 pb, .int .i64 N] (0, 0) _ HI5.out Try.underlying39 rfl (by rw [size_it]; rfl) ?_)
        refine (HMY.out _).mono ?_
        rintro e w6 ⟨rfl, hb6⟩
        have HLK6 := Lib.hid (HLK5.out.on hb6)
        have HI6 := Lib.hid (HI5.out.keep (Kept.of_below (S := fun _ => False) hb6) (fun e => e))
        have HF6 := Lib.hid (HF5.out.keep (Kept.of_below (S := fun _ => False) hb6) (fun e => e))
        clear hb6 HLK5 HI5 HF5 HMY
        go_wp2_with fail
        refine wp_region_held_drew (S := fun w' => RowAt w' tb FxT [.int .i64 (k : Nat), .int .i64 tg] ∧ RowAt w' ib IsT [.int .i64 po, .int .i64 pa, .int .i64 pb, .int .i64 N]) (by kernel_rfl) ?_ (fun hHeld => ?_)
        · exact ⟨HF6.out.drew, HI6.out.drew⟩
        refine wpAnyH_take (i := 0) (v := ?_) rfl (by kernel_rfl) (by kernel_rfl) (by kernel_rfl) (fun _ _ _ h => h) (Or.inl ⟨by rfl, ?_⟩) (by assumption) ?_
        rotate_left
        · intro w hSw
          (try dsimp only at hSw)
          go_simp
          (try with_reducible rfl)
        try simp only [Act.put, List.getElem_toArray, List.getElem_cons_zero, List.setIfInBounds_toArray, List.set_cons_zero, List.set_cons_succ]
        refine wpAnyH_take (i := 1) (v := ?_) rfl (by kernel_rfl) (by kernel_rfl) (by kernel_rfl) (fun _ _ _ h => h) (Or.inl ⟨by rfl, ?_⟩) (by assumption) ?_
        rotate_left
        · intro w hSw
          (try dsimp only at hSw)
          go_simp
          (try with_reducible rfl)
        try simp only [Act.put, List.getElem_toArray, List.getElem_cons_zero, List.getElem_cons_succ, List.setIfInBounds_toArray, List.set_cons_zero, List.set_cons_succ]
        refine wpAnyH_take (i := 2) (v := ?_) rfl (by kernel_rfl) (by kernel_rfl) (by kernel_rfl) (fun _ _ _ h => h) (Or.inl ⟨by rfl, ?_⟩) (by assumption) ?_
        rotate_left
        · intro w hSw
          have d0 := hSw.1.cell 0
          (try dsimp only at hSw)
          go_simp
          (try with_reducible rfl)
        try simp only [Act.put, List.getElem_toArray, List.getElem_cons_zero, List.getElem_cons_succ, List.setIfInBounds_toArray, List.set_cons_zero, List.set_cons_succ]
        refine wpAnyH_take (i := 3) (v := _) rfl (by kernel_rfl) (by kernel_rfl) (by kernel_rfl) (fun _ _ _ h => h) (yieldsIf_load_mid (by rfl) _ _ rfl _ _ rfl _ _ (fun w hSw => hSw.2.rangeC) (Try.underlying39) rfl (by rw [size_it]; rfl)) (by assumption) ?_
        try simp only [Act.put, List.getElem_toArray, List.getElem_cons_zero, List.getElem_cons_succ, List.setIfInBounds_toArray, List.set_cons_zero, List.set_cons_succ]
        refine wpAnyH_ready (rs := [4]) (by kernel_rfl) (by simp) ?_
        refine AllReadyH.cons rfl (fun K hK => ?_) AllReadyH.nil
        go_simp
        refine (HPI.out _).mono ?_
        rintro e w7 ⟨rfl, hb7⟩
        have HLK7 := Lib.hid ((HLK6.out.on ((Drawn.of_n w6 1).below _)).on hb7)
        have hcc := HLK7.out.cell HXC.out
        have hff := HLK7.out.free k
        first | show K _ _ | go_wp2_with fail
        refine hK.out _ _ ?_ (fun hHeld1 => ?_)
        · exact ⟨hHeld.1.keep (Kept.of_below (S := fun _ => False) hb7) (fun e => e), hHeld.2.keep (Kept.of_below (S := fun _ => False) hb7) (fun e => e)⟩
        clear hK K
        try simp only [Act.put, List.getElem_toArray, List.getElem_cons_zero, List.getElem_cons_succ, List.setIfInBounds_toArray, List.set_cons_zero, List.set_cons_succ]
        refine wpAnyH_take (i := 5) (v := ?_) rfl (by kernel_rfl) (by kernel_rfl) (by kernel_rfl) (fun _ _ _ h => h) (Or.inl ⟨by rfl, ?_⟩) (by assumption) ?_
        rotate_left
        · intro w hSw
          (try dsimp only at hSw)
          go_simp
          (try with_reducible rfl)
        try simp only [Act.put, List.getElem_toArray, List.getElem_cons_zero, List.getElem_cons_succ, List.setIfInBounds_toArray, List.set_cons_zero, List.set_cons_succ]
        refine wpAnyH_ready (rs := [6]) (by kernel_rfl) (by simp) ?_
        refine AllReadyH.cons rfl (fun K hK => ?_) AllReadyH.nil
        go_simp
        refine hK.out _ _ ?_ (fun hHeld2 => ?_)
        · exact ⟨hHeld1.1.keep (kept_set w7 b k _) HNE.out.1, hHeld1.2.keep (kept_set w7 b k _) HNE.out.2⟩
        clear hK K
        try simp only [Act.put, List.getElem_toArray, List.getElem_cons_zero, List.getElem_cons_succ, List.setIfInBounds_toArray, List.set_cons_zero, List.set_cons_succ]
        refine wpAnyH_done (by kernel_rfl) ?_ _
        have HLK8 := Lib.hid (HLK7.out.set HK.out HNL4.out)
        clear hHeld hHeld1 hHeld2 hcc hff HLK7 HLK6 HI6 HF6 HPI hb7
        go_wp2_with fail
        go_roundw
        case rel => exact ⟨j + 1, _, HJ.out, by go_num, HLK8.out, HGN.out⟩
        case measure => have := HJ.out; simp [intOf]; omega
      have g1 : (((getN x 26 6 : Nat) : Int) == 1) = false := by simp; omega
      as_aux_lemma =>
      have RES : Hid (ans = none) := HG.out.symm.trans (link_other HX.out HIX.out h20 h1)
      go_wp2_with fail
      go_ret2
      exact LinkTold.no HLK4.out.below RES.out
    · have i1 : ¬ (j : Int) < (nl : Int) := by omega
      have RES : Hid (ans = some cur) := by
        have := HGR.out
        rw [List.drop_of_length_le (by have := HNL.out; omega)] at this
        exact this.symm
      clear hlt hj
      go_wp2_with fail
      go_ret2
      exact LinkTold.yes HLKR.out RES.out
end Go.Proofs.Ytjdahhckofjjhaa
