/-
  P19.3 of the document's answer, as plain data (layer 19): imports stand ahead, each name stands once, the last one is the name's. No module is loaded. Nothing of the program.
-/
import Derived.Test.YtkkjfbpflfknpaaOrP
import Derived.Test.YtkkjfbpflfknpaaJoinW
import Derived.Deep.DeepCutAuto
import Derived.Test.YtkkjfbpflfknpaaOrI
namespace Go.Proofs.Ytkkjfbpflfknpaa
open Go.RowKit

def Ahead (out : List ObjD) (i : Nat) (o : ObjD) : Prop :=
  (∀ (j : Nat) (x : ByteArray × Nat), o.imps[j]? = some x → ∃ k p, k < i ∧ out[k]? = some p ∧ p.name = x.1 ∧ p.key = x.2) ∧ ∀ (k : Nat) (p : ObjD), k < i → out[k]? = some p → p.name ≠ o.name
def Stands (out : List ObjD) : Prop := ∀ (i : Nat) (o : ObjD), out[i]? = some o → Ahead out i o
theorem stands_nil : Stands [] := fun i o h => by simp at h
theorem stands_more {out : List ObjD} {o : ObjD} (h : Stands out) (h1 : ∀ x ∈ o.imps, ∃ p ∈ out, p.name = x.1 ∧ p.key = x.2) (h2 : ∀ p ∈ out, p.name ≠ o.name) : Stands (out ++ [o]) := by
  intro i q hq
  by_cases hi : i < out.length
  · rw [List.getElem?_append_left hi] at hq
    obtain ⟨g1, g2⟩ := h i q hq
    refine ⟨fun j x hx => ?_, fun k p hk hp => ?_⟩
    · obtain ⟨k, p, hk, hp, e⟩ := g1 j x hx
      exact ⟨k, p, hk, by rw [List.getElem?_append_left (by omega)]; exact hp, e⟩
    · rw [List.getElem?_append_left (by omega)] at hp
      exact g2 k p hk hp
  · have hl := (List.getElem?_eq_some_iff.1 hq).1
    rw [List.length_append, List.length_singleton] at hl
    obtain rfl : i = out.length := by omega
    have e : o = q := by simpa using hq
    subst e
    refine ⟨fun j x hx => ?_, fun k p hk hp => ?_⟩
    · obtain ⟨p, hp, e⟩ := h1 x (List.mem_of_getElem? hx)
      obtain ⟨k, hk⟩ := List.getElem?_of_mem hp
      have hkl := (List.getElem?_eq_some_iff.1 hk).1
      exact ⟨k, p, hkl, by rw [List.getElem?_append_left hkl]; exact hk, e⟩
    · rw [List.getElem?_append_left hk] at hp
      exact h2 p (List.mem_of_getElem? hp)
theorem keyV_some {A : List ObjD} {s : ByteArray} {k : Nat} (h : ∃ o ∈ A, o.name = s) : ∃ p ∈ A, p.name = s ∧ p.key = keyV A s k := by
  induction A generalizing k with
  | nil => obtain ⟨o, ho, _⟩ := h; cases ho
  | cons a A ih =>
    by_cases g : ∃ o ∈ A, o.name = s
    · obtain ⟨p, hp, e1, e2⟩ := ih (k := if a.name = s then a.key else k) g
      exact ⟨p, List.mem_cons_of_mem _ hp, e1, by rw [keyV]; exact e2⟩
    · obtain ⟨o, ho, e⟩ := h
      rcases List.mem_cons.1 ho with h1 | h1
      · subst h1
        refine ⟨o, List.mem_cons_self, e, ?_⟩
        rw [keyV, if_pos e]
        exact (keyV_none fun p hp hn => g ⟨p, hp, hn⟩).symm
      · exact absurd ⟨o, h1, e⟩ g

/- what a good answer does to the state -/
structure Gone (st st' : OSt) : Prop where
  out : ∃ t, st'.out = st.out ++ t
  way : ∃ t, st'.way = st.way ++ t
  not_ : ∀ y ∈ st.way, (∃ o ∈ st'.out, o.name = y) → ∃ o ∈ st.out, o.name = y
  stands : Stands st.out → Stands st'.out
theorem Gone.refl (st : OSt) : Gone st st := ⟨⟨[], by simp⟩, ⟨[], by simp⟩, fun _ _ h => h, fun h => h⟩
theorem Gone.trans {a b c : OSt} (h : Gone a b) (g : Gone b c) : Gone a c := by
  obtain ⟨t1, e1⟩ := h.out
  obtain ⟨t2, e2⟩ := g.out
  obtain ⟨u1, f1⟩ := h.way
  obtain ⟨u2, f2⟩ := g.way
  exact ⟨⟨t1 ++ t2, by rw [e2, e1, List.append_assoc]⟩, ⟨u1 ++ u2, by rw [f2, f1, List.append_assoc]⟩, fun y hy hm => h.not_ y hy (g.not_ y (by rw [f1]; exact List.mem_append_left _ hy) hm), fun hs => g.stands (h.stands hs)⟩
theorem Gone.mem {a b : OSt} (h : Gone a b) {p : ObjD} (hp : p ∈ a.out) : p ∈ b.out := by
  obtain ⟨t, e⟩ := h.out
  rw [e]
  exact List.mem_append_left _ hp
theorem imps_gone {f : OSt → ByteArray → ORes} (hf : ∀ (st : OSt) (s : ByteArray) (st' : OSt), f st s = .good st' → Gone st st' ∧ ∃ o ∈ st'.out, o.name = s) :
    ∀ (t : List (ByteArray × Nat)) (st st' : OSt), impsN f t st = .good st' → Gone st st' ∧ ∀ x ∈ t, ∃ p ∈ st'.out, p.name = x.1 ∧ p.key = x.2
  | [], st, st', he => by
    rw [impsN] at he
    cases he
    exact ⟨Gone.refl _, fun x hx => by cases hx⟩
  | x :: t, st, st', he => by
    cases hx : f st x.1 with
    | bad k => rw [imps_bad hx] at he; cases he
    | good st1 =>
      by_cases hk : keyV st1.out x.1 1 = x.2
      · rw [imps_on hx hk] at he
        obtain ⟨g1, h1⟩ := hf st x.1 st1 hx
        obtain ⟨g2, h2⟩ := imps_gone hf t st1 st' he
        refine ⟨g1.trans g2, fun y hy => ?_⟩
        rcases List.mem_cons.1 hy with e | e
        · subst e
          obtain ⟨p, hp, e1, e2⟩ := keyV_some (k := 1) h1
          exact ⟨p, g2.mem hp, e1, by rw [e2, hk]⟩
        · exact h2 y e
      · rw [imps_key hx hk] at he
        cases he
theorem res_gone {l : List (ByteArray × ObjD)} : ∀ (n : Nat) (st : OSt) (s : ByteArray) (st' : OSt), resN l [] n st s = .good st' → Gone st st' ∧ ∃ o ∈ st'.out, o.name = s := by
  have hkn : ∀ {st : OSt} {s : ByteArray}, Known [] st s → ∃ o ∈ st.out, o.name = s := fun h => h.elim (fun e => e) fun e => by cases e
  intro n
  induction n with
  | zero =>
    intro st s st' he
    by_cases hk : Known [] st s
    · rw [res_known hk] at he
      cases he
      exact ⟨Gone.refl _, hkn hk⟩
    · by_cases hw : s ∈ st.way
      · rw [res_cycle hk hw] at he
        cases he
      · rw [res_deep hk hw] at he
        cases he
  | succ n ih =>
    intro st s st' he
    by_cases hk : Known [] st s
    · rw [res_known hk] at he
      cases he
      exact ⟨Gone.refl _, hkn hk⟩
    · by_cases hw : s ∈ st.way
      · rw [res_cycle hk hw] at he
        cases he
      · cases hf : findF l s with
        | none => rw [res_none hk hw hf] at he; cases he
        | some o =>
          by_cases ho : o.name = s ∧ (refsV o).isSome = true
          · rw [res_go hk hw hf ho] at he
            cases hi : impsN (resN l [] n) o.imps ⟨st.out, st.way ++ [s]⟩ with
            | bad k => rw [hi] at he; cases he
            | good st1 =>
              rw [hi] at he
              cases he
              obtain ⟨g1, h1⟩ := imps_gone ih o.imps _ st1 hi
              obtain ⟨t, e⟩ := g1.out
              obtain ⟨u, f⟩ := g1.way
              refine ⟨⟨⟨t ++ [o], by rw [e]; simp⟩, ⟨[s] ++ u, by rw [f]; simp⟩, fun y hy hm => ?_, fun hs => ?_⟩, o, by simp, ho.1⟩
              · obtain ⟨p, hp, hpy⟩ := hm
                rcases List.mem_append.1 hp with h2 | h2
                · exact g1.not_ y (List.mem_append_left _ hy) ⟨p, h2, hpy⟩
                · rw [List.mem_singleton.1 h2, ho.1] at hpy
                  subst hpy
                  exact absurd hy hw
              · refine stands_more (g1.stands hs) h1 fun p hp hn => hk (.inl ?_)
                exact g1.not_ s (by simp) ⟨p, hp, by rw [hn, ho.1]⟩
          · rw [res_form hk hw hf ho] at he
            cases he
/- from the start -/
theorem res_stands {l : List (ByteArray × ObjD)} {s : ByteArray} {st : OSt} (h : resN l [] 9 ⟨[], []⟩ s = .good st) : Stands st.out ∧ ∃ A o, st.out = A ++ [o] ∧ o.name = s := by
  refine ⟨(res_gone 9 _ s st h).1.stands stands_nil, ?_⟩
  have hk : ¬ Known [] (⟨[], []⟩ : OSt) s := by
    rintro (⟨o, ho, _⟩ | hm)
    · cases ho
    · cases hm
  cases hf : findF l s with
  | none => rw [res_none hk (fun h => by cases h) hf] at h; cases h
  | some o =>
    by_cases ho : o.name = s ∧ (refsV o).isSome = true
    · rw [res_go hk (fun h => by cases h) hf ho] at h
      cases hi : impsN (resN l [] 8) o.imps ⟨[], [] ++ [s]⟩ with
      | bad k => rw [hi] at h; cases h
      | good st1 =>
        rw [hi] at h
        cases h
        exact ⟨st1.out, o, rfl, ho.1⟩
    · rw [res_form hk (fun h => by cases h) hf ho] at h
      cases h
end Go.Proofs.Ytkkjfbpflfknpaa

/-
  OrderStands (layer 19). No conditions but that its files and its name can be read.
-/
namespace Go.Proofs.Ytkkjfbpflfknpaa
open Go.ChangeShapes Go.WideShapes Go.ChangeAt Go.RowKit

/- what getter makes -/
theorem start_get {w w2 : World} {lv : Value} (hb : Below w.heap.size w w2) :
    GetI w (((w2.alloc (.map #[] 0)).alloc (.cells #[lv] FsT)).alloc (.cells #[.map (some w2.heap.size)] MgT)).heap.size lv (w2.heap.size + 2) (w2.heap.size + 1) w2.heap.size (((w2.alloc (.map #[] 0)).alloc (.cells #[lv] FsT)).alloc (.cells #[.map (some w2.heap.size)] MgT)) [] := by
  have h1 : Kept (fun _ => False) (w2.alloc (.map #[] 0)) ((w2.alloc (.map #[] 0)).alloc (.cells #[lv] FsT)) := (Kept.refl _ _).alloc _
  have h2 : Kept (fun _ => False) ((w2.alloc (.map #[] 0)).alloc (.cells #[lv] FsT)) (((w2.alloc (.map #[] 0)).alloc (.cells #[lv] FsT)).alloc (.cells #[.map (some w2.heap.size)] MgT)) := (Kept.refl _ _).alloc _
  have r1 := RowAt.new (w2.alloc (.map #[] 0)) FsT [lv]
  have r2 := RowAt.new ((w2.alloc (.map #[] 0)).alloc (.cells #[lv] FsT)) MgT [.map (some w2.heap.size)]
  rw [show (w2.alloc (.map #[] 0)).heap.size = w2.heap.size + 1 by simp] at r1
  rw [show ((w2.alloc (.map #[] 0)).alloc (.cells #[lv] FsT)).heap.size = w2.heap.size + 2 by simp] at r2
  refine ⟨r2, r1.keep h2 (fun e => e), MapG.ext (((MapG.new w2).keep h1 fun e => e).keep h2 fun e => e) fun s => (gotF_no (by simp)).symm, ?_, hb.size, by simp, by simp, by simp; omega⟩
  exact ((hb.alloc hb.size _).alloc (Nat.le_trans hb.size (by simp)) _).alloc (Nat.le_trans hb.size (by simp; omega)) _
theorem got_start {w w2 : World} {al : Option Addr} {nl cl : Nat} (hb : Below w.heap.size w w2) : ∃ bg bl gb W4, (Calls Try.prog 9 #[.slice al nl cl, .map (some w2.heap.size)] (w2.alloc (.map #[] 0)) fun e w' => e = .returned (.func (.func 18) #[] #[.pointer (some ⟨bg, 0, none⟩), .pointer (some ⟨bl, 0, none⟩)]) ∧ W4 = w') ∧ GetI w W4.heap.size (.slice al nl cl) bg bl gb W4 [] ∧ gb = w2.heap.size := by
  have h := getter_any al nl cl w2.heap.size (w2.alloc (.map #[] 0))
  rw [show (w2.alloc (.map #[] 0)).heap.size = w2.heap.size + 1 by simp] at h
  exact ⟨_, _, _, _, h, start_get hb, rfl⟩
theorem files_small {L : List (ByteArray × ObjV × ObjD)} (h : FewF L) : ∀ f ∈ filesD L, Small f.2 := fun f hf => by
  obtain ⟨x, hx, rfl⟩ := List.mem_map.1 hf
  exact (h.2 x hx).1
theorem files_key {w : World} {lv : Value} {L : List (ByteArray × ObjV × ObjD)} (h : FilesIn w lv L) : ∀ f ∈ filesD L, f.2.key < 4294967296 := fun f hf => by
  obtain ⟨x, hx, rfl⟩ := List.mem_map.1 hf
  exact (h.objs x hx).fit.key
theorem files_len {L : List (ByteArray × ObjV × ObjD)} (h : FewF L) : (filesD L).length ≤ 1000 := by
  unfold filesD
  rw [List.length_map]
  exact Nat.le_trans h.1 (by decide)
set_option maxRecDepth 100000 in
theorem stands_env {w : World} {lo : Nat} {lv : Value} {L : List (ByteArray × ObjV × ObjD)} {bg bl gb : Nat} (hF : FilesIn w lv L) (hf : FewF L) (hgb : gb < lo) :
    Env (filesD L) [] lo (· = gb) (GetI w lo lv bg bl gb) 18 13 #[.pointer (some ⟨bg, 0, none⟩), .pointer (some ⟨bl, 0, none⟩)] #[] where
  eg := fun _ _ => by kernel_rfl
  eh := fun _ _ => by kernel_rfl
  small := files_small hf
  glow := fun j e => by rw [e]; exact hgb
  keep := fun _ _ _ h k => h.keep k
  get := fun s g w' hlo h hs hl hz => by
    rw [show (#[Value.string s] ++ #[.pointer (some ⟨bg, 0, none⟩), .pointer (some ⟨bl, 0, none⟩)] : Array Value) = #[Value.string s, .pointer (some ⟨bg, 0, none⟩), .pointer (some ⟨bl, 0, none⟩)] by simp]
    exact getter1_any w lo lv L bg bl gb hF s g w' hlo h hs hl hz
  yes := fun _ _ _ _ h => by cases h
  no := fun s _ w _ _ => by
    rw [show (#[Value.string s] ++ #[] : Array Value) = #[Value.string s] by simp]
    exact none_any s w
set_option maxRecDepth 100000 in
set_option maxHeartbeats 8000000 in
theorem orderStands_any (lv : Value) (L : List (ByteArray × ObjV × ObjD)) (s : ByteArray) (w : World) (hF : FilesIn w lv L) :
    Calls Try.prog 4 #[lv, .string s] w fun e w' => e = .returned (.bool true) ∧ Below w.heap.size w w' := by
  obtain ⟨al, cl, hlv, _⟩ := hF.els.shape
  generalize L.length = nl at hlv
  subst hlv
  have HF := Lib.hid hF
  have HUP := Lib.hid (up19 w)
  clear hF
  go_enter Try.func4, Try.ntmps4
  go_wp2_with fail
  refine HUP.out.mono ?_
  rintro e w1 ⟨rfl, hb1⟩
  have HFW := Lib.hid (few19_any _ L w1 (HF.out.on hb1))
  have HB1 := Lib.hid hb1
  clear hb1 HUP
  go_wp2_with fail
  refine HFW.out.mono ?_
  rintro e w2 ⟨hfew, hb2⟩
  have HB2 := Lib.hid (below_on HB1.out hb2 HB1.out.size)
  clear hb2 HFW HB1
  rcases hfew with ⟨rfl, hfw⟩ | rfl
  rotate_left
  · as_aux_lemma =>
    go_wp2_with fail
    go_ret
    exact ⟨rfl, HB2.out⟩
  have HFE := Lib.hid hfw
  clear hfw
  by_cases h100 : 100 < ((s.size : Nat) : Int)
  · as_aux_lemma =>
    have h100' : decide (100 < ((s.size : Nat) : Int)) = true := by simpa using h100
    go_wp2_with fail
    go_ret
    exact ⟨rfl, HB2.out⟩
  have h100' : decide (100 < ((s.size : Nat) : Int)) = false := by simpa using h100
  have HSZ : Hid (s.size ≤ 300) := by show _ ≤ _; omega
  have hmm := @run_makeMap Try.prog
  obtain ⟨bg, bl, gb, W4, hgt, hgi, hgb⟩ := got_start (al := al) (nl := nl) (cl := cl) HB2.out
  have HGT := Lib.hid hgt
  have HTP := Lib.hid (top_any s W4 (stands_env (bg := bg) (bl := bl) HF.out HFE.out hgi.l3) (files_len HFE.out) (files_key HF.out) hgi HSZ.out)
  have HBE : Hid (∀ w', Kept (· = gb) W4 w' → Below w.heap.size w w') := fun w' k => k.below hgi.below hgi.below.size fun j _ e => by rw [e]; exact hgi.l0
  clear hgt hgi hgb
  go_wp2_with fail
  refine HGT.out.mono ?_
  rintro e w3 ⟨rfl, rfl⟩
  clear HGT hmm
  generalize hr : resN (filesD L) [] 9 ⟨[], []⟩ s = r at *
  have HR := Lib.hid hr
  clear hr
  go_wp2_with fail
  refine HTP.out.mono ?_
  rintro e w5 ht
  clear HTP
  cases r with
  | bad k =>
    as_aux_lemma =>
    obtain ⟨rfl, _, hk⟩ := ht
    have hk0 : k ≠ 0 := by have := res_num 9 _ s k HR.out; omega
    rw [errV_pos hk0]
    have RES := Lib.hid (HBE.out w5 hk)
    clear hk hk0
    go_wp2_with fail
    go_ret
    exact ⟨rfl, RES.out⟩
  | good st =>
  obtain ⟨⟨v, LO, rfl, hs1, hs2, hs3, _⟩, _, hk⟩ := ht
  have HB5 := Lib.hid (HBE.out w5 hk)
  obtain ⟨hst, A, oz, hA, hoz⟩ := res_stands HR.out
  obtain ⟨n, hn⟩ : ∃ n, n = LO.length := ⟨_, rfl⟩
  have hn2 : n = A.length + 1 := by
    have := congrArg List.length hs3
    rw [List.length_map, hA, List.length_append, List.length_singleton] at this
    omega
  obtain ⟨b, cap, hv, hb, hcap1, hcap2, hc⟩ := hs1.cell (by omega)
  rw [← hn] at hv hcap1
  subst hv
  have sn : n ≤ 9223372036854775807 := Nat.le_trans hcap1 hcap2
  have HCL : Hid (∀ (i : Nat) (x : ObjV × ObjD) (j : Nat), LO[i]? = some x → j < 15 → w5.cell? ⟨b, i * 15 + j, none⟩ = (objRow x)[j]?) := fun i x j hx hj => by
    rw [hc _ (by have := (List.getElem?_eq_some_iff.1 hx).1; omega), rows_at 15 objRow_len LO i x j hx hj]
  have HIM : Hid (∀ (i : Nat) (x : ObjV × ObjD), LO[i]? = some x → ElsAt 2 impRow w5 x.1.i x.2.imps) := fun i x hx => (hs2 x (List.mem_of_getElem? hx)).i.row.els impRow_len
  have HST : Hid (∀ (i : Nat) (x : ObjV × ObjD), LO[i]? = some x → (∀ (j : Nat) (y : ByteArray × Nat), x.2.imps[j]? = some y → ∃ k p, k < i ∧ LO[k]? = some p ∧ p.2.name = y.1 ∧ p.2.key = y.2) ∧ ∀ (k : Nat) (p : ObjV × ObjD), k < i → LO[k]? = some p → p.2.name ≠ x.2.name) := fun i x hx => by
    have h1 : st.out[i]? = some x.2 := by rw [← hs3, List.getElem?_map, hx]; rfl
    obtain ⟨g1, g2⟩ := hst i x.2 h1
    refine ⟨fun j y hy => ?_, fun k p hk hp => g2 k p.2 hk (by rw [← hs3, List.getElem?_map, hp]; rfl)⟩
    obtain ⟨k, p, hk, hp, e⟩ := g1 j y hy
    rw [← hs3, List.getElem?_map] at hp
    cases hq : LO[k]? with
    | none => rw [hq] at hp; cases hp
    | some q =>
      rw [hq] at hp
      cases hp
      exact ⟨k, q, hk, hq, e⟩
  have HLA : Hid (∃ z, LO[n - 1]? = some z ∧ z.2.name = s) := by
    obtain ⟨z, hz⟩ : ∃ z, LO[n - 1]? = some z := ⟨_, List.getElem?_eq_getElem (by omega)⟩
    refine ⟨z, hz, ?_⟩
    have h1 : st.out[n - 1]? = some z.2 := by rw [← hs3, List.getElem?_map, hz]; rfl
    rw [hA, show n - 1 = A.length by omega] at h1
    have h2 : oz = z.2 := by simpa using h1
    rw [← h2]
    exact hoz
  have HN : Hid (n = LO.length) := hn
  have hn0 : ¬ (n : Int) = 0 := by omega
  have hn1 : ((n : Int) == 0) = false := by simp; omega
  have HB : Hid (b < w5.heap.size) := hb
  clear hs1 hs2 hs3 hk hst hA hoz hn hn2 hb hcap1 hcap2 hc HR HBE HFE HSZ HF HB2
  go_wp2_with fail
  go_loopw [8, 9, 10, 11, 12] (fun i _ _ _ _ wr => Hid (Drawn w5 wr) ∧ ∃ m : Nat, m ≤ n ∧ i = .int .i64 (m : Nat)) (fun i _ _ _ _ _ => n - (intOf i).toNat)
  case atStart => exact ⟨Drawn.refl _, 0, Nat.zero_le _, rfl⟩
  case round =>
    obtain ⟨HD1, m, hm, rfl⟩ := hrel
    by_cases hlt : m < n
    rotate_left
    · as_aux_lemma =>
      have i1 : ¬ (m : Int) < (n : Int) := by omega
      obtain ⟨z, hz, hzs⟩ := HLA.out
      have c0 : wr.cell? ⟨b, (n - 1) * 15, none⟩ = some (.string z.2.name) := (HD1.out.cell _).trans (HCL.out (n - 1) z 0 hz (by decide))
      rw [hzs] at c0
      obtain ⟨n1, hn1'⟩ : ∃ n1, n = n1 + 1 := ⟨n - 1, by omega⟩
      subst hn1'
      rw [show n1 + 1 - 1 = n1 by omega] at c0
      have i2 : IntKind.i64.wrap ((n1 : Int) + 1 - 1) = (n1 : Int) := by simp only [IntKind.wrap_i64]; omega
      have i3 : (n1 : Int) < (n1 : Int) + 1 := by omega
      have i4 : (0 : Int) ≤ (n1 : Int) := by omega
      have t1 : (s.toList == s.toList) = true := by simp
      have RES : Hid (Below w.heap.size w wr) := HB5.out.trans (HD1.out.below _)
      clear hm hlt hz hzs
      go_wp2_with fail
      go_ret
      exact ⟨by first | rfl | exact end_bool (by simp), RES.out⟩
    obtain ⟨x, hx⟩ : ∃ x, LO[m]? = some x := ⟨_, List.getElem?_eq_getElem (by have := HN.out; omega)⟩
    have HX := Lib.hid hx
    have HLT : Hid (m < n) := hlt
    have i1 : (m : Int) < (n : Int) := by omega
    have i2 : (0 : Int) ≤ (m : Int) := by omega
    obtain ⟨xi, xci, hvi, hci1, hci2, _⟩ := (HIM.out m x hx).shape
    obtain ⟨ni, hni⟩ : ∃ ni, ni = x.2.imps.length := ⟨_, rfl⟩
    rw [← hni] at hvi hci1
    have HNI := Lib.hid hni
    have HVI := Lib.hid hvi
    have sni : ni ≤ 9223372036854775807 := Nat.le_trans hci1 hci2
    clear hx hm hlt hvi hni hci1 hci2
    go_wp2_with fail
    go_loopw [9, 10, 11] (fun j _ _ wr2 => Hid (Drawn w5 wr2) ∧ ∃ m2 : Nat, m2 ≤ ni ∧ j = .int .i64 (m2 : Nat)) (fun j _ _ _ => ni - (intOf j).toNat)
    case atStart => exact ⟨HD1, 0, Nat.zero_le _, rfl⟩
    case round =>
      obtain ⟨HD2, m2, hm2, rfl⟩ := hrel
      have c2 : wr.cell? ⟨b, m * 15 + 2, none⟩ = some (.slice xi ni xci) := (HD2.out.cell _).trans ((HCL.out m x 2 HX.out (by decide)).trans (congrArg some HVI.out))
      by_cases hlt2 : m2 < ni
      · as_aux_lemma =>
        obtain ⟨⟨y1, y2⟩, hy⟩ : ∃ y, x.2.imps[m2]? = some y := ⟨_, List.getElem?_eq_getElem (by have := HNI.out; omega)⟩
        obtain ⟨bi, oi, qi, e0, hbi, d0, d1⟩ := (HIM.out m x HX.out).cell2 hy rfl
        rw [← HNI.out] at e0
        have ea : xi = some ⟨bi, oi, none⟩ := by have e2 := HVI.out.symm.trans e0; cases e2; rfl
        subst ea
        have HY := Lib.hid hy
        have HD0 : Hid (w5.cell? ⟨bi, oi + m2 * 2, none⟩ = some (.string y1)) := d0
        have HD1' : Hid (w5.cell? ⟨bi, oi + m2 * 2 + 1, none⟩ = some (.int .u32 (y2 : Nat))) := d1
        have j1 : (m2 : Int) < (ni : Int) := by omega
        have j2 : (0 : Int) ≤ (m2 : Int) := by omega
        have HLT2 : Hid (m2 < ni) := hlt2
        clear e0 hbi d0 d1 hy hm2 hlt2
        go_wp2_with fail
        clear c2
        go_loopw [10, 11] (fun mt k wr3 => Hid (Drawn w5 wr3) ∧ ∃ (m3 : Nat) (bm : Bool), m3 ≤ m ∧ k = .int .i64 (m3 : Nat) ∧ mt = .bool bm ∧ Hid (bm = true ↔ ∃ k p, k < m3 ∧ LO[k]? = some p ∧ p.2.name = y1 ∧ p.2.key = y2)) (fun _ k _ => m - (intOf k).toNat)
        case atStart => exact ⟨HD2, 0, false, Nat.zero_le _, rfl, rfl, ⟨(fun e => by cases e), fun ⟨k, p, hk, _⟩ => by omega⟩⟩
        case round =>
          obtain ⟨HD3, m3, bm, hm3, rfl, rfl, HBM⟩ := hrel
          by_cases hlt3 : m3 < m
          · obtain ⟨p, hp⟩ : ∃ p, LO[m3]? = some p := ⟨_, List.getElem?_eq_getElem (by have := HN.out; have := HLT.out; omega)⟩
            have HP := Lib.hid hp
            have f0 : wr.cell? ⟨b, m3 * 15, none⟩ = some (.string p.2.name) := (HD3.out.cell _).trans (HCL.out m3 p 0 hp (by decide))
            have f1 : wr.cell? ⟨b, m3 * 15 + 1, none⟩ = some (.int .u32 (p.2.key : Nat)) := (HD3.out.cell _).trans (HCL.out m3 p 1 hp (by decide))
            have f2 : wr.cell? ⟨b, m * 15 + 2, none⟩ = some (.slice (some ⟨bi, oi, none⟩) ni xci) := (HD3.out.cell _).trans ((HCL.out m x 2 HX.out (by decide)).trans (congrArg some HVI.out))
            have f3 : wr.cell? ⟨bi, oi + m2 * 2, none⟩ = some (.string y1) := (HD3.out.cell _).trans HD0.out
            have f4 : wr.cell? ⟨bi, oi + m2 * 2 + 1, none⟩ = some (.int .u32 (y2 : Nat)) := (HD3.out.cell _).trans HD1'.out
            have k1 : (m3 : Int) < (m : Int) := by omega
            have k2 : (0 : Int) ≤ (m3 : Int) := by omega
            have k3 : (m3 : Int) < (n : Int) := by omega
            have HLT3 : Hid (m3 < m) := hlt3
            obtain ⟨pn, hpn⟩ : ∃ pn, pn = p.2.name := ⟨_, rfl⟩
            obtain ⟨pk, hpk⟩ : ∃ pk, pk = p.2.key := ⟨_, rfl⟩
            rw [← hpn] at f0
            rw [← hpk] at f1
            have HPN := Lib.hid hpn
            have HPK := Lib.hid hpk
            have HSTEP : Hid (∀ bm' : Bool, (bm' = true ↔ bm = true ∨ (pn = y1 ∧ pk = y2)) → (bm' = true ↔ ∃ k p, k < m3 + 1 ∧ LO[k]? = some p ∧ p.2.name = y1 ∧ p.2.key = y2)) := fun bm' h => by
              rw [h, HBM.out]
              constructor
              · rintro (⟨k, q, h1, h2⟩ | ⟨h1, h2⟩)
                · exact ⟨k, q, by omega, h2⟩
                · exact ⟨m3, p, by omega, HP.out, by rw [← HPN.out]; exact h1, by rw [← HPK.out]; exact h2⟩
              · rintro ⟨k, q, h1, h2, h3, h4⟩
                by_cases hk : k < m3
                · exact .inl ⟨k, q, hk, h2, h3, h4⟩
                · obtain rfl : k = m3 := by omega
                  rw [HP.out] at h2
                  cases h2
                  exact .inr ⟨by rw [HPN.out]; exact h3, by rw [HPK.out]; exact h4⟩
            clear hp hm3 hlt3 hpn hpk
            cases bm with
            | true =>
              as_aux_lemma =>
              have HOK : Hid (true = true ↔ ∃ k p, k < m3 + 1 ∧ LO[k]? = some p ∧ p.2.name = y1 ∧ p.2.key = y2) := HSTEP.out true ⟨fun _ => .inl rfl, fun _ => rfl⟩
              clear HSTEP HBM
              go_wp2_with fail
              refine wp_region_held_drew (S := fun w' => Drawn w5 w') (by kernel_rfl) ?_ (fun hHeld => ?_)
              · exact HD3.out.more 1
              refine wpAnyH_take (i := 0) (v := ?_) rfl (by kernel_rfl) (by kernel_rfl) (by kernel_rfl) (fun _ _ _ h => h) (Or.inl ⟨by rfl, ?_⟩) (by assumption) ?_
              rotate_left
              · intro w hSw
                (try dsimp only at hSw)
                go_simp
                (try with_reducible rfl)
              try simp only [Act.put, List.getElem_toArray, List.getElem_cons_zero, List.setIfInBounds_toArray, List.set_cons_zero, List.set_cons_succ]
              refine wpAnyH_take (i := 1) (v := ?_) rfl (by kernel_rfl) (by kernel_rfl) (by kernel_rfl) (fun _ _ _ h => h) (Or.inl ⟨by rfl, ?_⟩) (by assumption) ?_
              rotate_left
              · intro w hSw
                (try dsimp only at hSw)
                go_simp
                (try with_reducible rfl)
              try simp only [Act.put, List.getElem_toArray, List.getElem_cons_zero, List.getElem_cons_succ, List.setIfInBounds_toArray, List.set_cons_zero, List.set_cons_succ]
              refine wpAnyH_take (i := 2) (v := undef) rfl (by kernel_rfl) (by kernel_rfl) (by kernel_rfl) (fun _ _ _ h => h) (Or.inr ⟨by rfl, rfl⟩) (by assumption) ?_
              try simp only [Act.put, List.getElem_toArray, List.getElem_cons_zero, List.getElem_cons_succ, List.setIfInBounds_toArray, List.set_cons_zero, List.set_cons_succ]
              refine wpAnyH_take (i := 3) (v := undef) rfl (by kernel_rfl) (by kernel_rfl) (by kernel_rfl) (fun _ _ _ h => h) (Or.inr ⟨by rfl, rfl⟩) (by assumption) ?_
              try simp only [Act.put, List.getElem_toArray, List.getElem_cons_zero, List.getElem_cons_succ, List.setIfInBounds_toArray, List.set_cons_zero, List.set_cons_succ]
              refine wpAnyH_take (i := 4) (v := undef) rfl (by kernel_rfl) (by kernel_rfl) (by kernel_rfl) (fun _ _ _ h => h) (Or.inr ⟨by rfl, rfl⟩) (by assumption) ?_
              try simp only [Act.put, List.getElem_toArray, List.getElem_cons_zero, List.getElem_cons_succ, List.setIfInBounds_toArray, List.set_cons_zero, List.set_cons_succ]
              refine wpAnyH_take (i := 5) (v := undef) rfl (by kernel_rfl) (by kernel_rfl) (by kernel_rfl) (fun _ _ _ h => h) (Or.inr ⟨by rfl, rfl⟩) (by assumption) ?_
              try simp only [Act.put, List.getElem_toArray, List.getElem_cons_zero, List.getElem_cons_succ, List.setIfInBounds_toArray, List.set_cons_zero, List.set_cons_succ]
              refine wpAnyH_take (i := 6) (v := undef) rfl (by kernel_rfl) (by kernel_rfl) (by kernel_rfl) (fun _ _ _ h => h) (Or.inr ⟨by rfl, rfl⟩) (by assumption) ?_
              try simp only [Act.put, List.getElem_toArray, List.getElem_cons_zero, List.getElem_cons_succ, List.setIfInBounds_toArray, List.set_cons_zero, List.set_cons_succ]
              refine wpAnyH_take (i := 7) (v := undef) rfl (by kernel_rfl) (by kernel_rfl) (by kernel_rfl) (fun _ _ _ h => h) (Or.inr ⟨by rfl, rfl⟩) (by assumption) ?_
              try simp only [Act.put, List.getElem_toArray, List.getElem_cons_zero, List.getElem_cons_succ, List.setIfInBounds_toArray, List.set_cons_zero, List.set_cons_succ]
              refine wpAnyH_take (i := 8) (v := undef) rfl (by kernel_rfl) (by kernel_rfl) (by kernel_rfl) (fun _ _ _ h => h) (Or.inr ⟨by rfl, rfl⟩) (by assumption) ?_
              try simp only [Act.put, List.getElem_toArray, List.getElem_cons_zero, List.getElem_cons_succ, List.setIfInBounds_toArray, List.set_cons_zero, List.set_cons_succ]
              refine wpAnyH_take (i := 9) (v := undef) rfl (by kernel_rfl) (by kernel_rfl) (by kernel_rfl) (fun _ _ _ h => h) (Or.inr ⟨by rfl, rfl⟩) (by assumption) ?_
              try simp only [Act.put, List.getElem_toArray, List.getElem_cons_zero, List.getElem_cons_succ, List.setIfInBounds_toArray, List.set_cons_zero, List.set_cons_succ]
              refine wpAnyH_take (i := 10) (v := undef) rfl (by kernel_rfl) (by kernel_rfl) (by kernel_rfl) (fun _ _ _ h => h) (Or.inr ⟨by rfl, rfl⟩) (by assumption) ?_
              try simp only [Act.put, List.getElem_toArray, List.getElem_cons_zero, List.getElem_cons_succ, List.setIfInBounds_toArray, List.set_cons_zero, List.set_cons_succ]
              refine wpAnyH_take (i := 11) (v := undef) rfl (by kernel_rfl) (by kernel_rfl) (by kernel_rfl) (fun _ _ _ h => h) (Or.inr ⟨by rfl, rfl⟩) (by assumption) ?_
              try simp only [Act.put, List.getElem_toArray, List.getElem_cons_zero, List.getElem_cons_succ, List.setIfInBounds_toArray, List.set_cons_zero, List.set_cons_succ]
              refine wpAnyH_take (i := 12) (v := undef) rfl (by kernel_rfl) (by kernel_rfl) (by kernel_rfl) (fun _ _ _ h => h) (Or.inr ⟨by rfl, rfl⟩) (by assumption) ?_
              try simp only [Act.put, List.getElem_toArray, List.getElem_cons_zero, List.getElem_cons_succ, List.setIfInBounds_toArray, List.set_cons_zero, List.set_cons_succ]
              refine wpAnyH_take (i := 13) (v := undef) rfl (by kernel_rfl) (by kernel_rfl) (by kernel_rfl) (fun _ _ _ h => h) (Or.inr ⟨by rfl, rfl⟩) (by assumption) ?_
              try simp only [Act.put, List.getElem_toArray, List.getElem_cons_zero, List.getElem_cons_succ, List.setIfInBounds_toArray, List.set_cons_zero, List.set_cons_succ]
              refine wpAnyH_take (i := 14) (v := undef) rfl (by kernel_rfl) (by kernel_rfl) (by kernel_rfl) (fun _ _ _ h => h) (Or.inr ⟨by rfl, rfl⟩) (by assumption) ?_
              try simp only [Act.put, List.getElem_toArray, List.getElem_cons_zero, List.getElem_cons_succ, List.setIfInBounds_toArray, List.set_cons_zero, List.set_cons_succ]
              refine wpAnyH_take (i := 15) (v := undef) rfl (by kernel_rfl) (by kernel_rfl) (by kernel_rfl) (fun _ _ _ h => h) (Or.inr ⟨by rfl, rfl⟩) (by assumption) ?_
              try simp only [Act.put, List.getElem_toArray, List.getElem_cons_zero, List.getElem_cons_succ, List.setIfInBounds_toArray, List.set_cons_zero, List.set_cons_succ]
              refine wpAnyH_take (i := 16) (v := undef) rfl (by kernel_rfl) (by kernel_rfl) (by kernel_rfl) (fun _ _ _ h => h) (Or.inr ⟨by rfl, rfl⟩) (by assumption) ?_
              try simp only [Act.put, List.getElem_toArray, List.getElem_cons_zero, List.getElem_cons_succ, List.setIfInBounds_toArray, List.set_cons_zero, List.set_cons_succ]
              refine wpAnyH_take (i := 17) (v := undef) rfl (by kernel_rfl) (by kernel_rfl) (by kernel_rfl) (fun _ _ _ h => h) (Or.inr ⟨by rfl, rfl⟩) (by assumption) ?_
              try simp only [Act.put, List.getElem_toArray, List.getElem_cons_zero, List.getElem_cons_succ, List.setIfInBounds_toArray, List.set_cons_zero, List.set_cons_succ]
              refine wpAnyH_take (i := 18) (v := undef) rfl (by kernel_rfl) (by kernel_rfl) (by kernel_rfl) (fun _ _ _ h => h) (Or.inr ⟨by rfl, rfl⟩) (by assumption) ?_
              try simp only [Act.put, List.getElem_toArray, List.getElem_cons_zero, List.getElem_cons_succ, List.setIfInBounds_toArray, List.set_cons_zero, List.set_cons_succ]
              refine wpAnyH_take (i := 19) (v := undef) rfl (by kernel_rfl) (by kernel_rfl) (by kernel_rfl) (fun _ _ _ h => h) (Or.inr ⟨by rfl, rfl⟩) (by assumption) ?_
              try simp only [Act.put, List.getElem_toArray, List.getElem_cons_zero, List.getElem_cons_succ, List.setIfInBounds_toArray, List.set_cons_zero, List.set_cons_succ]
              refine wpAnyH_take (i := 20) (v := undef) rfl (by kernel_rfl) (by kernel_rfl) (by kernel_rfl) (fun _ _ _ h => h) (Or.inr ⟨by rfl, rfl⟩) (by assumption) ?_
              try simp only [Act.put, List.getElem_toArray, List.getElem_cons_zero, List.getElem_cons_succ, List.setIfInBounds_toArray, List.set_cons_zero, List.set_cons_succ]
              refine wpAnyH_take (i := 21) (v := undef) rfl (by kernel_rfl) (by kernel_rfl) (by kernel_rfl) (fun _ _ _ h => h) (Or.inr ⟨by rfl, rfl⟩) (by assumption) ?_
              try simp only [Act.put, List.getElem_toArray, List.getElem_cons_zero, List.getElem_cons_succ, List.setIfInBounds_toArray, List.set_cons_zero, List.set_cons_succ]
              refine wpAnyH_take (i := 22) (v := undef) rfl (by kernel_rfl) (by kernel_rfl) (by kernel_rfl) (fun _ _ _ h => h) (Or.inr ⟨by rfl, rfl⟩) (by assumption) ?_
              try simp only [Act.put, List.getElem_toArray, List.getElem_cons_zero, List.getElem_cons_succ, List.setIfInBounds_toArray, List.set_cons_zero, List.set_cons_succ]
              refine wpAnyH_take (i := 23) (v := undef) rfl (by kernel_rfl) (by kernel_rfl) (by kernel_rfl) (fun _ _ _ h => h) (Or.inr ⟨by rfl, rfl⟩) (by assumption) ?_
              try simp only [Act.put, List.getElem_toArray, List.getElem_cons_zero, List.getElem_cons_succ, List.setIfInBounds_toArray, List.set_cons_zero, List.set_cons_succ]
              refine wpAnyH_take (i := 24) (v := undef) rfl (by kernel_rfl) (by kernel_rfl) (by kernel_rfl) (fun _ _ _ h => h) (Or.inr ⟨by rfl, rfl⟩) (by assumption) ?_
              try simp only [Act.put, List.getElem_toArray, List.getElem_cons_zero, List.getElem_cons_succ, List.setIfInBounds_toArray, List.set_cons_zero, List.set_cons_succ]
              refine wpAnyH_take (i := 25) (v := undef) rfl (by kernel_rfl) (by kernel_rfl) (by kernel_rfl) (fun _ _ _ h => h) (Or.inr ⟨by rfl, rfl⟩) (by assumption) ?_
              try simp only [Act.put, List.getElem_toArray, List.getElem_cons_zero, List.getElem_cons_succ, List.setIfInBounds_toArray, List.set_cons_zero, List.set_cons_succ]
              refine wpAnyH_take (i := 26) (v := undef) rfl (by kernel_rfl) (by kernel_rfl) (by kernel_rfl) (fun _ _ _ h => h) (Or.inr ⟨by rfl, rfl⟩) (by assumption) ?_
              try simp only [Act.put, List.getElem_toArray, List.getElem_cons_zero, List.getElem_cons_succ, List.setIfInBounds_toArray, List.set_cons_zero, List.set_cons_succ]
              refine wpAnyH_take (i := 27) (v := undef) rfl (by kernel_rfl) (by kernel_rfl) (by kernel_rfl) (fun _ _ _ h => h) (Or.inr ⟨by rfl, rfl⟩) (by assumption) ?_
              try simp only [Act.put, List.getElem_toArray, List.getElem_cons_zero, List.getElem_cons_succ, List.setIfInBounds_toArray, List.set_cons_zero, List.set_cons_succ]
              refine wpAnyH_take (i := 28) (v := undef) rfl (by kernel_rfl) (by kernel_rfl) (by kernel_rfl) (fun _ _ _ h => h) (Or.inr ⟨by rfl, rfl⟩) (by assumption) ?_
              try simp only [Act.put, List.getElem_toArray, List.getElem_cons_zero, List.getElem_cons_succ, List.setIfInBounds_toArray, List.set_cons_zero, List.set_cons_succ]
              refine wpAnyH_take (i := 29) (v := undef) rfl (by kernel_rfl) (by kernel_rfl) (by kernel_rfl) (fun _ _ _ h => h) (Or.inr ⟨by rfl, rfl⟩) (by assumption) ?_
              try simp only [Act.put, List.getElem_toArray, List.getElem_cons_zero, List.getElem_cons_succ, List.setIfInBounds_toArray, List.set_cons_zero, List.set_cons_succ]
              refine wpAnyH_take (i := 30) (v := undef) rfl (by kernel_rfl) (by kernel_rfl) (by kernel_rfl) (fun _ _ _ h => h) (Or.inr ⟨by rfl, rfl⟩) (by assumption) ?_
              try simp only [Act.put, List.getElem_toArray, List.getElem_cons_zero, List.getElem_cons_succ, List.setIfInBounds_toArray, List.set_cons_zero, List.set_cons_succ]
              refine wpAnyH_take (i := 31) (v := undef) rfl (by kernel_rfl) (by kernel_rfl) (by kernel_rfl) (fun _ _ _ h => h) (Or.inr ⟨by rfl, rfl⟩) (by assumption) ?_
              try simp only [Act.put, List.getElem_toArray, List.getElem_cons_zero, List.getElem_cons_succ, List.setIfInBounds_toArray, List.set_cons_zero, List.set_cons_succ]
              refine wpAnyH_take (i := 32) (v := undef) rfl (by kernel_rfl) (by kernel_rfl) (by kernel_rfl) (fun _ _ _ h => h) (Or.inr ⟨by rfl, rfl⟩) (by assumption) ?_
              try simp only [Act.put, List.getElem_toArray, List.getElem_cons_zero, List.getElem_cons_succ, List.setIfInBounds_toArray, List.set_cons_zero, List.set_cons_succ]
              refine wpAnyH_take (i := 33) (v := undef) rfl (by kernel_rfl) (by kernel_rfl) (by kernel_rfl) (fun _ _ _ h => h) (Or.inr ⟨by rfl, rfl⟩) (by assumption) ?_
              try simp only [Act.put, List.getElem_toArray, List.getElem_cons_zero, List.getElem_cons_succ, List.setIfInBounds_toArray, List.set_cons_zero, List.set_cons_succ]
              refine wpAnyH_take (i := 34) (v := ?_) rfl (by kernel_rfl) (by kernel_rfl) (by kernel_rfl) (fun _ _ _ h => h) (Or.inl ⟨by rfl, ?_⟩) (by assumption) ?_
              rotate_left
              · intro w hSw
                (try dsimp only at hSw)
                go_simp
                (try with_reducible rfl)
              try simp only [Act.put, List.getElem_toArray, List.getElem_cons_zero, List.getElem_cons_succ, List.setIfInBounds_toArray, List.set_cons_zero, List.set_cons_succ]
              refine wpAnyH_take (i := 35) (v := ?_) rfl (by kernel_rfl) (by kernel_rfl) (by kernel_rfl) (fun _ _ _ h => h) (Or.inl ⟨by rfl, ?_⟩) (by assumption) ?_
              rotate_left
              · intro w hSw
                (try dsimp only at hSw)
                go_simp
                (try with_reducible rfl)
              try simp only [Act.put, List.getElem_toArray, List.getElem_cons_zero, List.getElem_cons_succ, List.setIfInBounds_toArray, List.set_cons_zero, List.set_cons_succ]
              refine wpAnyH_done (by kernel_rfl) ?_ _
              have HD4 := Lib.hid hHeld
              clear hHeld f0 f1 f2 f3 f4
              go_wp2_with fail
              go_roundw
              case rel => exact ⟨HD4, m3 + 1, true, HLT3.out, by go_num, rfl, ⟨fun _ => HOK.out.1 trivial, fun _ => rfl⟩⟩
              case measure => have := HLT3.out; simp [intOf]; omega
            | false =>
              by_cases hpy : pn = y1
              · as_aux_lemma =>
                have HOK : Hid (((pk : Int) == (y2 : Int)) = true ↔ ∃ k p, k < m3 + 1 ∧ LO[k]? = some p ∧ p.2.name = y1 ∧ p.2.key = y2) := HSTEP.out _ ⟨fun e => .inr ⟨hpy, Int.ofNat.inj (by simpa using e)⟩, fun e => e.elim (fun g => by cases g) fun g => by simp [g.2]⟩
                subst hpy
                clear HSTEP HBM
                go_wp2_with fail
                refine wp_region_held_drew (S := fun w' => (w'.cell? ⟨b, m3 * 15, none⟩ = some (.string pn) ∧ w'.cell? ⟨b, m3 * 15 + 1, none⟩ = some (.int .u32 (pk : Nat)) ∧ w'.cell? ⟨b, m * 15 + 2, none⟩ = some (.slice (some ⟨bi, oi, none⟩) ni xci) ∧ w'.cell? ⟨bi, oi + m2 * 2, none⟩ = some (.string pn) ∧ w'.cell? ⟨bi, oi + m2 * 2 + 1, none⟩ = some (.int .u32 (y2 : Nat))) ∧ Drawn w5 w') (by kernel_rfl) ?_ (fun hHeld => ?_)
                · exact ⟨⟨f0, f1, f2, f3, f4⟩, HD3.out.more 1⟩
                refine wpAnyH_take (i := 0) (v := ?_) rfl (by kernel_rfl) (by kernel_rfl) (by kernel_rfl) (fun _ _ _ h => h) (Or.inl ⟨by rfl, ?_⟩) (by assumption) ?_
                rotate_left
                · intro w hSw
                  (try dsimp only at hSw)
                  go_simp
                  (try with_reducible rfl)
                try simp only [Act.put, List.getElem_toArray, List.getElem_cons_zero, List.setIfInBounds_toArray, List.set_cons_zero, List.set_cons_succ]
                refine wpAnyH_take (i := 1) (v := ?_) rfl (by kernel_rfl) (by kernel_rfl) (by kernel_rfl) (fun _ _ _ h => h) (Or.inl ⟨by rfl, ?_⟩) (by assumption) ?_
                rotate_left
                · intro w hSw
                  (try dsimp only at hSw)
                  go_simp
                  (try with_reducible rfl)
                try simp only [Act.put, List.getElem_toArray, List.getElem_cons_zero, List.getElem_cons_succ, List.setIfInBounds_toArray, List.set_cons_zero, List.set_cons_succ]
                refine wpAnyH_take (i := 2) (v := ?_) rfl (by kernel_rfl) (by kernel_rfl) (by kernel_rfl) (fun _ _ _ h => h) (Or.inl ⟨by rfl, ?_⟩) (by assumption) ?_
                rotate_left
                · intro w hSw
                  (try dsimp only at hSw)
                  go_simp
                  (try with_reducible rfl)
                try simp only [Act.put, List.getElem_toArray, List.getElem_cons_zero, List.getElem_cons_succ, List.setIfInBounds_toArray, List.set_cons_zero, List.set_cons_succ]
                refine wpAnyH_take (i := 3) (v := ?_) rfl (by kernel_rfl) (by kernel_rfl) (by kernel_rfl) (fun _ _ _ h => h) (Or.inl ⟨by rfl, ?_⟩) (by assumption) ?_
                rotate_left
                · intro w hSw
                  (try dsimp only at hSw)
                  go_simp
                  (try with_reducible rfl)
                try simp only [Act.put, List.getElem_toArray, List.getElem_cons_zero, List.getElem_cons_succ, List.setIfInBounds_toArray, List.set_cons_zero, List.set_cons_succ]
                refine wpAnyH_take (i := 4) (v := ?_) rfl (by kernel_rfl) (by kernel_rfl) (by kernel_rfl) (fun _ _ _ h => h) (Or.inl ⟨by rfl, ?_⟩) (by assumption) ?_
                rotate_left
                · intro w hSw
                  (try dsimp only at hSw)
                  go_simp
                  (try with_reducible rfl)
                try simp only [Act.put, List.getElem_toArray, List.getElem_cons_zero, List.getElem_cons_succ, List.setIfInBounds_toArray, List.set_cons_zero, List.set_cons_succ]
                refine wpAnyH_take (i := 5) (v := ?_) rfl (by kernel_rfl) (by kernel_rfl) (by kernel_rfl) (fun _ _ _ h => h) (Or.inl ⟨by rfl, ?_⟩) (by assumption) ?_
                rotate_left
                · intro w hSw
                  (try dsimp only at hSw)
                  go_simp
                  (try with_reducible rfl)
                try simp only [Act.put, List.getElem_toArray, List.getElem_cons_zero, List.getElem_cons_succ, List.setIfInBounds_toArray, List.set_cons_zero, List.set_cons_succ]
                refine wpAnyH_take (i := 6) (v := ?_) rfl (by kernel_rfl) (by kernel_rfl) (by kernel_rfl) (fun _ _ _ h => h) (Or.inl ⟨by rfl, ?_⟩) (by assumption) ?_
                rotate_left
                · intro w hSw
                  have h0 := hSw.1.1
                  (try dsimp only at hSw)
                  go_simp
                  (try with_reducible rfl)
                try simp only [Act.put, List.getElem_toArray, List.getElem_cons_zero, List.getElem_cons_succ, List.setIfInBounds_toArray, List.set_cons_zero, List.set_cons_succ]
                refine wpAnyH_take (i := 7) (v := ?_) rfl (by kernel_rfl) (by kernel_rfl) (by kernel_rfl) (fun _ _ _ h => h) (Or.inl ⟨by rfl, ?_⟩) (by assumption) ?_
                rotate_left
                · intro w hSw
                  (try dsimp only at hSw)
                  go_simp
                  (try with_reducible rfl)
                try simp only [Act.put, List.getElem_toArray, List.getElem_cons_zero, List.getElem_cons_succ, List.setIfInBounds_toArray, List.set_cons_zero, List.set_cons_succ]
                refine wpAnyH_take (i := 8) (v := ?_) rfl (by kernel_rfl) (by kernel_rfl) (by kernel_rfl) (fun _ _ _ h => h) (Or.inl ⟨by rfl, ?_⟩) (by assumption) ?_
                rotate_left
                · intro w hSw
                  (try dsimp only at hSw)
                  go_simp
                  (try with_reducible rfl)
                try simp only [Act.put, List.getElem_toArray, List.getElem_cons_zero, List.getElem_cons_succ, List.setIfInBounds_toArray, List.set_cons_zero, List.set_cons_succ]
                refine wpAnyH_take (i := 9) (v := ?_) rfl (by kernel_rfl) (by kernel_rfl) (by kernel_rfl) (fun _ _ _ h => h) (Or.inl ⟨by rfl, ?_⟩) (by assumption) ?_
                rotate_left
                · intro w hSw
                  (try dsimp only at hSw)
                  go_simp
                  (try with_reducible rfl)
                try simp only [Act.put, List.getElem_toArray, List.getElem_cons_zero, List.getElem_cons_succ, List.setIfInBounds_toArray, List.set_cons_zero, List.set_cons_succ]
                refine wpAnyH_take (i := 10) (v := ?_) rfl (by kernel_rfl) (by kernel_rfl) (by kernel_rfl) (fun _ _ _ h => h) (Or.inl ⟨by rfl, ?_⟩) (by assumption) ?_
                rotate_left
                · intro w hSw
                  (try dsimp only at hSw)
                  go_simp
                  (try with_reducible rfl)
                try simp only [Act.put, List.getElem_toArray, List.getElem_cons_zero, List.getElem_cons_succ, List.setIfInBounds_toArray, List.set_cons_zero, List.set_cons_succ]
                refine wpAnyH_take (i := 11) (v := ?_) rfl (by kernel_rfl) (by kernel_rfl) (by kernel_rfl) (fun _ _ _ h => h) (Or.inl ⟨by rfl, ?_⟩) (by assumption) ?_
                rotate_left
                · intro w hSw
                  have h0 := hSw.1.2.2.1
                  (try dsimp only at hSw)
                  go_simp
                  (try with_reducible rfl)
                try simp only [Act.put, List.getElem_toArray, List.getElem_cons_zero, List.getElem_cons_succ, List.setIfInBounds_toArray, List.set_cons_zero, List.set_cons_succ]
                refine wpAnyH_take (i := 12) (v := ?_) rfl (by kernel_rfl) (by kernel_rfl) (by kernel_rfl) (fun _ _ _ h => h) (Or.inl ⟨by rfl, ?_⟩) (by assumption) ?_
                rotate_left
                · intro w hSw
                  (try dsimp only at hSw)
                  go_simp
                  (try with_reducible rfl)
                try simp only [Act.put, List.getElem_toArray, List.getElem_cons_zero, List.getElem_cons_succ, List.setIfInBounds_toArray, List.set_cons_zero, List.set_cons_succ]
                refine wpAnyH_take (i := 13) (v := ?_) rfl (by kernel_rfl) (by kernel_rfl) (by kernel_rfl) (fun _ _ _ h => h) (Or.inl ⟨by rfl, ?_⟩) (by assumption) ?_
                rotate_left
                · intro w hSw
                  (try dsimp only at hSw)
                  go_simp
                  (try with_reducible rfl)
                try simp only [Act.put, List.getElem_toArray, List.getElem_cons_zero, List.getElem_cons_succ, List.setIfInBounds_toArray, List.set_cons_zero, List.set_cons_succ]
                refine wpAnyH_take (i := 14) (v := ?_) rfl (by kernel_rfl) (by kernel_rfl) (by kernel_rfl) (fun _ _ _ h => h) (Or.inl ⟨by rfl, ?_⟩) (by assumption) ?_
                rotate_left
                · intro w hSw
                  (try dsimp only at hSw)
                  go_simp
                  (try with_reducible rfl)
                try simp only [Act.put, List.getElem_toArray, List.getElem_cons_zero, List.getElem_cons_succ, List.setIfInBounds_toArray, List.set_cons_zero, List.set_cons_succ]
                refine wpAnyH_take (i := 15) (v := ?_) rfl (by kernel_rfl) (by kernel_rfl) (by kernel_rfl) (fun _ _ _ h => h) (Or.inl ⟨by rfl, ?_⟩) (by assumption) ?_
                rotate_left
                · intro w hSw
                  have h0 := hSw.1.2.2.2.1
                  (try dsimp only at hSw)
                  go_simp
                  (try with_reducible rfl)
                try simp only [Act.put, List.getElem_toArray, List.getElem_cons_zero, List.getElem_cons_succ, List.setIfInBounds_toArray, List.set_cons_zero, List.set_cons_succ]
                refine wpAnyH_take (i := 16) (v := ?_) rfl (by kernel_rfl) (by kernel_rfl) (by kernel_rfl) (fun _ _ _ h => h) (Or.inl ⟨by rfl, ?_⟩) (by assumption) ?_
                rotate_left
                · intro w hSw
                  have h0 : (pn.toList == pn.toList) = true := by simp
                  (try dsimp only at hSw)
                  go_simp
                  (try with_reducible rfl)
                try simp only [Act.put, List.getElem_toArray, List.getElem_cons_zero, List.getElem_cons_succ, List.setIfInBounds_toArray, List.set_cons_zero, List.set_cons_succ]
                refine wpAnyH_take (i := 17) (v := ?_) rfl (by kernel_rfl) (by kernel_rfl) (by kernel_rfl) (fun _ _ _ h => h) (Or.inl ⟨by rfl, ?_⟩) (by assumption) ?_
                rotate_left
                · intro w hSw
                  (try dsimp only at hSw)
                  go_simp
                  (try with_reducible rfl)
                try simp only [Act.put, List.getElem_toArray, List.getElem_cons_zero, List.getElem_cons_succ, List.setIfInBounds_toArray, List.set_cons_zero, List.set_cons_succ]
                refine wpAnyH_take (i := 18) (v := ?_) rfl (by kernel_rfl) (by kernel_rfl) (by kernel_rfl) (fun _ _ _ h => h) (Or.inl ⟨by rfl, ?_⟩) (by assumption) ?_
                rotate_left
                · intro w hSw
                  (try dsimp only at hSw)
                  go_simp
                  (try with_reducible rfl)
                try simp only [Act.put, List.getElem_toArray, List.getElem_cons_zero, List.getElem_cons_succ, List.setIfInBounds_toArray, List.set_cons_zero, List.set_cons_succ]
                refine wpAnyH_take (i := 19) (v := ?_) rfl (by kernel_rfl) (by kernel_rfl) (by kernel_rfl) (fun _ _ _ h => h) (Or.inl ⟨by rfl, ?_⟩) (by assumption) ?_
                rotate_left
                · intro w hSw
                  (try dsimp only at hSw)
                  go_simp
                  (try with_reducible rfl)
                try simp only [Act.put, List.getElem_toArray, List.getElem_cons_zero, List.getElem_cons_succ, List.setIfInBounds_toArray, List.set_cons_zero, List.set_cons_succ]
                refine wpAnyH_take (i := 20) (v := ?_) rfl (by kernel_rfl) (by kernel_rfl) (by kernel_rfl) (fun _ _ _ h => h) (Or.inl ⟨by rfl, ?_⟩) (by assumption) ?_
                rotate_left
                · intro w hSw
                  (try dsimp only at hSw)
                  go_simp
                  (try with_reducible rfl)
                try simp only [Act.put, List.getElem_toArray, List.getElem_cons_zero, List.getElem_cons_succ, List.setIfInBounds_toArray, List.set_cons_zero, List.set_cons_succ]
                refine wpAnyH_take (i := 21) (v := ?_) rfl (by kernel_rfl) (by kernel_rfl) (by kernel_rfl) (fun _ _ _ h => h) (Or.inl ⟨by rfl, ?_⟩) (by assumption) ?_
                rotate_left
                · intro w hSw
                  (try dsimp only at hSw)
                  go_simp
                  (try with_reducible rfl)
                try simp only [Act.put, List.getElem_toArray, List.getElem_cons_zero, List.getElem_cons_succ, List.setIfInBounds_toArray, List.set_cons_zero, List.set_cons_succ]
                refine wpAnyH_take (i := 22) (v := ?_) rfl (by kernel_rfl) (by kernel_rfl) (by kernel_rfl) (fun _ _ _ h => h) (Or.inl ⟨by rfl, ?_⟩) (by assumption) ?_
                rotate_left
                · intro w hSw
                  have h0 := hSw.1.2.1
                  (try dsimp only at hSw)
                  go_simp
                  (try with_reducible rfl)
                try simp only [Act.put, List.getElem_toArray, List.getElem_cons_zero, List.getElem_cons_succ, List.setIfInBounds_toArray, List.set_cons_zero, List.set_cons_succ]
                refine wpAnyH_take (i := 23) (v := ?_) rfl (by kernel_rfl) (by kernel_rfl) (by kernel_rfl) (fun _ _ _ h => h) (Or.inl ⟨by rfl, ?_⟩) (by assumption) ?_
                rotate_left
                · intro w hSw
                  (try dsimp only at hSw)
                  go_simp
                  (try with_reducible rfl)
                try simp only [Act.put, List.getElem_toArray, List.getElem_cons_zero, List.getElem_cons_succ, List.setIfInBounds_toArray, List.set_cons_zero, List.set_cons_succ]
                refine wpAnyH_take (i := 24) (v := ?_) rfl (by kernel_rfl) (by kernel_rfl) (by kernel_rfl) (fun _ _ _ h => h) (Or.inl ⟨by rfl, ?_⟩) (by assumption) ?_
                rotate_left
                · intro w hSw
                  (try dsimp only at hSw)
                  go_simp
                  (try with_reducible rfl)
                try simp only [Act.put, List.getElem_toArray, List.getElem_cons_zero, List.getElem_cons_succ, List.setIfInBounds_toArray, List.set_cons_zero, List.set_cons_succ]
                refine wpAnyH_take (i := 25) (v := ?_) rfl (by kernel_rfl) (by kernel_rfl) (by kernel_rfl) (fun _ _ _ h => h) (Or.inl ⟨by rfl, ?_⟩) (by assumption) ?_
                rotate_left
                · intro w hSw
                  (try dsimp only at hSw)
                  go_simp
                  (try with_reducible rfl)
                try simp only [Act.put, List.getElem_toArray, List.getElem_cons_zero, List.getElem_cons_succ, List.setIfInBounds_toArray, List.set_cons_zero, List.set_cons_succ]
                refine wpAnyH_take (i := 26) (v := ?_) rfl (by kernel_rfl) (by kernel_rfl) (by kernel_rfl) (fun _ _ _ h => h) (Or.inl ⟨by rfl, ?_⟩) (by assumption) ?_
                rotate_left
                · intro w hSw
                  (try dsimp only at hSw)
                  go_simp
                  (try with_reducible rfl)
                try simp only [Act.put, List.getElem_toArray, List.getElem_cons_zero, List.getElem_cons_succ, List.setIfInBounds_toArray, List.set_cons_zero, List.set_cons_succ]
                refine wpAnyH_take (i := 27) (v := ?_) rfl (by kernel_rfl) (by kernel_rfl) (by kernel_rfl) (fun _ _ _ h => h) (Or.inl ⟨by rfl, ?_⟩) (by assumption) ?_
                rotate_left
                · intro w hSw
                  have h0 := hSw.1.2.2.1
                  (try dsimp only at hSw)
                  go_simp
                  (try with_reducible rfl)
                try simp only [Act.put, List.getElem_toArray, List.getElem_cons_zero, List.getElem_cons_succ, List.setIfInBounds_toArray, List.set_cons_zero, List.set_cons_succ]
                refine wpAnyH_take (i := 28) (v := ?_) rfl (by kernel_rfl) (by kernel_rfl) (by kernel_rfl) (fun _ _ _ h => h) (Or.inl ⟨by rfl, ?_⟩) (by assumption) ?_
                rotate_left
                · intro w hSw
                  (try dsimp only at hSw)
                  go_simp
                  (try with_reducible rfl)
                try simp only [Act.put, List.getElem_toArray, List.getElem_cons_zero, List.getElem_cons_succ, List.setIfInBounds_toArray, List.set_cons_zero, List.set_cons_succ]
                refine wpAnyH_take (i := 29) (v := ?_) rfl (by kernel_rfl) (by kernel_rfl) (by kernel_rfl) (fun _ _ _ h => h) (Or.inl ⟨by rfl, ?_⟩) (by assumption) ?_
                rotate_left
                · intro w hSw
                  (try dsimp only at hSw)
                  go_simp
                  (try with_reducible rfl)
                try simp only [Act.put, List.getElem_toArray, List.getElem_cons_zero, List.getElem_cons_succ, List.setIfInBounds_toArray, List.set_cons_zero, List.set_cons_succ]
                refine wpAnyH_take (i := 30) (v := ?_) rfl (by kernel_rfl) (by kernel_rfl) (by kernel_rfl) (fun _ _ _ h => h) (Or.inl ⟨by rfl, ?_⟩) (by assumption) ?_
                rotate_left
                · intro w hSw
                  (try dsimp only at hSw)
                  go_simp
                  (try with_reducible rfl)
                try simp only [Act.put, List.getElem_toArray, List.getElem_cons_zero, List.getElem_cons_succ, List.setIfInBounds_toArray, List.set_cons_zero, List.set_cons_succ]
                refine wpAnyH_take (i := 31) (v := ?_) rfl (by kernel_rfl) (by kernel_rfl) (by kernel_rfl) (fun _ _ _ h => h) (Or.inl ⟨by rfl, ?_⟩) (by assumption) ?_
                rotate_left
                · intro w hSw
                  have h0 := hSw.1.2.2.2.2
                  (try dsimp only at hSw)
                  go_simp
                  (try with_reducible rfl)
                try simp only [Act.put, List.getElem_toArray, List.getElem_cons_zero, List.getElem_cons_succ, List.setIfInBounds_toArray, List.set_cons_zero, List.set_cons_succ]
                refine wpAnyH_take (i := 32) (v := ?_) rfl (by kernel_rfl) (by kernel_rfl) (by kernel_rfl) (fun _ _ _ h => h) (Or.inl ⟨by rfl, ?_⟩) (by assumption) ?_
                rotate_left
                · intro w hSw
                  (try dsimp only at hSw)
                  go_simp
                  (try with_reducible rfl)
                try simp only [Act.put, List.getElem_toArray, List.getElem_cons_zero, List.getElem_cons_succ, List.setIfInBounds_toArray, List.set_cons_zero, List.set_cons_succ]
                refine wpAnyH_take (i := 33) (v := ?_) rfl (by kernel_rfl) (by kernel_rfl) (by kernel_rfl) (fun _ _ _ h => h) (Or.inl ⟨by rfl, ?_⟩) (by assumption) ?_
                rotate_left
                · intro w hSw
                  (try dsimp only at hSw)
                  go_simp
                  (try with_reducible rfl)
                try simp only [Act.put, List.getElem_toArray, List.getElem_cons_zero, List.getElem_cons_succ, List.setIfInBounds_toArray, List.set_cons_zero, List.set_cons_succ]
                refine wpAnyH_take (i := 34) (v := ?_) rfl (by kernel_rfl) (by kernel_rfl) (by kernel_rfl) (fun _ _ _ h => h) (Or.inl ⟨by rfl, ?_⟩) (by assumption) ?_
                rotate_left
                · intro w hSw
                  (try dsimp only at hSw)
                  go_simp
                  (try with_reducible rfl)
                try simp only [Act.put, List.getElem_toArray, List.getElem_cons_zero, List.getElem_cons_succ, List.setIfInBounds_toArray, List.set_cons_zero, List.set_cons_succ]
                refine wpAnyH_take (i := 35) (v := ?_) rfl (by kernel_rfl) (by kernel_rfl) (by kernel_rfl) (fun _ _ _ h => h) (Or.inl ⟨by rfl, ?_⟩) (by assumption) ?_
                rotate_left
                · intro w hSw
                  (try dsimp only at hSw)
                  go_simp
                  (try with_reducible rfl)
                try simp only [Act.put, List.getElem_toArray, List.getElem_cons_zero, List.getElem_cons_succ, List.setIfInBounds_toArray, List.set_cons_zero, List.set_cons_succ]
                refine wpAnyH_done (by kernel_rfl) ?_ _
                have HD4 := Lib.hid hHeld.2
                clear hHeld f0 f1 f2 f3 f4
                go_wp2_with fail
                go_roundw
                case rel => exact ⟨HD4, m3 + 1, _, HLT3.out, by go_num, rfl, HOK⟩
                case measure => have := HLT3.out; simp [intOf]; omega
              · as_aux_lemma =>
                have HOK : Hid (false = true ↔ ∃ k p, k < m3 + 1 ∧ LO[k]? = some p ∧ p.2.name = y1 ∧ p.2.key = y2) := HSTEP.out false ⟨(fun e => by cases e), fun e => e.elim (fun g => by cases g) fun g => absurd g.1 hpy⟩
                have t1 := str_ne hpy
                have t2 := str_nq hpy
                clear HSTEP HBM hpy
                go_wp2_with fail
                refine wp_region_held_drew (S := fun w' => (w'.cell? ⟨b, m3 * 15, none⟩ = some (.string pn) ∧ w'.cell? ⟨b, m * 15 + 2, none⟩ = some (.slice (some ⟨bi, oi, none⟩) ni xci) ∧ w'.cell? ⟨bi, oi + m2 * 2, none⟩ = some (.string y1)) ∧ Drawn w5 w') (by kernel_rfl) ?_ (fun hHeld => ?_)
                · exact ⟨⟨f0, f2, f3⟩, HD3.out.more 1⟩
                refine wpAnyH_take (i := 0) (v := ?_) rfl (by kernel_rfl) (by kernel_rfl) (by kernel_rfl) (fun _ _ _ h => h) (Or.inl ⟨by rfl, ?_⟩) (by assumption) ?_
                rotate_left
                · intro w hSw
                  (try dsimp only at hSw)
                  go_simp
                  (try with_reducible rfl)
                try simp only [Act.put, List.getElem_toArray, List.getElem_cons_zero, List.setIfInBounds_toArray, List.set_cons_zero, List.set_cons_succ]
                refine wpAnyH_take (i := 1) (v := ?_) rfl (by kernel_rfl) (by kernel_rfl) (by kernel_rfl) (fun _ _ _ h => h) (Or.inl ⟨by rfl, ?_⟩) (by assumption) ?_
                rotate_left
                · intro w hSw
                  (try dsimp only at hSw)
                  go_simp
                  (try with_reducible rfl)
                try simp only [Act.put, List.getElem_toArray, List.getElem_cons_zero, List.getElem_cons_succ, List.setIfInBounds_toArray, List.set_cons_zero, List.set_cons_succ]
                refine wpAnyH_take (i := 2) (v := ?_) rfl (by kernel_rfl) (by kernel_rfl) (by kernel_rfl) (fun _ _ _ h => h) (Or.inl ⟨by rfl, ?_⟩) (by assumption) ?_
                rotate_left
                · intro w hSw
                  (try dsimp only at hSw)
                  go_simp
                  (try with_reducible rfl)
                try simp only [Act.put, List.getElem_toArray, List.getElem_cons_zero, List.getElem_cons_succ, List.setIfInBounds_toArray, List.set_cons_zero, List.set_cons_succ]
                refine wpAnyH_take (i := 3) (v := ?_) rfl (by kernel_rfl) (by kernel_rfl) (by kernel_rfl) (fun _ _ _ h => h) (Or.inl ⟨by rfl, ?_⟩) (by assumption) ?_
                rotate_left
                · intro w hSw
                  (try dsimp only at hSw)
                  go_simp
                  (try with_reducible rfl)
                try simp only [Act.put, List.getElem_toArray, List.getElem_cons_zero, List.getElem_cons_succ, List.setIfInBounds_toArray, List.set_cons_zero, List.set_cons_succ]
                refine wpAnyH_take (i := 4) (v := ?_) rfl (by kernel_rfl) (by kernel_rfl) (by kernel_rfl) (fun _ _ _ h => h) (Or.inl ⟨by rfl, ?_⟩) (by assumption) ?_
                rotate_left
                · intro w hSw
                  (try dsimp only at hSw)
                  go_simp
                  (try with_reducible rfl)
                try simp only [Act.put, List.getElem_toArray, List.getElem_cons_zero, List.getElem_cons_succ, List.setIfInBounds_toArray, List.set_cons_zero, List.set_cons_succ]
                refine wpAnyH_take (i := 5) (v := ?_) rfl (by kernel_rfl) (by kernel_rfl) (by kernel_rfl) (fun _ _ _ h => h) (Or.inl ⟨by rfl, ?_⟩) (by assumption) ?_
                rotate_left
                · intro w hSw
                  (try dsimp only at hSw)
                  go_simp
                  (try with_reducible rfl)
                try simp only [Act.put, List.getElem_toArray, List.getElem_cons_zero, List.getElem_cons_succ, List.setIfInBounds_toArray, List.set_cons_zero, List.set_cons_succ]
                refine wpAnyH_take (i := 6) (v := ?_) rfl (by kernel_rfl) (by kernel_rfl) (by kernel_rfl) (fun _ _ _ h => h) (Or.inl ⟨by rfl, ?_⟩) (by assumption) ?_
                rotate_left
                · intro w hSw
                  have h0 := hSw.1.1
                  (try dsimp only at hSw)
                  go_simp
                  (try with_reducible rfl)
                try simp only [Act.put, List.getElem_toArray, List.getElem_cons_zero, List.getElem_cons_succ, List.setIfInBounds_toArray, List.set_cons_zero, List.set_cons_succ]
                refine wpAnyH_take (i := 7) (v := ?_) rfl (by kernel_rfl) (by kernel_rfl) (by kernel_rfl) (fun _ _ _ h => h) (Or.inl ⟨by rfl, ?_⟩) (by assumption) ?_
                rotate_left
                · intro w hSw
                  (try dsimp only at hSw)
                  go_simp
                  (try with_reducible rfl)
                try simp only [Act.put, List.getElem_toArray, List.getElem_cons_zero, List.getElem_cons_succ, List.setIfInBounds_toArray, List.set_cons_zero, List.set_cons_succ]
                refine wpAnyH_take (i := 8) (v := ?_) rfl (by kernel_rfl) (by kernel_rfl) (by kernel_rfl) (fun _ _ _ h => h) (Or.inl ⟨by rfl, ?_⟩) (by assumption) ?_
                rotate_left
                · intro w hSw
                  (try dsimp only at hSw)
                  go_simp
                  (try with_reducible rfl)
                try simp only [Act.put, List.getElem_toArray, List.getElem_cons_zero, List.getElem_cons_succ, List.setIfInBounds_toArray, List.set_cons_zero, List.set_cons_succ]
                refine wpAnyH_take (i := 9) (v := ?_) rfl (by kernel_rfl) (by kernel_rfl) (by kernel_rfl) (fun _ _ _ h => h) (Or.inl ⟨by rfl, ?_⟩) (by assumption) ?_
                rotate_left
                · intro w hSw
                  (try dsimp only at hSw)
                  go_simp
                  (try with_reducible rfl)
                try simp only [Act.put, List.getElem_toArray, List.getElem_cons_zero, List.getElem_cons_succ, List.setIfInBounds_toArray, List.set_cons_zero, List.set_cons_succ]
                refine wpAnyH_take (i := 10) (v := ?_) rfl (by kernel_rfl) (by kernel_rfl) (by kernel_rfl) (fun _ _ _ h => h) (Or.inl ⟨by rfl, ?_⟩) (by assumption) ?_
                rotate_left
                · intro w hSw
                  (try dsimp only at hSw)
                  go_simp
                  (try with_reducible rfl)
                try simp only [Act.put, List.getElem_toArray, List.getElem_cons_zero, List.getElem_cons_succ, List.setIfInBounds_toArray, List.set_cons_zero, List.set_cons_succ]
                refine wpAnyH_take (i := 11) (v := ?_) rfl (by kernel_rfl) (by kernel_rfl) (by kernel_rfl) (fun _ _ _ h => h) (Or.inl ⟨by rfl, ?_⟩) (by assumption) ?_
                rotate_left
                · intro w hSw
                  have h0 := hSw.1.2.1
                  (try dsimp only at hSw)
                  go_simp
                  (try with_reducible rfl)
                try simp only [Act.put, List.getElem_toArray, List.getElem_cons_zero, List.getElem_cons_succ, List.setIfInBounds_toArray, List.set_cons_zero, List.set_cons_succ]
                refine wpAnyH_take (i := 12) (v := ?_) rfl (by kernel_rfl) (by kernel_rfl) (by kernel_rfl) (fun _ _ _ h => h) (Or.inl ⟨by rfl, ?_⟩) (by assumption) ?_
                rotate_left
                · intro w hSw
                  (try dsimp only at hSw)
                  go_simp
                  (try with_reducible rfl)
                try simp only [Act.put, List.getElem_toArray, List.getElem_cons_zero, List.getElem_cons_succ, List.setIfInBounds_toArray, List.set_cons_zero, List.set_cons_succ]
                refine wpAnyH_take (i := 13) (v := ?_) rfl (by kernel_rfl) (by kernel_rfl) (by kernel_rfl) (fun _ _ _ h => h) (Or.inl ⟨by rfl, ?_⟩) (by assumption) ?_
                rotate_left
                · intro w hSw
                  (try dsimp only at hSw)
                  go_simp
                  (try with_reducible rfl)
                try simp only [Act.put, List.getElem_toArray, List.getElem_cons_zero, List.getElem_cons_succ, List.setIfInBounds_toArray, List.set_cons_zero, List.set_cons_succ]
                refine wpAnyH_take (i := 14) (v := ?_) rfl (by kernel_rfl) (by kernel_rfl) (by kernel_rfl) (fun _ _ _ h => h) (Or.inl ⟨by rfl, ?_⟩) (by assumption) ?_
                rotate_left
                · intro w hSw
                  (try dsimp only at hSw)
                  go_simp
                  (try with_reducible rfl)
                try simp only [Act.put, List.getElem_toArray, List.getElem_cons_zero, List.getElem_cons_succ, List.setIfInBounds_toArray, List.set_cons_zero, List.set_cons_succ]
                refine wpAnyH_take (i := 15) (v := ?_) rfl (by kernel_rfl) (by kernel_rfl) (by kernel_rfl) (fun _ _ _ h => h) (Or.inl ⟨by rfl, ?_⟩) (by assumption) ?_
                rotate_left
                · intro w hSw
                  have h0 := hSw.1.2.2
                  (try dsimp only at hSw)
                  go_simp
                  (try with_reducible rfl)
                try simp only [Act.put, List.getElem_toArray, List.getElem_cons_zero, List.getElem_cons_succ, List.setIfInBounds_toArray, List.set_cons_zero, List.set_cons_succ]
                refine wpAnyH_take (i := 16) (v := ?_) rfl (by kernel_rfl) (by kernel_rfl) (by kernel_rfl) (fun _ _ _ h => h) (Or.inl ⟨by rfl, ?_⟩) (by assumption) ?_
                rotate_left
                · intro w hSw
                  (try dsimp only at hSw)
                  go_simp
                  (try with_reducible rfl)
                try simp only [Act.put, List.getElem_toArray, List.getElem_cons_zero, List.getElem_cons_succ, List.setIfInBounds_toArray, List.set_cons_zero, List.set_cons_succ]
                refine wpAnyH_take (i := 17) (v := ?_) rfl (by kernel_rfl) (by kernel_rfl) (by kernel_rfl) (fun _ _ _ h => h) (Or.inl ⟨by rfl, ?_⟩) (by assumption) ?_
                rotate_left
                · intro w hSw
                  (try dsimp only at hSw)
                  go_simp
                  (try with_reducible rfl)
                try simp only [Act.put, List.getElem_toArray, List.getElem_cons_zero, List.getElem_cons_succ, List.setIfInBounds_toArray, List.set_cons_zero, List.set_cons_succ]
                refine wpAnyH_take (i := 18) (v := undef) rfl (by kernel_rfl) (by kernel_rfl) (by kernel_rfl) (fun _ _ _ h => h) (Or.inr ⟨by rfl, rfl⟩) (by assumption) ?_
                try simp only [Act.put, List.getElem_toArray, List.getElem_cons_zero, List.getElem_cons_succ, List.setIfInBounds_toArray, List.set_cons_zero, List.set_cons_succ]
                refine wpAnyH_take (i := 19) (v := undef) rfl (by kernel_rfl) (by kernel_rfl) (by kernel_rfl) (fun _ _ _ h => h) (Or.inr ⟨by rfl, rfl⟩) (by assumption) ?_
                try simp only [Act.put, List.getElem_toArray, List.getElem_cons_zero, List.getElem_cons_succ, List.setIfInBounds_toArray, List.set_cons_zero, List.set_cons_succ]
                refine wpAnyH_take (i := 20) (v := undef) rfl (by kernel_rfl) (by kernel_rfl) (by kernel_rfl) (fun _ _ _ h => h) (Or.inr ⟨by rfl, rfl⟩) (by assumption) ?_
                try simp only [Act.put, List.getElem_toArray, List.getElem_cons_zero, List.getElem_cons_succ, List.setIfInBounds_toArray, List.set_cons_zero, List.set_cons_succ]
                refine wpAnyH_take (i := 21) (v := undef) rfl (by kernel_rfl) (by kernel_rfl) (by kernel_rfl) (fun _ _ _ h => h) (Or.inr ⟨by rfl, rfl⟩) (by assumption) ?_
                try simp only [Act.put, List.getElem_toArray, List.getElem_cons_zero, List.getElem_cons_succ, List.setIfInBounds_toArray, List.set_cons_zero, List.set_cons_succ]
                refine wpAnyH_take (i := 22) (v := undef) rfl (by kernel_rfl) (by kernel_rfl) (by kernel_rfl) (fun _ _ _ h => h) (Or.inr ⟨by rfl, rfl⟩) (by assumption) ?_
                try simp only [Act.put, List.getElem_toArray, List.getElem_cons_zero, List.getElem_cons_succ, List.setIfInBounds_toArray, List.set_cons_zero, List.set_cons_succ]
                refine wpAnyH_take (i := 23) (v := undef) rfl (by kernel_rfl) (by kernel_rfl) (by kernel_rfl) (fun _ _ _ h => h) (Or.inr ⟨by rfl, rfl⟩) (by assumption) ?_
                try simp only [Act.put, List.getElem_toArray, List.getElem_cons_zero, List.getElem_cons_succ, List.setIfInBounds_toArray, List.set_cons_zero, List.set_cons_succ]
                refine wpAnyH_take (i := 24) (v := undef) rfl (by kernel_rfl) (by kernel_rfl) (by kernel_rfl) (fun _ _ _ h => h) (Or.inr ⟨by rfl, rfl⟩) (by assumption) ?_
                try simp only [Act.put, List.getElem_toArray, List.getElem_cons_zero, List.getElem_cons_succ, List.setIfInBounds_toArray, List.set_cons_zero, List.set_cons_succ]
                refine wpAnyH_take (i := 25) (v := undef) rfl (by kernel_rfl) (by kernel_rfl) (by kernel_rfl) (fun _ _ _ h => h) (Or.inr ⟨by rfl, rfl⟩) (by assumption) ?_
                try simp only [Act.put, List.getElem_toArray, List.getElem_cons_zero, List.getElem_cons_succ, List.setIfInBounds_toArray, List.set_cons_zero, List.set_cons_succ]
                refine wpAnyH_take (i := 26) (v := undef) rfl (by kernel_rfl) (by kernel_rfl) (by kernel_rfl) (fun _ _ _ h => h) (Or.inr ⟨by rfl, rfl⟩) (by assumption) ?_
                try simp only [Act.put, List.getElem_toArray, List.getElem_cons_zero, List.getElem_cons_succ, List.setIfInBounds_toArray, List.set_cons_zero, List.set_cons_succ]
                refine wpAnyH_take (i := 27) (v := undef) rfl (by kernel_rfl) (by kernel_rfl) (by kernel_rfl) (fun _ _ _ h => h) (Or.inr ⟨by rfl, rfl⟩) (by assumption) ?_
                try simp only [Act.put, List.getElem_toArray, List.getElem_cons_zero, List.getElem_cons_succ, List.setIfInBounds_toArray, List.set_cons_zero, List.set_cons_succ]
                refine wpAnyH_take (i := 28) (v := undef) rfl (by kernel_rfl) (by kernel_rfl) (by kernel_rfl) (fun _ _ _ h => h) (Or.inr ⟨by rfl, rfl⟩) (by assumption) ?_
                try simp only [Act.put, List.getElem_toArray, List.getElem_cons_zero, List.getElem_cons_succ, List.setIfInBounds_toArray, List.set_cons_zero, List.set_cons_succ]
                refine wpAnyH_take (i := 29) (v := undef) rfl (by kernel_rfl) (by kernel_rfl) (by kernel_rfl) (fun _ _ _ h => h) (Or.inr ⟨by rfl, rfl⟩) (by assumption) ?_
                try simp only [Act.put, List.getElem_toArray, List.getElem_cons_zero, List.getElem_cons_succ, List.setIfInBounds_toArray, List.set_cons_zero, List.set_cons_succ]
                refine wpAnyH_take (i := 30) (v := undef) rfl (by kernel_rfl) (by kernel_rfl) (by kernel_rfl) (fun _ _ _ h => h) (Or.inr ⟨by rfl, rfl⟩) (by assumption) ?_
                try simp only [Act.put, List.getElem_toArray, List.getElem_cons_zero, List.getElem_cons_succ, List.setIfInBounds_toArray, List.set_cons_zero, List.set_cons_succ]
                refine wpAnyH_take (i := 31) (v := undef) rfl (by kernel_rfl) (by kernel_rfl) (by kernel_rfl) (fun _ _ _ h => h) (Or.inr ⟨by rfl, rfl⟩) (by assumption) ?_
                try simp only [Act.put, List.getElem_toArray, List.getElem_cons_zero, List.getElem_cons_succ, List.setIfInBounds_toArray, List.set_cons_zero, List.set_cons_succ]
                refine wpAnyH_take (i := 32) (v := undef) rfl (by kernel_rfl) (by kernel_rfl) (by kernel_rfl) (fun _ _ _ h => h) (Or.inr ⟨by rfl, rfl⟩) (by assumption) ?_
                try simp only [Act.put, List.getElem_toArray, List.getElem_cons_zero, List.getElem_cons_succ, List.setIfInBounds_toArray, List.set_cons_zero, List.set_cons_succ]
                refine wpAnyH_take (i := 33) (v := ?_) rfl (by kernel_rfl) (by kernel_rfl) (by kernel_rfl) (fun _ _ _ h => h) (Or.inl ⟨by rfl, ?_⟩) (by assumption) ?_
                rotate_left
                · intro w hSw
                  (try dsimp only at hSw)
                  go_simp
                  (try with_reducible rfl)
                try simp only [Act.put, List.getElem_toArray, List.getElem_cons_zero, List.getElem_cons_succ, List.setIfInBounds_toArray, List.set_cons_zero, List.set_cons_succ]
                refine wpAnyH_take (i := 34) (v := ?_) rfl (by kernel_rfl) (by kernel_rfl) (by kernel_rfl) (fun _ _ _ h => h) (Or.inl ⟨by rfl, ?_⟩) (by assumption) ?_
                rotate_left
                · intro w hSw
                  (try dsimp only at hSw)
                  go_simp
                  (try with_reducible rfl)
                try simp only [Act.put, List.getElem_toArray, List.getElem_cons_zero, List.getElem_cons_succ, List.setIfInBounds_toArray, List.set_cons_zero, List.set_cons_succ]
                refine wpAnyH_take (i := 35) (v := ?_) rfl (by kernel_rfl) (by kernel_rfl) (by kernel_rfl) (fun _ _ _ h => h) (Or.inl ⟨by rfl, ?_⟩) (by assumption) ?_
                rotate_left
                · intro w hSw
                  (try dsimp only at hSw)
                  go_simp
                  (try with_reducible rfl)
                try simp only [Act.put, List.getElem_toArray, List.getElem_cons_zero, List.getElem_cons_succ, List.setIfInBounds_toArray, List.set_cons_zero, List.set_cons_succ]
                refine wpAnyH_done (by kernel_rfl) ?_ _
                have HD4 := Lib.hid hHeld.2
                clear hHeld f0 f1 f2 f3 f4
                go_wp2_with fail
                go_roundw
                case rel => exact ⟨HD4, m3 + 1, false, HLT3.out, by go_num, rfl, HOK⟩
                case measure => have := HLT3.out; simp [intOf]; omega
          · as_aux_lemma =>
            have k1 : ¬ (m3 : Int) < (m : Int) := by omega
            have hb1 : bm = true := HBM.out.2 (by
              obtain ⟨k, p, hk, hp, e⟩ := (HST.out m x HX.out).1 m2 (y1, y2) HY.out
              exact ⟨k, p, by omega, hp, e⟩)
            subst hb1
            clear hm3 hlt3 HBM
            go_wp2_with fail
            go_roundw
            case rel => exact ⟨HD3, m2 + 1, HLT2.out, by go_num⟩
            case measure => have := HLT2.out; simp [intOf]; omega
      · as_aux_lemma =>
        have j1 : ¬ (m2 : Int) < (ni : Int) := by omega
        clear hm2 hlt2
        go_wp2_with fail
        clear c2 j1
        go_loopw [12] (fun k wr4 => Hid (Drawn w5 wr4) ∧ ∃ m4 : Nat, m4 ≤ m ∧ k = .int .i64 (m4 : Nat)) (fun k _ => m - (intOf k).toNat)
        case atStart => exact ⟨HD2, 0, Nat.zero_le _, rfl⟩
        case round =>
          obtain ⟨HD4, m4, hm4, rfl⟩ := hrel
          by_cases hlt4 : m4 < m
          · as_aux_lemma =>
            obtain ⟨p, hp⟩ : ∃ p, LO[m4]? = some p := ⟨_, List.getElem?_eq_getElem (by have := HN.out; have := HLT.out; omega)⟩
            have f0 : wr.cell? ⟨b, m4 * 15, none⟩ = some (.string p.2.name) := (HD4.out.cell _).trans (HCL.out m4 p 0 hp (by decide))
            have f1 : wr.cell? ⟨b, m * 15, none⟩ = some (.string x.2.name) := (HD4.out.cell _).trans (HCL.out m x 0 HX.out (by decide))
            have hne := (HST.out m x HX.out).2 m4 p hlt4 hp
            have t1 := str_ne hne
            have t2 := str_nq hne
            have k1 : (m4 : Int) < (m : Int) := by omega
            have k2 : (0 : Int) ≤ (m4 : Int) := by omega
            have k3 : (m4 : Int) < (n : Int) := by omega
            have HLT4 : Hid (m4 < m) := hlt4
            clear hp hm4 hlt4 hne
            generalize p.2.name = pn at *
            generalize hxn : x.2.name = xn at *
            clear hxn
            go_wp2_with fail
            refine wp_region_held_drew (S := fun w' => (w'.cell? ⟨b, m4 * 15, none⟩ = some (.string pn) ∧ w'.cell? ⟨b, m * 15, none⟩ = some (.string xn)) ∧ Drawn w5 w') (by kernel_rfl) ?_ (fun hHeld => ?_)
            · exact ⟨⟨f0, f1⟩, HD4.out.more 1⟩
            refine wpAnyH_take (i := 0) (v := ?_) rfl (by kernel_rfl) (by kernel_rfl) (by kernel_rfl) (fun _ _ _ h => h) (Or.inl ⟨by rfl, ?_⟩) (by assumption) ?_
            rotate_left
            · intro w hSw
              (try dsimp only at hSw)
              go_simp
              (try with_reducible rfl)
            try simp only [Act.put, List.getElem_toArray, List.getElem_cons_zero, List.setIfInBounds_toArray, List.set_cons_zero, List.set_cons_succ]
            refine wpAnyH_take (i := 1) (v := ?_) rfl (by kernel_rfl) (by kernel_rfl) (by kernel_rfl) (fun _ _ _ h => h) (Or.inl ⟨by rfl, ?_⟩) (by assumption) ?_
            rotate_left
            · intro w hSw
              (try dsimp only at hSw)
              go_simp
              (try with_reducible rfl)
            try simp only [Act.put, List.getElem_toArray, List.getElem_cons_zero, List.getElem_cons_succ, List.setIfInBounds_toArray, List.set_cons_zero, List.set_cons_succ]
            refine wpAnyH_take (i := 2) (v := ?_) rfl (by kernel_rfl) (by kernel_rfl) (by kernel_rfl) (fun _ _ _ h => h) (Or.inl ⟨by rfl, ?_⟩) (by assumption) ?_
            rotate_left
            · intro w hSw
              (try dsimp only at hSw)
              go_simp
              (try with_reducible rfl)
            try simp only [Act.put, List.getElem_toArray, List.getElem_cons_zero, List.getElem_cons_succ, List.setIfInBounds_toArray, List.set_cons_zero, List.set_cons_succ]
            refine wpAnyH_take (i := 3) (v := ?_) rfl (by kernel_rfl) (by kernel_rfl) (by kernel_rfl) (fun _ _ _ h => h) (Or.inl ⟨by rfl, ?_⟩) (by assumption) ?_
            rotate_left
            · intro w hSw
              (try dsimp only at hSw)
              go_simp
              (try with_reducible rfl)
            try simp only [Act.put, List.getElem_toArray, List.getElem_cons_zero, List.getElem_cons_succ, List.setIfInBounds_toArray, List.set_cons_zero, List.set_cons_succ]
            refine wpAnyH_take (i := 4) (v := ?_) rfl (by kernel_rfl) (by kernel_rfl) (by kernel_rfl) (fun _ _ _ h => h) (Or.inl ⟨by rfl, ?_⟩) (by assumption) ?_
            rotate_left
            · intro w hSw
              have h0 := hSw.1.1
              (try dsimp only at hSw)
              go_simp
              (try with_reducible rfl)
            try simp only [Act.put, List.getElem_toArray, List.getElem_cons_zero, List.getElem_cons_succ, List.setIfInBounds_toArray, List.set_cons_zero, List.set_cons_succ]
            refine wpAnyH_take (i := 5) (v := ?_) rfl (by kernel_rfl) (by kernel_rfl) (by kernel_rfl) (fun _ _ _ h => h) (Or.inl ⟨by rfl, ?_⟩) (by assumption) ?_
            rotate_left
            · intro w hSw
              (try dsimp only at hSw)
              go_simp
              (try with_reducible rfl)
            try simp only [Act.put, List.getElem_toArray, List.getElem_cons_zero, List.getElem_cons_succ, List.setIfInBounds_toArray, List.set_cons_zero, List.set_cons_succ]
            refine wpAnyH_take (i := 6) (v := ?_) rfl (by kernel_rfl) (by kernel_rfl) (by kernel_rfl) (fun _ _ _ h => h) (Or.inl ⟨by rfl, ?_⟩) (by assumption) ?_
            rotate_left
            · intro w hSw
              (try dsimp only at hSw)
              go_simp
              (try with_reducible rfl)
            try simp only [Act.put, List.getElem_toArray, List.getElem_cons_zero, List.getElem_cons_succ, List.setIfInBounds_toArray, List.set_cons_zero, List.set_cons_succ]
            refine wpAnyH_take (i := 7) (v := ?_) rfl (by kernel_rfl) (by kernel_rfl) (by kernel_rfl) (fun _ _ _ h => h) (Or.inl ⟨by rfl, ?_⟩) (by assumption) ?_
            rotate_left
            · intro w hSw
              (try dsimp only at hSw)
              go_simp
              (try with_reducible rfl)
            try simp only [Act.put, List.getElem_toArray, List.getElem_cons_zero, List.getElem_cons_succ, List.setIfInBounds_toArray, List.set_cons_zero, List.set_cons_succ]
            refine wpAnyH_take (i := 8) (v := ?_) rfl (by kernel_rfl) (by kernel_rfl) (by kernel_rfl) (fun _ _ _ h => h) (Or.inl ⟨by rfl, ?_⟩) (by assumption) ?_
            rotate_left
            · intro w hSw
              (try dsimp only at hSw)
              go_simp
              (try with_reducible rfl)
            try simp only [Act.put, List.getElem_toArray, List.getElem_cons_zero, List.getElem_cons_succ, List.setIfInBounds_toArray, List.set_cons_zero, List.set_cons_succ]
            refine wpAnyH_take (i := 9) (v := ?_) rfl (by kernel_rfl) (by kernel_rfl) (by kernel_rfl) (fun _ _ _ h => h) (Or.inl ⟨by rfl, ?_⟩) (by assumption) ?_
            rotate_left
            · intro w hSw
              have h0 := hSw.1.2
              (try dsimp only at hSw)
              go_simp
              (try with_reducible rfl)
            try simp only [Act.put, List.getElem_toArray, List.getElem_cons_zero, List.getElem_cons_succ, List.setIfInBounds_toArray, List.set_cons_zero, List.set_cons_succ]
            refine wpAnyH_take (i := 10) (v := ?_) rfl (by kernel_rfl) (by kernel_rfl) (by kernel_rfl) (fun _ _ _ h => h) (Or.inl ⟨by rfl, ?_⟩) (by assumption) ?_
            rotate_left
            · intro w hSw
              (try dsimp only at hSw)
              go_simp
              (try with_reducible rfl)
            try simp only [Act.put, List.getElem_toArray, List.getElem_cons_zero, List.getElem_cons_succ, List.setIfInBounds_toArray, List.set_cons_zero, List.set_cons_succ]
            refine wpAnyH_done (by kernel_rfl) ?_ _
            have HD5 := Lib.hid hHeld.2
            clear hHeld f0 f1
            go_wp2_with fail
            go_roundw
            case rel => exact ⟨HD5, m4 + 1, HLT4.out, by go_num⟩
            case measure => have := HLT4.out; simp [intOf]; omega
          · as_aux_lemma =>
            have k1 : ¬ (m4 : Int) < (m : Int) := by omega
            clear hm4 hlt4
            go_wp2_with fail
            go_roundw
            case rel => exact ⟨HD4, m + 1, HLT.out, by go_num⟩
            case measure => have := HLT.out; simp [intOf]; omega
end Go.Proofs.Ytkkjfbpflfknpaa

/-
  OrderStands (layer 19), at any arguments as they are read. No conditions.
-/
namespace Go.Proofs.Ytkkjfbpflfknpaa
open Go.ChangeShapes Go.WideShapes Go.ChangeAt Go.RowKit

theorem orderStands_read (a : Option Addr) (n cap : Nat) (s : ByteArray) (w : World) (h : ∃ L, FilesIn w (.slice a n cap) L ∧ ∀ x ∈ L, x.1.size ≤ maxLen) (_ : s.size ≤ maxLen) :
    Calls Try.prog 4 #[.slice a n cap, .string s] w fun e w' => e = .returned (.bool true) ∧ Below w.heap.size w w' := by
  obtain ⟨L, h, _⟩ := h
  exact orderStands_any _ L s w h
end Go.Proofs.Ytkkjfbpflfknpaa
