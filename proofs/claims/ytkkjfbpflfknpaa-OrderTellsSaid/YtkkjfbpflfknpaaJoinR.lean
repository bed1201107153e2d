/-
  append(append([]api.Object{}, out...), o), its new memory made in each of three orders. Conditions: at most 20 objects.
-/
import Derived.Test.YtkkjfbpflfknpaaOrA
import Derived.Test.YtkkjfbpflfknpaaRefCk
import Derived.Deep.DeepCutAuto
import Derived.Deep.RegionHeld3
namespace Go.Proofs.Ytkkjfbpflfknpaa
open Go.ChangeShapes Go.WideShapes Go.ChangeAt Go.RowKit

theorem one_obj (W : World) (V : ObjV) (o : ObjD) (b : Nat) (hb : b = W.heap.size) (h1 : Ones (ocells V o)) : SRow OT 15 (W.alloc (.cells #[.string o.name, .int .u32 (o.key : Nat), V.i, V.t, .int .i64 o.data, .string o.text, V.c, V.m, V.e, V.p, V.q, .int .i64 o.f0, .int .i64 o.f1, .int .i64 o.f2, .int .i64 o.body] OT)) (.slice (some ⟨b, 0, none⟩) 1 1) [(V, o)].length (rows objRow [(V, o)]) := by
  subst hb
  exact ⟨.inr ⟨W.heap.size, 1, [], rfl, RowAt.new W OT (ocells V o), rfl, Nat.le_refl _, by simp [maxLen]⟩, rfl, h1⟩
/- a slice literal whose run is known, as a step of a region that draws its order -/
theorem step_build {P : Program} {ops : Array Oper} {o : Oper} {a : Act} {w : World} {K : Act → World → Prop} {Q : Exit → Act → World → Prop} {E : Prop} (hg : o.guard = none) (t : TypeId) (n : Nat) (parts : Array (Nat × Operand))
    (hop : o.op = Op.buildSlice t n parts) (vs : Array (Nat × Value)) (hv : parts.map (fun x => (x.1, a.eval x.2)) = vs) {v' : Value} {w' : World}
    (hr : (Instr.buildSlice t n vs).run P w = .ok v' w') (hK : K (a.put o.dst v') w') : if Region.wanted o (yielded ops a.tmps) = true then Oper.wp P o a w K Q else E := by
  have hw : Region.wanted o (yielded ops a.tmps) = true := by simp [Region.wanted, hg]
  rw [if_pos hw]
  unfold Oper.wp
  have hv' : (parts.map fun (i, x) => (i, a.eval x)) = vs := hv
  simp only [execOp, hop, hv', Sem.run_bind, hr, Result.andThen_ok]
  exact hK
set_option maxRecDepth 100000 in
theorem nil_build (W : World) : (Instr.buildSlice ObS 0 #[]).run Try.prog W = .ok (.slice (some ⟨W.heap.size, 0, none⟩) 0 0) (W.alloc (.cells #[] OT)) := by kernel_rfl
set_option maxRecDepth 100000 in
theorem obj_build (W : World) (V : ObjV) (o : ObjD) : (Instr.buildSlice ObS 1 #[(0, .agg #[.string o.name, .int .u32 (o.key : Nat), V.i, V.t, .int .i64 o.data, .string o.text, V.c, V.m, V.e, V.p, V.q, .int .i64 o.f0, .int .i64 o.f1, .int .i64 o.f2, .int .i64 o.body])]).run Try.prog W = .ok (.slice (some ⟨W.heap.size, 0, none⟩) 1 1) (W.alloc (.cells #[.string o.name, .int .u32 (o.key : Nat), V.i, V.t, .int .i64 o.data, .string o.text, V.c, V.m, V.e, V.p, V.q, .int .i64 o.f0, .int .i64 o.f1, .int .i64 o.f2, .int .i64 o.body] OT)) := by
  simp [go_sem]
theorem nil_build_at (W : World) (k : Nat) (hk : k = W.heap.size) : (Instr.buildSlice ObS 0 #[]).run Try.prog W = .ok (.slice (some ⟨k, 0, none⟩) 0 0) (W.alloc (.cells #[] OT)) := by
  subst hk
  exact nil_build W
theorem obj_build_at (W : World) (V : ObjV) (o : ObjD) (k : Nat) (hk : k = W.heap.size) : (Instr.buildSlice ObS 1 #[(0, .agg #[.string o.name, .int .u32 (o.key : Nat), V.i, V.t, .int .i64 o.data, .string o.text, V.c, V.m, V.e, V.p, V.q, .int .i64 o.f0, .int .i64 o.f1, .int .i64 o.f2, .int .i64 o.body])]).run Try.prog W = .ok (.slice (some ⟨k, 0, none⟩) 1 1) (W.alloc (.cells #[.string o.name, .int .u32 (o.key : Nat), V.i, V.t, .int .i64 o.data, .string o.text, V.c, V.m, V.e, V.p, V.q, .int .i64 o.f0, .int .i64 o.f1, .int .i64 o.f2, .int .i64 o.body] OT)) := by
  subst hk
  exact obj_build W V o
/- what is there behind both appends -/
structure App (wr : World) (V : ObjV) (o : ObjD) (LO : List (ObjV × ObjD)) (w2 w5 : World) (v5 : Value) : Prop where
  b2 : Below wr.heap.size wr w2
  b5 : Below wr.heap.size wr w5
  els : ElsAt 15 objRow w5 v5 (LO ++ [(V, o)])
section
variable {wr : World} {V : ObjV} {o : ObjD} {LO : List (ObjV × ObjD)} {lv : Value}
theorem app_tail (hL : ElsAt 15 objRow wr lv LO) (hOL : ∀ x ∈ LO, Ones (objRow x)) (hlen : LO.length ≤ 20) {W : World} {eb : Nat} (hb : Below wr.heap.size wr W) (he : SRow OT 15 W (.slice (some ⟨eb, 0, none⟩) 0 0) ([] : List (ObjV × ObjD)).length (rows objRow ([] : List (ObjV × ObjD)))) (hle : wr.heap.size ≤ eb) :
    ∃ v2 w2, (Builtin.append_ #[ObS, ObS] ObS #[.slice (some ⟨eb, 0, none⟩) 0 0, lv]).run Try.prog W = .ok v2 w2 ∧ SRow OT 15 w2 v2 LO.length (rows objRow LO) ∧ Kept (· = eb) W w2 ∧ (∀ j, own v2 j → wr.heap.size ≤ j) ∧ v2 ≠ .slice none 0 0 ∧ Below wr.heap.size wr w2 := by
  obtain ⟨v2, w2, hr2, hs2, hg2, hn2⟩ := append_all (T := ObS) Try.underlying29 info_obj rfl (by decide) objRow_len (by decide) he (hL.on hb) hOL (by simp) (by simp; omega)
  rw [List.nil_append] at hs2
  refine ⟨v2, w2, hr2, hs2, hg2.1, fun j hj => ?_, hn2, hg2.1.below hb hb.size fun j _ hj => by have e : j = eb := hj; omega⟩
  rcases hg2.2 j hj with e | e
  · have e : j = eb := e
    omega
  · exact Nat.le_trans hb.size e
theorem app_end (hON : Ones (objRow (V, o))) (hlen : LO.length ≤ 20) {w2 W : World} {v2 : Value} {cb : Nat} (hs2 : SRow OT 15 W v2 LO.length (rows objRow LO)) (hn2 : v2 ≠ .slice none 0 0) (hf2 : ∀ j, own v2 j → wr.heap.size ≤ j) (hb2 : Below wr.heap.size wr w2) (hb : Below wr.heap.size wr W)
    (hel : SRow OT 15 W (.slice (some ⟨cb, 0, none⟩) 1 1) [(V, o)].length (rows objRow [(V, o)])) :
    ∃ v5 w5, (Builtin.append_ #[ObS, ObS] ObS #[v2, .slice (some ⟨cb, 0, none⟩) 1 1]).run Try.prog W = .ok v5 w5 ∧ App wr V o LO w2 w5 v5 := by
  obtain ⟨v5, w5, hr5, hs5, hg5, _⟩ := append_all (T := ObS) Try.underlying29 info_obj rfl (by decide) objRow_len (by decide) hs2 (hel.els objRow_len) (fun x hx => by rw [List.mem_singleton.1 hx]; exact hON) hn2 (by simp; omega)
  exact ⟨v5, w5, hr5, hb2, hg5.1.below hb hb.size fun j _ hj => hf2 j hj, hs5.els objRow_len⟩
/- the empty slice, the append, the element, the append -/
theorem app_a (hL : ElsAt 15 objRow wr lv LO) (hOL : ∀ x ∈ LO, Ones (objRow x)) (hON : Ones (objRow (V, o))) (hlen : LO.length ≤ 20) :
    ∃ v2 w2 v5 w5, (Builtin.append_ #[ObS, ObS] ObS #[.slice (some ⟨wr.heap.size, 0, none⟩) 0 0, lv]).run Try.prog (wr.drew.alloc (.cells #[] OT)) = .ok v2 w2 ∧
      (Builtin.append_ #[ObS, ObS] ObS #[v2, .slice (some ⟨w2.heap.size, 0, none⟩) 1 1]).run Try.prog (w2.alloc (.cells #[.string o.name, .int .u32 (o.key : Nat), V.i, V.t, .int .i64 o.data, .string o.text, V.c, V.m, V.e, V.p, V.q, .int .i64 o.f0, .int .i64 o.f1, .int .i64 o.f2, .int .i64 o.body] OT)) = .ok v5 w5 ∧ App wr V o LO w2 w5 v5 := by
  have hb0 : Below wr.heap.size wr (wr.drew.alloc (.cells #[] OT)) := (show Below wr.heap.size wr wr.drew from (Drawn.of_n wr 1).below _).alloc (Nat.le_refl _) _
  obtain ⟨v2, w2, q0, q1, _, q3, q4, q5⟩ := app_tail hL hOL hlen hb0 (SRow.empty OT 15 objRow wr.drew) (Nat.le_refl _)
  have hb1 : Below w2.heap.size w2 (w2.alloc (.cells #[.string o.name, .int .u32 (o.key : Nat), V.i, V.t, .int .i64 o.data, .string o.text, V.c, V.m, V.e, V.p, V.q, .int .i64 o.f0, .int .i64 o.f1, .int .i64 o.f2, .int .i64 o.body] OT)) := (Below.refl _ _).alloc (Nat.le_refl _) _
  obtain ⟨v5, w5, r0, r1⟩ := app_end (w2 := w2) hON hlen (q1.keep (Kept.of_below (S := fun _ => False) hb1) fun _ _ e => e) q4 q3 q5 (below_on q5 hb1 q5.size) (one_obj w2 V o w2.heap.size rfl hON)
  exact ⟨v2, w2, v5, w5, q0, r0, r1⟩
/- the empty slice, the element, both appends -/
theorem app_b (hL : ElsAt 15 objRow wr lv LO) (hOL : ∀ x ∈ LO, Ones (objRow x)) (hON : Ones (objRow (V, o))) (hlen : LO.length ≤ 20) :
    ∃ v2 w2 v5 w5, (Builtin.append_ #[ObS, ObS] ObS #[.slice (some ⟨wr.heap.size, 0, none⟩) 0 0, lv]).run Try.prog ((wr.drew.alloc (.cells #[] OT)).alloc (.cells #[.string o.name, .int .u32 (o.key : Nat), V.i, V.t, .int .i64 o.data, .string o.text, V.c, V.m, V.e, V.p, V.q, .int .i64 o.f0, .int .i64 o.f1, .int .i64 o.f2, .int .i64 o.body] OT)) = .ok v2 w2 ∧
      (Builtin.append_ #[ObS, ObS] ObS #[v2, .slice (some ⟨wr.heap.size + 1, 0, none⟩) 1 1]).run Try.prog w2 = .ok v5 w5 ∧ App wr V o LO w2 w5 v5 := by
  have hb0 : Below wr.heap.size wr (wr.drew.alloc (.cells #[] OT)) := (show Below wr.heap.size wr wr.drew from (Drawn.of_n wr 1).below _).alloc (Nat.le_refl _) _
  have hb1 : Below (wr.drew.alloc (.cells #[] OT)).heap.size (wr.drew.alloc (.cells #[] OT)) ((wr.drew.alloc (.cells #[] OT)).alloc (.cells #[.string o.name, .int .u32 (o.key : Nat), V.i, V.t, .int .i64 o.data, .string o.text, V.c, V.m, V.e, V.p, V.q, .int .i64 o.f0, .int .i64 o.f1, .int .i64 o.f2, .int .i64 o.body] OT)) := (Below.refl _ _).alloc (Nat.le_refl _) _
  have he0 : SRow OT 15 (wr.drew.alloc (.cells #[] OT)) (.slice (some ⟨wr.heap.size, 0, none⟩) 0 0) ([] : List (ObjV × ObjD)).length (rows objRow ([] : List (ObjV × ObjD))) := SRow.empty OT 15 objRow wr.drew
  obtain ⟨v2, w2, q0, q1, q2, q3, q4, q5⟩ := app_tail hL hOL hlen (below_on hb0 hb1 hb0.size) (he0.keep (Kept.of_below (S := fun _ => False) hb1) fun _ _ e => e) (Nat.le_refl _)
  obtain ⟨v5, w5, r0, r1⟩ := app_end (w2 := w2) hON hlen q1 q4 q3 q5 q5 ((one_obj (wr.drew.alloc (.cells #[] OT)) V o (wr.heap.size + 1) (by simp) hON).keep q2 (fun j hj e => by have e1 : j = wr.heap.size + 1 := hj; have e2 : j = wr.heap.size := e; omega))
  exact ⟨v2, w2, v5, w5, q0, r0, r1⟩
/- the element, the empty slice, both appends -/
theorem app_c (hL : ElsAt 15 objRow wr lv LO) (hOL : ∀ x ∈ LO, Ones (objRow x)) (hON : Ones (objRow (V, o))) (hlen : LO.length ≤ 20) :
    ∃ v2 w2 v5 w5, (Builtin.append_ #[ObS, ObS] ObS #[.slice (some ⟨wr.heap.size + 1, 0, none⟩) 0 0, lv]).run Try.prog ((wr.drew.alloc (.cells #[.string o.name, .int .u32 (o.key : Nat), V.i, V.t, .int .i64 o.data, .string o.text, V.c, V.m, V.e, V.p, V.q, .int .i64 o.f0, .int .i64 o.f1, .int .i64 o.f2, .int .i64 o.body] OT)).alloc (.cells #[] OT)) = .ok v2 w2 ∧
      (Builtin.append_ #[ObS, ObS] ObS #[v2, .slice (some ⟨wr.heap.size, 0, none⟩) 1 1]).run Try.prog w2 = .ok v5 w5 ∧ App wr V o LO w2 w5 v5 := by
  have hb0 : Below wr.heap.size wr (wr.drew.alloc (.cells #[.string o.name, .int .u32 (o.key : Nat), V.i, V.t, .int .i64 o.data, .string o.text, V.c, V.m, V.e, V.p, V.q, .int .i64 o.f0, .int .i64 o.f1, .int .i64 o.f2, .int .i64 o.body] OT)) := (show Below wr.heap.size wr wr.drew from (Drawn.of_n wr 1).below _).alloc (Nat.le_refl _) _
  have hb1 : Below (wr.drew.alloc (.cells #[.string o.name, .int .u32 (o.key : Nat), V.i, V.t, .int .i64 o.data, .string o.text, V.c, V.m, V.e, V.p, V.q, .int .i64 o.f0, .int .i64 o.f1, .int .i64 o.f2, .int .i64 o.body] OT)).heap.size (wr.drew.alloc (.cells #[.string o.name, .int .u32 (o.key : Nat), V.i, V.t, .int .i64 o.data, .string o.text, V.c, V.m, V.e, V.p, V.q, .int .i64 o.f0, .int .i64 o.f1, .int .i64 o.f2, .int .i64 o.body] OT)) ((wr.drew.alloc (.cells #[.string o.name, .int .u32 (o.key : Nat), V.i, V.t, .int .i64 o.data, .string o.text, V.c, V.m, V.e, V.p, V.q, .int .i64 o.f0, .int .i64 o.f1, .int .i64 o.f2, .int .i64 o.body] OT)).alloc (.cells #[] OT)) := (Below.refl _ _).alloc (Nat.le_refl _) _
  have he0 := SRow.empty OT 15 objRow (wr.drew.alloc (.cells #[.string o.name, .int .u32 (o.key : Nat), V.i, V.t, .int .i64 o.data, .string o.text, V.c, V.m, V.e, V.p, V.q, .int .i64 o.f0, .int .i64 o.f1, .int .i64 o.f2, .int .i64 o.body] OT))
  rw [show (wr.drew.alloc (.cells #[.string o.name, .int .u32 (o.key : Nat), V.i, V.t, .int .i64 o.data, .string o.text, V.c, V.m, V.e, V.p, V.q, .int .i64 o.f0, .int .i64 o.f1, .int .i64 o.f2, .int .i64 o.body] OT)).heap.size = wr.heap.size + 1 by simp] at he0
  obtain ⟨v2, w2, q0, q1, q2, q3, q4, q5⟩ := app_tail hL hOL hlen (below_on hb0 hb1 hb0.size) he0 (Nat.le_succ _)
  have hel0 : SRow OT 15 (wr.drew.alloc (.cells #[.string o.name, .int .u32 (o.key : Nat), V.i, V.t, .int .i64 o.data, .string o.text, V.c, V.m, V.e, V.p, V.q, .int .i64 o.f0, .int .i64 o.f1, .int .i64 o.f2, .int .i64 o.body] OT)) (.slice (some ⟨wr.heap.size, 0, none⟩) 1 1) [(V, o)].length (rows objRow [(V, o)]) := one_obj wr.drew V o wr.heap.size rfl hON
  obtain ⟨v5, w5, r0, r1⟩ := app_end (w2 := w2) hON hlen q1 q4 q3 q5 q5 ((hel0.keep (Kept.of_below (S := fun _ => False) hb1) fun _ _ e => e).keep q2 (fun j hj e => by have e1 : j = wr.heap.size := hj; have e2 : j = wr.heap.size + 1 := e; omega))
  exact ⟨v2, w2, v5, w5, q0, r0, r1⟩
end
end Go.Proofs.Ytkkjfbpflfknpaa

/-
  The document's resolve (layer 19). Conditions: few files (FewF), each small; depth 9 - n.
-/
namespace Go.Proofs.Ytkkjfbpflfknpaa
open Go.ChangeShapes Go.WideShapes Go.ChangeAt Go.RowKit

/- what resolve answers -/
def ResTold (w : World) (r : ORes) (e : Ending) (w' : World) : Prop :=
  match r with
  | .bad k => (∃ vo vw, e = .returned (.tuple #[vo, vw, .int .i64 (k : Nat)])) ∧ k ≠ 0 ∧ Below w.heap.size w w'
  | .good st => (∃ vo vw, e = .returned (.tuple #[vo, vw, .int .i64 0]) ∧ OutIn w' vo st.out ∧ ElsAt 1 sRow w' vw st.way) ∧ Below w.heap.size w w'
theorem ResTold.bad {w w' : World} {r : ORes} {k : Nat} {vo vw : Value} (hr : r = .bad k) (hk : k ≠ 0) (hb : Below w.heap.size w w') : ResTold w r (.returned (.tuple #[vo, vw, .int .i64 (k : Nat)])) w' := by
  subst hr
  exact ⟨⟨vo, vw, rfl⟩, hk, hb⟩
theorem ResTold.good {w w' : World} {r : ORes} {st : OSt} {vo vw : Value} (hr : r = .good st) (ho : OutIn w' vo st.out) (hw : ElsAt 1 sRow w' vw st.way) (hb : Below w.heap.size w w') : ResTold w r (.returned (.tuple #[vo, vw, .int .i64 0])) w' := by
  subst hr
  exact ⟨⟨vo, vw, rfl, ho, hw⟩, hb⟩
/- while names are looked for in a list of names -/
theorem not_mem_of {L : List ByteArray} {s : ByteArray} {n : Nat} (hn : L.length ≤ n) (h : ∀ (j : Nat) (x : ByteArray), j < n → L[j]? = some x → x ≠ s) : s ∉ L := fun hm => by
  obtain ⟨j, hj⟩ := List.getElem?_of_mem hm
  exact h j s (by have := (List.getElem?_eq_some_iff.1 hj).1; omega) hj rfl
set_option maxRecDepth 100000 in
set_option maxHeartbeats 16000000 in
theorem dres_step (n : Nat) (L : List (ByteArray × ObjV × ObjD)) (ld : List ByteArray) (lv dv : Value) (hn : n ≤ 9)
    (IH : ∀ m, n = m + 1 → ∀ (vo vw : Value) (st : OSt) (s : ByteArray) (w : World), FilesIn w lv L → ElsAt 1 sRow w dv ld → OutIn w vo st.out → ElsAt 1 sRow w vw st.way → OInv (filesD L) st →
      Calls Try.prog 10 #[lv, dv, vo, vw, .string s, .int .i64 (9 - (m : Nat))] w fun e w' => ResTold w (resN (filesD L) ld m st s) e w')
    (hfew : FewF L) (vo vw : Value) (st : OSt) (s : ByteArray) (w : World) (hl : FilesIn w lv L) (hd : ElsAt 1 sRow w dv ld) (ho : OutIn w vo st.out) (hw : ElsAt 1 sRow w vw st.way) (hi : OInv (filesD L) st) :
    Calls Try.prog 10 #[lv, dv, vo, vw, .string s, .int .i64 (9 - (n : Nat))] w fun e w' => ResTold w (resN (filesD L) ld n st s) e w' := by
  have HL := Lib.hid hl
  have HD := Lib.hid hd
  have HO := Lib.hid ho
  have HW := Lib.hid hw
  have HI := Lib.hid hi
  have HFEW := Lib.hid hfew
  have HIH := Lib.hid IH
  obtain ⟨ans, hans⟩ : ∃ ans, ans = resN (filesD L) ld n st s := ⟨_, rfl⟩
  have HANS := Lib.hid hans
  rw [← hans]
  obtain ⟨al, cl, hlv, _⟩ := hl.els.shape
  obtain ⟨nl, hnl⟩ : ∃ n, n = L.length := ⟨_, rfl⟩
  rw [← hnl] at hlv
  have HLV := Lib.hid hlv
  have HNL := Lib.hid hnl
  have nl20 : nl ≤ 20 := by rw [hnl]; exact hfew.1
  obtain ⟨ad, cd, hdv, hdc, hdm, _⟩ := hd.shape
  obtain ⟨nd, hnd⟩ : ∃ n, n = ld.length := ⟨_, rfl⟩
  rw [← hnd] at hdv hdc
  have HDV := Lib.hid hdv
  have HND := Lib.hid hnd
  have snd : nd ≤ 9223372036854775807 := Nat.le_trans hdc hdm
  obtain ⟨ao, co, hov, _⟩ := ho.shape
  obtain ⟨no, hno⟩ : ∃ n, n = st.out.length := ⟨_, rfl⟩
  rw [← hno] at hov
  have HOV := Lib.hid hov
  have HNO := Lib.hid hno
  obtain ⟨aw, cw, hwv, _⟩ := hw.shape
  obtain ⟨nw, hnw⟩ : ∃ n, n = st.way.length := ⟨_, rfl⟩
  rw [← hnw] at hwv
  have HWV := Lib.hid hwv
  have HNW := Lib.hid hnw
  have hwl := hi.way
  rw [show (filesD L).length = L.length by unfold filesD; rw [List.length_map]] at hwl
  have nw20 : nw ≤ 20 := by rw [hnw]; exact Nat.le_trans hwl hfew.1
  have no20 : no ≤ 20 := by rw [hno]; exact Nat.le_trans hi.few (Nat.le_trans hwl hfew.1)
  have dn : (9 - (n : Int)) ≤ 9 := by omega
  have dn0 : 0 ≤ (9 - (n : Int)) := by omega
  obtain ⟨dep, hdep⟩ : ∃ dep : Int, dep = 9 - (n : Int) := ⟨_, rfl⟩
  rw [← hdep] at dn dn0 ⊢
  have HDEP := Lib.hid hdep
  subst hlv hdv hov hwv
  clear hl hd ho hw hi hfew IH hans hnl hnd hno hnw hdc hdm hwl hdep
  go_enter Try.func10, Try.ntmps10
  go_wp2_with fail
  go_loopw [15] (fun i wr => w = wr ∧ ∃ m : Nat, m ≤ no ∧ i = .int .i64 (m : Nat) ∧ ∀ (j : Nat) (x : ObjD), j < m → st.out[j]? = some x → x.name ≠ s) (fun i _ => no - (intOf i).toNat)
  case atStart => exact ⟨rfl, 0, Nat.zero_le _, rfl, fun j x hj => by omega⟩
  case round =>
    obtain ⟨rfl, m, hm, rfl, hall⟩ := hrel
    have HALL := Lib.hid hall
    clear hall
    by_cases hlt : m < no
    · obtain ⟨x, hx⟩ : ∃ x, st.out[m]? = some x := ⟨_, List.getElem?_eq_getElem (by have := HNO.out; omega)⟩
      have HX := Lib.hid hx
      obtain ⟨b, off, cap, e0, hb, u0, _⟩ := HO.out.cell hx
      rw [← HNO.out] at e0
      have ea : ao = some ⟨b, off, none⟩ := by cases e0; rfl
      subst ea
      have i1 : (m : Int) < (no : Int) := by omega
      have i2 : (0 : Int) ≤ (m : Int) := by omega
      have HLT : Hid (m < no) := hlt
      clear e0 hx hb hm hlt
      by_cases hxs : x.name = s
      · as_aux_lemma =>
        have RES : Hid (ans = .good st) := HANS.out.trans (res_known (.inl ⟨x, List.mem_of_getElem? HX.out, hxs⟩))
        have t1 : (x.name.toList == s.toList) = true := by rw [hxs]; simp
        clear hxs
        go_wp2_with fail
        go_ret3
        exact ResTold.good RES.out HO.out HW.out (Below.refl _ _)
      · as_aux_lemma =>
        have t1 := str_ne hxs
        have t2 := str_nq hxs
        have HOK := Lib.hid (all_next (Q := fun _ (x : ObjD) => x.name ≠ s) HALL.out HX.out hxs)
        clear hxs
        go_wp2_with fail
        go_roundw
        case rel => exact ⟨by trivial, m + 1, HLT.out, by go_num, HOK.out⟩
        case measure => have := HLT.out; simp [intOf]; omega
    · have i1 : ¬ (m : Int) < (no : Int) := by omega
      have HNO1 : Hid (¬ ∃ o ∈ st.out, o.name = s) := fun ⟨o, ho, he⟩ => by
        obtain ⟨j, hj⟩ := List.getElem?_of_mem ho
        exact HALL.out j o (by have := (List.getElem?_eq_some_iff.1 hj).1; have := HNO.out; omega) hj he
      clear hm hlt HALL
      go_wp2_with fail
      clear i1
      go_loopw [16] (fun i wr => w = wr ∧ ∃ m : Nat, m ≤ nd ∧ i = .int .i64 (m : Nat) ∧ ∀ (j : Nat) (x : ByteArray), j < m → ld[j]? = some x → x ≠ s) (fun i _ => nd - (intOf i).toNat)
      case atStart => exact ⟨rfl, 0, Nat.zero_le _, rfl, fun j x hj => by omega⟩
      case round =>
        obtain ⟨rfl, m, hm, rfl, hall⟩ := hrel
        have HALL := Lib.hid hall
        clear hall
        by_cases hlt : m < nd
        · obtain ⟨x, hx⟩ : ∃ x, ld[m]? = some x := ⟨_, List.getElem?_eq_getElem (by have := HND.out; omega)⟩
          have HX := Lib.hid hx
          obtain ⟨b, off, cap, e0, hb, u0⟩ := HD.out.cell1 hx (c0 := .string x) rfl
          rw [← HND.out] at e0
          have ea : ad = some ⟨b, off, none⟩ := by cases e0; rfl
          subst ea
          have i1 : (m : Int) < (nd : Int) := by omega
          have i2 : (0 : Int) ≤ (m : Int) := by omega
          have HLT : Hid (m < nd) := hlt
          clear e0 hx hb hm hlt
          by_cases hxs : x = s
          · as_aux_lemma =>
            have RES : Hid (ans = .good st) := HANS.out.trans (res_known (.inr (by rw [← hxs]; exact List.mem_of_getElem? HX.out)))
            have t1 : (x.toList == s.toList) = true := by rw [hxs]; simp
            clear hxs
            go_wp2_with fail
            go_ret3
            exact ResTold.good RES.out HO.out HW.out (Below.refl _ _)
          · as_aux_lemma =>
            have t1 := str_ne hxs
            have t2 := str_nq hxs
            have HOK := Lib.hid (all_next (Q := fun _ (x : ByteArray) => x ≠ s) HALL.out HX.out hxs)
            clear hxs
            go_wp2_with fail
            go_roundw
            case rel => exact ⟨by trivial, m + 1, HLT.out, by go_num, HOK.out⟩
            case measure => have := HLT.out; simp [intOf]; omega
        · have i1 : ¬ (m : Int) < (nd : Int) := by omega
          have HKN : Hid (¬ Known ld st s) := fun g => by
            rcases g with g | g
            · exact HNO1.out g
            · exact not_mem_of (by have := HND.out; omega) HALL.out g
          clear hm hlt HALL HNO1
          go_wp2_with fail
          clear i1
          go_loopw [17] (fun i wr => w = wr ∧ ∃ m : Nat, m ≤ nw ∧ i = .int .i64 (m : Nat) ∧ ∀ (j : Nat) (x : ByteArray), j < m → st.way[j]? = some x → x ≠ s) (fun i _ => nw - (intOf i).toNat)
          case atStart => exact ⟨rfl, 0, Nat.zero_le _, rfl, fun j x hj => by omega⟩
          case round =>
            obtain ⟨rfl, m, hm, rfl, hall⟩ := hrel
            have HALL := Lib.hid hall
            clear hall
            by_cases hlt : m < nw
            · obtain ⟨x, hx⟩ : ∃ x, st.way[m]? = some x := ⟨_, List.getElem?_eq_getElem (by have := HNW.out; omega)⟩
              have HX := Lib.hid hx
              obtain ⟨b, off, cap, e0, hb, u0⟩ := HW.out.cell1 hx (c0 := .string x) rfl
              rw [← HNW.out] at e0
              have ea : aw = some ⟨b, off, none⟩ := by cases e0; rfl
              subst ea
              have i1 : (m : Int) < (nw : Int) := by omega
              have i2 : (0 : Int) ≤ (m : Int) := by omega
              have HLT : Hid (m < nw) := hlt
              clear e0 hx hb hm hlt
              by_cases hxs : x = s
              · as_aux_lemma =>
                have RES : Hid (ans = .bad 6) := HANS.out.trans (res_cycle HKN.out (by rw [← hxs]; exact List.mem_of_getElem? HX.out))
                have t1 : (x.toList == s.toList) = true := by rw [hxs]; simp
                clear hxs
                go_wp2_with fail
                go_ret3
                exact ResTold.bad RES.out (by decide) (Below.refl _ _)
              · as_aux_lemma =>
                have t1 := str_ne hxs
                have t2 := str_nq hxs
                have HOK := Lib.hid (all_next (Q := fun _ (x : ByteArray) => x ≠ s) HALL.out HX.out hxs)
                clear hxs
                go_wp2_with fail
                go_roundw
                case rel => exact ⟨by trivial, m + 1, HLT.out, by go_num, HOK.out⟩
                case measure => have := HLT.out; simp [intOf]; omega
            · have i1 : ¬ (m : Int) < (nw : Int) := by omega
              have HWY : Hid (s ∉ st.way) := not_mem_of (by have := HNW.out; omega) HALL.out
              clear hm hlt HALL
              by_cases h8 : 8 < dep
              · as_aux_lemma =>
                have RES : Hid (ans = .bad 7) := by
                  have hn0 : n = 0 := by have := HDEP.out; omega
                  subst hn0
                  exact HANS.out.trans (res_deep HKN.out HWY.out)
                go_wp2_with fail
                go_ret3
                exact ResTold.bad RES.out (by decide) (Below.refl _ _)
              obtain ⟨n', hn'⟩ : ∃ n', n = n' + 1 := ⟨n - 1, by have := HDEP.out; omega⟩
              have HNN := Lib.hid hn'
              clear hn'
              go_wp2_with fail
              clear i1 h8
              go_loopw [18, 19] (fun a i wr => w = wr ∧ ∃ (m : Nat) (z av : Int), m ≤ nl ∧ z + 1 = (m : Int) ∧ i = .int .i64 z ∧ a = .int .i64 av ∧ ((av = -1 ∧ ∀ (j : Nat) (x : ByteArray × ObjV × ObjD), m ≤ j → L[j]? = some x → x.1 ≠ s) ∨ (∃ (k : Nat) (x : ByteArray × ObjV × ObjD), av = (k : Nat) ∧ L[k]? = some x ∧ x.1 = s ∧ ∀ (j : Nat) (y : ByteArray × ObjV × ObjD), m ≤ j → j < k → L[j]? = some y → y.1 ≠ s))) (fun _ i _ => (intOf i + 1).toNat)
              case atStart => exact ⟨rfl, nl, _, _, Nat.le_refl _, by omega, rfl, rfl, .inl ⟨rfl, fun j x hj hx => by have := (List.getElem?_eq_some_iff.1 hx).1; have := HNL.out; omega⟩⟩
              case round =>
                obtain ⟨rfl, m, z, av, hm, hz, rfl, rfl, hfind⟩ := hrel
                have HFD := Lib.hid hfind
                clear hfind
                by_cases hz0 : 0 ≤ z
                · obtain ⟨k, rfl⟩ := Int.eq_ofNat_of_zero_le hz0
                  obtain rfl : m = k + 1 := by omega
                  obtain ⟨x, hx⟩ : ∃ x, L[k]? = some x := ⟨_, List.getElem?_eq_getElem (by have := HNL.out; omega)⟩
                  have HX := Lib.hid hx
                  obtain ⟨b, off, cap, e0, hb, u0, _⟩ := HL.out.cell hx
                  rw [← HNL.out] at e0
                  have ea : al = some ⟨b, off, none⟩ := by cases e0; rfl
                  subst ea
                  have i1 : (k : Int) < (nl : Int) := by omega
                  have i2 : (0 : Int) ≤ (k : Int) := by omega
                  have HLT : Hid (k < nl) := by show k < nl; omega
                  clear e0 hx hb hm hz hz0
                  obtain ⟨xs, xv⟩ := x
                  by_cases hxs : xs = s
                  · as_aux_lemma =>
                    have HFN : Hid (∃ (k' : Nat) (x : ByteArray × ObjV × ObjD), ((k : Nat) : Int) = (k' : Nat) ∧ L[k']? = some x ∧ x.1 = s ∧ ∀ (j : Nat) (y : ByteArray × ObjV × ObjD), k ≤ j → j < k' → L[j]? = some y → y.1 ≠ s) := ⟨k, _, rfl, HX.out, hxs, fun j y h1 h2 => by omega⟩
                    have t1 : (xs.toList == s.toList) = true := by rw [hxs]; simp
                    clear hxs HFD
                    go_wp2_with fail
                    go_roundw
                    case rel => exact ⟨by trivial, k, (k : Int) - 1, (k : Int), Nat.le_of_lt HLT.out, by omega, by go_num, by go_num, .inr HFN.out⟩
                    case measure => simp [intOf]; try omega
                  · as_aux_lemma =>
                    have HFN : Hid ((av = -1 ∧ ∀ (j : Nat) (x : ByteArray × ObjV × ObjD), k ≤ j → L[j]? = some x → x.1 ≠ s) ∨ (∃ (k' : Nat) (x : ByteArray × ObjV × ObjD), av = (k' : Nat) ∧ L[k']? = some x ∧ x.1 = s ∧ ∀ (j : Nat) (y : ByteArray × ObjV × ObjD), k ≤ j → j < k' → L[j]? = some y → y.1 ≠ s)) := by
                      have hk : ∀ (j : Nat) (y : ByteArray × ObjV × ObjD), j = k → L[j]? = some y → y.1 ≠ s := fun j y e hy => by
                        subst e
                        have e2 := HX.out.symm.trans hy
                        cases e2
                        exact hxs
                      rcases HFD.out with ⟨h1, h2⟩ | ⟨k', x, h1, h2, h3, h4⟩
                      · exact .inl ⟨h1, fun j y hj hy => by
                          by_cases e : j = k
                          · exact hk j y e hy
                          · exact h2 j y (by omega) hy⟩
                      · exact .inr ⟨k', x, h1, h2, h3, fun j y hj hj2 hy => by
                          by_cases e : j = k
                          · exact hk j y e hy
                          · exact h4 j y (by omega) hj2 hy⟩
                    have t1 := str_ne hxs
                    have t2 := str_nq hxs
                    clear hxs HFD
                    go_wp2_with fail
                    go_roundw
                    case rel => exact ⟨by trivial, k, (k : Int) - 1, av, Nat.le_of_lt HLT.out, by omega, by go_num, rfl, HFN.out⟩
                    case measure => simp [intOf]; try omega
                · have HZ : Hid (m = 0) := by show m = 0; omega
                  rcases HFD.out with ⟨hav, hno⟩ | ⟨k, x, hav, hx, hxs, hno⟩
                  · as_aux_lemma =>
                    subst hav
                    have RES : Hid (ans = .bad 3) := by
                      have h := res_none (n := n') HKN.out HWY.out (find_none (l := filesD L) fun j g hg => by
                        unfold filesD at hg
                        rw [List.getElem?_map] at hg
                        cases hx : L[j]? with
                        | none => rw [hx] at hg; cases hg
                        | some x =>
                          rw [hx] at hg
                          cases hg
                          exact hno j x (by have := HZ.out; omega) hx)
                      rw [← HNN.out] at h
                      exact HANS.out.trans h
                    clear hno HFD hm hz
                    go_wp2_with fail
                    go_ret3
                    exact ResTold.bad RES.out (by decide) (Below.refl _ _)
                  subst hav
                  have HFF : Hid (findF (filesD L) s = some x.2.2) := find_some (f := (x.1, x.2.2)) (filesD_at hx) hxs fun j g hj hg => by
                    unfold filesD at hg
                    rw [List.getElem?_map] at hg
                    cases hy : L[j]? with
                    | none => rw [hy] at hg; cases hg
                    | some y =>
                      rw [hy] at hg
                      cases hg
                      exact hno j y (by have := HZ.out; omega) hj hy
                  have HSM : Hid (Small x.2.2) := (HFEW.out.2 x (List.mem_of_getElem? hx)).1
                  have HOB := Lib.hid (HL.out.objs x (List.mem_of_getElem? hx))
                  obtain ⟨b, off, cap, e0, hb, _, hrg⟩ := HL.out.cell hx
                  rw [← HNL.out] at e0
                  have ea : al = some ⟨b, off, none⟩ := by cases e0; rfl
                  subst ea
                  have hkl : k < nl := by have := (List.getElem?_eq_some_iff.1 hx).1; have := HNL.out; omega
                  obtain ⟨xs, V, o⟩ := x
                  simp only at HFF HSM HOB hrg
                  have HRG : Hid (w.rangeAt b (off + k * 16 + 1) (ocells V o)) := hrg
                  have i1 : (k : Int) < (nl : Int) := by omega
                  have i2 : (0 : Int) ≤ (k : Int) := by omega
                  have i3 : ¬ (k : Int) < 0 := by omega
                  have RUN := Lib.hid (box_obj w w.heap.size rfl V o (ones_obj14 V o _ HOB.out))
                  have hbo : Below w.heap.size w (w.alloc (.cells (ocells V o).toArray OT)) := (Below.refl _ _).alloc (Nat.le_refl _) _
                  have HOW : Hid (RowAt (w.alloc (.cells (ocells V o).toArray OT)) w.heap.size OT (ocells V o)) := RowAt.new w OT _
                  have HBW := Lib.hid hbo
                  clear e0 hb hrg hx hxs hno hkl HFD hm hz HZ hbo
                  go_upto_region 27 with (first
                    | (refine wpList_load_mid rfl _ _ rfl b (off + k * 16 + 1) rfl (ocells V o) _ HRG.out Try.underlying48 rfl (by rw [size_ob]; rfl) ?_)
                    | (refine wpList_store_run _ rfl _ _ _ rfl _ _ rfl rfl (by exact RUN.out) ?_))
                  clear RUN HRG i1 i2 i3 hz0
                  generalize w.alloc (.cells (ocells V o).toArray OT) = w1 at *
                  obtain ⟨ob, hob⟩ : ∃ ob, ob = w.heap.size := ⟨_, rfl⟩
                  rw [← hob] at HOW ⊢
                  clear hob
                  have HDR := Lib.hid (rrefs_any V o w1 (HOB.out.on HBW.out) HSM.out)
                  go_wp2_with (refine load_row_on rfl _ _ rfl ob rfl OT (ocells V o).toArray (0, 0) _ HOW.out Try.underlying48 rfl (by rw [size_ob]; rfl) ?_)
                  refine HDR.out.mono ?_
                  rintro e w2 ht
                  clear HDR
                  cases hv : refsV o with
                  | none =>
                    as_aux_lemma =>
                    rw [hv] at ht
                    obtain ⟨rfl, hb2⟩ := ht
                    have RES : Hid (ans = .bad 4) := by
                      have h := res_form (n := n') HKN.out HWY.out HFF.out (fun g => by have := g.2; rw [hv] at this; cases this)
                      rw [← HNN.out] at h
                      exact HANS.out.trans h
                    have HB2 := Lib.hid (below_on HBW.out hb2 HBW.out.size)
                    clear hb2 hv
                    go_wp2_with fail
                    go_ret3
                    exact ResTold.bad RES.out (by decide) HB2.out
                  | some Ls =>
                  rw [hv] at ht
                  obtain ⟨u2, vs2, rfl, _, hb2⟩ := ht
                  have HB2 := Lib.hid (below_on HBW.out hb2 HBW.out.size)
                  have HO2 := Lib.hid (HOW.out.keep (Kept.of_below (S := fun _ => False) hb2) (fun e => e))
                  have c0 : w2.cell? ⟨ob, 0, none⟩ = some (.string o.name) := HO2.out.cell 0
                  have HVS : Hid ((refsV o).isSome = true) := by show _ = _; rw [hv]; rfl
                  clear hb2 hv HOW HBW
                  by_cases hos : o.name = s
                  rotate_left
                  · as_aux_lemma =>
                    have RES : Hid (ans = .bad 4) := by
                      have h := res_form (n := n') HKN.out HWY.out HFF.out (fun g => hos g.1)
                      rw [← HNN.out] at h
                      exact HANS.out.trans h
                    have t1 := str_ne hos
                    have t2 := str_nq hos
                    clear hos
                    go_wp2_with fail
                    go_ret3
                    exact ResTold.bad RES.out (by decide) HB2.out
                  have t1 : (o.name.toList == s.toList) = true := by rw [hos]; simp
                  obtain ⟨r5, hr5⟩ : ∃ r, r = impsN (resN (filesD L) ld n') o.imps ⟨st.out, st.way ++ [s]⟩ := ⟨_, rfl⟩
                  have HR5 : Hid (ans = endN o r5) := by
                    have h := res_go (n := n') HKN.out HWY.out HFF.out ⟨hos, HVS.out⟩
                    rw [← HNN.out, ← hr5] at h
                    exact HANS.out.trans h
                  have HIV := Lib.hid (HI.out.into HWY.out (find_mem HFF.out).1)
                  obtain ⟨p1, pc, wa, vw2, w3, hr1, hr2, he3, hb3⟩ := append_both (T := SlT) Try.underlying23 info_st rfl (by decide) sRow_len sRow_one (by decide) w2 (.slice aw nw cw) st.way s (HW.out.on HB2.out) (by have := HNW.out; omega)
                  rw [← HNW.out] at hr1 hr2
                  have HP1 := Lib.hid hr1
                  have HP2 := Lib.hid hr2
                  have HE3 := Lib.hid he3
                  have HB3 := Lib.hid (below_on HB2.out hb3 HB2.out.size)
                  have HO3 := Lib.hid (HO2.out.keep (Kept.of_below (S := fun _ => False) hb3) (fun e => e))
                  clear hr1 hr2 he3 hb3 hos
                  go_upto_region 31 with (at_builtin; first
                    | (refine Lib.wpList_append_run _ rfl _ _ _ _ rfl (.slice (some ⟨w2.heap.size, 0, none⟩) 0 0) (.slice aw nw cw) rfl rfl _ _ HP1.out ?_)
                    | (refine Lib.wpList_append_run _ rfl _ _ _ _ rfl (.slice p1 nw pc) (.slice (some ⟨wa.heap.size, 0, none⟩) 1 1) rfl rfl _ _ HP2.out ?_))
                  clear c0 t1 HP1 HP2 HB2 HO2
                  obtain ⟨ai, ci, hvi, _⟩ := HOB.out.imps.shape
                  obtain ⟨ni, hni⟩ : ∃ n, n = o.imps.length := ⟨_, rfl⟩
                  rw [← hni] at hvi
                  have HVI := Lib.hid hvi
                  have HNI := Lib.hid hni
                  have ni20 : ni ≤ 20 := by rw [hni]; exact HSM.out.imps
                  clear hvi hni
                  have HO0 := Lib.hid (HO.out.on HB3.out)
                  go_wp2_with fail
                  go_loopw [2, 3, 23] (fun vo vw i wr => ∃ (m : Nat) (st1 : OSt), m ≤ ni ∧ i = .int .i64 (m : Nat) ∧ OutIn wr vo st1.out ∧ ElsAt 1 sRow wr vw st1.way ∧ OInv (filesD L) st1 ∧ Below w.heap.size w wr ∧ RowAt wr ob OT (ocells V o) ∧ impsN (resN (filesD L) ld n') (o.imps.drop m) st1 = r5) (fun _ _ i _ => ni - (intOf i).toNat)
                  case atStart => exact ⟨0, ⟨st.out, st.way ++ [s]⟩, Nat.zero_le _, rfl, HO0.out, HE3.out, HIV.out, HB3.out, HO3.out, hr5.symm⟩
                  case round =>
                    clear HO0 HE3 HIV HB3 HO3 hr5
                    obtain ⟨m, st1, hm, rfl, hO, hW, hI, hB, hR, hG⟩ := hrel
                    have HO1 := Lib.hid hO
                    have HW1 := Lib.hid hW
                    have HI1 := Lib.hid hI
                    have HB1 := Lib.hid hB
                    have HRW := Lib.hid hR
                    have HG := Lib.hid hG
                    clear hO hW hI hB hR hG
                    have c2 : wr.cell? ⟨ob, 2, none⟩ = some (.slice ai ni ci) := (HRW.out.cell 2).trans (congrArg some HVI.out)
                    by_cases hlt : m < ni
                    · obtain ⟨x, hx⟩ : ∃ x, o.imps[m]? = some x := ⟨_, List.getElem?_eq_getElem (by have := HNI.out; omega)⟩
                      have HD' : Hid (o.imps.drop m = x :: o.imps.drop (m + 1)) := by
                        have hl := (List.getElem?_eq_some_iff.1 hx).1
                        have := List.drop_eq_getElem_cons hl
                        rw [(List.getElem?_eq_some_iff.1 hx).2] at this
                        exact this
                      obtain ⟨x1, x2⟩ := x
                      obtain ⟨bi, oi, qi, e0, hbi, u0, u1⟩ := HOB.out.imps.cell2 hx rfl
                      rw [← HNI.out] at e0
                      have ea : ai = some ⟨bi, oi, none⟩ := by have e2 := HVI.out.symm.trans e0; cases e2; rfl
                      subst ea
                      have HU0 : Hid (w.cell? ⟨bi, oi + m * 2, none⟩ = some (.string x1)) := u0
                      have HU1 : Hid (w.cell? ⟨bi, oi + m * 2 + 1, none⟩ = some (.int .u32 (x2 : Nat))) := u1
                      have HBI : Hid (bi < w.heap.size) := hbi
                      have v0 := (HB1.out.cell (p := ⟨bi, oi + m * 2, none⟩) hbi).trans u0
                      have i1 : (m : Int) < (ni : Int) := by omega
                      have i2 : (0 : Int) ≤ (m : Int) := by omega
                      have HLT : Hid (m < ni) := hlt
                      have HCL : Hid (Calls Try.prog 10 #[.slice (some ⟨b, off, none⟩) nl cl, .slice ad nd cd, u2, u3, .string x1, .int .i64 (dep + 1)] wr fun e w' => ResTold wr (resN (filesD L) ld n' st1 x1) e w') := by
                        rw [show dep + 1 = 9 - ((n' : Nat) : Int) by have := HDEP.out; have := HNN.out; omega]
                        exact HIH.out n' HNN.out u2 u3 st1 x1 wr (HL.out.on HB1.out) (HD.out.on HB1.out) HO1.out HW1.out HI1.out
                      clear e0 hx hbi u0 u1 hlt hm
                      go_wp2_with fail
                      refine HCL.out.mono ?_
                      rintro e w4 ht
                      clear HCL v0 c2
                      cases hr : resN (filesD L) ld n' st1 x1 with
                      | bad k =>
                        as_aux_lemma =>
                        rw [hr] at ht
                        obtain ⟨⟨vo4, vw4, rfl⟩, hk, hb4⟩ := ht
                        have RES : Hid (ans = .bad k) := by
                          have h := HG.out
                          rw [HD'.out, imps_bad (x := (x1, x2)) hr] at h
                          show ans = _
                          rw [HR5.out, ← h]
                          rfl
                        have HB4 := Lib.hid (below_on HB1.out hb4 HB1.out.size)
                        have t1 : (((k : Nat) : Int) != 0) = true := by simp; exact hk
                        have HKZ := Lib.hid hk
                        clear hb4 hr hk HG HB1
                        go_wp2_with fail
                        go_ret3
                        exact ResTold.bad RES.out HKZ.out HB4.out
                      | good st2 =>
                        rw [hr] at ht
                        obtain ⟨⟨vo4, vw4, rfl, ho4, hw4⟩, hb4⟩ := ht
                        have HB4 := Lib.hid (below_on HB1.out hb4 HB1.out.size)
                        have HO4 := Lib.hid ho4
                        have HW4 := Lib.hid hw4
                        have HR4 := Lib.hid (HRW.out.keep (Kept.of_below (S := fun _ => False) hb4) (fun e => e))
                        have HI4 := Lib.hid (res_inv n' st1 x1 st2 HI1.out hr).1
                        have HGR := Lib.hid hr
                        obtain ⟨a4, c4, hv4, _⟩ := ho4.shape
                        obtain ⟨n4, hn4⟩ : ∃ n, n = st2.out.length := ⟨_, rfl⟩
                        rw [← hn4] at hv4
                        have HN4 := Lib.hid hn4
                        have n420 : n4 ≤ 20 := by
                          have h1 := HI4.out.way
                          rw [show (filesD L).length = L.length by unfold filesD; rw [List.length_map]] at h1
                          rw [hn4]
                          exact Nat.le_trans HI4.out.few (Nat.le_trans h1 HFEW.out.1)
                        subst hv4
                        clear hb4 ho4 hw4 hr hn4 HB1 HO1 HW1 HI1 HRW
                        go_wp2_with fail
                        go_loopw [25, 26] (fun ky i wr => Drawn w4 wr ∧ ∃ m2 : Nat, m2 ≤ n4 ∧ i = .int .i64 (m2 : Nat) ∧ ky = .int .u32 ((keyV (st2.out.take m2) x1 1 : Nat) : Int)) (fun _ i _ => n4 - (intOf i).toNat)
                        case atStart => exact ⟨Drawn.refl _, 0, Nat.zero_le _, rfl, rfl⟩
                        case round =>
                          obtain ⟨hd, m2, hm2, rfl, rfl⟩ := hrel
                          have HDD := Lib.hid hd
                          clear hd
                          have e2 : wr.cell? ⟨ob, 2, none⟩ = some (.slice (some ⟨bi, oi, none⟩) ni ci) := (HDD.out.cell _).trans ((HR4.out.cell 2).trans (congrArg some HVI.out))
                          have v0 : wr.cell? ⟨bi, oi + m * 2, none⟩ = some (.string x1) := (HDD.out.cell _).trans ((HB4.out.cell (p := ⟨bi, oi + m * 2, none⟩) HBI.out).trans HU0.out)
                          have v1 : wr.cell? ⟨bi, oi + m * 2 + 1, none⟩ = some (.int .u32 (x2 : Nat)) := (HDD.out.cell _).trans ((HB4.out.cell (p := ⟨bi, oi + m * 2 + 1, none⟩) HBI.out).trans HU1.out)
                          by_cases hlt : m2 < n4
                          · obtain ⟨y, hy⟩ : ∃ y, st2.out[m2]? = some y := ⟨_, List.getElem?_eq_getElem (by have := HN4.out; omega)⟩
                            have HKN2 : Hid (keyV (st2.out.take (m2 + 1)) x1 1 = open Classical in (if y.name = x1 then y.key else keyV (st2.out.take m2) x1 1)) := by
                              show _ = _
                              rw [← take_next hy, keyV_append]
                            obtain ⟨b4, o4, q4, f0, _, y0, y1⟩ := HO4.out.cell hy
                            rw [← HN4.out] at f0
                            have eb : a4 = some ⟨b4, o4, none⟩ := by cases f0; rfl
                            subst eb
                            have z0 := (HDD.out.cell ⟨b4, o4 + m2 * 15, none⟩).trans y0
                            have HZ1 : Hid (w4.cell? ⟨b4, o4 + m2 * 15 + 1, none⟩ = some (.int .u32 (y.key : Nat))) := y1
                            have j1 : (m2 : Int) < (n4 : Int) := by omega
                            have j2 : (0 : Int) ≤ (m2 : Int) := by omega
                            have HLT2 : Hid (m2 < n4) := hlt
                            clear f0 hy y0 y1 hlt hm2 v1
                            by_cases hyx : y.name = x1
                            · as_aux_lemma =>
                              have HKY := HKN2.out
                              rw [if_pos hyx] at HKY
                              have HKH := Lib.hid HKY
                              have t1 : (y.name.toList == x1.toList) = true := by rw [hyx]; simp
                              clear hyx HKN2 HKY
                              go_wp2_with fail
                              refine wp_region_held_drew (S := fun w' => (w'.cell? ⟨b4, o4 + m2 * 15, none⟩ = some (.string y.name) ∧ w'.cell? ⟨ob, 2, none⟩ = some (.slice (some ⟨bi, oi, none⟩) ni ci) ∧ w'.cell? ⟨bi, oi + m * 2, none⟩ = some (.string x1)) ∧ Drawn w4 w') (by kernel_rfl) ?_ (fun hHeld => ?_)
                              · exact ⟨⟨z0, e2, v0⟩, HDD.out.more 1⟩
                              refine wpAnyH_take (i := 0) (v := ?_) rfl (by kernel_rfl) (by kernel_rfl) (by kernel_rfl) (fun _ _ _ h => h) (Or.inl ⟨by rfl, ?_⟩) (by assumption) ?_
                              rotate_left
                              · intro w hSw
                                (try dsimp only at hSw)
                                go_simp
                                (try with_reducible rfl)
                              try simp only [Act.put, List.getElem_toArray, List.getElem_cons_zero, List.setIfInBounds_toArray, List.set_cons_zero, List.set_cons_succ]
                              refine wpAnyH_take (i := 1) (v := ?_) rfl (by kernel_rfl) (by kernel_rfl) (by kernel_rfl) (fun _ _ _ h => h) (Or.inl ⟨by rfl, ?_⟩) (by assumption) ?_
                              rotate_left
                              · intro w hSw
                                (try dsimp only at hSw)
                                go_simp
                                (try with_reducible rfl)
                              try simp only [Act.put, List.getElem_toArray, List.getElem_cons_zero, List.getElem_cons_succ, List.setIfInBounds_toArray, List.set_cons_zero, List.set_cons_succ]
                              refine wpAnyH_take (i := 2) (v := ?_) rfl (by kernel_rfl) (by kernel_rfl) (by kernel_rfl) (fun _ _ _ h => h) (Or.inl ⟨by rfl, ?_⟩) (by assumption) ?_
                              rotate_left
                              · intro w hSw
                                (try dsimp only at hSw)
                                go_simp
                                (try with_reducible rfl)
                              try simp only [Act.put, List.getElem_toArray, List.getElem_cons_zero, List.getElem_cons_succ, List.setIfInBounds_toArray, List.set_cons_zero, List.set_cons_succ]
                              refine wpAnyH_take (i := 3) (v := ?_) rfl (by kernel_rfl) (by kernel_rfl) (by kernel_rfl) (fun _ _ _ h => h) (Or.inl ⟨by rfl, ?_⟩) (by assumption) ?_
                              rotate_left
                              · intro w hSw
                                (try dsimp only at hSw)
                                go_simp
                                (try with_reducible rfl)
                              try simp only [Act.put, List.getElem_toArray, List.getElem_cons_zero, List.getElem_cons_succ, List.setIfInBounds_toArray, List.set_cons_zero, List.set_cons_succ]
                              refine wpAnyH_take (i := 4) (v := ?_) rfl (by kernel_rfl) (by kernel_rfl) (by kernel_rfl) (fun _ _ _ h => h) (Or.inl ⟨by rfl, ?_⟩) (by assumption) ?_
                              rotate_left
                              · intro w hSw
                                (try dsimp only at hSw)
                                go_simp
                                (try with_reducible rfl)
                              try simp only [Act.put, List.getElem_toArray, List.getElem_cons_zero, List.getElem_cons_succ, List.setIfInBounds_toArray, List.set_cons_zero, List.set_cons_succ]
                              refine wpAnyH_take (i := 5) (v := ?_) rfl (by kernel_rfl) (by kernel_rfl) (by kernel_rfl) (fun _ _ _ h => h) (Or.inl ⟨by rfl, ?_⟩) (by assumption) ?_
                              rotate_left
                              · intro w hSw
                                (try dsimp only at hSw)
                                go_simp
                                (try with_reducible rfl)
                              try simp only [Act.put, List.getElem_toArray, List.getElem_cons_zero, List.getElem_cons_succ, List.setIfInBounds_toArray, List.set_cons_zero, List.set_cons_succ]
                              refine wpAnyH_take (i := 6) (v := ?_) rfl (by kernel_rfl) (by kernel_rfl) (by kernel_rfl) (fun _ _ _ h => h) (Or.inl ⟨by rfl, ?_⟩) (by assumption) ?_
                              rotate_left
                              · intro w hSw
                                (try dsimp only at hSw)
                                go_simp
                                (try with_reducible rfl)
                              try simp only [Act.put, List.getElem_toArray, List.getElem_cons_zero, List.getElem_cons_succ, List.setIfInBounds_toArray, List.set_cons_zero, List.set_cons_succ]
                              refine wpAnyH_take (i := 7) (v := ?_) rfl (by kernel_rfl) (by kernel_rfl) (by kernel_rfl) (fun _ _ _ h => h) (Or.inl ⟨by rfl, ?_⟩) (by assumption) ?_
                              rotate_left
                              · intro w hSw
                                (try dsimp only at hSw)
                                go_simp
                                (try with_reducible rfl)
                              try simp only [Act.put, List.getElem_toArray, List.getElem_cons_zero, List.getElem_cons_succ, List.setIfInBounds_toArray, List.set_cons_zero, List.set_cons_succ]
                              refine wpAnyH_take (i := 8) (v := ?_) rfl (by kernel_rfl) (by kernel_rfl) (by kernel_rfl) (fun _ _ _ h => h) (Or.inl ⟨by rfl, ?_⟩) (by assumption) ?_
                              rotate_left
                              · intro w hSw
                                (try dsimp only at hSw)
                                go_simp
                                (try with_reducible rfl)
                              try simp only [Act.put, List.getElem_toArray, List.getElem_cons_zero, List.getElem_cons_succ, List.setIfInBounds_toArray, List.set_cons_zero, List.set_cons_succ]
                              refine wpAnyH_take (i := 9) (v := ?_) rfl (by kernel_rfl) (by kernel_rfl) (by kernel_rfl) (fun _ _ _ h => h) (Or.inl ⟨by rfl, ?_⟩) (by assumption) ?_
                              rotate_left
                              · intro w hSw
                                (try dsimp only at hSw)
                                go_simp
                                (try with_reducible rfl)
                              try simp only [Act.put, List.getElem_toArray, List.getElem_cons_zero, List.getElem_cons_succ, List.setIfInBounds_toArray, List.set_cons_zero, List.set_cons_succ]
                              refine wpAnyH_take (i := 10) (v := ?_) rfl (by kernel_rfl) (by kernel_rfl) (by kernel_rfl) (fun _ _ _ h => h) (Or.inl ⟨by rfl, ?_⟩) (by assumption) ?_
                              rotate_left
                              · intro w hSw
                                (try dsimp only at hSw)
                                go_simp
                                (try with_reducible rfl)
                              try simp only [Act.put, List.getElem_toArray, List.getElem_cons_zero, List.getElem_cons_succ, List.setIfInBounds_toArray, List.set_cons_zero, List.set_cons_succ]
                              refine wpAnyH_take (i := 11) (v := ?_) rfl (by kernel_rfl) (by kernel_rfl) (by kernel_rfl) (fun _ _ _ h => h) (Or.inl ⟨by rfl, ?_⟩) (by assumption) ?_
                              rotate_left
                              · intro w hSw
                                (try dsimp only at hSw)
                                go_simp
                                (try with_reducible rfl)
                              try simp only [Act.put, List.getElem_toArray, List.getElem_cons_zero, List.getElem_cons_succ, List.setIfInBounds_toArray, List.set_cons_zero, List.set_cons_succ]
                              refine wpAnyH_done (by kernel_rfl) ?_ _
                              have HD2 := Lib.hid hHeld.2
                              have z1 := (HD2.out.cell ⟨b4, o4 + m2 * 15 + 1, none⟩).trans HZ1.out
                              clear hHeld z0 e2 v0 HDD
                              go_wp2_with fail
                              go_roundw
                              case rel => exact ⟨HD2.out, m2 + 1, HLT2.out, by go_num, by rw [HKH.out]⟩
                              case measure => have := HLT2.out; simp [intOf]; omega
                            · as_aux_lemma =>
                              have HKY := HKN2.out
                              rw [if_neg hyx] at HKY
                              have HKH := Lib.hid HKY
                              have t1 := str_ne hyx
                              have t2 := str_nq hyx
                              clear hyx HKN2 HKY
                              go_wp2_with fail
                              refine wp_region_held_drew (S := fun w' => (w'.cell? ⟨b4, o4 + m2 * 15, none⟩ = some (.string y.name) ∧ w'.cell? ⟨ob, 2, none⟩ = some (.slice (some ⟨bi, oi, none⟩) ni ci) ∧ w'.cell? ⟨bi, oi + m * 2, none⟩ = some (.string x1)) ∧ Drawn w4 w') (by kernel_rfl) ?_ (fun hHeld => ?_)
                              · exact ⟨⟨z0, e2, v0⟩, HDD.out.more 1⟩
                              refine wpAnyH_take (i := 0) (v := ?_) rfl (by kernel_rfl) (by kernel_rfl) (by kernel_rfl) (fun _ _ _ h => h) (Or.inl ⟨by rfl, ?_⟩) (by assumption) ?_
                              rotate_left
                              · intro w hSw
                                (try dsimp only at hSw)
                                go_simp
                                (try with_reducible rfl)
                              try simp only [Act.put, List.getElem_toArray, List.getElem_cons_zero, List.setIfInBounds_toArray, List.set_cons_zero, List.set_cons_succ]
                              refine wpAnyH_take (i := 1) (v := ?_) rfl (by kernel_rfl) (by kernel_rfl) (by kernel_rfl) (fun _ _ _ h => h) (Or.inl ⟨by rfl, ?_⟩) (by assumption) ?_
                              rotate_left
                              · intro w hSw
                                (try dsimp only at hSw)
                                go_simp
                                (try with_reducible rfl)
                              try simp only [Act.put, List.getElem_toArray, List.getElem_cons_zero, List.getElem_cons_succ, List.setIfInBounds_toArray, List.set_cons_zero, List.set_cons_succ]
                              refine wpAnyH_take (i := 2) (v := ?_) rfl (by kernel_rfl) (by kernel_rfl) (by kernel_rfl) (fun _ _ _ h => h) (Or.inl ⟨by rfl, ?_⟩) (by assumption) ?_
                              rotate_left
                              · intro w hSw
                                (try dsimp only at hSw)
                                go_simp
                                (try with_reducible rfl)
                              try simp only [Act.put, List.getElem_toArray, List.getElem_cons_zero, List.getElem_cons_succ, List.setIfInBounds_toArray, List.set_cons_zero, List.set_cons_succ]
                              refine wpAnyH_take (i := 3) (v := ?_) rfl (by kernel_rfl) (by kernel_rfl) (by kernel_rfl) (fun _ _ _ h => h) (Or.inl ⟨by rfl, ?_⟩) (by assumption) ?_
                              rotate_left
                              · intro w hSw
                                (try dsimp only at hSw)
                                go_simp
                                (try with_reducible rfl)
                              try simp only [Act.put, List.getElem_toArray, List.getElem_cons_zero, List.getElem_cons_succ, List.setIfInBounds_toArray, List.set_cons_zero, List.set_cons_succ]
                              refine wpAnyH_take (i := 4) (v := ?_) rfl (by kernel_rfl) (by kernel_rfl) (by kernel_rfl) (fun _ _ _ h => h) (Or.inl ⟨by rfl, ?_⟩) (by assumption) ?_
                              rotate_left
                              · intro w hSw
                                (try dsimp only at hSw)
                                go_simp
                                (try with_reducible rfl)
                              try simp only [Act.put, List.getElem_toArray, List.getElem_cons_zero, List.getElem_cons_succ, List.setIfInBounds_toArray, List.set_cons_zero, List.set_cons_succ]
                              refine wpAnyH_take (i := 5) (v := ?_) rfl (by kernel_rfl) (by kernel_rfl) (by kernel_rfl) (fun _ _ _ h => h) (Or.inl ⟨by rfl, ?_⟩) (by assumption) ?_
                              rotate_left
                              · intro w hSw
                                (try dsimp only at hSw)
                                go_simp
                                (try with_reducible rfl)
                              try simp only [Act.put, List.getElem_toArray, List.getElem_cons_zero, List.getElem_cons_succ, List.setIfInBounds_toArray, List.set_cons_zero, List.set_cons_succ]
                              refine wpAnyH_take (i := 6) (v := ?_) rfl (by kernel_rfl) (by kernel_rfl) (by kernel_rfl) (fun _ _ _ h => h) (Or.inl ⟨by rfl, ?_⟩) (by assumption) ?_
                              rotate_left
                              · intro w hSw
                                (try dsimp only at hSw)
                                go_simp
                                (try with_reducible rfl)
                              try simp only [Act.put, List.getElem_toArray, List.getElem_cons_zero, List.getElem_cons_succ, List.setIfInBounds_toArray, List.set_cons_zero, List.set_cons_succ]
                              refine wpAnyH_take (i := 7) (v := ?_) rfl (by kernel_rfl) (by kernel_rfl) (by kernel_rfl) (fun _ _ _ h => h) (Or.inl ⟨by rfl, ?_⟩) (by assumption) ?_
                              rotate_left
                              · intro w hSw
                                (try dsimp only at hSw)
                                go_simp
                                (try with_reducible rfl)
                              try simp only [Act.put, List.getElem_toArray, List.getElem_cons_zero, List.getElem_cons_succ, List.setIfInBounds_toArray, List.set_cons_zero, List.set_cons_succ]
                              refine wpAnyH_take (i := 8) (v := ?_) rfl (by kernel_rfl) (by kernel_rfl) (by kernel_rfl) (fun _ _ _ h => h) (Or.inl ⟨by rfl, ?_⟩) (by assumption) ?_
                              rotate_left
                              · intro w hSw
                                (try dsimp only at hSw)
                                go_simp
                                (try with_reducible rfl)
                              try simp only [Act.put, List.getElem_toArray, List.getElem_cons_zero, List.getElem_cons_succ, List.setIfInBounds_toArray, List.set_cons_zero, List.set_cons_succ]
                              refine wpAnyH_take (i := 9) (v := ?_) rfl (by kernel_rfl) (by kernel_rfl) (by kernel_rfl) (fun _ _ _ h => h) (Or.inl ⟨by rfl, ?_⟩) (by assumption) ?_
                              rotate_left
                              · intro w hSw
                                (try dsimp only at hSw)
                                go_simp
                                (try with_reducible rfl)
                              try simp only [Act.put, List.getElem_toArray, List.getElem_cons_zero, List.getElem_cons_succ, List.setIfInBounds_toArray, List.set_cons_zero, List.set_cons_succ]
                              refine wpAnyH_take (i := 10) (v := ?_) rfl (by kernel_rfl) (by kernel_rfl) (by kernel_rfl) (fun _ _ _ h => h) (Or.inl ⟨by rfl, ?_⟩) (by assumption) ?_
                              rotate_left
                              · intro w hSw
                                (try dsimp only at hSw)
                                go_simp
                                (try with_reducible rfl)
                              try simp only [Act.put, List.getElem_toArray, List.getElem_cons_zero, List.getElem_cons_succ, List.setIfInBounds_toArray, List.set_cons_zero, List.set_cons_succ]
                              refine wpAnyH_take (i := 11) (v := ?_) rfl (by kernel_rfl) (by kernel_rfl) (by kernel_rfl) (fun _ _ _ h => h) (Or.inl ⟨by rfl, ?_⟩) (by assumption) ?_
                              rotate_left
                              · intro w hSw
                                (try dsimp only at hSw)
                                go_simp
                                (try with_reducible rfl)
                              try simp only [Act.put, List.getElem_toArray, List.getElem_cons_zero, List.getElem_cons_succ, List.setIfInBounds_toArray, List.set_cons_zero, List.set_cons_succ]
                              refine wpAnyH_done (by kernel_rfl) ?_ _
                              have HD2 := Lib.hid hHeld.2
                              clear hHeld z0 e2 v0 HDD
                              go_wp2_with fail
                              go_roundw
                              case rel => exact ⟨HD2.out, m2 + 1, HLT2.out, by go_num, by rw [HKH.out]⟩
                              case measure => have := HLT2.out; simp [intOf]; omega
                          · have j1 : ¬ (m2 : Int) < (n4 : Int) := by omega
                            have HKF : Hid (keyV (st2.out.take m2) x1 1 = keyV st2.out x1 1) := by show _ = _; rw [List.take_of_length_le (by have := HN4.out; omega)]
                            rw [HKF.out]
                            have HB5 := Lib.hid (below_on HB4.out (HDD.out.below _) HB4.out.size)
                            by_cases hky : keyV st2.out x1 1 = x2
                            rotate_left
                            · as_aux_lemma =>
                              have RES : Hid (ans = .bad 5) := by
                                have h := HG.out
                                rw [HD'.out, imps_key (x := (x1, x2)) HGR.out hky] at h
                                show ans = _
                                rw [HR5.out, ← h]
                                rfl
                              have t1 : (((keyV st2.out x1 1 : Nat) : Int) != ((x2 : Nat) : Int)) = true := by simp; omega
                              clear hky hm2 hlt v0
                              go_wp2_with fail
                              go_ret3
                              exact ResTold.bad RES.out (by decide) HB5.out
                            · as_aux_lemma =>
                              have HGN : Hid (impsN (resN (filesD L) ld n') (o.imps.drop (m + 1)) st2 = r5) := by
                                have h := HG.out
                                rw [HD'.out, imps_on (x := (x1, x2)) HGR.out hky] at h
                                exact h
                              have t1 : (((keyV st2.out x1 1 : Nat) : Int) != ((x2 : Nat) : Int)) = false := by simp; omega
                              have HO6 := Lib.hid (HO4.out.on (HDD.out.below _))
                              have HW6 := Lib.hid (HW4.out.on (HDD.out.below _))
                              have HR6 := Lib.hid (HR4.out.keep (Kept.of_below (S := fun _ => False) (HDD.out.below _)) (fun e => e))
                              clear hky hm2 hlt v0
                              go_wp2_with fail
                              go_roundw
                              case rel => exact ⟨m + 1, st2, HLT.out, by go_num, HO6.out, HW6.out, HI4.out, HB5.out, HR6.out, HGN.out⟩
                              case measure => have := HLT.out; simp [intOf]; omega
                    · as_aux_lemma =>
                      have i1 : ¬ (m : Int) < (ni : Int) := by omega
                      have RES : Hid (ans = .good ⟨st1.out ++ [o], st1.way⟩) := by
                        have h := HG.out
                        rw [List.drop_of_length_le (by have := HNI.out; omega), impsN] at h
                        show ans = _
                        rw [HR5.out, ← h]
                        rfl
                      clear hlt hm HR5 HG
                      obtain ⟨LO, hLO, hLM⟩ := HO1.out
                      have HLO := Lib.hid hLO
                      have HLM := Lib.hid hLM
                      have hlen : LO.length ≤ 20 := by
                        have h1 := HI1.out.way
                        rw [show (filesD L).length = L.length by unfold filesD; rw [List.length_map]] at h1
                        have h2 := HI1.out.few
                        rw [← hLM, List.length_map] at h2
                        exact Nat.le_trans h2 (Nat.le_trans h1 HFEW.out.1)
                      have HLN := Lib.hid hlen
                      have HON : Hid (Ones (objRow (V, o))) := ones_obj14 V o _ HOB.out
                      have HOL : Hid (∀ x ∈ LO, Ones (objRow x)) := fun x hx => ones_obj14 x.1 x.2 _ (hLO.objs x hx)
                      have HOBN : Hid (ob < wr.heap.size) := HRW.out.lt
                      obtain ⟨a1, c1, hv1, _⟩ := hLO.els.shape
                      have HL1 := Lib.hid hLO.els
                      rw [hv1] at HL1
                      obtain ⟨va2, wa2, va5, wa5, qa2, qa5, qaa⟩ := app_a (V := V) (o := o) HL1.out HOL.out HON.out hlen
                      obtain ⟨vb2, wb2, vb5, wb5, qb2, qb5, qbb⟩ := app_b (V := V) (o := o) HL1.out HOL.out HON.out hlen
                      obtain ⟨vc2, wc2, vc5, wc5, qc2, qc5, qcc⟩ := app_c (V := V) (o := o) HL1.out HOL.out HON.out hlen
                      have A2 := Lib.hid qa2
                      have A5 := Lib.hid qa5
                      have AA := Lib.hid qaa
                      have B2 := Lib.hid qb2
                      have B5 := Lib.hid qb5
                      have BB := Lib.hid qbb
                      have C2 := Lib.hid qc2
                      have C5 := Lib.hid qc5
                      have CC := Lib.hid qcc
                      have HROW : Hid (∀ w', Below wr.heap.size wr w' → RowAt w' ob OT (ocells V o)) := fun w' hb => HRW.out.keep (Kept.of_below (S := fun _ => False) hb) fun e => e
                      subst hv1
                      clear hLO hLM hlen qa2 qa5 qaa qb2 qb5 qbb qc2 qc5 qcc HL1
                      have HFIN : Hid (∀ w5 v5, Below wr.heap.size wr w5 → ElsAt 15 objRow w5 v5 (LO ++ [(V, o)]) → ResTold w ans (.returned (.tuple #[v5, u3, .int .i64 0])) w5) := fun w5 v5 hb he =>
                        ResTold.good RES.out ⟨LO ++ [(V, o)], ⟨he, fun x hx => by
                          rcases List.mem_append.1 hx with h1 | h1
                          · exact (HLO.out.objs x h1).on hb
                          · rw [List.mem_singleton.1 h1]
                            exact HOB.out.on (below_on HB1.out hb HB1.out.size)⟩, by rw [List.map_append, HLM.out]; rfl⟩ (HW1.out.on hb) (below_on HB1.out hb HB1.out.size)
                      go_wp2_with fail
                      refine wp_region_held_drew (S := fun w' => Below wr.heap.size wr w') (by kernel_rfl) ?_ (fun hHeld => ?_)
                      · exact (Drawn.of_n wr 1).below _
                      refine wpAnyH_take (i := 1) (v := ?_) rfl (by kernel_rfl) (by kernel_rfl) (by kernel_rfl) (fun _ _ _ h => h) (Or.inl ⟨by rfl, ?_⟩) (by assumption) ?_
                      rotate_left
                      · intro w hSw
                        (try dsimp only at hSw)
                        go_simp
                        (try with_reducible rfl)
                      try simp only [Act.put, List.getElem_toArray, List.getElem_cons_zero, List.getElem_cons_succ, List.setIfInBounds_toArray, List.set_cons_zero, List.set_cons_succ]
                      refine wpAnyH_take (i := 3) (v := _) rfl (by kernel_rfl) (by kernel_rfl) (by kernel_rfl) (fun _ _ _ h => h) (yieldsIf_load_mid (by rfl) _ _ rfl _ _ rfl _ _ (fun w hSw => (show w.rangeAt ob 0 [.string o.name, .int .u32 (o.key : Nat), V.i, V.t, .int .i64 o.data, .string o.text, V.c, V.m, V.e, V.p, V.q, .int .i64 o.f0, .int .i64 o.f1, .int .i64 o.f2, .int .i64 o.body] from (HROW.out w hSw).rangeC)) (Try.underlying48) rfl (by rw [size_ob]; rfl)) (by assumption) ?_
                      try simp only [Act.put, List.getElem_toArray, List.getElem_cons_zero, List.getElem_cons_succ, List.setIfInBounds_toArray, List.set_cons_zero, List.set_cons_succ]
                      refine wpAnyH_take (i := 6) (v := ?_) rfl (by kernel_rfl) (by kernel_rfl) (by kernel_rfl) (fun _ _ _ h => h) (Or.inl ⟨by rfl, ?_⟩) (by assumption) ?_
                      rotate_left
                      · intro w hSw
                        (try dsimp only at hSw)
                        go_simp
                        (try with_reducible rfl)
                      try simp only [Act.put, List.getElem_toArray, List.getElem_cons_zero, List.getElem_cons_succ, List.setIfInBounds_toArray, List.set_cons_zero, List.set_cons_succ]
                      refine wpAnyH_ready (rs := [0, 4]) (by kernel_rfl) (by simp) ?_
                      refine AllReadyH.cons rfl (fun K hK => ?_) (AllReadyH.cons rfl (fun K hK => ?_) (AllReadyH.nil))
                      focus
                        refine step_build rfl ObS 0 #[] rfl #[] (by simp) (nil_build_at _ (wr.heap.size) (by simp)) ?_
                        refine hK.out _ _ ?_ (fun hHeld1 => ?_)
                        · exact below_on hHeld ((Below.refl _ _).alloc (Nat.le_refl _) _) hHeld.size
                        clear hK K
                        try simp only [Act.put, List.getElem_toArray, List.getElem_cons_zero, List.setIfInBounds_toArray, List.set_cons_zero, List.set_cons_succ]
                        refine wpAnyH_ready (rs := [2, 4]) (by kernel_rfl) (by simp) ?_
                        refine AllReadyH.cons rfl (fun K hK => ?_) (AllReadyH.cons rfl (fun K hK => ?_) (AllReadyH.nil))
                        focus
                          refine step_append rfl (.tmp 181) (.tmp 182) ObS ObS rfl _ _ (by simp [Act.eval]) (by simp [Act.eval]) A2.out ?_
                          refine hK.out _ _ ?_ (fun hHeld2 => ?_)
                          · exact AA.out.b2
                          clear hK K
                          try simp only [Act.put, List.getElem_toArray, List.getElem_cons_zero, List.getElem_cons_succ, List.setIfInBounds_toArray, List.set_cons_zero, List.set_cons_succ]
                          refine wpAnyH_ready (rs := [4]) (by kernel_rfl) (by simp) ?_
                          refine AllReadyH.cons rfl (fun K hK => ?_) AllReadyH.nil
                          refine step_build rfl ObS 1 #[(0, .tmp 184)] rfl #[(0, .agg #[.string o.name, .int .u32 (o.key : Nat), V.i, V.t, .int .i64 o.data, .string o.text, V.c, V.m, V.e, V.p, V.q, .int .i64 o.f0, .int .i64 o.f1, .int .i64 o.f2, .int .i64 o.body])] (by simp [Act.eval]) (obj_build_at _ V o (wa2.heap.size) (by simp)) ?_
                          refine hK.out _ _ ?_ (fun hHeld3 => ?_)
                          · exact below_on hHeld2 ((Below.refl _ _).alloc (Nat.le_refl _) _) hHeld2.size
                          clear hK K
                          try simp only [Act.put, List.getElem_toArray, List.getElem_cons_zero, List.getElem_cons_succ, List.setIfInBounds_toArray, List.set_cons_zero, List.set_cons_succ]
                          refine wpAnyH_ready (rs := [5]) (by kernel_rfl) (by simp) ?_
                          refine AllReadyH.cons rfl (fun K hK => ?_) AllReadyH.nil
                          refine step_append rfl (.tmp 183) (.tmp 185) ObS ObS rfl _ _ (by simp [Act.eval]) (by simp [Act.eval]) A5.out ?_
                          refine hK.out _ _ ?_ (fun hHeld4 => ?_)
                          · exact AA.out.b5
                          clear hK K
                          try simp only [Act.put, List.getElem_toArray, List.getElem_cons_zero, List.getElem_cons_succ, List.setIfInBounds_toArray, List.set_cons_zero, List.set_cons_succ]
                          refine wpAnyH_take (i := 7) (v := ?_) rfl (by kernel_rfl) (by kernel_rfl) (by kernel_rfl) (fun _ _ _ h => h) (Or.inl ⟨by rfl, ?_⟩) (by assumption) ?_
                          rotate_left
                          · intro w hSw
                            (try dsimp only at hSw)
                            go_simp
                            (try with_reducible rfl)
                          try simp only [Act.put, List.getElem_toArray, List.getElem_cons_zero, List.getElem_cons_succ, List.setIfInBounds_toArray, List.set_cons_zero, List.set_cons_succ]
                          refine wpAnyH_take (i := 8) (v := ?_) rfl (by kernel_rfl) (by kernel_rfl) (by kernel_rfl) (fun _ _ _ h => h) (Or.inl ⟨by rfl, ?_⟩) (by assumption) ?_
                          rotate_left
                          · intro w hSw
                            (try dsimp only at hSw)
                            go_simp
                            (try with_reducible rfl)
                          try simp only [Act.put, List.getElem_toArray, List.getElem_cons_zero, List.getElem_cons_succ, List.setIfInBounds_toArray, List.set_cons_zero, List.set_cons_succ]
                          refine wpAnyH_take (i := 9) (v := ?_) rfl (by kernel_rfl) (by kernel_rfl) (by kernel_rfl) (fun _ _ _ h => h) (Or.inl ⟨by rfl, ?_⟩) (by assumption) ?_
                          rotate_left
                          · intro w hSw
                            (try dsimp only at hSw)
                            go_simp
                            (try with_reducible rfl)
                          try simp only [Act.put, List.getElem_toArray, List.getElem_cons_zero, List.getElem_cons_succ, List.setIfInBounds_toArray, List.set_cons_zero, List.set_cons_succ]
                          refine wpAnyH_done (by kernel_rfl) ?_ _
                        rotate_left 1
                        focus
                          refine step_build rfl ObS 1 #[(0, .tmp 184)] rfl #[(0, .agg #[.string o.name, .int .u32 (o.key : Nat), V.i, V.t, .int .i64 o.data, .string o.text, V.c, V.m, V.e, V.p, V.q, .int .i64 o.f0, .int .i64 o.f1, .int .i64 o.f2, .int .i64 o.body])] (by simp [Act.eval]) (obj_build_at _ V o (wr.heap.size + 1) (by simp)) ?_
                          refine hK.out _ _ ?_ (fun hHeld2 => ?_)
                          · exact below_on hHeld1 ((Below.refl _ _).alloc (Nat.le_refl _) _) hHeld1.size
                          clear hK K
                          try simp only [Act.put, List.getElem_toArray, List.getElem_cons_zero, List.getElem_cons_succ, List.setIfInBounds_toArray, List.set_cons_zero, List.set_cons_succ]
                          refine wpAnyH_ready (rs := [2]) (by kernel_rfl) (by simp) ?_
                          refine AllReadyH.cons rfl (fun K hK => ?_) AllReadyH.nil
                          refine step_append rfl (.tmp 181) (.tmp 182) ObS ObS rfl _ _ (by simp [Act.eval]) (by simp [Act.eval]) B2.out ?_
                          refine hK.out _ _ ?_ (fun hHeld3 => ?_)
                          · exact BB.out.b2
                          clear hK K
                          try simp only [Act.put, List.getElem_toArray, List.getElem_cons_zero, List.getElem_cons_succ, List.setIfInBounds_toArray, List.set_cons_zero, List.set_cons_succ]
                          refine wpAnyH_ready (rs := [5]) (by kernel_rfl) (by simp) ?_
                          refine AllReadyH.cons rfl (fun K hK => ?_) AllReadyH.nil
                          refine step_append rfl (.tmp 183) (.tmp 185) ObS ObS rfl _ _ (by simp [Act.eval]) (by simp [Act.eval]) B5.out ?_
                          refine hK.out _ _ ?_ (fun hHeld4 => ?_)
                          · exact BB.out.b5
                          clear hK K
                          try simp only [Act.put, List.getElem_toArray, List.getElem_cons_zero, List.getElem_cons_succ, List.setIfInBounds_toArray, List.set_cons_zero, List.set_cons_succ]
                          refine wpAnyH_take (i := 7) (v := ?_) rfl (by kernel_rfl) (by kernel_rfl) (by kernel_rfl) (fun _ _ _ h => h) (Or.inl ⟨by rfl, ?_⟩) (by assumption) ?_
                          rotate_left
                          · intro w hSw
                            (try dsimp only at hSw)
                            go_simp
                            (try with_reducible rfl)
                          try simp only [Act.put, List.getElem_toArray, List.getElem_cons_zero, List.getElem_cons_succ, List.setIfInBounds_toArray, List.set_cons_zero, List.set_cons_succ]
                          refine wpAnyH_take (i := 8) (v := ?_) rfl (by kernel_rfl) (by kernel_rfl) (by kernel_rfl) (fun _ _ _ h => h) (Or.inl ⟨by rfl, ?_⟩) (by assumption) ?_
                          rotate_left
                          · intro w hSw
                            (try dsimp only at hSw)
                            go_simp
                            (try with_reducible rfl)
                          try simp only [Act.put, List.getElem_toArray, List.getElem_cons_zero, List.getElem_cons_succ, List.setIfInBounds_toArray, List.set_cons_zero, List.set_cons_succ]
                          refine wpAnyH_take (i := 9) (v := ?_) rfl (by kernel_rfl) (by kernel_rfl) (by kernel_rfl) (fun _ _ _ h => h) (Or.inl ⟨by rfl, ?_⟩) (by assumption) ?_
                          rotate_left
                          · intro w hSw
                            (try dsimp only at hSw)
                            go_simp
                            (try with_reducible rfl)
                          try simp only [Act.put, List.getElem_toArray, List.getElem_cons_zero, List.getElem_cons_succ, List.setIfInBounds_toArray, List.set_cons_zero, List.set_cons_succ]
                          refine wpAnyH_done (by kernel_rfl) ?_ _
                        rotate_left 1
                      rotate_left 2
                      focus
                        refine step_build rfl ObS 1 #[(0, .tmp 184)] rfl #[(0, .agg #[.string o.name, .int .u32 (o.key : Nat), V.i, V.t, .int .i64 o.data, .string o.text, V.c, V.m, V.e, V.p, V.q, .int .i64 o.f0, .int .i64 o.f1, .int .i64 o.f2, .int .i64 o.body])] (by simp [Act.eval]) (obj_build_at _ V o (wr.heap.size) (by simp)) ?_
                        refine hK.out _ _ ?_ (fun hHeld1 => ?_)
                        · exact below_on hHeld ((Below.refl _ _).alloc (Nat.le_refl _) _) hHeld.size
                        clear hK K
                        try simp only [Act.put, List.getElem_toArray, List.getElem_cons_zero, List.getElem_cons_succ, List.setIfInBounds_toArray, List.set_cons_zero, List.set_cons_succ]
                        refine wpAnyH_ready (rs := [0]) (by kernel_rfl) (by simp) ?_
                        refine AllReadyH.cons rfl (fun K hK => ?_) AllReadyH.nil
                        refine step_build rfl ObS 0 #[] rfl #[] (by simp) (nil_build_at _ (wr.heap.size + 1) (by simp)) ?_
                        refine hK.out _ _ ?_ (fun hHeld2 => ?_)
                        · exact below_on hHeld1 ((Below.refl _ _).alloc (Nat.le_refl _) _) hHeld1.size
                        clear hK K
                        try simp only [Act.put, List.getElem_toArray, List.getElem_cons_zero, List.setIfInBounds_toArray, List.set_cons_zero, List.set_cons_succ]
                        refine wpAnyH_ready (rs := [2]) (by kernel_rfl) (by simp) ?_
                        refine AllReadyH.cons rfl (fun K hK => ?_) AllReadyH.nil
                        refine step_append rfl (.tmp 181) (.tmp 182) ObS ObS rfl _ _ (by simp [Act.eval]) (by simp [Act.eval]) C2.out ?_
                        refine hK.out _ _ ?_ (fun hHeld3 => ?_)
                        · exact CC.out.b2
                        clear hK K
                        try simp only [Act.put, List.getElem_toArray, List.getElem_cons_zero, List.getElem_cons_succ, List.setIfInBounds_toArray, List.set_cons_zero, List.set_cons_succ]
                        refine wpAnyH_ready (rs := [5]) (by kernel_rfl) (by simp) ?_
                        refine AllReadyH.cons rfl (fun K hK => ?_) AllReadyH.nil
                        refine step_append rfl (.tmp 183) (.tmp 185) ObS ObS rfl _ _ (by simp [Act.eval]) (by simp [Act.eval]) C5.out ?_
                        refine hK.out _ _ ?_ (fun hHeld4 => ?_)
                        · exact CC.out.b5
                        clear hK K
                        try simp only [Act.put, List.getElem_toArray, List.getElem_cons_zero, List.getElem_cons_succ, List.setIfInBounds_toArray, List.set_cons_zero, List.set_cons_succ]
                        refine wpAnyH_take (i := 7) (v := ?_) rfl (by kernel_rfl) (by kernel_rfl) (by kernel_rfl) (fun _ _ _ h => h) (Or.inl ⟨by rfl, ?_⟩) (by assumption) ?_
                        rotate_left
                        · intro w hSw
                          (try dsimp only at hSw)
                          go_simp
                          (try with_reducible rfl)
                        try simp only [Act.put, List.getElem_toArray, List.getElem_cons_zero, List.getElem_cons_succ, List.setIfInBounds_toArray, List.set_cons_zero, List.set_cons_succ]
                        refine wpAnyH_take (i := 8) (v := ?_) rfl (by kernel_rfl) (by kernel_rfl) (by kernel_rfl) (fun _ _ _ h => h) (Or.inl ⟨by rfl, ?_⟩) (by assumption) ?_
                        rotate_left
                        · intro w hSw
                          (try dsimp only at hSw)
                          go_simp
                          (try with_reducible rfl)
                        try simp only [Act.put, List.getElem_toArray, List.getElem_cons_zero, List.getElem_cons_succ, List.setIfInBounds_toArray, List.set_cons_zero, List.set_cons_succ]
                        refine wpAnyH_take (i := 9) (v := ?_) rfl (by kernel_rfl) (by kernel_rfl) (by kernel_rfl) (fun _ _ _ h => h) (Or.inl ⟨by rfl, ?_⟩) (by assumption) ?_
                        rotate_left
                        · intro w hSw
                          (try dsimp only at hSw)
                          go_simp
                          (try with_reducible rfl)
                        try simp only [Act.put, List.getElem_toArray, List.getElem_cons_zero, List.getElem_cons_succ, List.setIfInBounds_toArray, List.set_cons_zero, List.set_cons_succ]
                        refine wpAnyH_done (by kernel_rfl) ?_ _
                      rotate_left 1
                      all_goals
                        clear hHeld hHeld1 hHeld2 hHeld3 hHeld4
                        go_wp2_with fail
                        go_ret3
                        first
                          | exact HFIN.out _ _ AA.out.b5 AA.out.els
                          | exact HFIN.out _ _ BB.out.b5 BB.out.els
                          | exact HFIN.out _ _ CC.out.b5 CC.out.els
theorem dres_any (L : List (ByteArray × ObjV × ObjD)) (ld : List ByteArray) (lv dv : Value) (hfew : FewF L) : ∀ (n : Nat), n ≤ 9 → ∀ (vo vw : Value) (st : OSt) (s : ByteArray) (w : World), FilesIn w lv L → ElsAt 1 sRow w dv ld → OutIn w vo st.out → ElsAt 1 sRow w vw st.way → OInv (filesD L) st →
    Calls Try.prog 10 #[lv, dv, vo, vw, .string s, .int .i64 (9 - (n : Nat))] w fun e w' => ResTold w (resN (filesD L) ld n st s) e w' := by
  intro n
  induction n with
  | zero =>
    intro h vo vw st s w
    exact dres_step 0 L ld lv dv h (fun m hm => by omega) hfew vo vw st s w
  | succ n ih =>
    intro h vo vw st s w
    exact dres_step (n + 1) L ld lv dv h (fun m hm => by cases hm; exact ih (by omega)) hfew vo vw st s w
end Go.Proofs.Ytkkjfbpflfknpaa
