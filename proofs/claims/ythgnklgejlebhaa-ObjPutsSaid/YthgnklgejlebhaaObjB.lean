/-
  The document's Bytes (layer 12): an object's bytes. Conditions: its lists are not longer than 300 (code: 2000). (Written by wip/tools/obj-b.py.)
-/
import Derived.Test.YthgnklgejlebhaaObjA
import Derived.Test.YthgnklgejlebhaaBioW
import Derived.Deep.RegionHeld3
namespace Go.Proofs.Ythgnklgejlebhaa
open Go.ChangeShapes Go.WideShapes Go.ChangeAt Go.RowKit

structure FewB (o : ObjD) : Prop where
  imps : o.imps.length ≤ 300
  types : o.types.length ≤ 300
  code : o.code.length ≤ 2000
  cmds : o.cmds.length ≤ 300
  exps : o.exps.length ≤ 300
  ptrs : o.ptrs.length ≤ 300
  procs : o.procs.length ≤ 300
theorem textB_len (s : List Nat) : (textB s).length ≤ 256 := by
  unfold textB
  rw [List.length_cons, List.length_take]
  omega
theorem numZ_len (n : Int) (k : Nat) : (numZ n k).length = k := numB_length k _
theorem flat_len {α : Type} (f : α → List Nat) (c : Nat) (hf : ∀ x, (f x).length ≤ c) : ∀ L : List α, (L.flatMap f).length ≤ L.length * c
  | [] => by simp
  | x :: L => by
    have := flat_len f c hf L
    have := hf x
    rw [List.flatMap_cons, List.length_append, List.length_cons, Nat.add_mul]
    omega
theorem flat_take {α : Type} (f : α → List Nat) (c N : Nat) (hf : ∀ x, (f x).length ≤ c) (L : List α) (hL : L.length ≤ N) (m : Nat) : ((L.take m).flatMap f).length ≤ N * c := by
  have := flat_len f c hf (L.take m)
  have h2 : (L.take m).length ≤ N := by rw [List.length_take]; omega
  exact Nat.le_trans this (Nat.mul_le_mul_right c h2)
theorem impB_len (x : ByteArray × Nat) : (impB x).length ≤ 260 := by
  have := textB_len (sb x.1)
  rw [impB, List.length_append, numB_length]
  omega
theorem typeB_len (x : Int × Int × Int) : (typeB x).length ≤ 4 := by
  simp only [typeB, List.length_append, numZ_len]
  omega
theorem cmdB_len (x : ByteArray × Int) : (cmdB x).length ≤ 258 := by
  have := textB_len (sb x.1)
  rw [cmdB, List.length_append, numZ_len]
  omega
theorem expB_len (x : Int × Int) : (expB x).length ≤ 3 := by
  simp only [expB, List.length_append, numZ_len]
  omega
theorem part1_len (o : ObjD) : (part1 o).length ≤ 300 := by
  have := textB_len (sb o.name)
  simp only [part1, List.length_append, numB_length, numZ_len, List.length_cons, List.length_nil]
  omega
theorem part2_len {o : ObjD} (h : FewB o) : (part2 o).length ≤ 78400 := by
  have h1 := part1_len o
  have h2 := flat_take impB 260 300 impB_len o.imps h.imps o.imps.length
  rw [List.take_length] at h2
  simp only [part2, List.length_append, numZ_len]
  omega
theorem part3_len {o : ObjD} (h : FewB o) : (part3 o).length ≤ 80000 := by
  have h1 := part2_len h
  have h2 := flat_take typeB 4 300 typeB_len o.types h.types o.types.length
  have h3 := textB_len (sb o.text)
  rw [List.take_length] at h2
  simp only [part3, List.length_append, numZ_len]
  omega
theorem part4_len {o : ObjD} (h : FewB o) : (part4 o).length ≤ 88100 := by
  have h1 := part3_len h
  have h2 := flat_take (numB · 4) 4 2000 (fun x => Nat.le_of_eq (numB_length 4 x)) o.code h.code o.code.length
  rw [List.take_length] at h2
  simp only [part4, List.length_append, numZ_len]
  omega
theorem part5_len {o : ObjD} (h : FewB o) : (part5 o).length ≤ 165600 := by
  have h1 := part4_len h
  have h2 := flat_take cmdB 258 300 cmdB_len o.cmds h.cmds o.cmds.length
  rw [List.take_length] at h2
  simp only [part5, List.length_append, numZ_len]
  omega
theorem part6_len {o : ObjD} (h : FewB o) : (part6 o).length ≤ 166600 := by
  have h1 := part5_len h
  have h2 := flat_take expB 3 300 expB_len o.exps h.exps o.exps.length
  rw [List.take_length] at h2
  simp only [part6, List.length_append, numZ_len]
  omega
theorem part7_len {o : ObjD} (h : FewB o) : (part7 o).length ≤ 167000 := by
  have h1 := part6_len h
  have h2 := flat_take (numZ · 1) 1 300 (fun x => Nat.le_of_eq (numZ_len x 1)) o.ptrs h.ptrs o.ptrs.length
  rw [List.take_length] at h2
  simp only [part7, List.length_append, numZ_len]
  omega
theorem take_next {α : Type} (f : α → List Nat) (pre : List Nat) (L : List α) (m : Nat) (x : α) (hx : L[m]? = some x) : pre ++ (L.take (m + 1)).flatMap f = pre ++ (L.take m).flatMap f ++ f x := by
  rw [List.take_add_one, hx, List.flatMap_append]
  simp

/- while the bytes are made -/
structure Mid (w wr : World) (ob : Nat) (V : ObjV) (o : ObjD) (out : Value) (l : List Nat) : Prop where
  row : RowAt wr ob OT (ocells V o)
  bs : Bs wr out l
  fresh : ∀ j, own out j → w.heap.size ≤ j ∧ j ≠ ob
  below : Below w.heap.size w wr
theorem Mid.step {w wr w' : World} {ob : Nat} {V : ObjV} {o : ObjD} {out out' : Value} {l l' : List Nat} (h : Mid w wr ob V o out l) (hb : Bs w' out' l') (hg : Grew wr w' out out') : Mid w w' ob V o out' l' :=
  ⟨h.row.keep hg.1 fun hj => (h.fresh _ hj).2 rfl, hb, fun j hj => by
    rcases hg.2 j hj with h1 | h1
    · exact h.fresh j h1
    · exact ⟨Nat.le_trans h.below.size h1, by have := h.row.lt; omega⟩, hg.1.below h.below h.below.size fun j _ hj => (h.fresh j hj).1⟩
theorem Mid.drew {w wr : World} {ob : Nat} {V : ObjV} {o : ObjD} {out : Value} {l : List Nat} (h : Mid w wr ob V o out l) : Mid w wr.drew ob V o out l :=
  ⟨h.row.drew, h.bs.keep ((Kept.refl (fun _ => False) wr).drew) (fun _ _ h => h), h.fresh, h.below.trans ((Drawn.of_n wr 1).below _)⟩
theorem fix_cell (V : ObjV) (o : ObjD) : ∀ m, m < 3 → ∃ y, [o.f0, o.f1, o.f2][m]? = some y ∧ (ocells V o)[11 + m]? = some (.int .i64 y)
  | 0, _ => ⟨_, rfl, rfl⟩
  | 1, _ => ⟨_, rfl, rfl⟩
  | 2, _ => ⟨_, rfl, rfl⟩
  | m + 3, h => by omega
theorem mid_num1 {w wr : World} {ob : Nat} {V : ObjV} {o : ObjD} {out : Value} {l : List Nat} (h : Mid w wr ob V o out l) (n : Int) (small : l.length ≤ 500000) :
    Calls Try.prog 18 #[out, .int .i64 n, .int .i64 1] wr fun e w' => ∃ out', e = .returned out' ∧ Mid w w' ob V o out' (l ++ numZ n 1) :=
  (rnumber_any out l n 1 wr h.bs small).mono fun _ _ ⟨v', he, hb, hg⟩ => ⟨v', he, h.step hb hg⟩
theorem mid_num2 {w wr : World} {ob : Nat} {V : ObjV} {o : ObjD} {out : Value} {l : List Nat} (h : Mid w wr ob V o out l) (n : Int) (small : l.length ≤ 500000) :
    Calls Try.prog 18 #[out, .int .i64 n, .int .i64 2] wr fun e w' => ∃ out', e = .returned out' ∧ Mid w w' ob V o out' (l ++ numZ n 2) :=
  (rnumber_any out l n 2 wr h.bs small).mono fun _ _ ⟨v', he, hb, hg⟩ => ⟨v', he, h.step hb hg⟩
theorem mid_put4 {w wr : World} {ob : Nat} {V : ObjV} {o : ObjD} {out : Value} {l : List Nat} (h : Mid w wr ob V o out l) (n : Nat) (hn : n < 4294967296) (small : l.length ≤ 500000) :
    Calls Try.prog 17 #[out, .int .u32 (n : Nat), .int .i64 4] wr fun e w' => ∃ out', e = .returned out' ∧ Mid w w' ob V o out' (l ++ numB n 4) :=
  (rPut_any out l n 4 wr h.bs hn small).mono fun _ _ ⟨v', he, hb, hg⟩ => ⟨v', he, h.step hb hg⟩
theorem mid_text {w wr : World} {ob : Nat} {V : ObjV} {o : ObjD} {out : Value} {l : List Nat} (h : Mid w wr ob V o out l) (s : ByteArray) (small : l.length ≤ 500000) :
    Calls Try.prog 16 #[out, .string s] wr fun e w' => ∃ out', e = .returned out' ∧ Mid w w' ob V o out' (l ++ textB (sb s)) :=
  (rtext_any out l s wr h.bs small).mono fun _ _ ⟨v', he, hb, hg⟩ => ⟨v', he, h.step hb hg⟩

set_option maxRecDepth 100000 in
set_option maxHeartbeats 4000000 in
theorem rBytes_any (V : ObjV) (o : ObjD) (w : World) (h : ObjAt w V o) (hf : FewB o) :
    Calls Try.prog 9 #[.agg (ocells V o).toArray] w fun e w' => ∃ v', e = .returned v' ∧ Bs w' v' (bytesO o) ∧ (∀ j, own v' j → w.heap.size ≤ j) ∧ Below w.heap.size w w' := by
  obtain ⟨adi, cqi, hi, _⟩ := h.imps.shape
  obtain ⟨n1, hn1⟩ : ∃ n, n = o.imps.length := ⟨_, rfl⟩
  rw [← hn1] at hi
  have k1 : n1 ≤ 300 := by have := hf.imps; omega
  have Hi := Lib.hid hi
  have HN1 := Lib.hid hn1
  obtain ⟨adt, cqt, ht, _⟩ := h.types.shape
  obtain ⟨n2, hn2⟩ : ∃ n, n = o.types.length := ⟨_, rfl⟩
  rw [← hn2] at ht
  have k2 : n2 ≤ 300 := by have := hf.types; omega
  have Ht := Lib.hid ht
  have HN2 := Lib.hid hn2
  obtain ⟨adc, cqc, hc, _⟩ := h.code.shape
  obtain ⟨n3, hn3⟩ : ∃ n, n = o.code.length := ⟨_, rfl⟩
  rw [← hn3] at hc
  have k3 : n3 ≤ 2000 := by have := hf.code; omega
  have Hc := Lib.hid hc
  have HN3 := Lib.hid hn3
  obtain ⟨adm, cqm, hm, _⟩ := h.cmds.shape
  obtain ⟨n4, hn4⟩ : ∃ n, n = o.cmds.length := ⟨_, rfl⟩
  rw [← hn4] at hm
  have k4 : n4 ≤ 300 := by have := hf.cmds; omega
  have Hm := Lib.hid hm
  have HN4 := Lib.hid hn4
  obtain ⟨ade, cqe, he, _⟩ := h.exps.shape
  obtain ⟨n5, hn5⟩ : ∃ n, n = o.exps.length := ⟨_, rfl⟩
  rw [← hn5] at he
  have k5 : n5 ≤ 300 := by have := hf.exps; omega
  have He := Lib.hid he
  have HN5 := Lib.hid hn5
  obtain ⟨adp, cqp, hp, _⟩ := h.ptrs.shape
  obtain ⟨n6, hn6⟩ : ∃ n, n = o.ptrs.length := ⟨_, rfl⟩
  rw [← hn6] at hp
  have k6 : n6 ≤ 300 := by have := hf.ptrs; omega
  have Hp := Lib.hid hp
  have HN6 := Lib.hid hn6
  obtain ⟨adq, cqq, hq, _⟩ := h.procs.shape
  obtain ⟨n7, hn7⟩ : ∃ n, n = o.procs.length := ⟨_, rfl⟩
  rw [← hn7] at hq
  have k7 : n7 ≤ 300 := by have := hf.procs; omega
  have Hq := Lib.hid hq
  have HN7 := Lib.hid hn7
  have HO := Lib.hid h
  have HF := Lib.hid hf
  clear h hf hi hn1 ht hn2 hc hn3 hm hn4 he hn5 hp hn6 hq hn7
  show Calls _ _ #[.agg #[.string o.name, .int .u32 (o.key : Nat), V.i, V.t, .int .i64 o.data, .string o.text, V.c, V.m, V.e, V.p, V.q, .int .i64 o.f0, .int .i64 o.f1, .int .i64 o.f2, .int .i64 o.body]] w _
  have k0 : Kept (fun _ => False) w ((w.alloc (.cells #[.string o.name, .int .u32 (o.key : Nat), V.i, V.t, .int .i64 o.data, .string o.text, V.c, V.m, V.e, V.p, V.q, .int .i64 o.f0, .int .i64 o.f1, .int .i64 o.f2, .int .i64 o.body] OT)).alloc (.cells #[.int .u8 68, .int .u8 87] BT)) := ((Kept.refl _ w).alloc _).alloc _
  have HM : Hid (Mid w ((w.alloc (.cells #[.string o.name, .int .u32 (o.key : Nat), V.i, V.t, .int .i64 o.data, .string o.text, V.c, V.m, V.e, V.p, V.q, .int .i64 o.f0, .int .i64 o.f1, .int .i64 o.f2, .int .i64 o.body] OT)).alloc (.cells #[.int .u8 68, .int .u8 87] BT)) w.heap.size V o (.slice (some ⟨w.heap.size + 1, 0, none⟩) 2 2) [68, 87]) := by
    refine ⟨(RowAt.new w OT (ocells V o)).keep ((Kept.refl (fun _ => False) _).alloc _) (fun h => h), ⟨.inr ⟨w.heap.size + 1, 2, [], rfl, ?_, by simp, Nat.le_refl _, by simp [maxLen]⟩, rfl, byteVals_one _⟩, fun j hj => ?_, k0.none⟩
    · have := RowAt.new (w.alloc (.cells #[.string o.name, .int .u32 (o.key : Nat), V.i, V.t, .int .i64 o.data, .string o.text, V.c, V.m, V.e, V.p, V.q, .int .i64 o.f0, .int .i64 o.f1, .int .i64 o.f2, .int .i64 o.body] OT)) BT [.int .u8 68, .int .u8 87]
      simpa [byteVals] using this
    · simp only [own] at hj
      omega
  clear k0
  go_enter Try.func9, Try.ntmps9
  go_wp2_with fail
  refine (mid_text HM.out o.name (by simp)).mono ?_
  rintro e w1 ⟨x1, rfl, hM⟩
  generalize w.heap.size = ob at *
  clear HM
  have c1 : w1.cell? ⟨ob, 1, none⟩ = some (.int .u32 (o.key : Nat)) := hM.row.cell 1
  have HM := Lib.hid hM
  clear hM
  have HL := Lib.hid (textB_len (sb o.name))
  go_wp2_with fail
  refine (mid_put4 HM.out o.key HO.out.fit.key (by have := HL.out; simp only [List.length_append, List.length_cons, List.length_nil]; omega)).mono ?_
  rintro e w2 ⟨x2, rfl, hM⟩
  clear HM
  have c2 : w2.cell? ⟨ob, 2, none⟩ = some (.slice adi n1 cqi) := (hM.row.cell 2).trans (congrArg some Hi.out)
  have HM := Lib.hid hM
  clear hM
  go_wp2_with fail
  refine (mid_num1 HM.out (n1 : Nat) (by have := HL.out; simp only [List.length_append, List.length_cons, List.length_nil, numB_length]; omega)).mono ?_
  rintro e w3 ⟨x3, rfl, hM⟩
  clear HM HL
  have HP : Hid (Mid w w3 ob V o x3 (part1 o)) := by have e1 := HN1.out; rw [e1] at hM; exact hM
  clear hM
  have c2 : w3.cell? ⟨ob, 2, none⟩ = some (.slice adi n1 cqi) := (HP.out.row.cell 2).trans (congrArg some Hi.out)
  have HQ : Hid (Mid w w3 ob V o x3 (part1 o ++ (o.imps.take 0).flatMap impB)) := by show Mid _ _ _ _ _ _ _; simpa using HP.out
  clear HP
  go_wp2_with fail
  go_loopw [3, 4] (fun out i wr => ∃ m : Nat, m ≤ n1 ∧ i = .int .i64 (m : Nat) ∧ Mid w wr ob V o out (part1 o ++ (o.imps.take m).flatMap impB)) (fun _ i _ => n1 - (intOf i).toNat)
  case atStart => exact ⟨0, Nat.zero_le _, rfl, HQ.out⟩
  case round =>
    clear HQ
    obtain ⟨m, hm, rfl, hM⟩ := hrel
    have c2 : wr.cell? ⟨ob, 2, none⟩ = some (.slice adi n1 cqi) := (hM.row.cell 2).trans (congrArg some Hi.out)
    have HM := Lib.hid hM
    clear hM
    have HL : Hid ((part1 o ++ (o.imps.take m).flatMap impB).length ≤ 400000) := by show _ ≤ _; have a := part1_len o; have b := flat_take impB 260 300 impB_len o.imps HF.out.imps m; rw [List.length_append]; omega
    by_cases hlt : m < n1
    · as_aux_lemma =>
        obtain ⟨x, hx⟩ : ∃ x, o.imps[m]? = some x := ⟨_, List.getElem?_eq_getElem (by have := HN1.out; omega)⟩
        obtain ⟨y1, y2⟩ := x
        have HY := Lib.hid (HO.out.fit.imps _ (List.mem_of_getElem? hx)).2
        obtain ⟨b, off, cap, e0, hb, g0, g1⟩ := HO.out.imps.cell2 hx rfl
        rw [← HN1.out] at e0
        have e1 := Hi.out.symm.trans e0
        cases e1
        have HB := Lib.hid hb
        have G0 := Lib.hid g0
        have G1 := Lib.hid g1
        have HX := Lib.hid hx
        have i1 : (m : Int) < (n1 : Int) := by omega
        have i2 : (0 : Int) ≤ (m : Int) := by omega
        clear e0 hb hx g0 g1
        have d0 := (HM.out.below.cell (p := ⟨b, off + m * 2, none⟩) HB.out).trans G0.out
        have d1 := (HM.out.below.cell (p := ⟨b, off + m * 2 + 1, none⟩) HB.out).trans G1.out
        go_wp2_with fail
        refine wp_region_held_drew (S := fun w' => (w'.cell? ⟨ob, 2, none⟩ = some (.slice (some ⟨b, off, none⟩) n1 cqi) ∧ w'.cell? ⟨b, off + m * 2, none⟩ = some (.string y1)) ∧ w'.cell? ⟨b, off + m * 2 + 1, none⟩ = some (.int .u32 (y2 : Nat))) (by kernel_rfl) ?_ (fun hHeld => ?_)
        · exact ⟨⟨c2, d0⟩, d1⟩
        refine wpAnyH_take (i := 0) (v := ?_) rfl (by kernel_rfl) (by kernel_rfl) (by kernel_rfl) (fun _ _ _ h => h) (Or.inl ⟨by rfl, ?_⟩) (by assumption) ?_
        rotate_left
        · intro w hSw
          (try dsimp only at hSw)
          go_simp
          (try with_reducible rfl)
        try simp only [Act.put, List.getElem_toArray, List.getElem_cons_zero, List.setIfInBounds_toArray, List.set_cons_zero, List.set_cons_succ]
        refine wpAnyH_take (i := 1) (v := ?_) rfl (by kernel_rfl) (by kernel_rfl) (by kernel_rfl) (fun _ _ _ h => h) (Or.inl ⟨by rfl, ?_⟩) (by assumption) ?_
        rotate_left
        · intro w hSw
          (try dsimp only at hSw)
          go_simp
          (try with_reducible rfl)
        try simp only [Act.put, List.getElem_toArray, List.getElem_cons_zero, List.getElem_cons_succ, List.setIfInBounds_toArray, List.set_cons_zero, List.set_cons_succ]
        refine wpAnyH_take (i := 2) (v := ?_) rfl (by kernel_rfl) (by kernel_rfl) (by kernel_rfl) (fun _ _ _ h => h) (Or.inl ⟨by rfl, ?_⟩) (by assumption) ?_
        rotate_left
        · intro w hSw
          (try dsimp only at hSw)
          go_simp
          (try with_reducible rfl)
        try simp only [Act.put, List.getElem_toArray, List.getElem_cons_zero, List.getElem_cons_succ, List.setIfInBounds_toArray, List.set_cons_zero, List.set_cons_succ]
        refine wpAnyH_take (i := 3) (v := ?_) rfl (by kernel_rfl) (by kernel_rfl) (by kernel_rfl) (fun _ _ _ h => h) (Or.inl ⟨by rfl, ?_⟩) (by assumption) ?_
        rotate_left
        · intro w hSw
          (try dsimp only at hSw)
          go_simp
          (try with_reducible rfl)
        try simp only [Act.put, List.getElem_toArray, List.getElem_cons_zero, List.getElem_cons_succ, List.setIfInBounds_toArray, List.set_cons_zero, List.set_cons_succ]
        refine wpAnyH_take (i := 4) (v := ?_) rfl (by kernel_rfl) (by kernel_rfl) (by kernel_rfl) (fun _ _ _ h => h) (Or.inl ⟨by rfl, ?_⟩) (by assumption) ?_
        rotate_left
        · intro w hSw
          (try dsimp only at hSw)
          go_simp
          (try with_reducible rfl)
        try simp only [Act.put, List.getElem_toArray, List.getElem_cons_zero, List.getElem_cons_succ, List.setIfInBounds_toArray, List.set_cons_zero, List.set_cons_succ]
        refine wpAnyH_take (i := 5) (v := ?_) rfl (by kernel_rfl) (by kernel_rfl) (by kernel_rfl) (fun _ _ _ h => h) (Or.inl ⟨by rfl, ?_⟩) (by assumption) ?_
        rotate_left
        · intro w hSw
          (try dsimp only at hSw)
          go_simp
          (try with_reducible rfl)
        try simp only [Act.put, List.getElem_toArray, List.getElem_cons_zero, List.getElem_cons_succ, List.setIfInBounds_toArray, List.set_cons_zero, List.set_cons_succ]
        refine wpAnyH_take (i := 6) (v := ?_) rfl (by kernel_rfl) (by kernel_rfl) (by kernel_rfl) (fun _ _ _ h => h) (Or.inl ⟨by rfl, ?_⟩) (by assumption) ?_
        rotate_left
        · intro w hSw
          (try dsimp only at hSw)
          go_simp
          (try with_reducible rfl)
        try simp only [Act.put, List.getElem_toArray, List.getElem_cons_zero, List.getElem_cons_succ, List.setIfInBounds_toArray, List.set_cons_zero, List.set_cons_succ]
        refine wpAnyH_take (i := 8) (v := ?_) rfl (by kernel_rfl) (by kernel_rfl) (by kernel_rfl) (fun _ _ _ h => h) (Or.inl ⟨by rfl, ?_⟩) (by assumption) ?_
        rotate_left
        · intro w hSw
          (try dsimp only at hSw)
          go_simp
          (try with_reducible rfl)
        try simp only [Act.put, List.getElem_toArray, List.getElem_cons_zero, List.getElem_cons_succ, List.setIfInBounds_toArray, List.set_cons_zero, List.set_cons_succ]
        refine wpAnyH_take (i := 9) (v := ?_) rfl (by kernel_rfl) (by kernel_rfl) (by kernel_rfl) (fun _ _ _ h => h) (Or.inl ⟨by rfl, ?_⟩) (by assumption) ?_
        rotate_left
        · intro w hSw
          (try dsimp only at hSw)
          go_simp
          (try with_reducible rfl)
        try simp only [Act.put, List.getElem_toArray, List.getElem_cons_zero, List.getElem_cons_succ, List.setIfInBounds_toArray, List.set_cons_zero, List.set_cons_succ]
        refine wpAnyH_take (i := 10) (v := ?_) rfl (by kernel_rfl) (by kernel_rfl) (by kernel_rfl) (fun _ _ _ h => h) (Or.inl ⟨by rfl, ?_⟩) (by assumption) ?_
        rotate_left
        · intro w hSw
          (try dsimp only at hSw)
          go_simp
          (try with_reducible rfl)
        try simp only [Act.put, List.getElem_toArray, List.getElem_cons_zero, List.getElem_cons_succ, List.setIfInBounds_toArray, List.set_cons_zero, List.set_cons_succ]
        refine wpAnyH_take (i := 11) (v := ?_) rfl (by kernel_rfl) (by kernel_rfl) (by kernel_rfl) (fun _ _ _ h => h) (Or.inl ⟨by rfl, ?_⟩) (by assumption) ?_
        rotate_left
        · intro w hSw
          (try dsimp only at hSw)
          go_simp
          (try with_reducible rfl)
        try simp only [Act.put, List.getElem_toArray, List.getElem_cons_zero, List.getElem_cons_succ, List.setIfInBounds_toArray, List.set_cons_zero, List.set_cons_succ]
        refine wpAnyH_take (i := 12) (v := ?_) rfl (by kernel_rfl) (by kernel_rfl) (by kernel_rfl) (fun _ _ _ h => h) (Or.inl ⟨by rfl, ?_⟩) (by assumption) ?_
        rotate_left
        · intro w hSw
          (try dsimp only at hSw)
          go_simp
          (try with_reducible rfl)
        try simp only [Act.put, List.getElem_toArray, List.getElem_cons_zero, List.getElem_cons_succ, List.setIfInBounds_toArray, List.set_cons_zero, List.set_cons_succ]
        refine wpAnyH_take (i := 13) (v := ?_) rfl (by kernel_rfl) (by kernel_rfl) (by kernel_rfl) (fun _ _ _ h => h) (Or.inl ⟨by rfl, ?_⟩) (by assumption) ?_
        rotate_left
        · intro w hSw
          (try dsimp only at hSw)
          go_simp
          (try with_reducible rfl)
        try simp only [Act.put, List.getElem_toArray, List.getElem_cons_zero, List.getElem_cons_succ, List.setIfInBounds_toArray, List.set_cons_zero, List.set_cons_succ]
        refine wpAnyH_ready (rs := [7]) (by kernel_rfl) (by simp) ?_
        refine AllReadyH.cons rfl (fun K hK => ?_) AllReadyH.nil
        go_simp
        refine (mid_text HM.out.drew y1 (by have := HL.out; omega)).mono ?_
        rintro e w5 ⟨z5, rfl, h5⟩
        first | show K _ _ | go_wp2_with fail
        refine hK.out _ _ ?_ (fun hHeld1 => ?_)
        · exact ⟨⟨(h5.row.cell 2).trans (congrArg some Hi.out), (h5.below.cell (p := ⟨b, off + m * 2, none⟩) HB.out).trans G0.out⟩, (h5.below.cell (p := ⟨b, off + m * 2 + 1, none⟩) HB.out).trans G1.out⟩
        clear hK K
        try simp only [Act.put, List.getElem_toArray, List.getElem_cons_zero, List.getElem_cons_succ, List.setIfInBounds_toArray, List.set_cons_zero, List.set_cons_succ]
        refine wpAnyH_ready (rs := [14]) (by kernel_rfl) (by simp) ?_
        refine AllReadyH.cons rfl (fun K hK => ?_) AllReadyH.nil
        go_simp
        refine (mid_put4 h5 y2 HY.out (by rw [List.length_append]; have := HL.out; have := textB_len (sb y1); omega)).mono ?_
        rintro e w6 ⟨z6, rfl, h6⟩
        first | show K _ _ | go_wp2_with fail
        refine hK.out _ _ ?_ (fun hHeld2 => ?_)
        · exact ⟨⟨(h6.row.cell 2).trans (congrArg some Hi.out), (h6.below.cell (p := ⟨b, off + m * 2, none⟩) HB.out).trans G0.out⟩, (h6.below.cell (p := ⟨b, off + m * 2 + 1, none⟩) HB.out).trans G1.out⟩
        clear hK K
        try simp only [Act.put, List.getElem_toArray, List.getElem_cons_zero, List.getElem_cons_succ, List.setIfInBounds_toArray, List.set_cons_zero, List.set_cons_succ]
        refine wpAnyH_take (i := 15) (v := ?_) rfl (by kernel_rfl) (by kernel_rfl) (by kernel_rfl) (fun _ _ _ h => h) (Or.inl ⟨by rfl, ?_⟩) (by assumption) ?_
        rotate_left
        · intro w hSw
          (try dsimp only at hSw)
          go_simp
          (try with_reducible rfl)
        try simp only [Act.put, List.getElem_toArray, List.getElem_cons_zero, List.getElem_cons_succ, List.setIfInBounds_toArray, List.set_cons_zero, List.set_cons_succ]
        refine wpAnyH_done (by kernel_rfl) ?_ _
        clear hHeld hHeld1 hHeld2
        have HE : Hid (Mid w w6 ob V o z6 (part1 o ++ (o.imps.take (m + 1)).flatMap impB)) := by
          rw [take_next impB _ _ m _ HX.out]
          show Mid _ _ _ _ _ _ _
          simpa [impB, List.append_assoc] using h6
        clear h5 h6
        go_wp2_with fail
        go_roundw
        case rel => exact ⟨m + 1, by omega, by go_num, HE.out⟩
        case measure => simp [intOf]; omega
    · have hfull : o.imps.take m = o.imps := List.take_of_length_le (by have := HN1.out; omega)
      have hM := HM.out
      rw [hfull] at hM
      have HM := Lib.hid hM
      have hl := HL.out
      rw [hfull] at hl
      have HL := Lib.hid hl
      have i1 : ¬ (m : Int) < (n1 : Int) := by omega
      clear hM hl hfull
      have c3 : wr.cell? ⟨ob, 3, none⟩ = some (.slice adt n2 cqt) := (HM.out.row.cell 3).trans (congrArg some Ht.out)
      go_wp2_with fail
      refine (mid_num1 HM.out (n2 : Nat) (by have := HL.out; omega)).mono ?_
      rintro e w9 ⟨x9, rfl, hM⟩
      clear HM HL
      have HP : Hid (Mid w w9 ob V o x9 (part2 o)) := by have e1 := HN2.out; rw [e1] at hM; exact hM
      clear hM
      have c3 : w9.cell? ⟨ob, 3, none⟩ = some (.slice adt n2 cqt) := (HP.out.row.cell 3).trans (congrArg some Ht.out)
      have HQ : Hid (Mid w w9 ob V o x9 (part2 o ++ (o.types.take 0).flatMap typeB)) := by show Mid _ _ _ _ _ _ _; simpa using HP.out
      clear HP
      go_wp2_with fail
      go_loopw [3, 5] (fun out i wr => ∃ m : Nat, m ≤ n2 ∧ i = .int .i64 (m : Nat) ∧ Mid w wr ob V o out (part2 o ++ (o.types.take m).flatMap typeB)) (fun _ i _ => n2 - (intOf i).toNat)
      case atStart => exact ⟨0, Nat.zero_le _, rfl, HQ.out⟩
      case round =>
        clear HQ
        obtain ⟨m, hm, rfl, hM⟩ := hrel
        have c3 : wr.cell? ⟨ob, 3, none⟩ = some (.slice adt n2 cqt) := (hM.row.cell 3).trans (congrArg some Ht.out)
        have HM := Lib.hid hM
        clear hM
        have HL : Hid ((part2 o ++ (o.types.take m).flatMap typeB).length ≤ 400000) := by show _ ≤ _; have a := part2_len HF.out; have b := flat_take typeB 4 300 typeB_len o.types HF.out.types m; rw [List.length_append]; omega
        by_cases hlt : m < n2
        · as_aux_lemma =>
            obtain ⟨x, hx⟩ : ∃ x, o.types[m]? = some x := ⟨_, List.getElem?_eq_getElem (by have := HN2.out; omega)⟩
            obtain ⟨y1, y2, y3⟩ := x
            obtain ⟨b, off, cap, e0, hb, g0, g1, g2⟩ := HO.out.types.cell3 hx rfl
            rw [← HN2.out] at e0
            have e1 := Ht.out.symm.trans e0
            cases e1
            have HB := Lib.hid hb
            have G0 := Lib.hid g0
            have G1 := Lib.hid g1
            have G2 := Lib.hid g2
            have HX := Lib.hid hx
            have i1 : (m : Int) < (n2 : Int) := by omega
            have i2 : (0 : Int) ≤ (m : Int) := by omega
            clear e0 hb hx g0 g1 g2
            have d0 := (HM.out.below.cell (p := ⟨b, off + m * 3, none⟩) HB.out).trans G0.out
            go_wp2_with fail
            refine (mid_num2 HM.out y1 (by have := HL.out; omega)).mono ?_
            rintro e v0 ⟨z0, rfl, h0⟩
            clear c3 d0
            have c3 : v0.cell? ⟨ob, 3, none⟩ = some (.slice (some ⟨b, off, none⟩) n2 cqt) := (h0.row.cell 3).trans (congrArg some Ht.out)
            have d1 := (h0.below.cell (p := ⟨b, off + m * 3 + 1, none⟩) HB.out).trans G1.out
            go_wp2_with fail
            refine (mid_num1 h0 y2 (by rw [List.length_append, numZ_len]; have := HL.out; omega)).mono ?_
            rintro e v1 ⟨z1, rfl, h1⟩
            clear c3 d1
            have c3 : v1.cell? ⟨ob, 3, none⟩ = some (.slice (some ⟨b, off, none⟩) n2 cqt) := (h1.row.cell 3).trans (congrArg some Ht.out)
            have d2 := (h1.below.cell (p := ⟨b, off + m * 3 + 2, none⟩) HB.out).trans G2.out
            go_wp2_with fail
            refine (mid_num1 h1 y3 (by rw [List.length_append, List.length_append, numZ_len, numZ_len]; have := HL.out; omega)).mono ?_
            rintro e v2 ⟨z2, rfl, h2⟩
            have HE : Hid (Mid w v2 ob V o z2 (part2 o ++ (o.types.take (m + 1)).flatMap typeB)) := by
              rw [take_next typeB _ _ m _ HX.out]
              show Mid _ _ _ _ _ _ _
              simpa [typeB, List.append_assoc] using h2
            clear h0 h1 h2
            go_wp2_with fail
            go_roundw
            case rel => exact ⟨m + 1, by omega, by go_num, HE.out⟩
            case measure => simp [intOf]; omega
        · have hfull : o.types.take m = o.types := List.take_of_length_le (by have := HN2.out; omega)
          have hM := HM.out
          rw [hfull] at hM
          have HM := Lib.hid hM
          have hl := HL.out
          rw [hfull] at hl
          have HL := Lib.hid hl
          have i1 : ¬ (m : Int) < (n2 : Int) := by omega
          clear hM hl hfull
          have d4 : wr.cell? ⟨ob, 4, none⟩ = some (.int .i64 o.data) := HM.out.row.cell 4
          have d5 : wr.cell? ⟨ob, 5, none⟩ = some (.string o.text) := HM.out.row.cell 5
          go_wp2_with fail
          refine wp_region_held_drew (S := fun w' => w'.cell? ⟨ob, 4, none⟩ = some (.int .i64 o.data) ∧ w'.cell? ⟨ob, 5, none⟩ = some (.string o.text)) (by kernel_rfl) ?_ (fun hHeld => ?_)
          · exact ⟨d4, d5⟩
          refine wpAnyH_take (i := 0) (v := ?_) rfl (by kernel_rfl) (by kernel_rfl) (by kernel_rfl) (fun _ _ _ h => h) (Or.inl ⟨by rfl, ?_⟩) (by assumption) ?_
          rotate_left
          · intro w hSw
            (try dsimp only at hSw)
            go_simp
            (try with_reducible rfl)
          try simp only [Act.put, List.getElem_toArray, List.getElem_cons_zero, List.setIfInBounds_toArray, List.set_cons_zero, List.set_cons_succ]
          refine wpAnyH_take (i := 1) (v := ?_) rfl (by kernel_rfl) (by kernel_rfl) (by kernel_rfl) (fun _ _ _ h => h) (Or.inl ⟨by rfl, ?_⟩) (by assumption) ?_
          rotate_left
          · intro w hSw
            (try dsimp only at hSw)
            go_simp
            (try with_reducible rfl)
          try simp only [Act.put, List.getElem_toArray, List.getElem_cons_zero, List.getElem_cons_succ, List.setIfInBounds_toArray, List.set_cons_zero, List.set_cons_succ]
          refine wpAnyH_take (i := 2) (v := ?_) rfl (by kernel_rfl) (by kernel_rfl) (by kernel_rfl) (fun _ _ _ h => h) (Or.inl ⟨by rfl, ?_⟩) (by assumption) ?_
          rotate_left
          · intro w hSw
            (try dsimp only at hSw)
            go_simp
            (try with_reducible rfl)
          try simp only [Act.put, List.getElem_toArray, List.getElem_cons_zero, List.getElem_cons_succ, List.setIfInBounds_toArray, List.set_cons_zero, List.set_cons_succ]
          refine wpAnyH_take (i := 4) (v := ?_) rfl (by kernel_rfl) (by kernel_rfl) (by kernel_rfl) (fun _ _ _ h => h) (Or.inl ⟨by rfl, ?_⟩) (by assumption) ?_
          rotate_left
          · intro w hSw
            (try dsimp only at hSw)
            go_simp
            (try with_reducible rfl)
          try simp only [Act.put, List.getElem_toArray, List.getElem_cons_zero, List.getElem_cons_succ, List.setIfInBounds_toArray, List.set_cons_zero, List.set_cons_succ]
          refine wpAnyH_take (i := 5) (v := ?_) rfl (by kernel_rfl) (by kernel_rfl) (by kernel_rfl) (fun _ _ _ h => h) (Or.inl ⟨by rfl, ?_⟩) (by assumption) ?_
          rotate_left
          · intro w hSw
            (try dsimp only at hSw)
            go_simp
            (try with_reducible rfl)
          try simp only [Act.put, List.getElem_toArray, List.getElem_cons_zero, List.getElem_cons_succ, List.setIfInBounds_toArray, List.set_cons_zero, List.set_cons_succ]
          refine wpAnyH_ready (rs := [3]) (by kernel_rfl) (by simp) ?_
          refine AllReadyH.cons rfl (fun K hK => ?_) AllReadyH.nil
          go_simp
          refine (mid_num1 HM.out.drew o.data (by have := HL.out; omega)).mono ?_
          rintro e w5 ⟨z5, rfl, h5⟩
          first | show K _ _ | go_wp2_with fail
          refine hK.out _ _ ?_ (fun hHeld1 => ?_)
          · exact ⟨h5.row.cell 4, h5.row.cell 5⟩
          clear hK K
          try simp only [Act.put, List.getElem_toArray, List.getElem_cons_zero, List.getElem_cons_succ, List.setIfInBounds_toArray, List.set_cons_zero, List.set_cons_succ]
          refine wpAnyH_ready (rs := [6]) (by kernel_rfl) (by simp) ?_
          refine AllReadyH.cons rfl (fun K hK => ?_) AllReadyH.nil
          go_simp
          refine (mid_text h5 o.text (by rw [List.length_append, numZ_len]; have := HL.out; omega)).mono ?_
          rintro e w6 ⟨z6, rfl, h6⟩
          first | show K _ _ | go_wp2_with fail
          refine hK.out _ _ ?_ (fun hHeld2 => ?_)
          · exact ⟨h6.row.cell 4, h6.row.cell 5⟩
          clear hK K
          try simp only [Act.put, List.getElem_toArray, List.getElem_cons_zero, List.getElem_cons_succ, List.setIfInBounds_toArray, List.set_cons_zero, List.set_cons_succ]
          refine wpAnyH_take (i := 7) (v := ?_) rfl (by kernel_rfl) (by kernel_rfl) (by kernel_rfl) (fun _ _ _ h => h) (Or.inl ⟨by rfl, ?_⟩) (by assumption) ?_
          rotate_left
          · intro w hSw
            (try dsimp only at hSw)
            go_simp
            (try with_reducible rfl)
          try simp only [Act.put, List.getElem_toArray, List.getElem_cons_zero, List.getElem_cons_succ, List.setIfInBounds_toArray, List.set_cons_zero, List.set_cons_succ]
          refine wpAnyH_done (by kernel_rfl) ?_ _
          have HM := Lib.hid h6
          have HL : Hid (_ ≤ 400000) := part3_len HF.out |> fun h => Nat.le_trans h (by omega)
          clear hHeld hHeld1 hHeld2 h5 h6 d4 d5
          have c6 : w6.cell? ⟨ob, 6, none⟩ = some (.slice adc n3 cqc) := (HM.out.row.cell 6).trans (congrArg some Hc.out)
          go_wp2_with fail
          refine (mid_num2 HM.out (n3 : Nat) (by have := HL.out; simp only [part3, List.length_append, numZ_len] at this ⊢; omega)).mono ?_
          rintro e w9 ⟨x9, rfl, hM⟩
          clear HM HL
          have HP : Hid (Mid w w9 ob V o x9 (part3 o)) := by have e1 := HN3.out; rw [e1] at hM; exact hM
          clear hM
          have c6 : w9.cell? ⟨ob, 6, none⟩ = some (.slice adc n3 cqc) := (HP.out.row.cell 6).trans (congrArg some Hc.out)
          have HQ : Hid (Mid w w9 ob V o x9 (part3 o ++ (o.code.take 0).flatMap (numB · 4))) := by show Mid _ _ _ _ _ _ _; simpa using HP.out
          clear HP
          go_wp2_with fail
          go_loopw [3, 6] (fun out i wr => ∃ m : Nat, m ≤ n3 ∧ i = .int .i64 (m : Nat) ∧ Mid w wr ob V o out (part3 o ++ (o.code.take m).flatMap (numB · 4))) (fun _ i _ => n3 - (intOf i).toNat)
          case atStart => exact ⟨0, Nat.zero_le _, rfl, HQ.out⟩
          case round =>
            clear HQ
            obtain ⟨m, hm, rfl, hM⟩ := hrel
            have c6 : wr.cell? ⟨ob, 6, none⟩ = some (.slice adc n3 cqc) := (hM.row.cell 6).trans (congrArg some Hc.out)
            have HM := Lib.hid hM
            clear hM
            have HL : Hid ((part3 o ++ (o.code.take m).flatMap (numB · 4)).length ≤ 400000) := by show _ ≤ _; have a := part3_len HF.out; have b := flat_take (numB · 4) 4 2000 (fun x => Nat.le_of_eq (numB_length 4 x)) o.code HF.out.code m; rw [List.length_append]; omega
            by_cases hlt : m < n3
            · as_aux_lemma =>
                obtain ⟨x, hx⟩ : ∃ x, o.code[m]? = some x := ⟨_, List.getElem?_eq_getElem (by have := HN3.out; omega)⟩
                obtain ⟨y1, hy1⟩ : ∃ y1, y1 = x := ⟨_, rfl⟩
                subst hy1
                have HY := Lib.hid (HO.out.fit.code _ (List.mem_of_getElem? hx))
                obtain ⟨b, off, cap, e0, hb, g0⟩ := HO.out.code.cell1 hx rfl
                rw [← HN3.out] at e0
                have e1 := Hc.out.symm.trans e0
                cases e1
                have HB := Lib.hid hb
                have G0 := Lib.hid g0
                have HX := Lib.hid hx
                have i1 : (m : Int) < (n3 : Int) := by omega
                have i2 : (0 : Int) ≤ (m : Int) := by omega
                clear e0 hb hx g0
                have d0 := (HM.out.below.cell (p := ⟨b, off + m, none⟩) HB.out).trans G0.out
                go_wp2_with fail
                refine (mid_put4 HM.out y1 HY.out (by have := HL.out; omega)).mono ?_
                rintro e v0 ⟨z0, rfl, h0⟩
                have HE : Hid (Mid w v0 ob V o z0 (part3 o ++ (o.code.take (m + 1)).flatMap (numB · 4))) := by
                  rw [take_next (numB · 4) _ _ m _ HX.out]
                  show Mid _ _ _ _ _ _ _
                  simpa [List.append_assoc] using h0
                clear h0
                go_wp2_with fail
                go_roundw
                case rel => exact ⟨m + 1, by omega, by go_num, HE.out⟩
                case measure => simp [intOf]; omega
            · have hfull : o.code.take m = o.code := List.take_of_length_le (by have := HN3.out; omega)
              have hM := HM.out
              rw [hfull] at hM
              have HM := Lib.hid hM
              have hl := HL.out
              rw [hfull] at hl
              have HL := Lib.hid hl
              have i1 : ¬ (m : Int) < (n3 : Int) := by omega
              clear hM hl hfull
              have c7 : wr.cell? ⟨ob, 7, none⟩ = some (.slice adm n4 cqm) := (HM.out.row.cell 7).trans (congrArg some Hm.out)
              go_wp2_with fail
              refine (mid_num1 HM.out (n4 : Nat) (by have := HL.out; omega)).mono ?_
              rintro e w9 ⟨x9, rfl, hM⟩
              clear HM HL
              have HP : Hid (Mid w w9 ob V o x9 (part4 o)) := by have e1 := HN4.out; rw [e1] at hM; exact hM
              clear hM
              have c7 : w9.cell? ⟨ob, 7, none⟩ = some (.slice adm n4 cqm) := (HP.out.row.cell 7).trans (congrArg some Hm.out)
              have HQ : Hid (Mid w w9 ob V o x9 (part4 o ++ (o.cmds.take 0).flatMap cmdB)) := by show Mid _ _ _ _ _ _ _; simpa using HP.out
              clear HP
              go_wp2_with fail
              go_loopw [3, 7] (fun out i wr => ∃ m : Nat, m ≤ n4 ∧ i = .int .i64 (m : Nat) ∧ Mid w wr ob V o out (part4 o ++ (o.cmds.take m).flatMap cmdB)) (fun _ i _ => n4 - (intOf i).toNat)
              case atStart => exact ⟨0, Nat.zero_le _, rfl, HQ.out⟩
              case round =>
                clear HQ
                obtain ⟨m, hm, rfl, hM⟩ := hrel
                have c7 : wr.cell? ⟨ob, 7, none⟩ = some (.slice adm n4 cqm) := (hM.row.cell 7).trans (congrArg some Hm.out)
                have HM := Lib.hid hM
                clear hM
                have HL : Hid ((part4 o ++ (o.cmds.take m).flatMap cmdB).length ≤ 400000) := by show _ ≤ _; have a := part4_len HF.out; have b := flat_take cmdB 258 300 cmdB_len o.cmds HF.out.cmds m; rw [List.length_append]; omega
                by_cases hlt : m < n4
                · as_aux_lemma =>
                    obtain ⟨x, hx⟩ : ∃ x, o.cmds[m]? = some x := ⟨_, List.getElem?_eq_getElem (by have := HN4.out; omega)⟩
                    obtain ⟨y1, y2⟩ := x
                    obtain ⟨b, off, cap, e0, hb, g0, g1⟩ := HO.out.cmds.cell2 hx rfl
                    rw [← HN4.out] at e0
                    have e1 := Hm.out.symm.trans e0
                    cases e1
                    have HB := Lib.hid hb
                    have G0 := Lib.hid g0
                    have G1 := Lib.hid g1
                    have HX := Lib.hid hx
                    have i1 : (m : Int) < (n4 : Int) := by omega
                    have i2 : (0 : Int) ≤ (m : Int) := by omega
                    clear e0 hb hx g0 g1
                    have d0 := (HM.out.below.cell (p := ⟨b, off + m * 2, none⟩) HB.out).trans G0.out
                    have d1 := (HM.out.below.cell (p := ⟨b, off + m * 2 + 1, none⟩) HB.out).trans G1.out
                    go_wp2_with fail
                    refine wp_region_held_drew (S := fun w' => (w'.cell? ⟨ob, 7, none⟩ = some (.slice (some ⟨b, off, none⟩) n4 cqm) ∧ w'.cell? ⟨b, off + m * 2, none⟩ = some (.string y1)) ∧ w'.cell? ⟨b, off + m * 2 + 1, none⟩ = some (.int .i64 y2)) (by kernel_rfl) ?_ (fun hHeld => ?_)
                    · exact ⟨⟨c7, d0⟩, d1⟩
                    refine wpAnyH_take (i := 0) (v := ?_) rfl (by kernel_rfl) (by kernel_rfl) (by kernel_rfl) (fun _ _ _ h => h) (Or.inl ⟨by rfl, ?_⟩) (by assumption) ?_
                    rotate_left
                    · intro w hSw
                      (try dsimp only at hSw)
                      go_simp
                      (try with_reducible rfl)
                    try simp only [Act.put, List.getElem_toArray, List.getElem_cons_zero, List.setIfInBounds_toArray, List.set_cons_zero, List.set_cons_succ]
                    refine wpAnyH_take (i := 1) (v := ?_) rfl (by kernel_rfl) (by kernel_rfl) (by kernel_rfl) (fun _ _ _ h => h) (Or.inl ⟨by rfl, ?_⟩) (by assumption) ?_
                    rotate_left
                    · intro w hSw
                      (try dsimp only at hSw)
                      go_simp
                      (try with_reducible rfl)
                    try simp only [Act.put, List.getElem_toArray, List.getElem_cons_zero, List.getElem_cons_succ, List.setIfInBounds_toArray, List.set_cons_zero, List.set_cons_succ]
                    refine wpAnyH_take (i := 2) (v := ?_) rfl (by kernel_rfl) (by kernel_rfl) (by kernel_rfl) (fun _ _ _ h => h) (Or.inl ⟨by rfl, ?_⟩) (by assumption) ?_
                    rotate_left
                    · intro w hSw
                      (try dsimp only at hSw)
                      go_simp
                      (try with_reducible rfl)
                    try simp only [Act.put, List.getElem_toArray, List.getElem_cons_zero, List.getElem_cons_succ, List.setIfInBounds_toArray, List.set_cons_zero, List.set_cons_succ]
                    refine wpAnyH_take (i := 3) (v := ?_) rfl (by kernel_rfl) (by kernel_rfl) (by kernel_rfl) (fun _ _ _ h => h) (Or.inl ⟨by rfl, ?_⟩) (by assumption) ?_
                    rotate_left
                    · intro w hSw
                      (try dsimp only at hSw)
                      go_simp
                      (try with_reducible rfl)
                    try simp only [Act.put, List.getElem_toArray, List.getElem_cons_zero, List.getElem_cons_succ, List.setIfInBounds_toArray, List.set_cons_zero, List.set_cons_succ]
                    refine wpAnyH_take (i := 4) (v := ?_) rfl (by kernel_rfl) (by kernel_rfl) (by kernel_rfl) (fun _ _ _ h => h) (Or.inl ⟨by rfl, ?_⟩) (by assumption) ?_
                    rotate_left
                    · intro w hSw
                      (try dsimp only at hSw)
                      go_simp
                      (try with_reducible rfl)
                    try simp only [Act.put, List.getElem_toArray, List.getElem_cons_zero, List.getElem_cons_succ, List.setIfInBounds_toArray, List.set_cons_zero, List.set_cons_succ]
                    refine wpAnyH_take (i := 5) (v := ?_) rfl (by kernel_rfl) (by kernel_rfl) (by kernel_rfl) (fun _ _ _ h => h) (Or.inl ⟨by rfl, ?_⟩) (by assumption) ?_
                    rotate_left
                    · intro w hSw
                      (try dsimp only at hSw)
                      go_simp
                      (try with_reducible rfl)
                    try simp only [Act.put, List.getElem_toArray, List.getElem_cons_zero, List.getElem_cons_succ, List.setIfInBounds_toArray, List.set_cons_zero, List.set_cons_succ]
                    refine wpAnyH_take (i := 6) (v := ?_) rfl (by kernel_rfl) (by kernel_rfl) (by kernel_rfl) (fun _ _ _ h => h) (Or.inl ⟨by rfl, ?_⟩) (by assumption) ?_
                    rotate_left
                    · intro w hSw
                      (try dsimp only at hSw)
                      go_simp
                      (try with_reducible rfl)
                    try simp only [Act.put, List.getElem_toArray, List.getElem_cons_zero, List.getElem_cons_succ, List.setIfInBounds_toArray, List.set_cons_zero, List.set_cons_succ]
                    refine wpAnyH_take (i := 8) (v := ?_) rfl (by kernel_rfl) (by kernel_rfl) (by kernel_rfl) (fun _ _ _ h => h) (Or.inl ⟨by rfl, ?_⟩) (by assumption) ?_
                    rotate_left
                    · intro w hSw
                      (try dsimp only at hSw)
                      go_simp
                      (try with_reducible rfl)
                    try simp only [Act.put, List.getElem_toArray, List.getElem_cons_zero, List.getElem_cons_succ, List.setIfInBounds_toArray, List.set_cons_zero, List.set_cons_succ]
                    refine wpAnyH_take (i := 9) (v := ?_) rfl (by kernel_rfl) (by kernel_rfl) (by kernel_rfl) (fun _ _ _ h => h) (Or.inl ⟨by rfl, ?_⟩) (by assumption) ?_
                    rotate_left
                    · intro w hSw
                      (try dsimp only at hSw)
                      go_simp
                      (try with_reducible rfl)
                    try simp only [Act.put, List.getElem_toArray, List.getElem_cons_zero, List.getElem_cons_succ, List.setIfInBounds_toArray, List.set_cons_zero, List.set_cons_succ]
                    refine wpAnyH_take (i := 10) (v := ?_) rfl (by kernel_rfl) (by kernel_rfl) (by kernel_rfl) (fun _ _ _ h => h) (Or.inl ⟨by rfl, ?_⟩) (by assumption) ?_
                    rotate_left
                    · intro w hSw
                      (try dsimp only at hSw)
                      go_simp
                      (try with_reducible rfl)
                    try simp only [Act.put, List.getElem_toArray, List.getElem_cons_zero, List.getElem_cons_succ, List.setIfInBounds_toArray, List.set_cons_zero, List.set_cons_succ]
                    refine wpAnyH_take (i := 11) (v := ?_) rfl (by kernel_rfl) (by kernel_rfl) (by kernel_rfl) (fun _ _ _ h => h) (Or.inl ⟨by rfl, ?_⟩) (by assumption) ?_
                    rotate_left
                    · intro w hSw
                      (try dsimp only at hSw)
                      go_simp
                      (try with_reducible rfl)
                    try simp only [Act.put, List.getElem_toArray, List.getElem_cons_zero, List.getElem_cons_succ, List.setIfInBounds_toArray, List.set_cons_zero, List.set_cons_succ]
                    refine wpAnyH_take (i := 12) (v := ?_) rfl (by kernel_rfl) (by kernel_rfl) (by kernel_rfl) (fun _ _ _ h => h) (Or.inl ⟨by rfl, ?_⟩) (by assumption) ?_
                    rotate_left
                    · intro w hSw
                      (try dsimp only at hSw)
                      go_simp
                      (try with_reducible rfl)
                    try simp only [Act.put, List.getElem_toArray, List.getElem_cons_zero, List.getElem_cons_succ, List.setIfInBounds_toArray, List.set_cons_zero, List.set_cons_succ]
                    refine wpAnyH_take (i := 13) (v := ?_) rfl (by kernel_rfl) (by kernel_rfl) (by kernel_rfl) (fun _ _ _ h => h) (Or.inl ⟨by rfl, ?_⟩) (by assumption) ?_
                    rotate_left
                    · intro w hSw
                      (try dsimp only at hSw)
                      go_simp
                      (try with_reducible rfl)
                    try simp only [Act.put, List.getElem_toArray, List.getElem_cons_zero, List.getElem_cons_succ, List.setIfInBounds_toArray, List.set_cons_zero, List.set_cons_succ]
                    refine wpAnyH_ready (rs := [7]) (by kernel_rfl) (by simp) ?_
                    refine AllReadyH.cons rfl (fun K hK => ?_) AllReadyH.nil
                    go_simp
                    refine (mid_text HM.out.drew y1 (by have := HL.out; omega)).mono ?_
                    rintro e w5 ⟨z5, rfl, h5⟩
                    first | show K _ _ | go_wp2_with fail
                    refine hK.out _ _ ?_ (fun hHeld1 => ?_)
                    · exact ⟨⟨(h5.row.cell 7).trans (congrArg some Hm.out), (h5.below.cell (p := ⟨b, off + m * 2, none⟩) HB.out).trans G0.out⟩, (h5.below.cell (p := ⟨b, off + m * 2 + 1, none⟩) HB.out).trans G1.out⟩
                    clear hK K
                    try simp only [Act.put, List.getElem_toArray, List.getElem_cons_zero, List.getElem_cons_succ, List.setIfInBounds_toArray, List.set_cons_zero, List.set_cons_succ]
                    refine wpAnyH_ready (rs := [14]) (by kernel_rfl) (by simp) ?_
                    refine AllReadyH.cons rfl (fun K hK => ?_) AllReadyH.nil
                    go_simp
                    refine (mid_num2 h5 y2 (by rw [List.length_append]; have := HL.out; have := textB_len (sb y1); omega)).mono ?_
                    rintro e w6 ⟨z6, rfl, h6⟩
                    first | show K _ _ | go_wp2_with fail
                    refine hK.out _ _ ?_ (fun hHeld2 => ?_)
                    · exact ⟨⟨(h6.row.cell 7).trans (congrArg some Hm.out), (h6.below.cell (p := ⟨b, off + m * 2, none⟩) HB.out).trans G0.out⟩, (h6.below.cell (p := ⟨b, off + m * 2 + 1, none⟩) HB.out).trans G1.out⟩
                    clear hK K
                    try simp only [Act.put, List.getElem_toArray, List.getElem_cons_zero, List.getElem_cons_succ, List.setIfInBounds_toArray, List.set_cons_zero, List.set_cons_succ]
                    refine wpAnyH_take (i := 15) (v := ?_) rfl (by kernel_rfl) (by kernel_rfl) (by kernel_rfl) (fun _ _ _ h => h) (Or.inl ⟨by rfl, ?_⟩) (by assumption) ?_
                    rotate_left
                    · intro w hSw
                      (try dsimp only at hSw)
                      go_simp
                      (try with_reducible rfl)
                    try simp only [Act.put, List.getElem_toArray, List.getElem_cons_zero, List.getElem_cons_succ, List.setIfInBounds_toArray, List.set_cons_zero, List.set_cons_succ]
                    refine wpAnyH_done (by kernel_rfl) ?_ _
                    clear hHeld hHeld1 hHeld2
                    have HE : Hid (Mid w w6 ob V o z6 (part4 o ++ (o.cmds.take (m + 1)).flatMap cmdB)) := by
                      rw [take_next cmdB _ _ m _ HX.out]
                      show Mid _ _ _ _ _ _ _
                      simpa [cmdB, List.append_assoc] using h6
                    clear h5 h6
                    go_wp2_with fail
                    go_roundw
                    case rel => exact ⟨m + 1, by omega, by go_num, HE.out⟩
                    case measure => simp [intOf]; omega
                · have hfull : o.cmds.take m = o.cmds := List.take_of_length_le (by have := HN4.out; omega)
                  have hM := HM.out
                  rw [hfull] at hM
                  have HM := Lib.hid hM
                  have hl := HL.out
                  rw [hfull] at hl
                  have HL := Lib.hid hl
                  have i1 : ¬ (m : Int) < (n4 : Int) := by omega
                  clear hM hl hfull
                  have c8 : wr.cell? ⟨ob, 8, none⟩ = some (.slice ade n5 cqe) := (HM.out.row.cell 8).trans (congrArg some He.out)
                  go_wp2_with fail
                  refine (mid_num1 HM.out (n5 : Nat) (by have := HL.out; omega)).mono ?_
                  rintro e w9 ⟨x9, rfl, hM⟩
                  clear HM HL
                  have HP : Hid (Mid w w9 ob V o x9 (part5 o)) := by have e1 := HN5.out; rw [e1] at hM; exact hM
                  clear hM
                  have c8 : w9.cell? ⟨ob, 8, none⟩ = some (.slice ade n5 cqe) := (HP.out.row.cell 8).trans (congrArg some He.out)
                  have HQ : Hid (Mid w w9 ob V o x9 (part5 o ++ (o.exps.take 0).flatMap expB)) := by show Mid _ _ _ _ _ _ _; simpa using HP.out
                  clear HP
                  go_wp2_with fail
                  go_loopw [3, 8] (fun out i wr => ∃ m : Nat, m ≤ n5 ∧ i = .int .i64 (m : Nat) ∧ Mid w wr ob V o out (part5 o ++ (o.exps.take m).flatMap expB)) (fun _ i _ => n5 - (intOf i).toNat)
                  case atStart => exact ⟨0, Nat.zero_le _, rfl, HQ.out⟩
                  case round =>
                    clear HQ
                    obtain ⟨m, hm, rfl, hM⟩ := hrel
                    have c8 : wr.cell? ⟨ob, 8, none⟩ = some (.slice ade n5 cqe) := (hM.row.cell 8).trans (congrArg some He.out)
                    have HM := Lib.hid hM
                    clear hM
                    have HL : Hid ((part5 o ++ (o.exps.take m).flatMap expB).length ≤ 400000) := by show _ ≤ _; have a := part5_len HF.out; have b := flat_take expB 3 300 expB_len o.exps HF.out.exps m; rw [List.length_append]; omega
                    by_cases hlt : m < n5
                    · as_aux_lemma =>
                        obtain ⟨x, hx⟩ : ∃ x, o.exps[m]? = some x := ⟨_, List.getElem?_eq_getElem (by have := HN5.out; omega)⟩
                        obtain ⟨y1, y2⟩ := x
                        obtain ⟨b, off, cap, e0, hb, g0, g1⟩ := HO.out.exps.cell2 hx rfl
                        rw [← HN5.out] at e0
                        have e1 := He.out.symm.trans e0
                        cases e1
                        have HB := Lib.hid hb
                        have G0 := Lib.hid g0
                        have G1 := Lib.hid g1
                        have HX := Lib.hid hx
                        have i1 : (m : Int) < (n5 : Int) := by omega
                        have i2 : (0 : Int) ≤ (m : Int) := by omega
                        clear e0 hb hx g0 g1
                        have d0 := (HM.out.below.cell (p := ⟨b, off + m * 2, none⟩) HB.out).trans G0.out
                        have d1 := (HM.out.below.cell (p := ⟨b, off + m * 2 + 1, none⟩) HB.out).trans G1.out
                        go_wp2_with fail
                        refine wp_region_held_drew (S := fun w' => (w'.cell? ⟨ob, 8, none⟩ = some (.slice (some ⟨b, off, none⟩) n5 cqe) ∧ w'.cell? ⟨b, off + m * 2, none⟩ = some (.int .i64 y1)) ∧ w'.cell? ⟨b, off + m * 2 + 1, none⟩ = some (.int .i64 y2)) (by kernel_rfl) ?_ (fun hHeld => ?_)
                        · exact ⟨⟨c8, d0⟩, d1⟩
                        refine wpAnyH_take (i := 0) (v := ?_) rfl (by kernel_rfl) (by kernel_rfl) (by kernel_rfl) (fun _ _ _ h => h) (Or.inl ⟨by rfl, ?_⟩) (by assumption) ?_
                        rotate_left
                        · intro w hSw
                          (try dsimp only at hSw)
                          go_simp
                          (try with_reducible rfl)
                        try simp only [Act.put, List.getElem_toArray, List.getElem_cons_zero, List.setIfInBounds_toArray, List.set_cons_zero, List.set_cons_succ]
                        refine wpAnyH_take (i := 1) (v := ?_) rfl (by kernel_rfl) (by kernel_rfl) (by kernel_rfl) (fun _ _ _ h => h) (Or.inl ⟨by rfl, ?_⟩) (by assumption) ?_
                        rotate_left
                        · intro w hSw
                          (try dsimp only at hSw)
                          go_simp
                          (try with_reducible rfl)
                        try simp only [Act.put, List.getElem_toArray, List.getElem_cons_zero, List.getElem_cons_succ, List.setIfInBounds_toArray, List.set_cons_zero, List.set_cons_succ]
                        refine wpAnyH_take (i := 2) (v := ?_) rfl (by kernel_rfl) (by kernel_rfl) (by kernel_rfl) (fun _ _ _ h => h) (Or.inl ⟨by rfl, ?_⟩) (by assumption) ?_
                        rotate_left
                        · intro w hSw
                          (try dsimp only at hSw)
                          go_simp
                          (try with_reducible rfl)
                        try simp only [Act.put, List.getElem_toArray, List.getElem_cons_zero, List.getElem_cons_succ, List.setIfInBounds_toArray, List.set_cons_zero, List.set_cons_succ]
                        refine wpAnyH_take (i := 3) (v := ?_) rfl (by kernel_rfl) (by kernel_rfl) (by kernel_rfl) (fun _ _ _ h => h) (Or.inl ⟨by rfl, ?_⟩) (by assumption) ?_
                        rotate_left
                        · intro w hSw
                          (try dsimp only at hSw)
                          go_simp
                          (try with_reducible rfl)
                        try simp only [Act.put, List.getElem_toArray, List.getElem_cons_zero, List.getElem_cons_succ, List.setIfInBounds_toArray, List.set_cons_zero, List.set_cons_succ]
                        refine wpAnyH_take (i := 4) (v := ?_) rfl (by kernel_rfl) (by kernel_rfl) (by kernel_rfl) (fun _ _ _ h => h) (Or.inl ⟨by rfl, ?_⟩) (by assumption) ?_
                        rotate_left
                        · intro w hSw
                          (try dsimp only at hSw)
                          go_simp
                          (try with_reducible rfl)
                        try simp only [Act.put, List.getElem_toArray, List.getElem_cons_zero, List.getElem_cons_succ, List.setIfInBounds_toArray, List.set_cons_zero, List.set_cons_succ]
                        refine wpAnyH_take (i := 5) (v := ?_) rfl (by kernel_rfl) (by kernel_rfl) (by kernel_rfl) (fun _ _ _ h => h) (Or.inl ⟨by rfl, ?_⟩) (by assumption) ?_
                        rotate_left
                        · intro w hSw
                          (try dsimp only at hSw)
                          go_simp
                          (try with_reducible rfl)
                        try simp only [Act.put, List.getElem_toArray, List.getElem_cons_zero, List.getElem_cons_succ, List.setIfInBounds_toArray, List.set_cons_zero, List.set_cons_succ]
                        refine wpAnyH_take (i := 6) (v := ?_) rfl (by kernel_rfl) (by kernel_rfl) (by kernel_rfl) (fun _ _ _ h => h) (Or.inl ⟨by rfl, ?_⟩) (by assumption) ?_
                        rotate_left
                        · intro w hSw
                          (try dsimp only at hSw)
                          go_simp
                          (try with_reducible rfl)
                        try simp only [Act.put, List.getElem_toArray, List.getElem_cons_zero, List.getElem_cons_succ, List.setIfInBounds_toArray, List.set_cons_zero, List.set_cons_succ]
                        refine wpAnyH_take (i := 8) (v := ?_) rfl (by kernel_rfl) (by kernel_rfl) (by kernel_rfl) (fun _ _ _ h => h) (Or.inl ⟨by rfl, ?_⟩) (by assumption) ?_
                        rotate_left
                        · intro w hSw
                          (try dsimp only at hSw)
                          go_simp
                          (try with_reducible rfl)
                        try simp only [Act.put, List.getElem_toArray, List.getElem_cons_zero, List.getElem_cons_succ, List.setIfInBounds_toArray, List.set_cons_zero, List.set_cons_succ]
                        refine wpAnyH_take (i := 9) (v := ?_) rfl (by kernel_rfl) (by kernel_rfl) (by kernel_rfl) (fun _ _ _ h => h) (Or.inl ⟨by rfl, ?_⟩) (by assumption) ?_
                        rotate_left
                        · intro w hSw
                          (try dsimp only at hSw)
                          go_simp
                          (try with_reducible rfl)
                        try simp only [Act.put, List.getElem_toArray, List.getElem_cons_zero, List.getElem_cons_succ, List.setIfInBounds_toArray, List.set_cons_zero, List.set_cons_succ]
                        refine wpAnyH_take (i := 10) (v := ?_) rfl (by kernel_rfl) (by kernel_rfl) (by kernel_rfl) (fun _ _ _ h => h) (Or.inl ⟨by rfl, ?_⟩) (by assumption) ?_
                        rotate_left
                        · intro w hSw
                          (try dsimp only at hSw)
                          go_simp
                          (try with_reducible rfl)
                        try simp only [Act.put, List.getElem_toArray, List.getElem_cons_zero, List.getElem_cons_succ, List.setIfInBounds_toArray, List.set_cons_zero, List.set_cons_succ]
                        refine wpAnyH_take (i := 11) (v := ?_) rfl (by kernel_rfl) (by kernel_rfl) (by kernel_rfl) (fun _ _ _ h => h) (Or.inl ⟨by rfl, ?_⟩) (by assumption) ?_
                        rotate_left
                        · intro w hSw
                          (try dsimp only at hSw)
                          go_simp
                          (try with_reducible rfl)
                        try simp only [Act.put, List.getElem_toArray, List.getElem_cons_zero, List.getElem_cons_succ, List.setIfInBounds_toArray, List.set_cons_zero, List.set_cons_succ]
                        refine wpAnyH_take (i := 12) (v := ?_) rfl (by kernel_rfl) (by kernel_rfl) (by kernel_rfl) (fun _ _ _ h => h) (Or.inl ⟨by rfl, ?_⟩) (by assumption) ?_
                        rotate_left
                        · intro w hSw
                          (try dsimp only at hSw)
                          go_simp
                          (try with_reducible rfl)
                        try simp only [Act.put, List.getElem_toArray, List.getElem_cons_zero, List.getElem_cons_succ, List.setIfInBounds_toArray, List.set_cons_zero, List.set_cons_succ]
                        refine wpAnyH_take (i := 13) (v := ?_) rfl (by kernel_rfl) (by kernel_rfl) (by kernel_rfl) (fun _ _ _ h => h) (Or.inl ⟨by rfl, ?_⟩) (by assumption) ?_
                        rotate_left
                        · intro w hSw
                          (try dsimp only at hSw)
                          go_simp
                          (try with_reducible rfl)
                        try simp only [Act.put, List.getElem_toArray, List.getElem_cons_zero, List.getElem_cons_succ, List.setIfInBounds_toArray, List.set_cons_zero, List.set_cons_succ]
                        refine wpAnyH_ready (rs := [7]) (by kernel_rfl) (by simp) ?_
                        refine AllReadyH.cons rfl (fun K hK => ?_) AllReadyH.nil
                        go_simp
                        refine (mid_num1 HM.out.drew y1 (by have := HL.out; omega)).mono ?_
                        rintro e w5 ⟨z5, rfl, h5⟩
                        first | show K _ _ | go_wp2_with fail
                        refine hK.out _ _ ?_ (fun hHeld1 => ?_)
                        · exact ⟨⟨(h5.row.cell 8).trans (congrArg some He.out), (h5.below.cell (p := ⟨b, off + m * 2, none⟩) HB.out).trans G0.out⟩, (h5.below.cell (p := ⟨b, off + m * 2 + 1, none⟩) HB.out).trans G1.out⟩
                        clear hK K
                        try simp only [Act.put, List.getElem_toArray, List.getElem_cons_zero, List.getElem_cons_succ, List.setIfInBounds_toArray, List.set_cons_zero, List.set_cons_succ]
                        refine wpAnyH_ready (rs := [14]) (by kernel_rfl) (by simp) ?_
                        refine AllReadyH.cons rfl (fun K hK => ?_) AllReadyH.nil
                        go_simp
                        refine (mid_num2 h5 y2 (by rw [List.length_append, numZ_len]; have := HL.out; omega)).mono ?_
                        rintro e w6 ⟨z6, rfl, h6⟩
                        first | show K _ _ | go_wp2_with fail
                        refine hK.out _ _ ?_ (fun hHeld2 => ?_)
                        · exact ⟨⟨(h6.row.cell 8).trans (congrArg some He.out), (h6.below.cell (p := ⟨b, off + m * 2, none⟩) HB.out).trans G0.out⟩, (h6.below.cell (p := ⟨b, off + m * 2 + 1, none⟩) HB.out).trans G1.out⟩
                        clear hK K
                        try simp only [Act.put, List.getElem_toArray, List.getElem_cons_zero, List.getElem_cons_succ, List.setIfInBounds_toArray, List.set_cons_zero, List.set_cons_succ]
                        refine wpAnyH_take (i := 15) (v := ?_) rfl (by kernel_rfl) (by kernel_rfl) (by kernel_rfl) (fun _ _ _ h => h) (Or.inl ⟨by rfl, ?_⟩) (by assumption) ?_
                        rotate_left
                        · intro w hSw
                          (try dsimp only at hSw)
                          go_simp
                          (try with_reducible rfl)
                        try simp only [Act.put, List.getElem_toArray, List.getElem_cons_zero, List.getElem_cons_succ, List.setIfInBounds_toArray, List.set_cons_zero, List.set_cons_succ]
                        refine wpAnyH_done (by kernel_rfl) ?_ _
                        clear hHeld hHeld1 hHeld2
                        have HE : Hid (Mid w w6 ob V o z6 (part5 o ++ (o.exps.take (m + 1)).flatMap expB)) := by
                          rw [take_next expB _ _ m _ HX.out]
                          show Mid _ _ _ _ _ _ _
                          simpa [expB, List.append_assoc] using h6
                        clear h5 h6
                        go_wp2_with fail
                        go_roundw
                        case rel => exact ⟨m + 1, by omega, by go_num, HE.out⟩
                        case measure => simp [intOf]; omega
                    · have hfull : o.exps.take m = o.exps := List.take_of_length_le (by have := HN5.out; omega)
                      have hM := HM.out
                      rw [hfull] at hM
                      have HM := Lib.hid hM
                      have hl := HL.out
                      rw [hfull] at hl
                      have HL := Lib.hid hl
                      have i1 : ¬ (m : Int) < (n5 : Int) := by omega
                      clear hM hl hfull
                      have c9 : wr.cell? ⟨ob, 9, none⟩ = some (.slice adp n6 cqp) := (HM.out.row.cell 9).trans (congrArg some Hp.out)
                      go_wp2_with fail
                      refine (mid_num1 HM.out (n6 : Nat) (by have := HL.out; omega)).mono ?_
                      rintro e w9 ⟨x9, rfl, hM⟩
                      clear HM HL
                      have HP : Hid (Mid w w9 ob V o x9 (part6 o)) := by have e1 := HN6.out; rw [e1] at hM; exact hM
                      clear hM
                      have c9 : w9.cell? ⟨ob, 9, none⟩ = some (.slice adp n6 cqp) := (HP.out.row.cell 9).trans (congrArg some Hp.out)
                      have HQ : Hid (Mid w w9 ob V o x9 (part6 o ++ (o.ptrs.take 0).flatMap (numZ · 1))) := by show Mid _ _ _ _ _ _ _; simpa using HP.out
                      clear HP
                      go_wp2_with fail
                      go_loopw [3, 9] (fun out i wr => ∃ m : Nat, m ≤ n6 ∧ i = .int .i64 (m : Nat) ∧ Mid w wr ob V o out (part6 o ++ (o.ptrs.take m).flatMap (numZ · 1))) (fun _ i _ => n6 - (intOf i).toNat)
                      case atStart => exact ⟨0, Nat.zero_le _, rfl, HQ.out⟩
                      case round =>
                        clear HQ
                        obtain ⟨m, hm, rfl, hM⟩ := hrel
                        have c9 : wr.cell? ⟨ob, 9, none⟩ = some (.slice adp n6 cqp) := (hM.row.cell 9).trans (congrArg some Hp.out)
                        have HM := Lib.hid hM
                        clear hM
                        have HL : Hid ((part6 o ++ (o.ptrs.take m).flatMap (numZ · 1)).length ≤ 400000) := by show _ ≤ _; have a := part6_len HF.out; have b := flat_take (numZ · 1) 1 300 (fun x => Nat.le_of_eq (numZ_len x 1)) o.ptrs HF.out.ptrs m; rw [List.length_append]; omega
                        by_cases hlt : m < n6
                        · as_aux_lemma =>
                            obtain ⟨x, hx⟩ : ∃ x, o.ptrs[m]? = some x := ⟨_, List.getElem?_eq_getElem (by have := HN6.out; omega)⟩
                            obtain ⟨y1, hy1⟩ : ∃ y1, y1 = x := ⟨_, rfl⟩
                            subst hy1
                            obtain ⟨b, off, cap, e0, hb, g0⟩ := HO.out.ptrs.cell1 hx rfl
                            rw [← HN6.out] at e0
                            have e1 := Hp.out.symm.trans e0
                            cases e1
                            have HB := Lib.hid hb
                            have G0 := Lib.hid g0
                            have HX := Lib.hid hx
                            have i1 : (m : Int) < (n6 : Int) := by omega
                            have i2 : (0 : Int) ≤ (m : Int) := by omega
                            clear e0 hb hx g0
                            have d0 := (HM.out.below.cell (p := ⟨b, off + m, none⟩) HB.out).trans G0.out
                            go_wp2_with fail
                            refine (mid_num1 HM.out y1 (by have := HL.out; omega)).mono ?_
                            rintro e v0 ⟨z0, rfl, h0⟩
                            have HE : Hid (Mid w v0 ob V o z0 (part6 o ++ (o.ptrs.take (m + 1)).flatMap (numZ · 1))) := by
                              rw [take_next (numZ · 1) _ _ m _ HX.out]
                              show Mid _ _ _ _ _ _ _
                              simpa [List.append_assoc] using h0
                            clear h0
                            go_wp2_with fail
                            go_roundw
                            case rel => exact ⟨m + 1, by omega, by go_num, HE.out⟩
                            case measure => simp [intOf]; omega
                        · have hfull : o.ptrs.take m = o.ptrs := List.take_of_length_le (by have := HN6.out; omega)
                          have hM := HM.out
                          rw [hfull] at hM
                          have HM := Lib.hid hM
                          have hl := HL.out
                          rw [hfull] at hl
                          have HL := Lib.hid hl
                          have i1 : ¬ (m : Int) < (n6 : Int) := by omega
                          clear hM hl hfull
                          have c10 : wr.cell? ⟨ob, 10, none⟩ = some (.slice adq n7 cqq) := (HM.out.row.cell 10).trans (congrArg some Hq.out)
                          go_wp2_with fail
                          refine (mid_num1 HM.out (n7 : Nat) (by have := HL.out; omega)).mono ?_
                          rintro e w9 ⟨x9, rfl, hM⟩
                          clear HM HL
                          have HP : Hid (Mid w w9 ob V o x9 (part7 o)) := by have e1 := HN7.out; rw [e1] at hM; exact hM
                          clear hM
                          have c10 : w9.cell? ⟨ob, 10, none⟩ = some (.slice adq n7 cqq) := (HP.out.row.cell 10).trans (congrArg some Hq.out)
                          have HQ : Hid (Mid w w9 ob V o x9 (part7 o ++ (o.procs.take 0).flatMap (numZ · 1))) := by show Mid _ _ _ _ _ _ _; simpa using HP.out
                          clear HP
                          go_wp2_with fail
                          go_loopw [3, 10] (fun out i wr => ∃ m : Nat, m ≤ n7 ∧ i = .int .i64 (m : Nat) ∧ Mid w wr ob V o out (part7 o ++ (o.procs.take m).flatMap (numZ · 1))) (fun _ i _ => n7 - (intOf i).toNat)
                          case atStart => exact ⟨0, Nat.zero_le _, rfl, HQ.out⟩
                          case round =>
                            clear HQ
                            obtain ⟨m, hm, rfl, hM⟩ := hrel
                            have c10 : wr.cell? ⟨ob, 10, none⟩ = some (.slice adq n7 cqq) := (hM.row.cell 10).trans (congrArg some Hq.out)
                            have HM := Lib.hid hM
                            clear hM
                            have HL : Hid ((part7 o ++ (o.procs.take m).flatMap (numZ · 1)).length ≤ 400000) := by show _ ≤ _; have a := part7_len HF.out; have b := flat_take (numZ · 1) 1 300 (fun x => Nat.le_of_eq (numZ_len x 1)) o.procs HF.out.procs m; rw [List.length_append]; omega
                            by_cases hlt : m < n7
                            · as_aux_lemma =>
                                obtain ⟨x, hx⟩ : ∃ x, o.procs[m]? = some x := ⟨_, List.getElem?_eq_getElem (by have := HN7.out; omega)⟩
                                obtain ⟨y1, hy1⟩ : ∃ y1, y1 = x := ⟨_, rfl⟩
                                subst hy1
                                obtain ⟨b, off, cap, e0, hb, g0⟩ := HO.out.procs.cell1 hx rfl
                                rw [← HN7.out] at e0
                                have e1 := Hq.out.symm.trans e0
                                cases e1
                                have HB := Lib.hid hb
                                have G0 := Lib.hid g0
                                have HX := Lib.hid hx
                                have i1 : (m : Int) < (n7 : Int) := by omega
                                have i2 : (0 : Int) ≤ (m : Int) := by omega
                                clear e0 hb hx g0
                                have d0 := (HM.out.below.cell (p := ⟨b, off + m, none⟩) HB.out).trans G0.out
                                go_wp2_with fail
                                refine (mid_num1 HM.out y1 (by have := HL.out; omega)).mono ?_
                                rintro e v0 ⟨z0, rfl, h0⟩
                                have HE : Hid (Mid w v0 ob V o z0 (part7 o ++ (o.procs.take (m + 1)).flatMap (numZ · 1))) := by
                                  rw [take_next (numZ · 1) _ _ m _ HX.out]
                                  show Mid _ _ _ _ _ _ _
                                  simpa [List.append_assoc] using h0
                                clear h0
                                go_wp2_with fail
                                go_roundw
                                case rel => exact ⟨m + 1, by omega, by go_num, HE.out⟩
                                case measure => simp [intOf]; omega
                            · have hfull : o.procs.take m = o.procs := List.take_of_length_le (by have := HN7.out; omega)
                              have hM := HM.out
                              rw [hfull] at hM
                              have HM := Lib.hid hM
                              have hl := HL.out
                              rw [hfull] at hl
                              have HL := Lib.hid hl
                              have i1 : ¬ (m : Int) < (n7 : Int) := by omega
                              clear hM hl hfull
                              have hl8 : (part7 o ++ o.procs.flatMap (numZ · 1)).length ≤ 168000 := by have a := part7_len HF.out; have b := flat_len (numZ · 1) 1 (fun x => Nat.le_of_eq (numZ_len x 1)) o.procs; have c := HF.out.procs; rw [List.length_append]; omega
                              have HL8 := Lib.hid hl8
                              have HQ : Hid (Mid w wr ob V o _ ((part7 o ++ o.procs.flatMap (numZ · 1)) ++ ([o.f0, o.f1, o.f2].take 0).flatMap (numZ · 2))) := Lib.hid (by have := HM.out; rw [← List.append_nil (part7 o ++ _)] at this; exact this)
                              clear HM HL hl8
                              go_wp2_with fail
                              go_loopw [3, 11] (fun out i wr => ∃ m : Nat, m ≤ 3 ∧ i = .int .i64 (m : Nat) ∧ Mid w wr ob V o out ((part7 o ++ o.procs.flatMap (numZ · 1)) ++ ([o.f0, o.f1, o.f2].take m).flatMap (numZ · 2))) (fun _ i _ => 3 - (intOf i).toNat)
                              case atStart => exact ⟨0, by omega, rfl, HQ.out⟩
                              case round =>
                                clear HQ
                                obtain ⟨m, hm, rfl, hM⟩ := hrel
                                have HM := Lib.hid hM
                                clear hM
                                have HL : Hid (((part7 o ++ o.procs.flatMap (numZ · 1)) ++ ([o.f0, o.f1, o.f2].take m).flatMap (numZ · 2)).length ≤ 400000) := by show _ ≤ _; have a := HL8.out; have b := flat_len (numZ · 2) 2 (fun x => Nat.le_of_eq (numZ_len x 2)) ([o.f0, o.f1, o.f2].take m); have c : ([o.f0, o.f1, o.f2].take m).length ≤ 3 := (by rw [List.length_take]; exact Nat.min_le_right _ _); rw [List.length_append]; omega
                                by_cases hlt : m < 3
                                · as_aux_lemma =>
                                    obtain ⟨y, hy, hc⟩ := fix_cell V o m hlt
                                    have d0 : wr.cell? ⟨ob, 11 + m, none⟩ = some (.int .i64 y) := (HM.out.row.cell (11 + m)).trans hc
                                    have HX := Lib.hid hy
                                    have i1 : (m : Int) < 3 := by omega
                                    have i2 : (0 : Int) ≤ (m : Int) := by omega
                                    clear hc hy
                                    go_wp2_with fail
                                    refine (mid_num2 HM.out y (by have := HL.out; omega)).mono ?_
                                    rintro e v0 ⟨z0, rfl, h0⟩
                                    have HE : Hid (Mid w v0 ob V o z0 ((part7 o ++ o.procs.flatMap (numZ · 1)) ++ ([o.f0, o.f1, o.f2].take (m + 1)).flatMap (numZ · 2))) := by
                                      rw [take_next (numZ · 2) _ _ m _ HX.out]
                                      exact h0
                                    clear h0 d0
                                    go_wp2_with fail
                                    go_roundw
                                    case rel => exact ⟨m + 1, by omega, by go_num, HE.out⟩
                                    case measure => simp [intOf]; omega
                                · obtain rfl : m = 3 := by omega
                                  have c14 : wr.cell? ⟨ob, 14, none⟩ = some (.int .i64 o.body) := HM.out.row.cell 14
                                  have i1 : ¬ ((3 : Nat) : Int) < 3 := by omega
                                  go_wp2_with fail
                                  refine (mid_num2 HM.out o.body (by have := HL.out; omega)).mono ?_
                                  rintro e v0 ⟨z0, rfl, h0⟩
                                  have RES : Hid (Bs v0 z0 (bytesO o) ∧ (∀ j, own z0 j → w.heap.size ≤ j) ∧ Below w.heap.size w v0) := ⟨h0.bs, fun j hj => (h0.fresh j hj).1, h0.below⟩
                                  clear h0 HM HL
                                  go_wp2_with fail
                                  go_ret
                                  exact ⟨_, rfl, RES.out⟩
end Go.Proofs.Ythgnklgejlebhaa
