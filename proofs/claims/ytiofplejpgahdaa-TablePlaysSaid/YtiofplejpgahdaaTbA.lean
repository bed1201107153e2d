/-
  Layer 18's modules in memory; slices.Clone at four kinds of elements. No conditions beyond those that each theorem names. (Written by wip/tools/tb-a.py.)
-/
import Derived.Test.YtiofplejpgahdaaTbM
import Derived.Test.YtiofplejpgahdaaObjK
import Derived.Test.YtiofplejpgahdaaDeA
namespace Go.Proofs.Ytiofplejpgahdaa
open Go.ChangeShapes Go.WideShapes Go.ChangeAt Go.RowKit

abbrev MdT : TypeId := 41
abbrev XpT : TypeId := 50
abbrev TbT : TypeId := 57
/- an export, with its line's value and what that holds -/
structure ExX where
  k : Int
  a : Int
  v : Value
  l : List Int
def exRow (x : ExX) : List Value := [.int .i64 x.k, .int .i64 x.a, x.v]
def ExX.d (x : ExX) : Int × Int × List Int := (x.k, x.a, x.l)
theorem exRow_len (x : ExX) : (exRow x).length = 3 := rfl
theorem cmdRow_len (x : ByteArray × Int) : (cmdRow x).length = 2 := rfl
structure ModD where
  name : ByteArray
  key : Nat
  base : Int
  size : Int
  z0 : Int
  z1 : Int
  z2 : Int
  z3 : Int
  ptrs : List Int
  procs : List Int
  imps : List ByteArray
  exps : List (Int × Int × List Int)
  cmds : List (ByteArray × Int)
structure ModX where
  d : ModD
  p : Value
  q : Value
  i : Value
  e : Value
  c : Value
  xs : List ExX
def mcells (d : ModD) (p q i e c : Value) : List Value :=
  [.string d.name, .int .u32 (d.key : Nat), .int .i64 d.base, .int .i64 d.size, .int .i64 d.z0, .int .i64 d.z1, .int .i64 d.z2, .int .i64 d.z3, p, q, i, e, c]
def mrow (x : ModX) : List Value := mcells x.d x.p x.q x.i x.e x.c
theorem mrow_len (x : ModX) : (mrow x).length = 13 := rfl
def noMod : ModD := ⟨⟨#[]⟩, 0, 0, 0, 0, 0, 0, 0, [], [], [], [], []⟩
abbrev nilS : Value := .slice none 0 0
def noRow : List Value := mcells noMod nilS nilS nilS nilS nilS
set_option maxRecDepth 100000 in
theorem info_md : (Try.prog.info? MdT).map (fun i => (i.zero, i.size, i.bytes)) = some (some (.agg noRow.toArray), 13, 192) := by kernel_rfl
set_option maxRecDepth 100000 in
theorem size_md : (Try.prog.info? MdT).map (·.size) = some 13 := by kernel_rfl
theorem info_cm : (Try.prog.info? CmT).map (fun i => (i.zero, i.size, i.bytes)) = some (some (.agg #[.string ⟨#[]⟩, .int .i64 0]), 2, 24) := by kernel_rfl
theorem info_xp : (Try.prog.info? XpT).map (fun i => (i.zero, i.size, i.bytes)) = some (some (.agg #[.int .i64 0, .int .i64 0, .slice none 0 0]), 3, 40) := by kernel_rfl
theorem size_xp : (Try.prog.info? XpT).map (·.size) = some 3 := by kernel_rfl
/- a slice's value is one cell -/
theorem ElsAt.one {α : Type} {k : Nat} {row : α → List Value} {w : World} {v : Value} {L : List α} (h : ElsAt k row w v L) : v.oneCell' = true := by
  obtain ⟨a, c, rfl, _⟩ := h.shape
  rfl
theorem ones_ex {x : ExX} (h : x.v.oneCell' = true) : Ones (exRow x) := by
  intro u hu
  simp only [exRow, List.mem_cons, List.not_mem_nil, or_false] at hu
  rcases hu with rfl | rfl | rfl
  · rfl
  · rfl
  · exact h

/- a module that can be read -/
structure ModAt (w : World) (x : ModX) : Prop where
  p : ElsAt 1 intRow w x.p x.d.ptrs
  q : ElsAt 1 intRow w x.q x.d.procs
  i : ElsAt 1 sRow w x.i x.d.imps
  e : ElsAt 3 exRow w x.e x.xs
  l : ∀ y ∈ x.xs, ElsAt 1 intRow w y.v y.l
  c : ElsAt 2 cmdRow w x.c x.d.cmds
  same : x.xs.map ExX.d = x.d.exps
structure ModFew (x : ModX) : Prop where
  p : x.d.ptrs.length ≤ 1000
  q : x.d.procs.length ≤ 1000
  i : x.d.imps.length ≤ 1000
  e : x.xs.length ≤ 1000
  l : ∀ y ∈ x.xs, y.l.length ≤ 1000
  c : x.d.cmds.length ≤ 1000
theorem ModAt.on {w w' : World} {x : ModX} (h : ModAt w x) (hb : Below w.heap.size w w') : ModAt w' x :=
  ⟨h.p.on hb, h.q.on hb, h.i.on hb, h.e.on hb, fun y hy => (h.l y hy).on hb, h.c.on hb, h.same⟩
theorem ones_md {d : ModD} {p q i e c : Value} (hp : p.oneCell' = true) (hq : q.oneCell' = true) (hi : i.oneCell' = true) (he : e.oneCell' = true) (hc : c.oneCell' = true) : Ones (mcells d p q i e c) := by
  intro u hu
  simp only [mcells, List.mem_cons, List.not_mem_nil, or_false] at hu
  rcases hu with rfl | rfl | rfl | rfl | rfl | rfl | rfl | rfl | rfl | rfl | rfl | rfl | rfl <;> first | rfl | assumption
theorem ModAt.ones {w : World} {x : ModX} (h : ModAt w x) : Ones (mrow x) := ones_md h.p.one h.q.one h.i.one h.e.one h.c.one

/- a slice of a block of its own, from lo on -/
structure In {α : Type} (lo : Nat) (t : TypeId) (k : Nat) (row : α → List Value) (w : World) (v : Value) (L : List α) : Prop where
  row : SRow t k w v L.length (rows row L)
  low : ∀ j, own v j → lo ≤ j
theorem In.keep {α : Type} {S : Nat → Prop} {lo : Nat} {t : TypeId} {k : Nat} {row : α → List Value} {w w' : World} {v : Value} {L : List α} (h : In lo t k row w v L) (kp : Kept S w w') (hS : ∀ j, own v j → ¬ S j) : In lo t k row w' v L := ⟨h.row.keep kp hS, h.low⟩
theorem In.on {α : Type} {lo : Nat} {t : TypeId} {k : Nat} {row : α → List Value} {w w' : World} {v : Value} {L : List α} (h : In lo t k row w v L) (hb : Below w.heap.size w w') : In lo t k row w' v L := h.keep (Kept.of_below (S := fun _ => False) hb) fun _ _ e => e
theorem In.nil {α : Type} (lo : Nat) (t : TypeId) (k : Nat) (row : α → List Value) (w : World) : In lo t k row w nilS ([] : List α) := ⟨SRow.nil _ _ _, fun _ h => h.elim⟩
theorem In.one {α : Type} {lo : Nat} {t : TypeId} {k : Nat} {row : α → List Value} {w : World} {v : Value} {L : List α} (h : In lo t k row w v L) : v.oneCell' = true := by
  obtain ⟨a, c, rfl, _⟩ := h.row.shape
  rfl
/- a row of another type is another block's -/
theorem SRow.off {t t' : TypeId} {k : Nat} {w : World} {v : Value} {n : Nat} {cs ds : List Value} {b : Nat} (h : SRow t k w v n cs) (g : RowAt w b t' ds) (hne : t ≠ t') : ¬ own v b := by
  rcases h.is with ⟨rfl, _⟩ | ⟨b', cap, rest, rfl, hr, _⟩
  · exact fun e => e
  · intro e
    have e : b = b' := e
    subst e
    unfold RowAt at hr g
    rw [hr] at g
    injection g with g
    injection g with g1 g2
    exact hne g2
/- a module that is a table's own -/
structure ModIn (lo : Nat) (w : World) (x : ModX) : Prop where
  p : In lo InT 1 intRow w x.p x.d.ptrs
  q : In lo InT 1 intRow w x.q x.d.procs
  i : In lo StT 1 sRow w x.i x.d.imps
  e : In lo XpT 3 exRow w x.e x.xs
  l : ∀ y ∈ x.xs, In lo InT 1 intRow w y.v y.l
  c : In lo CmT 2 cmdRow w x.c x.d.cmds
  same : x.xs.map ExX.d = x.d.exps
theorem ModIn.at_ {lo : Nat} {w : World} {x : ModX} (h : ModIn lo w x) : ModAt w x :=
  ⟨h.p.row.els intRow_len, h.q.row.els intRow_len, h.i.row.els sRow_len, h.e.row.els exRow_len, fun y hy => (h.l y hy).row.els intRow_len, h.c.row.els cmdRow_len, h.same⟩
theorem ModIn.on {lo : Nat} {w w' : World} {x : ModX} (h : ModIn lo w x) (hb : Below w.heap.size w w') : ModIn lo w' x :=
  ⟨h.p.on hb, h.q.on hb, h.i.on hb, h.e.on hb, fun y hy => (h.l y hy).on hb, h.c.on hb, h.same⟩
theorem ModIn.keep {S : Nat → Prop} {lo : Nat} {w w' : World} {x : ModX} (h : ModIn lo w x) (kp : Kept S w w') (hS : ∀ v (t : TypeId) k n cs, SRow t k w v n cs → (∀ j, own v j → lo ≤ j) → (t = InT ∨ t = StT ∨ t = XpT ∨ t = CmT) → ∀ j, own v j → ¬ S j) : ModIn lo w' x :=
  ⟨h.p.keep kp (hS _ _ _ _ _ h.p.row h.p.low (.inl rfl)), h.q.keep kp (hS _ _ _ _ _ h.q.row h.q.low (.inl rfl)), h.i.keep kp (hS _ _ _ _ _ h.i.row h.i.low (.inr (.inl rfl))), h.e.keep kp (hS _ _ _ _ _ h.e.row h.e.low (.inr (.inr (.inl rfl)))),
    fun y hy => (h.l y hy).keep kp (hS _ _ _ _ _ (h.l y hy).row (h.l y hy).low (.inl rfl)), h.c.keep kp (hS _ _ _ _ _ h.c.row h.c.low (.inr (.inr (.inr rfl)))), h.same⟩
set_option maxRecDepth 100000 in
set_option maxHeartbeats 1000000 in
theorem clone_ints (v : Value) (L : List Int) (w : World) (h : ElsAt 1 intRow w v L) (h1 : ∀ x ∈ L, Ones (intRow x)) (small : L.length ≤ 100000) :
    Calls Try.prog 26 #[v] w fun e w' => ∃ v', e = .returned v' ∧ In w.heap.size InT 1 intRow w' v' L ∧ Below w.heap.size w w' := by
  obtain ⟨a, c, rfl, hc1, hc2, hc3⟩ := h.shape
  cases a with
  | none =>
    obtain rfl := hc3 rfl
    have hL : L = [] := List.eq_nil_of_length_eq_zero (by omega)
    subst hL
    have hq := Lib.run_eql_slice_nil (P := Try.prog) w 35 InT none 0 0 0 0 Try.underlying35
    clear h
    go_enter Try.func26, Try.ntmps26
    go_wp2_with fail
    go_ret
    exact ⟨_, rfl, In.nil _ _ _ _ _, Below.refl _ _⟩
  | some ad =>
    have hb0 : Below w.heap.size w (w.alloc (.cells #[] InT)) := (Below.refl _ _).alloc (Nat.le_refl _) _
    obtain ⟨v1, w1, q0, q1, q2, q3⟩ := append_all (T := 35) Try.underlying35 info_in rfl (by decide) (fun _ => rfl) (by decide) (SRow.empty InT 1 intRow w) (h.on hb0) h1 (by simp) (by simp; omega)
    rw [List.nil_append] at q1
    have RES : Hid (In w.heap.size InT 1 intRow w1 v1 L ∧ Below w.heap.size w w1) :=
      ⟨⟨q1, fun j hj => by
        rcases q2.2 j hj with e | e
        · have e : j = w.heap.size := e
          omega
        · exact Nat.le_trans hb0.size e⟩, q2.1.below hb0 hb0.size fun j _ hj => by have e : j = w.heap.size := hj; omega⟩
    have hq := Lib.run_eql_slice_nil (P := Try.prog) w 35 InT (some ad) L.length c 0 0 Try.underlying35
    have HR1 := Lib.hid q0
    generalize L.length = n at *
    clear h h1 q0 q1 q2 q3 hb0
    go_enter Try.func26, Try.ntmps26
    go_wp2_with (at_builtin; refine Lib.wpList_append_run _ rfl _ _ _ _ rfl _ _ rfl rfl _ _ HR1.out ?_)
    go_ret
    exact ⟨_, rfl, RES.out⟩
set_option maxRecDepth 100000 in
set_option maxHeartbeats 1000000 in
theorem clone_texts (v : Value) (L : List ByteArray) (w : World) (h : ElsAt 1 sRow w v L) (h1 : ∀ x ∈ L, Ones (sRow x)) (small : L.length ≤ 100000) :
    Calls Try.prog 27 #[v] w fun e w' => ∃ v', e = .returned v' ∧ In w.heap.size StT 1 sRow w' v' L ∧ Below w.heap.size w w' := by
  obtain ⟨a, c, rfl, hc1, hc2, hc3⟩ := h.shape
  cases a with
  | none =>
    obtain rfl := hc3 rfl
    have hL : L = [] := List.eq_nil_of_length_eq_zero (by omega)
    subst hL
    have hq := Lib.run_eql_slice_nil (P := Try.prog) w 26 StT none 0 0 0 0 Try.underlying26
    clear h
    go_enter Try.func27, Try.ntmps27
    go_wp2_with fail
    go_ret
    exact ⟨_, rfl, In.nil _ _ _ _ _, Below.refl _ _⟩
  | some ad =>
    have hb0 : Below w.heap.size w (w.alloc (.cells #[] StT)) := (Below.refl _ _).alloc (Nat.le_refl _) _
    obtain ⟨v1, w1, q0, q1, q2, q3⟩ := append_all (T := 26) Try.underlying26 info_st rfl (by decide) (fun _ => rfl) (by decide) (SRow.empty StT 1 sRow w) (h.on hb0) h1 (by simp) (by simp; omega)
    rw [List.nil_append] at q1
    have RES : Hid (In w.heap.size StT 1 sRow w1 v1 L ∧ Below w.heap.size w w1) :=
      ⟨⟨q1, fun j hj => by
        rcases q2.2 j hj with e | e
        · have e : j = w.heap.size := e
          omega
        · exact Nat.le_trans hb0.size e⟩, q2.1.below hb0 hb0.size fun j _ hj => by have e : j = w.heap.size := hj; omega⟩
    have hq := Lib.run_eql_slice_nil (P := Try.prog) w 26 StT (some ad) L.length c 0 0 Try.underlying26
    have HR1 := Lib.hid q0
    generalize L.length = n at *
    clear h h1 q0 q1 q2 q3 hb0
    go_enter Try.func27, Try.ntmps27
    go_wp2_with (at_builtin; refine Lib.wpList_append_run _ rfl _ _ _ _ rfl _ _ rfl rfl _ _ HR1.out ?_)
    go_ret
    exact ⟨_, rfl, RES.out⟩
set_option maxRecDepth 100000 in
set_option maxHeartbeats 1000000 in
theorem clone_cmds (v : Value) (L : List (ByteArray × Int)) (w : World) (h : ElsAt 2 cmdRow w v L) (h1 : ∀ x ∈ L, Ones (cmdRow x)) (small : L.length ≤ 100000) :
    Calls Try.prog 28 #[v] w fun e w' => ∃ v', e = .returned v' ∧ In w.heap.size CmT 2 cmdRow w' v' L ∧ Below w.heap.size w w' := by
  obtain ⟨a, c, rfl, hc1, hc2, hc3⟩ := h.shape
  cases a with
  | none =>
    obtain rfl := hc3 rfl
    have hL : L = [] := List.eq_nil_of_length_eq_zero (by omega)
    subst hL
    have hq := Lib.run_eql_slice_nil (P := Try.prog) w 39 CmT none 0 0 0 0 Try.underlying39
    clear h
    go_enter Try.func28, Try.ntmps28
    go_wp2_with fail
    go_ret
    exact ⟨_, rfl, In.nil _ _ _ _ _, Below.refl _ _⟩
  | some ad =>
    have hb0 : Below w.heap.size w (w.alloc (.cells #[] CmT)) := (Below.refl _ _).alloc (Nat.le_refl _) _
    obtain ⟨v1, w1, q0, q1, q2, q3⟩ := append_all (T := 39) Try.underlying39 info_cm rfl (by decide) (fun _ => rfl) (by decide) (SRow.empty CmT 2 cmdRow w) (h.on hb0) h1 (by simp) (by simp; omega)
    rw [List.nil_append] at q1
    have RES : Hid (In w.heap.size CmT 2 cmdRow w1 v1 L ∧ Below w.heap.size w w1) :=
      ⟨⟨q1, fun j hj => by
        rcases q2.2 j hj with e | e
        · have e : j = w.heap.size := e
          omega
        · exact Nat.le_trans hb0.size e⟩, q2.1.below hb0 hb0.size fun j _ hj => by have e : j = w.heap.size := hj; omega⟩
    have hq := Lib.run_eql_slice_nil (P := Try.prog) w 39 CmT (some ad) L.length c 0 0 Try.underlying39
    have HR1 := Lib.hid q0
    generalize L.length = n at *
    clear h h1 q0 q1 q2 q3 hb0
    go_enter Try.func28, Try.ntmps28
    go_wp2_with (at_builtin; refine Lib.wpList_append_run _ rfl _ _ _ _ rfl _ _ rfl rfl _ _ HR1.out ?_)
    go_ret
    exact ⟨_, rfl, RES.out⟩
set_option maxRecDepth 100000 in
set_option maxHeartbeats 1000000 in
theorem clone_exps (v : Value) (L : List ExX) (w : World) (h : ElsAt 3 exRow w v L) (h1 : ∀ x ∈ L, Ones (exRow x)) (small : L.length ≤ 100000) :
    Calls Try.prog 29 #[v] w fun e w' => ∃ v', e = .returned v' ∧ In w.heap.size XpT 3 exRow w' v' L ∧ Below w.heap.size w w' := by
  obtain ⟨a, c, rfl, hc1, hc2, hc3⟩ := h.shape
  cases a with
  | none =>
    obtain rfl := hc3 rfl
    have hL : L = [] := List.eq_nil_of_length_eq_zero (by omega)
    subst hL
    have hq := Lib.run_eql_slice_nil (P := Try.prog) w 38 XpT none 0 0 0 0 Try.underlying38
    clear h
    go_enter Try.func29, Try.ntmps29
    go_wp2_with fail
    go_ret
    exact ⟨_, rfl, In.nil _ _ _ _ _, Below.refl _ _⟩
  | some ad =>
    have hb0 : Below w.heap.size w (w.alloc (.cells #[] XpT)) := (Below.refl _ _).alloc (Nat.le_refl _) _
    obtain ⟨v1, w1, q0, q1, q2, q3⟩ := append_all (T := 38) Try.underlying38 info_xp rfl (by decide) (fun _ => rfl) (by decide) (SRow.empty XpT 3 exRow w) (h.on hb0) h1 (by simp) (by simp; omega)
    rw [List.nil_append] at q1
    have RES : Hid (In w.heap.size XpT 3 exRow w1 v1 L ∧ Below w.heap.size w w1) :=
      ⟨⟨q1, fun j hj => by
        rcases q2.2 j hj with e | e
        · have e : j = w.heap.size := e
          omega
        · exact Nat.le_trans hb0.size e⟩, q2.1.below hb0 hb0.size fun j _ hj => by have e : j = w.heap.size := hj; omega⟩
    have hq := Lib.run_eql_slice_nil (P := Try.prog) w 38 XpT (some ad) L.length c 0 0 Try.underlying38
    have HR1 := Lib.hid q0
    generalize L.length = n at *
    clear h h1 q0 q1 q2 q3 hb0
    go_enter Try.func29, Try.ntmps29
    go_wp2_with (at_builtin; refine Lib.wpList_append_run _ rfl _ _ _ _ rfl _ _ rfl rfl _ _ HR1.out ?_)
    go_ret
    exact ⟨_, rfl, RES.out⟩
end Go.Proofs.Ytiofplejpgahdaa
