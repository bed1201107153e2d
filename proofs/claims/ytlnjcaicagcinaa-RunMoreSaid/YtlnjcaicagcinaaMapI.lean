/-
  A map from int to int as a function that is 0 where there is no entry: look up, store, delete, range, as a walk meets them. Nothing of the program but the numbers of the types int and map[int]int.
-/
import Derived.Test.YtlnjcaicagcinaaBase
import Derived.Maps.RangeWalk
namespace Go.Proofs.Ytlnjcaicagcinaa
open Go.ChangeShapes Go.WideShapes Go.ChangeAt Go.RowKit

abbrev KT : TypeId := 3
abbrev MT : TypeId := 73
theorem lawI : Maps.Keyed Try.prog KT := Maps.int_keyed Try.underlying3
set_option maxRecDepth 100000 in
theorem zeroI (w : World) : (zeroValue KT).run Try.prog w = .ok (.int .i64 0) w := by kernel_rfl
theorem keyI {x : Int} (h : (Lit.int .i64 x).wf = true) : keyOf Try.prog KT (.int .i64 x) = some (.int .i64 x) := Maps.keyOf_int_mk Try.underlying3 h

abbrev Dat := DataW Unit
abbrev owns (w : World) (mb n : Nat) (D : Dat) : Prop := w.ownsMap Try.prog KT (plainElem Try.prog KT) mb n D
/- what the data say at a number -/
def Says (D : Dat) (f : Int → Int) : Prop := ∀ x, (Lit.int .i64 x).wf = true → Maps.has D (.int .i64 x) = (f x != 0) ∧ D.atKey (.int .i64 x) (.lit (.int .i64 0)) = .lit (.int .i64 (f x))
def MapIs (w : World) (mb n : Nat) (f : Int → Int) : Prop := ∃ D : Dat, owns w mb n D ∧ Says D f

theorem MapIs.mono {w : World} {mb n n' : Nat} {f : Int → Int} (h : MapIs w mb n f) (hn : n ≤ n') : MapIs w mb n' f := by
  obtain ⟨D, h1, h2⟩ := h
  exact ⟨D, h1.mono hn, h2⟩
theorem MapIs.ext {w : World} {mb n : Nat} {f g : Int → Int} (h : MapIs w mb n f) (e : ∀ x, f x = g x) : MapIs w mb n g := by
  have : f = g := funext e
  subst this
  exact h
theorem MapIs.obj {w : World} {mb n : Nat} {f : Int → Int} (h : MapIs w mb n f) : ∃ es c, w.heap[mb]? = some (.map es c) := by
  obtain ⟨D, ⟨es, c, hb, _⟩, _⟩ := h
  exact ⟨es, c, hb⟩
theorem MapIs.lt {w : World} {mb n : Nat} {f : Int → Int} (h : MapIs w mb n f) : mb < w.heap.size := by
  obtain ⟨D, h1, _⟩ := h
  exact h1.lt
theorem owns.keep {S : Nat → Prop} {w w' : World} {mb n : Nat} {D : Dat} (h : owns w mb n D) (k : Kept S w w') (hS : ¬ S mb) : owns w' mb n D := by
  obtain ⟨es, c, hb, r⟩ := h
  exact ⟨es, c, k.block hb hS, r⟩
theorem MapIs.keep {S : Nat → Prop} {w w' : World} {mb n : Nat} {f : Int → Int} (h : MapIs w mb n f) (k : Kept S w w') (hS : ¬ S mb) : MapIs w' mb n f := by
  obtain ⟨D, h1, h2⟩ := h
  exact ⟨D, owns.keep h1 k hS, h2⟩
theorem MapIs.new (w : World) : MapIs (w.alloc (.map #[] 0)) w.heap.size 0 (fun _ => 0) :=
  ⟨.map [], World.ownsMap_made _ _ _ _, fun _ _ => ⟨rfl, rfl⟩⟩
theorem MapIs.no_cell {w : World} {mb n : Nat} {f : Int → Int} (h : MapIs w mb n f) (j : Nat) : w.cell? ⟨mb, j, none⟩ = none := by
  obtain ⟨es, c, hb⟩ := h.obj
  simp [World.cell?, hb]

theorem MapIs.look {w : World} {mb n : Nat} {f : Int → Int} (h : MapIs w mb n f) {x : Int} (hx : (Lit.int .i64 x).wf = true) : (Instr.lookup MT (.map (some mb)) (.int .i64 x) false).run Try.prog w = .ok (.int .i64 (f x)) w := by
  obtain ⟨D, h1, h2⟩ := h
  obtain ⟨c, hr, hc, _⟩ := World.ownsMap.lookup_int h1 lawI Try.underlying73 Try.underlying3 (zeroI w) (keyI hx)
  rw [(h2 x hx).2] at hc
  rw [hr]
  cases hc
  rfl
theorem MapIs.look_ok {w : World} {mb n : Nat} {f : Int → Int} (h : MapIs w mb n f) {x : Int} (hx : (Lit.int .i64 x).wf = true) : (Instr.lookup MT (.map (some mb)) (.int .i64 x) true).run Try.prog w = .ok (.tuple #[.int .i64 (f x), .bool (f x != 0)]) w := by
  obtain ⟨D, h1, h2⟩ := h
  obtain ⟨v, ps, hr, hv⟩ := World.ownsMap.look_ok h1 lawI Try.underlying73 (zeroI w) (plainElem_int Try.underlying3 (by decide)) (keyI hx)
  rw [(h2 x hx).2, ] at hv
  obtain ⟨c, rfl, hc, _⟩ := plainElem_int_inv Try.underlying3 hv
  simp at hc
  rw [hr, (h2 x hx).1, hc.1]

theorem Says.put {D : Dat} {f : Int → Int} (h : Says D f) (hm : Maps.IsMap D) {x c : Int} (hc : c ≠ 0) : Says (D.put (.int .i64 x) (.lit (.int .i64 c))) (fun y => if y = x then c else f y) := by
  intro y hy
  by_cases e : y = x
  · subst e
    refine ⟨?_, ?_⟩
    · rw [Maps.has_put_same (k := .int .i64 y) hm trivial]
      simpa using hc
    · rw [Maps.atKey_put_same (k := .int .i64 y) hm trivial]
      simp
  · have hne : (Lit.int .i64 y) ≠ .int .i64 x := fun h => e (by cases h; rfl)
    refine ⟨?_, ?_⟩
    · rw [Maps.has_put_other hne]
      simpa [e] using (h y hy).1
    · rw [Maps.atKey_put_other hne]
      simpa [e] using (h y hy).2
theorem Says.del {D : Dat} {f : Int → Int} (h : Says D f) {x : Int} : Says (D.del (.int .i64 x)) (fun y => if y = x then 0 else f y) := by
  intro y hy
  by_cases e : y = x
  · subst e
    refine ⟨?_, ?_⟩
    · rw [Maps.has_del_same]
      simp
    · rw [Maps.atKey_del_same]
      simp
  · have hne : (Lit.int .i64 y) ≠ .int .i64 x := fun h => e (by cases h; rfl)
    refine ⟨?_, ?_⟩
    · rw [Maps.has_del_other hne]
      simpa [e] using (h y hy).1
    · rw [Maps.atKey_del_other hne]
      simpa [e] using (h y hy).2
theorem kept_grown {w w' : World} {b : Nat} (h : w.grownBy w' (some b)) : Kept (· = b) w w' :=
  ⟨⟨h.os, h.tape, h.output⟩, h.size, fun k hk hS => h.block k hk (fun e => hS (by cases e; rfl))⟩
theorem kept_grown_none {w w' : World} (h : w.grownBy w' none) : Kept (fun _ => False) w w' :=
  ⟨⟨h.os, h.tape, h.output⟩, h.size, fun k hk _ => h.block k hk (fun e => by cases e)⟩

theorem MapIs.put {w : World} {mb n : Nat} {f : Int → Int} (h : MapIs w mb n f) {x c : Int} (hx : (Lit.int .i64 x).wf = true) (hcw : (Lit.int .i64 c).wf = true) (hc : c ≠ 0) (hn : n < 1000000) :
    ∃ w', (Instr.mapUpdate MT (.map (some mb)) (.int .i64 x) (.int .i64 c)).run Try.prog w = .ok () w' ∧ MapIs w' mb (n + 1) (fun y => if y = x then c else f y) ∧ Kept (· = mb) w w' ∧ w'.heap.size = w.heap.size := by
  obtain ⟨D, h1, h2⟩ := h
  obtain ⟨w', hr, ho, ht⟩ := World.ownsMap.store h1 lawI Try.underlying73 (by simp [maxLen]; omega) (keyI hx) (plainElem_int Try.underlying3 hcw)
  refine ⟨w', hr, ⟨_, ho, h2.put (World.ownsMap.isMap h1) hc⟩, kept_grown ht.grown, ?_⟩
  obtain ⟨es, ck, es', ck', hb, rfl⟩ := ht
  simp [Go.ChangeMaps.setBlock]
theorem MapIs.del {w : World} {mb n : Nat} {f : Int → Int} (h : MapIs w mb n f) {x : Int} (hx : (Lit.int .i64 x).wf = true) (ty : TypeId) :
    ∃ w', (Builtin.delete_ #[MT, KT] ty #[.map (some mb), .int .i64 x]).run Try.prog w = .ok (.tuple #[]) w' ∧ MapIs w' mb n (fun y => if y = x then 0 else f y) ∧ Kept (· = mb) w w' ∧ w'.heap.size = w.heap.size := by
  obtain ⟨D, h1, h2⟩ := h
  obtain ⟨w', hr, ho, ht⟩ := World.ownsMap.drop h1 lawI Try.underlying73 (keyI hx) ty
  refine ⟨w', hr, ⟨_, ho, h2.del⟩, kept_grown ht.grown, ?_⟩
  obtain ⟨es, ck, es', ck', hb, rfl⟩ := ht
  simp [Go.ChangeMaps.setBlock]
end Go.Proofs.Ytlnjcaicagcinaa
