/-
  A map from string to integers as a function that may have no value: look up, store, as a walk meets them. Nothing of the program but the numbers of the types.
-/
import Derived.Test.YtkkjfbpflfknpaaBase
import Derived.Maps.RangeWalk
namespace Go.Proofs.Ytkkjfbpflfknpaa
open Go.ChangeShapes Go.WideShapes Go.ChangeAt Go.RowKit

abbrev SgT : TypeId := 9
theorem lawG : Maps.Keyed Try.prog SgT := Maps.string_keyed Try.underlying9
def keyG (s : ByteArray) : Lit := .string s.data.toList
theorem keyG_inj {s t : ByteArray} (h : keyG s = keyG t) : s = t := WideShapes.bytes_inj (by simpa [keyG] using h)
theorem keyGof {s : ByteArray} (h : s.size ≤ maxLen) : keyOf Try.prog SgT (.string s) = some (keyG s) := by simp [keyOf, Try.underlying9, mapKey, keyG, h]

abbrev DatG := DataW Unit
/- what the data say at a name -/
def SaysG (k : IntKind) (D : DatG) (f : ByteArray → Option Int) : Prop := ∀ s, Maps.has D (keyG s) = (f s).isSome ∧ D.atKey (keyG s) (.lit (.int k 0)) = .lit (.int k ((f s).getD 0))
def MapG (E : TypeId) (k : IntKind) (w : World) (mb n : Nat) (f : ByteArray → Option Int) : Prop := ∃ D : DatG, w.ownsMap Try.prog SgT (plainElem Try.prog E) mb n D ∧ SaysG k D f
section
variable {E M : TypeId} {k : IntKind} {w w' : World} {mb n : Nat} {f : ByteArray → Option Int}
theorem MapG.ext {g : ByteArray → Option Int} (h : MapG E k w mb n f) (e : ∀ s, f s = g s) : MapG E k w mb n g := by
  have : f = g := funext e
  subst this
  exact h
theorem MapG.mono {n' : Nat} (h : MapG E k w mb n f) (hn : n ≤ n') : MapG E k w mb n' f := by
  obtain ⟨D, h1, h2⟩ := h
  exact ⟨D, h1.mono hn, h2⟩
theorem MapG.obj (h : MapG E k w mb n f) : ∃ es c, w.heap[mb]? = some (.map es c) := by
  obtain ⟨D, ⟨es, c, hb, _⟩, _⟩ := h
  exact ⟨es, c, hb⟩
theorem MapG.lt (h : MapG E k w mb n f) : mb < w.heap.size := by
  obtain ⟨D, h1, _⟩ := h
  exact h1.lt
theorem MapG.keep {S : Nat → Prop} (h : MapG E k w mb n f) (kp : Kept S w w') (hS : ¬ S mb) : MapG E k w' mb n f := by
  obtain ⟨D, ⟨es, c, hb, r⟩, h2⟩ := h
  exact ⟨D, ⟨es, c, kp.block hb hS, r⟩, h2⟩
theorem MapG.new (w : World) : MapG E k (w.alloc (.map #[] 0)) w.heap.size 0 (fun _ => none) :=
  ⟨.map [], World.ownsMap_made _ _ _ _, fun _ => ⟨rfl, rfl⟩⟩
theorem MapG.no_cell (h : MapG E k w mb n f) (j : Nat) : w.cell? ⟨mb, j, none⟩ = none := by
  obtain ⟨es, c, hb⟩ := h.obj
  simp [World.cell?, hb]
theorem MapG.look (h : MapG E k w mb n f) (hM : Try.prog.underlying M = some (.map SgT E)) (hE : Try.prog.underlying E = some (.int k)) (hz : (zeroValue E).run Try.prog w = .ok (.int k 0) w) {s : ByteArray} (hs : s.size ≤ maxLen) :
    (Instr.lookup M (.map (some mb)) (.string s) false).run Try.prog w = .ok (.int k ((f s).getD 0)) w := by
  obtain ⟨D, h1, h2⟩ := h
  obtain ⟨c, hr, hc, _⟩ := World.ownsMap.lookup_int h1 lawG hM hE hz (keyGof hs)
  rw [(h2 s).2] at hc
  rw [hr]
  cases hc
  rfl
theorem MapG.look_ok (h : MapG E k w mb n f) (hM : Try.prog.underlying M = some (.map SgT E)) (hE : Try.prog.underlying E = some (.int k)) (hz : (zeroValue E).run Try.prog w = .ok (.int k 0) w) {s : ByteArray} (hs : s.size ≤ maxLen) :
    (Instr.lookup M (.map (some mb)) (.string s) true).run Try.prog w = .ok (.tuple #[.int k ((f s).getD 0), .bool (f s).isSome]) w := by
  obtain ⟨D, h1, h2⟩ := h
  obtain ⟨v, ps, hr, hv⟩ := World.ownsMap.look_ok h1 lawG hM hz (plainElem_int hE (by cases k <;> decide)) (keyGof hs)
  rw [(h2 s).2] at hv
  obtain ⟨c, rfl, hc, _⟩ := plainElem_int_inv hE hv
  simp at hc
  rw [hr, (h2 s).1, hc.1]
open Classical in
theorem SaysG.put {D : DatG} (h : SaysG k D f) (hm : Maps.IsMap D) {x : ByteArray} {c : Int} : SaysG k (D.put (keyG x) (.lit (.int k c))) (fun y => if y = x then some c else f y) := by
  intro y
  by_cases e : y = x
  · subst e
    refine ⟨?_, ?_⟩
    · rw [Maps.has_put_same (k := keyG y) hm trivial]
      simp
    · rw [Maps.atKey_put_same (k := keyG y) hm trivial]
      simp
  · have hne : keyG y ≠ keyG x := fun h => e (keyG_inj h)
    refine ⟨?_, ?_⟩
    · rw [Maps.has_put_other hne]
      simpa [e] using (h y).1
    · rw [Maps.atKey_put_other hne]
      simpa [e] using (h y).2
theorem kept_turnG {b : Nat} (h : w.mapTurned w' b) : Kept (· = b) w w' ∧ w'.heap.size = w.heap.size := by
  have g := h.grown
  refine ⟨⟨⟨g.os, g.tape, g.output⟩, g.size, fun k hk hS => g.block k hk (fun e => hS (by cases e; rfl))⟩, ?_⟩
  obtain ⟨es, ck, es', ck', hb, rfl⟩ := h
  simp [Go.ChangeMaps.setBlock]
open Classical in
theorem MapG.put (h : MapG E k w mb n f) (hM : Try.prog.underlying M = some (.map SgT E)) (hE : Try.prog.underlying E = some (.int k)) {s : ByteArray} {c : Int} (hs : s.size ≤ maxLen) (hc : (Lit.int k c).wf = true) (hn : n < 1000000) :
    ∃ w', (Instr.mapUpdate M (.map (some mb)) (.string s) (.int k c)).run Try.prog w = .ok () w' ∧ MapG E k w' mb (n + 1) (fun y => if y = s then some c else f y) ∧ Kept (· = mb) w w' ∧ w'.heap.size = w.heap.size := by
  obtain ⟨D, h1, h2⟩ := h
  obtain ⟨w', hr, ho, ht⟩ := World.ownsMap.store h1 lawG hM (by simp [maxLen]; omega) (keyGof hs) (plainElem_int hE hc)
  exact ⟨w', hr, ⟨_, ho, h2.put (World.ownsMap.isMap h1)⟩, kept_turnG ht⟩
end
end Go.Proofs.Ytkkjfbpflfknpaa
