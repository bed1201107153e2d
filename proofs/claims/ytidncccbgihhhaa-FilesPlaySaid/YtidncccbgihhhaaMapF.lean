/-
  A map from string to []byte as a list of names without two alike, each with the slice that it holds: look up, store, delete, length, keys. Nothing of the program but the numbers of the types.
-/
import Derived.Test.YtidncccbgihhhaaFileM
import Derived.Maps.RangeWalk
import Derived.Sort.KeysCollected
namespace Go.Proofs.Ytidncccbgihhhaa
open Go.ChangeShapes Go.WideShapes Go.ChangeAt Go.RowKit

abbrev ST : TypeId := 9
abbrev MF : TypeId := 50
theorem lawS : Maps.Keyed Try.prog ST := Maps.string_keyed Try.underlying9
set_option maxRecDepth 100000 in
theorem zeroBs (w : World) : (zeroValue 30).run Try.prog w = .ok (.slice none 0 0) w := by kernel_rfl
def keyL (s : ByteArray) : Lit := .string s.data.toList
theorem keyL_inj {s t : ByteArray} (h : keyL s = keyL t) : s = t := WideShapes.bytes_inj (by simpa [keyL] using h)
theorem keyS {s : ByteArray} (h : s.size ≤ maxLen) : keyOf Try.prog ST (.string s) = some (keyL s) := by simp [keyOf, Try.underlying9, mapKey, keyL, h]

/- an element is held as it is -/
def RV (v : Value) : Option (DataW Value × List MemPlace) := some (.held v, [])
abbrev RL := List (ByteArray × (Value × List Nat))
abbrev ownsF (w : World) (mb n : Nat) (D : DataW Value) : Prop := w.ownsMap Try.prog ST RV mb n D
def MapAt (w : World) (mb : Nat) (R : RL) : Prop :=
  (nms R).Nodup ∧ ∃ D : DataW Value, ownsF w mb R.length D ∧ Maps.size D = R.length ∧ (∀ s, Maps.has D (keyL s) = true ↔ s ∈ nms R) ∧ ∀ p ∈ R, ∀ z, D.atKey (keyL p.1) z = .held p.2.1

theorem owns_tight {w : World} {mb n : Nat} {D : DataW Value} (h : ownsF w mb n D) : ownsF w mb (Maps.size D) D := by
  obtain ⟨es, clock, hb, F, _, rfl⟩ := h
  refine ⟨es, clock, hb, F, ?_, rfl⟩
  simp [Maps.size, length_sorted]
theorem kept_turned {w w' : World} {b : Nat} (h : w.mapTurned w' b) : Kept (· = b) w w' ∧ w'.heap.size = w.heap.size := by
  have g := h.grown
  refine ⟨⟨⟨g.os, g.tape, g.output⟩, g.size, fun k hk hS => g.block k hk (fun e => hS (by cases e; rfl))⟩, ?_⟩
  obtain ⟨es, ck, es', ck', hb, rfl⟩ := h
  simp [Go.ChangeMaps.setBlock]

theorem MapAt.obj {w : World} {mb : Nat} {R : RL} (h : MapAt w mb R) : ∃ es c, w.heap[mb]? = some (.map es c) := by
  obtain ⟨_, D, ⟨es, c, hb, _⟩, _⟩ := h
  exact ⟨es, c, hb⟩
theorem MapAt.lt {w : World} {mb : Nat} {R : RL} (h : MapAt w mb R) : mb < w.heap.size := by
  obtain ⟨_, D, h1, _⟩ := h
  exact h1.lt
theorem MapAt.keep {S : Nat → Prop} {w w' : World} {mb : Nat} {R : RL} (h : MapAt w mb R) (k : Kept S w w') (hS : ¬ S mb) : MapAt w' mb R := by
  obtain ⟨hn, D, ⟨es, c, hb, r⟩, h2⟩ := h
  exact ⟨hn, D, ⟨es, c, k.block hb hS, r⟩, h2⟩
theorem MapAt.new (w : World) : MapAt (w.alloc (.map #[] 0)) w.heap.size [] :=
  ⟨by simp [nms], .map [], World.ownsMap_made _ _ _ _, rfl, fun s => by simp [Maps.has_eq, nms], fun p hp => by cases hp⟩

theorem MapAt.look_ok {w : World} {mb : Nat} {R : RL} (h : MapAt w mb R) {s : ByteArray} (hs : s.size ≤ maxLen) : ∃ v, (Instr.lookup MF (.map (some mb)) (.string s) true).run Try.prog w = .ok (.tuple #[v, .bool (decide (s ∈ nms R))]) w := by
  obtain ⟨_, D, h1, _, h3, _⟩ := h
  obtain ⟨v, ps, hr, _⟩ := World.ownsMap.look_ok h1 lawS Try.underlying50 (zeroBs w) (zd := .held (.slice none 0 0)) (zp := []) rfl (keyS hs)
  refine ⟨v, ?_⟩
  rw [hr]
  have : Maps.has D (keyL s) = decide (s ∈ nms R) := by
    rw [Bool.eq_iff_iff, h3 s]
    simp
  rw [this]
theorem MapAt.look {w : World} {mb : Nat} {R : RL} (h : MapAt w mb R) {s : ByteArray} {x : Value × List Nat} (hx : (s, x) ∈ R) (hs : s.size ≤ maxLen) : (Instr.lookup MF (.map (some mb)) (.string s) false).run Try.prog w = .ok x.1 w := by
  obtain ⟨_, D, h1, _, _, h4⟩ := h
  obtain ⟨v, ps, hr, hv⟩ := World.ownsMap.lookup h1 lawS Try.underlying50 (zeroBs w) (zd := .held (.slice none 0 0)) (zp := []) rfl (keyS hs)
  rw [h4 _ hx] at hv
  simp only [RV, Option.some.injEq, Prod.mk.injEq, DataW.held.injEq] at hv
  rw [hr, hv.1]
theorem MapAt.len {w : World} {mb : Nat} {R : RL} (h : MapAt w mb R) (ty : TypeId) : (Builtin.len_ #[MF] ty #[.map (some mb)]).run Try.prog w = .ok (.int .i64 (R.length : Nat)) w := by
  obtain ⟨_, D, h1, h2, _⟩ := h
  rw [← h2]
  exact World.ownsMap.len h1 Try.underlying50 ty
theorem MapAt.put {w : World} {mb : Nat} {R : RL} (h : MapAt w mb R) {s : ByteArray} (hs : s.size ≤ maxLen) (v : Value) (b : List Nat) (hn : R.length ≤ 1000) :
    ∃ w', (Instr.mapUpdate MF (.map (some mb)) (.string s) v).run Try.prog w = .ok () w' ∧ MapAt w' mb (putF R s (v, b)) ∧ Kept (· = mb) w w' ∧ w'.heap.size = w.heap.size := by
  obtain ⟨h0, D, h1, h2, h3, h4⟩ := h
  have hT := World.ownsMap.tidy h1 lawS
  have hM := World.ownsMap.isMap h1
  obtain ⟨w', hr, ho, ht⟩ := World.ownsMap.store h1 lawS Try.underlying50 (by simp [maxLen]; omega) (keyS hs) (val := v) (d := .held v) (ps := []) rfl
  have hz : Maps.size (D.put (keyL s) (.held v)) = (putF R s (v, b)).length := by
    rw [Maps.size_put hT, length_put, h2]
    by_cases hm : s ∈ nms R
    · rw [if_pos hm, if_pos ((h3 s).2 hm)]
    · rw [if_neg hm, if_neg (fun hh => hm ((h3 s).1 hh))]
  refine ⟨w', hr, ⟨nodup_put h0 s _, D.put (keyL s) (.held v), by rw [← hz]; exact owns_tight ho, hz, fun t => ?_, fun p hp z => ?_⟩, kept_turned ht⟩
  · rw [mem_nms_put]
    by_cases e : t = s
    · subst e
      simp [Maps.has_put_same (k := keyL t) hM trivial]
    · rw [Maps.has_put_other (fun g => e (keyL_inj g)), h3 t]
      simp [e]
  · rcases mem_put hp with rfl | ⟨hp', e⟩
    · exact Maps.atKey_put_same (k := keyL s) hM trivial _ _
    · rw [Maps.atKey_put_other (fun g => e (keyL_inj g))]
      exact h4 p hp' z
theorem MapAt.del {w : World} {mb : Nat} {R : RL} (h : MapAt w mb R) {s : ByteArray} (hs : s.size ≤ maxLen) (ty : TypeId) :
    ∃ w', (Builtin.delete_ #[MF, ST] ty #[.map (some mb), .string s]).run Try.prog w = .ok (.tuple #[]) w' ∧ MapAt w' mb (delF R s) ∧ Kept (· = mb) w w' ∧ w'.heap.size = w.heap.size := by
  obtain ⟨h0, D, h1, h2, h3, h4⟩ := h
  have hT := World.ownsMap.tidy h1 lawS
  obtain ⟨w', hr, ho, ht⟩ := World.ownsMap.drop h1 lawS Try.underlying50 (keyS hs) ty
  have hz : Maps.size (D.del (keyL s)) = (delF R s).length := by
    have := Maps.size_del (k := keyL s) hT
    by_cases hm : s ∈ nms R
    · rw [if_pos ((h3 s).2 hm)] at this
      have := length_del h0 hm
      omega
    · rw [if_neg (fun hh => hm ((h3 s).1 hh))] at this
      rw [del_none hm]
      omega
  refine ⟨w', hr, ⟨nodup_del h0 s, D.del (keyL s), by rw [← hz]; exact owns_tight ho, hz, fun t => ?_, fun p hp z => ?_⟩, kept_turned ht⟩
  · rw [mem_nms_del]
    by_cases e : t = s
    · subst e
      simp [Maps.has_del_same]
    · rw [Maps.has_del_other (fun g => e (keyL_inj g)), h3 t]
      simp [e]
  · obtain ⟨hp', e⟩ := mem_del.1 hp
    rw [Maps.atKey_del_other (fun g => e (keyL_inj g))]
    exact h4 p hp' z

/- the keys are the names -/
theorem keys_perm {w : World} {mb n : Nat} {D : DataW Value} {R : RL} (h0 : (nms R).Nodup) (h1 : ownsF w mb n D) (h3 : ∀ s, Maps.has D (keyL s) = true ↔ s ∈ nms R) : ((nms R).map fun s => s.data.toList).Perm (strKeys D) := by
  obtain ⟨es, hD, hpw, _⟩ := World.ownsMap.entries h1 lawS
  obtain ⟨es', hD', hko⟩ := World.ownsMap.keysOf h1
  obtain rfl : es = es' := by rw [hD] at hD'; simpa using hD'
  subst hD
  refine perm_strKeys hpw (fun p hp => by obtain ⟨v, hv⟩ := hko p hp; obtain ⟨x, _, hx, _⟩ := Maps.keyOf_str Try.underlying9 hv; exact ⟨x, hx⟩) ?_ (fun x => ?_)
  · exact List.pairwise_map.2 (h0.imp fun hne e => hne (WideShapes.bytes_inj e))
  · have hx : (⟨x.toArray⟩ : ByteArray).data.toList = x := rfl
    rw [show Lit.string x = keyL ⟨x.toArray⟩ from rfl, h3, List.mem_map]
    constructor
    · rintro ⟨s, hs, rfl⟩
      have : (⟨s.data.toList.toArray⟩ : ByteArray) = s := WideShapes.bytes_inj rfl
      rw [this]; exact hs
    · intro hs
      exact ⟨_, hs, rfl⟩
end Go.Proofs.Ytidncccbgihhhaa
