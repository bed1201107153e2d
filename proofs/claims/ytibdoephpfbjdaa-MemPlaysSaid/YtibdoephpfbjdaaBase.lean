/-
  What the walks of all layers use: how a call ends, worlds that are the same but for draws, worlds that are the same but for some blocks, rows of bytes that are known whole. Nothing of the program but the number of the type uint8.
-/
import Derived.Test.YtibdoephpfbjdaaRows
import Derived.WalkKit
import Derived.ProofKit
import Derived.OpenShut
import Derived.Deep.QuietTactic
import Derived.BigQuiet
import Derived.Lib.Hide
import Derived.Laws.CopyOwn
import Derived.Laws.BytesArg
import Derived.Deep.OwnRows
namespace Go.Proofs.Ytibdoephpfbjdaa
open Go.ChangeShapes Go.WideShapes Go.ChangeAt Go.RowKit

theorem end_int {k : IntKind} {a b : Int} : a = b → Ending.returned (.int k a) = Ending.returned (.int k b) := congrArg fun z => Ending.returned (.int k z)
theorem end_bool {a b : Bool} : a = b → Ending.returned (.bool a) = Ending.returned (.bool b) := congrArg fun z => Ending.returned (.bool z)

theorem u32_nat {z : Int} (h : (Lit.int .u32 z).wf = true) : ∃ n : Nat, z = n ∧ n < 4294967296 := by
  have b := bounds_u32 h
  exact ⟨z.toNat, by omega, by omega⟩
theorem u8_nat {z : Int} (h : (Lit.int .u8 z).wf = true) : ∃ n : Nat, z = n ∧ n < 256 := by
  have b := bounds_u8 h
  exact ⟨z.toNat, by omega, by omega⟩

/- the world but for draws -/
def Drawn (w w' : World) : Prop := ∃ k, w' = w.drewN k
theorem Drawn.refl (w : World) : Drawn w w := ⟨0, rfl⟩
theorem Drawn.trans {a b c : World} (h : Drawn a b) (g : Drawn b c) : Drawn a c := by
  obtain ⟨k, rfl⟩ := h
  obtain ⟨m, rfl⟩ := g
  exact ⟨k + m, World.drewN_drewN _ _ _⟩
theorem Drawn.more {a b : World} (h : Drawn a b) (n : Nat) : Drawn a (b.drewN n) := h.trans ⟨n, rfl⟩
theorem Drawn.of_n (a : World) (n : Nat) : Drawn a (a.drewN n) := ⟨n, rfl⟩
theorem Drawn.cell {a b : World} (h : Drawn a b) (p : Addr) : b.cell? p = a.cell? p := by obtain ⟨k, rfl⟩ := h; rfl
theorem Drawn.size {a b : World} (h : Drawn a b) : b.heap.size = a.heap.size := by obtain ⟨k, rfl⟩ := h; rfl
theorem Drawn.below {a b : World} (h : Drawn a b) (B : Nat) : Below B a b := by
  obtain ⟨k, rfl⟩ := h
  exact ⟨rfl, rfl, rfl, Nat.le_refl _, fun _ _ => rfl⟩
theorem quiet_drawn {P : Program} {f : FuncId} {args : Array Value} {w : World} {v : Value} {n : Nat} (h : Calls P f args (w.drewN n) fun e w' => e = .returned v ∧ Drawn (w.drewN n) w') :
    Calls P f args (w.drewN n) fun e w'' => e = .returned v ∧ ∃ m, w'' = w.drewN m := h.mono fun _ _ ⟨he, k, hm⟩ => ⟨he, n + k, by rw [hm, World.drewN_drewN]⟩
/- a contract that leaves the world alone leaves it alone but for draws -/
theorem still_drawn {P : Program} {f : FuncId} {args : Array Value} {w : World} {v : Value} : (Calls P f args w fun e w' => e = .returned v ∧ w = w') → Calls P f args w fun e w' => e = .returned v ∧ Drawn w w' :=
  fun h => h.mono fun _ _ g => ⟨g.1, g.2 ▸ Drawn.refl _⟩

/- behind a call that makes memory: a cell that was there has its value, and its mark -/
theorem old_cell {u v : World} (h : Below u.heap.size u v) (k i : Nat) : k < u.heap.size → v.cell? ⟨k, i, none⟩ = u.cell? ⟨k, i, none⟩ := fun hk => h.cell hk
theorem old_mark {u v : World} (h : Below u.heap.size u v) (k i : Nat) : k < u.heap.size → v.frozen? ⟨k, i, none⟩ = u.frozen? ⟨k, i, none⟩ := fun hk => h.frozen hk
theorem below_on {B : Nat} {a b c : World} (h : Below B a b) (g : Below b.heap.size b c) (hB : B ≤ b.heap.size) : Below B a c := h.trans (g.mono hB)

/- b is a but for the blocks of S, and for new ones -/
structure Kept (S : Nat → Prop) (a b : World) : Prop where
  still : b.os = a.os ∧ b.tape = a.tape ∧ b.output = a.output
  more : a.heap.size ≤ b.heap.size
  rest : ∀ k, k < a.heap.size → ¬ S k → b.heap[k]? = a.heap[k]?

theorem Kept.refl (S : Nat → Prop) (a : World) : Kept S a a := ⟨⟨rfl, rfl, rfl⟩, Nat.le_refl _, fun _ _ _ => rfl⟩
theorem Kept.then {S T : Nat → Prop} {a b c : World} (h : Kept S a b) (g : Kept T b c) (hT : ∀ k, k < a.heap.size → T k → S k) : Kept S a c :=
  ⟨⟨g.still.1.trans h.still.1, g.still.2.1.trans h.still.2.1, g.still.2.2.trans h.still.2.2⟩, Nat.le_trans h.more g.more,
    fun k hk hS => (g.rest k (Nat.lt_of_lt_of_le hk h.more) fun ht => hS (hT k hk ht)).trans (h.rest k hk hS)⟩
theorem Kept.trans {S : Nat → Prop} {a b c : World} (h : Kept S a b) (g : Kept S b c) : Kept S a c := h.then g fun _ _ ht => ht
theorem Kept.of_below {S : Nat → Prop} {a b : World} (h : Below a.heap.size a b) : Kept S a b := ⟨⟨h.os, h.tape, h.output⟩, h.size, fun k hk _ => h.block k hk⟩
theorem Kept.drawn {S : Nat → Prop} {a b : World} (h : Drawn a b) : Kept S a b := .of_below (h.below _)
theorem Kept.drew {S : Nat → Prop} {a b : World} (h : Kept S a b) : Kept S a b.drew := ⟨h.still, h.more, h.rest⟩
theorem Kept.alloc {S : Nat → Prop} {a b : World} (h : Kept S a b) (o : Obj) : Kept S a (b.alloc o) :=
  h.trans (.of_below ((Below.refl _ _).alloc (Nat.le_refl _) o))
theorem Kept.setRow {S : Nat → Prop} {a b : World} (h : Kept S a b) {g : Nat} (hg : g < a.heap.size → S g) (cs : Array Value) : Kept S a (b.setRow g cs) :=
  h.then (T := (· = g)) ⟨⟨rfl, rfl, rfl⟩, by simp, fun k _ hk => setRow_other b g k cs hk⟩ fun k hk e => e ▸ hg (e ▸ hk)
theorem Kept.setCell {S : Nat → Prop} {a b : World} (h : Kept S a b) {p : Addr} (hg : p.block < a.heap.size → S p.block) (u : Value) : Kept S a (b.setCell p u) :=
  h.then (T := (· = p.block)) ⟨⟨rfl, rfl, rfl⟩, by simp [World.setCell], fun k _ hk => Below.heap_setCell b p u k hk⟩ fun k hk e => e ▸ hg (e ▸ hk)
/- what lies below B stays, if nothing of S does -/
theorem Kept.below {S : Nat → Prop} {B : Nat} {w a b : World} (h : Kept S a b) (hb : Below B w a) (hB : B ≤ a.heap.size) (hS : ∀ k, k < a.heap.size → S k → B ≤ k) : Below B w b :=
  hb.trans ⟨h.still.1, h.still.2.1, h.still.2.2, h.more, fun k hk => h.rest k (Nat.lt_of_lt_of_le hk hB) fun hs => by have := hS k (Nat.lt_of_lt_of_le hk hB) hs; omega⟩
theorem Kept.none {a b : World} (h : Kept (fun _ => False) a b) : Below a.heap.size a b := h.below (.refl _ _) (Nat.le_refl _) fun _ _ hs => hs.elim
theorem Kept.cell {S : Nat → Prop} {a b : World} (h : Kept S a b) {p : Addr} (hp : p.block < a.heap.size) (hS : ¬ S p.block) : b.cell? p = a.cell? p := World.cell?_of_block (w := a) (h.rest _ hp hS)
theorem Kept.block {S : Nat → Prop} {a b : World} (h : Kept S a b) {k : Nat} {o : Obj} (hk : a.heap[k]? = some o) (hS : ¬ S k) : b.heap[k]? = some o :=
  (h.rest k (Array.getElem?_eq_some_iff.1 hk).1 hS).trans hk

/- a row of bytes, a block of its own -/
def byteVals (l : List Nat) : List Value := l.map fun b : Nat => Value.int .u8 (b : Int)
def ByteRow (w : World) (g : Nat) (l : List Nat) : Prop := w.heap[g]? = some (.cells (byteVals l).toArray 5 (0, 0)) ∧ ∀ b ∈ l, b < 256

theorem byteVals_length (l : List Nat) : (byteVals l).length = l.length := by simp [byteVals]
theorem byteVals_at (l : List Nat) (i : Nat) (hi : i < l.length) : (byteVals l)[i]? = some (.int .u8 ((l.getD i 0 : Nat) : Int)) := by
  simp [byteVals, List.getD, hi]
theorem byteVals_one (l : List Nat) : ∀ v ∈ byteVals l, v.oneCell' = true := by
  intro v hv
  obtain ⟨b, _, rfl⟩ := List.mem_map.1 hv
  rfl
theorem byteVals_splice (l cs : List Nat) (o : Nat) : splice (byteVals l) o (byteVals cs) = byteVals (splice l o cs) := by
  simp [splice, byteVals, List.map_take, List.map_drop]
theorem byteVals_set (l : List Nat) (i b : Nat) : (byteVals l).set i (.int .u8 (b : Int)) = byteVals (l.set i b) := by
  simp [byteVals, List.map_set]

theorem ByteRow.lt {w : World} {g : Nat} {l : List Nat} (h : ByteRow w g l) : g < w.heap.size := (Array.getElem?_eq_some_iff.1 h.1).1
theorem ByteRow.at_ {w : World} {g : Nat} {l : List Nat} (h : ByteRow w g l) (i : Nat) (hi : i < l.length) : w.cell? ⟨g, i, none⟩ = some (.int .u8 ((l.getD i 0 : Nat) : Int)) := by
  rw [cell_of_row w g i _ _ _ h.1]
  simpa using byteVals_at l i hi
theorem ByteRow.free {w : World} {g : Nat} {l : List Nat} (h : ByteRow w g l) (i : Nat) : w.frozen? ⟨g, i, none⟩ = false := by
  have := h.1
  simp [World.frozen?, this]
theorem ByteRow.keep {S : Nat → Prop} {w w' : World} {g : Nat} {l : List Nat} (h : ByteRow w g l) (k : Kept S w w') (hS : ¬ S g) : ByteRow w' g l := ⟨k.block h.1 hS, h.2⟩
theorem ByteRow.new (w : World) (l : List Nat) (h : ∀ b ∈ l, b < 256) : ByteRow (w.alloc (.cells (byteVals l).toArray 5)) w.heap.size l := ⟨heap_alloc_new w _, h⟩
theorem ByteRow.drew {w : World} {g : Nat} {l : List Nat} (h : ByteRow w g l) : ByteRow w.drew g l := h
theorem ByteRow.setRow {w : World} {g : Nat} {l l' : List Nat} (h : ByteRow w g l) (h' : ∀ b ∈ l', b < 256) : ByteRow (w.setRow g (byteVals l').toArray) g l' := ⟨setRow_heap w g _ _ _ _ h.1, h'⟩
theorem ByteRow.setCell {w : World} {g : Nat} {l : List Nat} (h : ByteRow w g l) (i b : Nat) (hb : b < 256) : ByteRow (w.setCell ⟨g, i, none⟩ (.int .u8 (b : Int))) g (l.set i b) := by
  refine ⟨?_, fun c hc => ?_⟩
  · rw [setCell_eq_setRow w g i _ _ _ _ h.1, setRow_heap w g _ _ _ _ h.1]
    simp [byteVals, List.map_set]
  · rcases List.mem_or_eq_of_mem_set hc with hc | rfl
    · exact h.2 c hc
    · exact hb

/- all of a new row, laid anew, is a new row -/
theorem setRow_alloc (w : World) (a b : Array Value) (t : TypeId) : (w.alloc (.cells a t)).setRow w.heap.size b = w.alloc (.cells b t) := by
  unfold World.setRow World.alloc
  congr 1
  apply Array.ext
  · simp
  · intro i h1 h2
    simp only [Array.getElem_modify, Array.getElem_push]
    by_cases hi : i < w.heap.size
    · simp [hi]
      intro e
      omega
    · have : i = w.heap.size := by simp at h2; omega
      subst this
      simp

/- a piece of a row, as a string -/
def strOf (l : List Nat) : ByteArray := strOfNums (l.map fun b : Nat => (b : Int))
def piece (l : List Nat) (a b : Nat) : List Nat := (l.drop a).take (b - a)
theorem piece_length (l : List Nat) (a b : Nat) (hb : b ≤ l.length) : (piece l a b).length = b - a := by
  simp [piece]
  omega
theorem piece_getD (l : List Nat) (a b i : Nat) (hi : i < b - a) : (piece l a b).getD i 0 = l.getD (a + i) 0 := by
  simp [piece, List.getD, hi]
theorem piece_all (l : List Nat) : piece l 0 l.length = l := by simp [piece]
theorem piece_lt {l : List Nat} (h : ∀ b ∈ l, b < 256) (a b : Nat) : ∀ c ∈ piece l a b, c < 256 := fun c hc => h c (List.mem_of_mem_drop (List.mem_of_mem_take hc))
theorem splice_low (l s : List Nat) (i j : Nat) (hj : j ≤ i) (hi : i ≤ l.length) : piece (splice l i s) 0 j = piece l 0 j := by
  simp only [piece, splice, List.drop_zero, Nat.sub_zero]
  rw [List.take_append_of_le_length (by rw [List.length_take]; omega), List.take_take, Nat.min_eq_left hj]
theorem splice_high (l s : List Nat) (i j e : Nat) (hj : i + s.length ≤ j) (hi : i ≤ l.length) : piece (splice l i s) j e = piece l j e := by
  simp only [piece, splice]
  have h1 : (l.take i).length = i := by rw [List.length_take]; omega
  rw [List.drop_append, h1, List.drop_of_length_le (by omega), List.nil_append, List.drop_append, List.drop_of_length_le (by omega), List.nil_append, List.drop_drop]
  congr 2
  omega
theorem splice_same (l s : List Nat) (i : Nat) (hi : i ≤ l.length) : piece (splice l i s) i (i + s.length) = s := by
  simp only [piece, splice]
  have h1 : (l.take i).length = i := by rw [List.length_take]; omega
  rw [List.drop_append, h1, List.drop_of_length_le (by omega), List.nil_append, Nat.sub_self, List.drop_zero, Nat.add_sub_cancel_left, List.take_left]
theorem row_string {w : World} {g : Nat} {l : List Nat} (h : ByteRow w g l) (a b cap : Nat) (hb : b ≤ l.length) (n : Nat) (hn : n = b - a) :
    (convert 30 9 (.slice (some ⟨g, a, none⟩) n cap)).run Try.prog w = .ok (.string (strOf (piece l a b))) w := by
  subst hn
  refine run_convert_bytes_arg w 30 5 Try.underlying30 Try.underlying5 g a (b - a) cap ((piece l a b).map fun b : Nat => (b : Int)) (by simp [piece_length l a b hb]) ?_ 9 Try.underlying9
  intro i hi
  rw [h.at_ (a + i) (by omega), ← piece_getD l a b i hi]
  congr 2
  have : i < (piece l a b).length := by rw [piece_length l a b hb]; exact hi
  simp [List.getD, List.getElem?_eq_getElem this]
theorem no_string (w : World) (n cap : Nat) : (convert 30 9 (.slice none n cap)).run Try.prog w = .ok (.string (strOf [])) w :=
  run_convert_bytes_nil w 30 5 Try.underlying30 Try.underlying5 n cap 9 Try.underlying9
end Go.Proofs.Ytibdoephpfbjdaa
