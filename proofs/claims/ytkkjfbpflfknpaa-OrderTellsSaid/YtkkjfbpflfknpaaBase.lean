/-
  What the walks of all layers use: how a call ends, worlds that are the same but for draws, worlds that are the same but for some blocks. Nothing of the program.
-/
import Derived.Test.YtkkjfbpflfknpaaRows
import Derived.WalkKit
import Derived.ProofKit
import Derived.OpenShut
import Derived.Deep.QuietTactic
import Derived.BigQuiet
import Derived.Lib.Hide
import Derived.Laws.CopyOwn
import Derived.Deep.OwnRows
namespace Go.Proofs.Ytkkjfbpflfknpaa
open Go.ChangeShapes Go.WideShapes Go.ChangeAt Go.RowKit

theorem end_int {k : IntKind} {a b : Int} : a = b → Ending.returned (.int k a) = Ending.returned (.int k b) := congrArg fun z => Ending.returned (.int k z)
theorem end_bool {a b : Bool} : a = b → Ending.returned (.bool a) = Ending.returned (.bool b) := congrArg fun z => Ending.returned (.bool z)

theorem u32_nat {z : Int} (h : (Lit.int .u32 z).wf = true) : ∃ n : Nat, z = n ∧ n < 4294967296 := by
  have b := bounds_u32 h
  exact ⟨z.toNat, by omega, by omega⟩
theorem u8_nat {z : Int} (h : (Lit.int .u8 z).wf = true) : ∃ n : Nat, z = n ∧ n < 256 := by
  have b := bounds_u8 h
  exact ⟨z.toNat, by omega, by omega⟩

/- the world but for draws -/
def Drawn (w w' : World) : Prop := ∃ k, w' = w.drewN k
theorem Drawn.refl (w : World) : Drawn w w := ⟨0, rfl⟩
theorem Drawn.trans {a b c : World} (h : Drawn a b) (g : Drawn b c) : Drawn a c := by
  obtain ⟨k, rfl⟩ := h
  obtain ⟨m, rfl⟩ := g
  exact ⟨k + m, World.drewN_drewN _ _ _⟩
theorem Drawn.more {a b : World} (h : Drawn a b) (n : Nat) : Drawn a (b.drewN n) := h.trans ⟨n, rfl⟩
theorem Drawn.of_n (a : World) (n : Nat) : Drawn a (a.drewN n) := ⟨n, rfl⟩
theorem Drawn.cell {a b : World} (h : Drawn a b) (p : Addr) : b.cell? p = a.cell? p := by obtain ⟨k, rfl⟩ := h; rfl
theorem Drawn.size {a b : World} (h : Drawn a b) : b.heap.size = a.heap.size := by obtain ⟨k, rfl⟩ := h; rfl
theorem Drawn.below {a b : World} (h : Drawn a b) (B : Nat) : Below B a b := by
  obtain ⟨k, rfl⟩ := h
  exact ⟨rfl, rfl, rfl, Nat.le_refl _, fun _ _ => rfl⟩
theorem quiet_drawn {P : Program} {f : FuncId} {args : Array Value} {w : World} {v : Value} {n : Nat} (h : Calls P f args (w.drewN n) fun e w' => e = .returned v ∧ Drawn (w.drewN n) w') :
    Calls P f args (w.drewN n) fun e w'' => e = .returned v ∧ ∃ m, w'' = w.drewN m := h.mono fun _ _ ⟨he, k, hm⟩ => ⟨he, n + k, by rw [hm, World.drewN_drewN]⟩
/- a contract that leaves the world alone leaves it alone but for draws -/
theorem still_drawn {P : Program} {f : FuncId} {args : Array Value} {w : World} {v : Value} : (Calls P f args w fun e w' => e = .returned v ∧ w = w') → Calls P f args w fun e w' => e = .returned v ∧ Drawn w w' :=
  fun h => h.mono fun _ _ g => ⟨g.1, g.2 ▸ Drawn.refl _⟩

/- behind a call that makes memory: a cell that was there has its value, and its mark -/
theorem old_cell {u v : World} (h : Below u.heap.size u v) (k i : Nat) : k < u.heap.size → v.cell? ⟨k, i, none⟩ = u.cell? ⟨k, i, none⟩ := fun hk => h.cell hk
theorem old_mark {u v : World} (h : Below u.heap.size u v) (k i : Nat) : k < u.heap.size → v.frozen? ⟨k, i, none⟩ = u.frozen? ⟨k, i, none⟩ := fun hk => h.frozen hk
theorem below_on {B : Nat} {a b c : World} (h : Below B a b) (g : Below b.heap.size b c) (hB : B ≤ b.heap.size) : Below B a c := h.trans (g.mono hB)

/- b is a but for the blocks of S, and for new ones -/
structure Kept (S : Nat → Prop) (a b : World) : Prop where
  still : b.os = a.os ∧ b.tape = a.tape ∧ b.output = a.output
  more : a.heap.size ≤ b.heap.size
  rest : ∀ k, k < a.heap.size → ¬ S k → b.heap[k]? = a.heap[k]?

theorem Kept.refl (S : Nat → Prop) (a : World) : Kept S a a := ⟨⟨rfl, rfl, rfl⟩, Nat.le_refl _, fun _ _ _ => rfl⟩
theorem Kept.then {S T : Nat → Prop} {a b c : World} (h : Kept S a b) (g : Kept T b c) (hT : ∀ k, k < a.heap.size → T k → S k) : Kept S a c :=
  ⟨⟨g.still.1.trans h.still.1, g.still.2.1.trans h.still.2.1, g.still.2.2.trans h.still.2.2⟩, Nat.le_trans h.more g.more,
    fun k hk hS => (g.rest k (Nat.lt_of_lt_of_le hk h.more) fun ht => hS (hT k hk ht)).trans (h.rest k hk hS)⟩
theorem Kept.trans {S : Nat → Prop} {a b c : World} (h : Kept S a b) (g : Kept S b c) : Kept S a c := h.then g fun _ _ ht => ht
theorem Kept.of_below {S : Nat → Prop} {a b : World} (h : Below a.heap.size a b) : Kept S a b := ⟨⟨h.os, h.tape, h.output⟩, h.size, fun k hk _ => h.block k hk⟩
theorem Kept.drawn {S : Nat → Prop} {a b : World} (h : Drawn a b) : Kept S a b := .of_below (h.below _)
theorem Kept.drew {S : Nat → Prop} {a b : World} (h : Kept S a b) : Kept S a b.drew := ⟨h.still, h.more, h.rest⟩
theorem Kept.alloc {S : Nat → Prop} {a b : World} (h : Kept S a b) (o : Obj) : Kept S a (b.alloc o) :=
  h.trans (.of_below ((Below.refl _ _).alloc (Nat.le_refl _) o))
theorem Kept.setRow {S : Nat → Prop} {a b : World} (h : Kept S a b) {g : Nat} (hg : g < a.heap.size → S g) (cs : Array Value) : Kept S a (b.setRow g cs) :=
  h.then (T := (· = g)) ⟨⟨rfl, rfl, rfl⟩, by simp, fun k _ hk => setRow_other b g k cs hk⟩ fun k hk e => e ▸ hg (e ▸ hk)
theorem Kept.setCell {S : Nat → Prop} {a b : World} (h : Kept S a b) {p : Addr} (hg : p.block < a.heap.size → S p.block) (u : Value) : Kept S a (b.setCell p u) :=
  h.then (T := (· = p.block)) ⟨⟨rfl, rfl, rfl⟩, by simp [World.setCell], fun k _ hk => Below.heap_setCell b p u k hk⟩ fun k hk e => e ▸ hg (e ▸ hk)
/- what lies below B stays, if nothing of S does -/
theorem Kept.below {S : Nat → Prop} {B : Nat} {w a b : World} (h : Kept S a b) (hb : Below B w a) (hB : B ≤ a.heap.size) (hS : ∀ k, k < a.heap.size → S k → B ≤ k) : Below B w b :=
  hb.trans ⟨h.still.1, h.still.2.1, h.still.2.2, h.more, fun k hk => h.rest k (Nat.lt_of_lt_of_le hk hB) fun hs => by have := hS k (Nat.lt_of_lt_of_le hk hB) hs; omega⟩
theorem Kept.none {a b : World} (h : Kept (fun _ => False) a b) : Below a.heap.size a b := h.below (.refl _ _) (Nat.le_refl _) fun _ _ hs => hs.elim
theorem Kept.cell {S : Nat → Prop} {a b : World} (h : Kept S a b) {p : Addr} (hp : p.block < a.heap.size) (hS : ¬ S p.block) : b.cell? p = a.cell? p := World.cell?_of_block (w := a) (h.rest _ hp hS)
theorem Kept.block {S : Nat → Prop} {a b : World} (h : Kept S a b) {k : Nat} {o : Obj} (hk : a.heap[k]? = some o) (hS : ¬ S k) : b.heap[k]? = some o :=
  (h.rest k (Array.getElem?_eq_some_iff.1 hk).1 hS).trans hk

/- a cell that is there lies in a block that is there -/
theorem cell_lt {w : World} {p : Addr} {v : Value} (h : w.cell? p = some v) : p.block < w.heap.size := by
  rcases Nat.lt_or_ge p.block w.heap.size with hlt | hge
  · exact hlt
  · simp [World.cell?, Array.getElem?_eq_none hge] at h
theorem kept_set (w : World) (g i : Nat) (v : Value) : Kept (· = g) w (w.setCell ⟨g, i, none⟩ v) := (Kept.refl (· = g) w).setCell (p := ⟨g, i, none⟩) (fun _ => rfl) v
/- all of a new row, laid anew, is a new row -/
theorem setRow_alloc (w : World) (a b : Array Value) (t : TypeId) : (w.alloc (.cells a t)).setRow w.heap.size b = w.alloc (.cells b t) := by
  unfold World.setRow World.alloc
  congr 1
  apply Array.ext
  · simp
  · intro i h1 h2
    simp only [Array.getElem_modify, Array.getElem_push]
    by_cases hi : i < w.heap.size
    · simp [hi]
      intro e
      omega
    · have : i = w.heap.size := by simp at h2; omega
      subst this
      simp
end Go.Proofs.Ytkkjfbpflfknpaa
