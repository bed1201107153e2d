/-
  The program's Walk (layer 13). Conditions: code has at most 900000 words.
-/
import Derived.Test.YtpckcjhffpokeaaChA
import Derived.Test.YtpckcjhffpokeaaErr
import Derived.Deep.DeepCutAuto
import Derived.Deep.RegionHeld3
namespace Go.Proofs.Ytpckcjhffpokeaa
open Go.ChangeShapes Go.WideShapes Go.ChangeAt Go.RowKit

/- words, as they are read -/
def wRow (x : Nat) : List Value := [.int .u32 (x : Nat)]
structure WordsAt (w : World) (v : Value) (code : List Nat) : Prop where
  els : ElsAt 1 wRow w v code
  fit : ∀ x ∈ code, x < 4294967296
theorem WordsAt.on {w w' : World} {v : Value} {code : List Nat} (h : WordsAt w v code) (hb : Below w.heap.size w w') : WordsAt w' v code := ⟨h.els.on hb, h.fit⟩
theorem WordsAt.cell {w : World} {a : Option Addr} {n cap : Nat} {code : List Nat} (h : WordsAt w (.slice a n cap) code) {k : Nat} (hk : k < n) :
    ∃ b off x, a = some ⟨b, off, none⟩ ∧ n = code.length ∧ b < w.heap.size ∧ code[k]? = some x ∧ x < 4294967296 ∧ w.cell? ⟨b, off + k, none⟩ = some (.int .u32 (x : Nat)) := by
  have hn : n = code.length := by
    obtain ⟨_, _, _, e, h1, _⟩ := h.els.is
    cases e
    exact h1
  have hx := List.getElem?_eq_getElem (show k < code.length by omega)
  obtain ⟨b, off, cap', e, hl, hc⟩ := h.els.cell1 hx (c0 := .int .u32 ((code[k] : Nat) : Int)) rfl
  cases e
  exact ⟨b, off, _, rfl, hn, hl, hx, h.fit _ (List.getElem_mem _), hc⟩
theorem WordsAt.len {w : World} {a : Option Addr} {n cap : Nat} {code : List Nat} (h : WordsAt w (.slice a n cap) code) : n = code.length := by
  obtain ⟨_, _, _, e, h1, _⟩ := h.els.is
  cases e
  exact h1
/- an answer of Walk -/
def WalkWay (E : TypeId) (w w' : World) (v : Value) (r : List RefD) : Prop := SRow E 3 w' v r.length (rows refRow r) ∧ (∀ j, own v j → w.heap.size ≤ j) ∧ Below w.heap.size w w'
theorem WalkWay.on {E : TypeId} {w wr w' : World} {v : Value} {r : List RefD} (h : WalkWay E w wr v r) (hb : Below wr.heap.size wr w') : WalkWay E w w' v r :=
  ⟨h.1.keep (Kept.of_below (S := fun _ => False) hb) (fun _ _ e => e), h.2.1, below_on h.2.2 hb h.2.2.size⟩
def WalkTold (E : TypeId) (yes no : Value) (w : World) (ans : Option (List RefD)) (e : Ending) (w' : World) : Prop :=
  match ans with
  | some r => ∃ v, e = .returned (.tuple #[v, yes]) ∧ WalkWay E w w' v r
  | none => e = .returned (.tuple #[.slice none 0 0, no]) ∧ Below w.heap.size w w'
theorem WalkTold.yes {E : TypeId} {yes no : Value} {w w' : World} {r : List RefD} {v : Value} {ans : Option (List RefD)} (h : WalkWay E w w' v r) (ha : ans = some r) : WalkTold E yes no w ans (.returned (.tuple #[v, yes])) w' := by
  subst ha
  exact ⟨v, rfl, h⟩
theorem WalkTold.no {E : TypeId} {yes no : Value} {w w' : World} {ans : Option (List RefD)} (h : Below w.heap.size w w') (ha : ans = none) : WalkTold E yes no w ans (.returned (.tuple #[.slice none 0 0, no])) w' := by
  subst ha
  exact ⟨rfl, h⟩
/- while it walks -/
structure Goes (E : TypeId) (w : World) (code : List Nat) (op : Int) (ans : Option (List RefD)) (v : Value) (wr : World) (p : Int) (acc : List RefD) : Prop where
  row : SRow E 3 wr v acc.length (rows refRow acc)
  fresh : ∀ j, own v j → w.heap.size ≤ j
  below : Below w.heap.size w wr
  rest : walkG code op p acc = ans
  few : (acc.length : Int) + p < code.length ∨ acc = []
theorem Goes.on {E : TypeId} {w : World} {code : List Nat} {op : Int} {ans : Option (List RefD)} {v : Value} {wr w' : World} {p : Int} {acc : List RefD} (h : Goes E w code op ans v wr p acc) (hb : Below wr.heap.size wr w') : Goes E w code op ans v w' p acc :=
  ⟨h.row.keep (Kept.of_below (S := fun _ => False) hb) (fun _ _ e => e), h.fresh, below_on h.below hb h.below.size, h.rest, h.few⟩
theorem Goes.small {E : TypeId} {w : World} {code : List Nat} {op : Int} {ans : Option (List RefD)} {v : Value} {wr : World} {k : Nat} {acc : List RefD} (h : Goes E w code op ans v wr k acc) (hk : k < code.length) : acc.length + k < code.length := by
  rcases h.few with h1 | h1
  · omega
  · rw [h1]; simp; omega
/- one reference more -/
theorem Goes.more {E : TypeId} {w : World} {code : List Nat} {op : Int} {ans : Option (List RefD)} {v v' : Value} {wr w' : World} {k : Nat} {acc : List RefD} {x : Nat} (h : Goes E w code op ans v wr k acc) (_ : k < code.length)
    (h1 : SRow E 3 w' v' (acc ++ [refOf k x]).length (rows refRow (acc ++ [refOf k x]))) (h2 : Grew wr w' v v') : WalkWay E w w' v' (acc ++ [refOf k x]) :=
  ⟨h1, fun j hj => by
    rcases h2.2 j hj with e | e
    · exact h.fresh j e
    · exact Nat.le_trans h.below.size e, h2.1.below h.below h.below.size fun j _ hj => h.fresh j hj⟩
theorem Goes.next {E : TypeId} {w : World} {code : List Nat} {op : Int} {ans : Option (List RefD)} {v v' : Value} {wr w' : World} {k : Nat} {acc : List RefD} {x d : Nat} (h : Goes E w code op ans v wr k acc) (hk : k < code.length)
    (h3 : WalkWay E w w' v' (acc ++ [refOf k x])) (hd : 0 < d) (h4 : walkG code op ((k : Int) - d) (acc ++ [refOf k x]) = ans) : Goes E w code op ans v' w' ((k : Int) - d) (acc ++ [refOf k x]) :=
  ⟨h3.1, h3.2.1, h3.2.2, h4, .inl (by have := h.small hk; simp; omega)⟩

theorem refs_ones (x : RefD) : Ones (refRow x) := refRow_one x
end Go.Proofs.Ytpckcjhffpokeaa
