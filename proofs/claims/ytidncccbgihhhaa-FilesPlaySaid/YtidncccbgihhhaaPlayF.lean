/-
  The program's files and the document's, side by side (FilesPlay): what each call does to both. No conditions beyond those that each theorem names.
-/
import Derived.Test.YtidncccbgihhhaaRfPut
import Derived.Test.YtidncccbgihhhaaFilesU
import Derived.Test.YtidncccbgihhhaaDeedF
import Derived.Test.YtidncccbgihhhaaCodeV
import Derived.Test.YtidncccbgihhhaaPick
namespace Go.Proofs.Ytidncccbgihhhaa
open Go.ChangeShapes Go.WideShapes Go.ChangeAt Go.RowKit

def Fine (R : RL) : Prop := ∀ p ∈ R, NameP p.1 ∧ p.2.2.length ≤ 4000
theorem Fine.put {R : RL} (h : Fine R) (s : ByteArray) (v : Value) (l : List Nat) : Fine (putN R s l.length (v, l)) := by
  intro p hp
  unfold putN at hp
  split at hp
  · rename_i hc
    rcases mem_put hp with rfl | ⟨hp, _⟩
    · exact ⟨(putC_zero hc).1, (putC_zero hc).2.1⟩
    · exact h p hp
  · exact h p hp
theorem Fine.del {R : RL} (h : Fine R) (s : ByteArray) : Fine (delN R s) := by
  intro p hp
  unfold delN at hp
  split at hp
  · exact h p (mem_del.1 hp).1
  · exact h p hp
structure PlayAt (w wr : World) (fb mb rb : Nat) (lv : Value) (Rr Rf : RL) : Prop where
  files : FilesAt 0 wr fb mb Rr
  ref : RefAt wr rb lv Rf
  same : low Prod.snd Rr = low Prod.snd Rf
  mine : ∀ j, Mine rb lv j → w.heap.size ≤ j
  map_ : w.heap.size ≤ mb
  below : Below w.heap.size w wr
  fine : Fine Rr
theorem PlayAt.on {w wr wx : World} {fb mb rb : Nat} {lv : Value} {Rr Rf : RL} (h : PlayAt w wr fb mb rb lv Rr Rf) (hb : Below wr.heap.size wr wx) : PlayAt w wx fb mb rb lv Rr Rf :=
  ⟨h.files.on hb, h.ref.on hb, h.same, h.mine, h.map_, below_on h.below hb h.below.size, h.fine⟩
/- behind the program's call -/
theorem PlayAt.ref1 {w wr w1 : World} {fb mb rb : Nat} {lv : Value} {Rr Rf : RL} (h : PlayAt w wr fb mb rb lv Rr Rf) (k1 : Kept (· = mb) wr w1) : RefAt w1 rb lv Rf :=
  h.ref.keep k1 fun _ _ _ hj e => h.files.map.no_row hj e
/- behind both -/
theorem PlayAt.step {w wr w1 w2 : World} {fb mb rb : Nat} {lv : Value} {Rr Rf Rr' Rf' : RL} (h : PlayAt w wr fb mb rb lv Rr Rf) (hF : FilesAt 0 w1 fb mb Rr') (k1 : Kept (· = mb) wr w1) (hs : RefStep w1 w2 rb lv Rf') (he : low Prod.snd Rr' = low Prod.snd Rf') (hfi : Fine Rr') :
    ∃ lv', PlayAt w w2 fb mb rb lv' Rr' Rf' := by
  obtain ⟨lv', hr, hk, ho⟩ := hs
  have b1 := k1.below h.below h.below.size fun j _ e => by rw [e]; exact h.map_
  refine ⟨lv', (h.ref1 k1).files hk hF, hr, he, ?_, h.map_, hk.below b1 b1.size (fun j _ hj => h.mine j hj), hfi⟩
  rintro j (rfl | hj)
  · exact h.mine _ (.inl rfl)
  · rcases ho j hj with hj | hj
    · exact h.mine _ (.inr hj)
    · exact Nat.le_trans b1.size hj
theorem same_put {Rr Rf : RL} (h : low Prod.snd Rr = low Prod.snd Rf) (s : ByteArray) (n : Nat) (v v' : Value) (l : List Nat) : putC Rr s n = putC Rf s n ∧ low Prod.snd (putN Rr s n (v, l)) = low Prod.snd (putN Rf s n (v', l)) := by
  refine ⟨?_, by rw [low_putN, low_putN, h]⟩
  rw [← putC_low Prod.snd Rr, ← putC_low Prod.snd Rf, h]
theorem same_del {Rr Rf : RL} (h : low Prod.snd Rr = low Prod.snd Rf) (s : ByteArray) : missC Rr s = missC Rf s ∧ low Prod.snd (delN Rr s) = low Prod.snd (delN Rf s) := by
  refine ⟨?_, by rw [low_delN, low_delN, h]⟩
  rw [← missC_low Prod.snd Rr, ← missC_low Prod.snd Rf, h]
theorem missC_le {α : Type} (L : List (ByteArray × α)) (s : ByteArray) : missC L s ≤ 13 := by
  unfold missC
  split
  · split <;> omega
  · omega
theorem putC_le {α : Type} (L : List (ByteArray × α)) (s : ByteArray) (n : Nat) : putC L s n ≤ 13 := by
  unfold putC
  split
  · split
    · omega
    · split <;> omega
  · omega
theorem same_length {Rr Rf : RL} (h : low Prod.snd Rr = low Prod.snd Rf) : Rr.length = Rf.length := by rw [← length_low Prod.snd Rr, h, length_low]
theorem same_at {Rr Rf : RL} (h : low Prod.snd Rr = low Prod.snd Rf) {s : ByteArray} {x : Value × List Nat} (hx : (s, x) ∈ Rf) : ∃ v, (s, (v, x.2)) ∈ Rr := by
  have : (s, x.2) ∈ low Prod.snd Rr := by rw [h]; exact mem_low.2 ⟨x, hx, rfl⟩
  obtain ⟨a, ha, e⟩ := mem_low.1 this
  exact ⟨a.1, by rw [← e]; exact ha⟩

/- a deed, in a variable of its own -/
abbrev DT : TypeId := 32
abbrev dcells (x : Int) (s : ByteArray) (v : Value) : List Value := [.int .i64 x, .string s, v]
theorem deed_held {w : World} {xb : Nat} {x : Int} {s : ByteArray} {v : Value} (h : RowAt w xb DT (dcells x s v)) : (w.cell? ⟨xb, 1, none⟩ = some (.string s) ∧ w.cell? ⟨xb, 2, none⟩ = some v) ∧ RowAt w xb DT (dcells x s v) := ⟨⟨h.cell 1, h.cell 2⟩, h⟩
theorem PlayAt.deed1 {w wr w1 : World} {fb mb rb xb : Nat} {lv : Value} {Rr Rf : RL} (h : PlayAt w wr fb mb rb lv Rr Rf) (k1 : Kept (· = mb) wr w1) {x : Int} {s : ByteArray} {v : Value} (hx : RowAt wr xb DT (dcells x s v)) : RowAt w1 xb DT (dcells x s v) :=
  hx.keep k1 fun e => h.files.map.no_row hx e
theorem RefStep.deed {w1 w2 : World} {rb xb : Nat} {lv : Value} {R R' : RL} (hs : RefStep w1 w2 rb lv R') (h : RefAt w1 rb lv R) {x : Int} {s : ByteArray} {v : Value} (hx : RowAt w1 xb DT (dcells x s v)) : RowAt w2 xb DT (dcells x s v) := by
  obtain ⟨lv', _, hk, _⟩ := hs
  refine hx.keep hk ?_
  rintro (rfl | hj)
  · exact absurd (row_type hx h.head) (by decide)
  · obtain ⟨cs', hr'⟩ := h.row.row hj
    exact absurd (row_type hx hr') (by decide)

theorem ref_new (w : World) : RefAt (w.alloc (.cells #[.slice none 0 0] RFT)) w.heap.size (.slice none 0 0) [] :=
  ⟨RowAt.new w RFT [.slice none 0 0], SRow.nil _ _ _, (fun p hp => by cases hp), by simp [nms], by simp⟩
end Go.Proofs.Ytidncccbgihhhaa
