/-
  The walk of ZonePlays (layer 6), under way. No conditions.
-/
import Derived.Test.YtlnjcaicagcinaaGreatZooBase
import Derived.Test.YtlnjcaicagcinaaGreatZoneY
import Derived.Test.YtlnjcaicagcinaaGreatRefS6
import Derived.Test.YtlnjcaicagcinaaGreatRefX
namespace Go.Proofs.YtlnjcaicagcinaaGreat
open Go.ChangeShapes Go.WideShapes Go.ChangeAt Go.RowKit

/- both sides, in a world -/
structure Both (w wr : World) (zp mb : Nat) (L M : List ZR) (m : Value) (n : Nat) : Prop where
  zoo : Zoo w.heap.size w wr zp mb L n
  row : SRow RZT 6 wr m M.length (zcs M)
  ints : ∀ x ∈ M, IntsAt w x.p x.z.P ∧ IntsAt w x.q x.z.Q
  same : M.map ZR.z = L.map ZR.z
theorem Both.still {w wr w' : World} {zp mb n : Nat} {L M : List ZR} {m : Value} (h : Both w wr zp mb L M m n) (k : Kept No wr w') : Both w w' zp mb L M m n :=
  ⟨h.zoo.on k.none, h.row.keep k (fun _ _ h => h), h.ints, h.same⟩
theorem Both.ref {w wr : World} {zp mb n : Nat} {L M : List ZR} {m : Value} (h : Both w wr zp mb L M m n) : RefAt wr m M := ⟨h.row, fun x hx => ⟨(h.ints x hx).1.on h.zoo.below, (h.ints x hx).2.on h.zoo.below⟩⟩
theorem Both.good {w wr : World} {zp mb n : Nat} {L M : List ZR} {m : Value} (h : Both w wr zp mb L M m n) : Good (M.map ZR.z) := by rw [h.same]; exact h.zoo.good
theorem Both.len {w wr : World} {zp mb n : Nat} {L M : List ZR} {m : Value} (h : Both w wr zp mb L M m n) : M.length = L.length := by have := congrArg List.length h.same; simpa using this
theorem Zoo.more {B : Nat} {w0 w : World} {zp mb n n' : Nat} {L : List ZR} (h : Zoo B w0 w zp mb L n) (hn : n ≤ n') : Zoo B w0 w zp mb L n' := by
  obtain ⟨lv, h1, h2⟩ := h.is
  exact ⟨⟨lv, ⟨h1.head, h1.list, h1.cells.mono hn, h1.good, h1.read, h1.small⟩, h2⟩, h.lz, h.lm, h.below, h.few⟩
theorem Both.more {w wr : World} {zp mb n n' : Nat} {L M : List ZR} {m : Value} (h : Both w wr zp mb L M m n) (hn : n ≤ n') : Both w wr zp mb L M m n' := ⟨h.zoo.more hn, h.row, h.ints, h.same⟩
/- the document's Add, then the program's -/
theorem Both.added {w wr w3 w4 : World} {zp mb n n' : Nat} {L M A B L' : List ZR} {x : ZR} {m v' : Value} (h : Both w wr zp mb L M m n) (hM : M = A ++ B) (hx : IntsAt w x.p x.z.P ∧ IntsAt w x.q x.z.Q) (hm : Made wr w3 v' (A ++ x :: B)) (hs : Spares w3 w4) (hz : Zoo w.heap.size w w4 zp mb L' n') (e : (A ++ x :: B).map ZR.z = L'.map ZR.z) : Both w w4 zp mb L' (A ++ x :: B) v' n' := by
  refine ⟨hz, hm.row.spared hs, fun u hu => ?_, e⟩
  have hc : u ∈ M ∨ u = x := by
    rw [hM]
    simp at hu ⊢
    rcases hu with hu | hu | hu <;> simp [hu]
  rcases hc with hu | rfl
  · exact h.ints u hu
  · exact hx

def PlaysRel (w wr : World) (zp mb n : Nat) (m i : Value) : Prop := ∃ k : Nat, k ≤ n ∧ i = .int .i64 k ∧ ∃ L M, Both w wr zp mb L M m (k * 200) ∧ L.length ≤ k
theorem Both.pload {w wr : World} {zp mb n : Nat} {L M : List ZR} {m : Value} (h : Both w wr zp mb L M m n) (a k : Int) : Calls Tryz.prog 89 #[.pointer (some ⟨zp, 0, none⟩), .int .i64 a, .int .i64 k] wr fun e w' => e = .returned (.bool (canLoad (L.map ZR.z) a k)) ∧ Both w w' zp mb L M m n := by
  obtain ⟨lv, hz, ho⟩ := h.zoo.is
  exact (canload_any zp mb lv L n a k wr hz).mono fun _ _ ⟨he, hb⟩ => ⟨he, h.still (.of_below hb)⟩
theorem Both.pstore {w wr : World} {zp mb n : Nat} {L M : List ZR} {m : Value} (h : Both w wr zp mb L M m n) (a k : Int) : Calls Tryz.prog 90 #[.pointer (some ⟨zp, 0, none⟩), .int .i64 a, .int .i64 k] wr fun e w' => e = .returned (.bool (canStore (L.map ZR.z) a k)) ∧ Both w w' zp mb L M m n := by
  obtain ⟨lv, hz, ho⟩ := h.zoo.is
  exact (canstore_any zp mb lv L n a k wr hz).mono fun _ _ ⟨he, hb⟩ => ⟨he, h.still (.of_below hb)⟩
theorem Both.prun {w wr : World} {zp mb n : Nat} {L M : List ZR} {m : Value} (h : Both w wr zp mb L M m n) (a : Int) : Calls Tryz.prog 49 #[.pointer (some ⟨zp, 0, none⟩), .int .i64 a] wr fun e w' => e = .returned (.bool (canRun (L.map ZR.z) a)) ∧ Both w w' zp mb L M m n := by
  obtain ⟨lv, hz, ho⟩ := h.zoo.is
  exact (canrun_any zp mb lv L n a wr hz).mono fun _ _ ⟨he, hb⟩ => ⟨he, h.still (.of_below hb)⟩
theorem Both.pcell {w wr : World} {zp mb n : Nat} {L M : List ZR} {m : Value} (h : Both w wr zp mb L M m n) (a : Int) (ha : (Lit.int .i64 a).wf = true) : Calls Tryz.prog 92 #[.pointer (some ⟨zp, 0, none⟩), .int .i64 a] wr fun e w' => e = .returned (.int .i64 (kindOf (L.map ZR.z) (a - a % 4))) ∧ Both w w' zp mb L M m n := by
  obtain ⟨lv, hz, ho⟩ := h.zoo.is
  exact (zcell_any zp mb lv L n a wr hz ha).mono fun _ _ ⟨he, hb⟩ => ⟨he, hb ▸ h⟩
theorem Both.pfits {w wr : World} {zp mb n : Nat} {L M : List ZR} {m : Value} (h : Both w wr zp mb L M m n) (k u : Int) : Calls Tryz.prog 91 #[.pointer (some ⟨zp, 0, none⟩), .int .i64 k, .int .i64 u] wr fun e w' => e = .returned (.bool (fitsZ (L.map ZR.z) k u)) ∧ Both w w' zp mb L M m n := by
  obtain ⟨lv, hz, ho⟩ := h.zoo.is
  exact (zfits_any zp mb lv L n k u wr hz).mono fun _ _ ⟨he, hb⟩ => ⟨he, h.still (.of_below hb)⟩
theorem Both.rload {w wr : World} {zp mb n : Nat} {L M : List ZR} {m : Value} (h : Both w wr zp mb L M m n) (a k : Int) (hk : k ≤ 9223372036854775807) (small : L.length ≤ 100) : Calls Tryz.prog 62 #[m, .int .i64 a, .int .i64 k] wr fun e w' => e = .returned (.bool (canLoad (L.map ZR.z) a k)) ∧ Both w w' zp mb L M m n := by
  have hl : M.length ≤ 100 := by rw [h.len]; exact small
  rw [← h.same]
  exact (rload_any a k m M wr h.ref h.good hk hl).mono fun _ _ ⟨he, hb⟩ => ⟨he, h.still hb⟩
theorem Both.rstore {w wr : World} {zp mb n : Nat} {L M : List ZR} {m : Value} (h : Both w wr zp mb L M m n) (a k : Int) (hk : k ≤ 9223372036854775807) (small : L.length ≤ 100) : Calls Tryz.prog 63 #[m, .int .i64 a, .int .i64 k] wr fun e w' => e = .returned (.bool (canStore (L.map ZR.z) a k)) ∧ Both w w' zp mb L M m n := by
  have hl : M.length ≤ 100 := by rw [h.len]; exact small
  rw [← h.same]
  exact (rstore_any a k m M wr h.ref h.good hk hl).mono fun _ _ ⟨he, hb⟩ => ⟨he, h.still hb⟩
theorem Both.rrun {w wr : World} {zp mb n : Nat} {L M : List ZR} {m : Value} (h : Both w wr zp mb L M m n) (a : Int) (small : L.length ≤ 100) : Calls Tryz.prog 25 #[m, .int .i64 a] wr fun e w' => e = .returned (.bool (canRun (L.map ZR.z) a)) ∧ Both w w' zp mb L M m n := by
  have hl : M.length ≤ 100 := by rw [h.len]; exact small
  rw [← h.same]
  exact (rrun_any a m M wr h.ref h.good hl).mono fun _ _ ⟨he, hb⟩ => ⟨he, hb ▸ h⟩
theorem Both.rcell {w wr : World} {zp mb n : Nat} {L M : List ZR} {m : Value} (h : Both w wr zp mb L M m n) (a : Int) (small : L.length ≤ 100) : Calls Tryz.prog 64 #[m, .int .i64 a] wr fun e w' => e = .returned (.int .i64 (kindOf (L.map ZR.z) (a - a % 4))) ∧ Both w w' zp mb L M m n := by
  have hl : M.length ≤ 100 := by rw [h.len]; exact small
  rw [← h.same]
  exact (rcell_any a m M wr h.ref h.good hl).mono fun _ _ ⟨he, hb⟩ => ⟨he, hb ▸ h⟩
theorem Both.rfits {w wr : World} {zp mb n : Nat} {L M : List ZR} {m : Value} (h : Both w wr zp mb L M m n) (k u : Int) (small : L.length ≤ 100) : Calls Tryz.prog 65 #[m, .int .i64 k, .int .i64 u] wr fun e w' => e = .returned (.bool (fitsZ (L.map ZR.z) k u)) ∧ Both w w' zp mb L M m n := by
  have hl : M.length ≤ 100 := by rw [h.len]; exact small
  rw [← h.same]
  exact (rfits_any k u m M wr h.ref h.good hl).mono fun _ _ ⟨he, hb⟩ => ⟨he, hb ▸ h⟩
end Go.Proofs.YtlnjcaicagcinaaGreat
