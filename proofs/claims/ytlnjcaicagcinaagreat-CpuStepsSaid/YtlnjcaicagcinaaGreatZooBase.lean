/-
  Zones made behind other calls (layer 6). No conditions beyond those that each theorem names.
-/
import Derived.Test.YtlnjcaicagcinaaGreatZoneT
namespace Go.Proofs.YtlnjcaicagcinaaGreat
open Go.ChangeShapes Go.WideShapes Go.ChangeAt Go.RowKit

theorem Zoo.base {w w1 w2 : World} {zp mb n : Nat} {L : List ZR} (h : Zoo w1.heap.size w1 w2 zp mb L n) (hb : Below w.heap.size w w1) : Zoo w.heap.size w w2 zp mb L n := by
  obtain ⟨lv, hz, ho⟩ := h.is
  exact ⟨⟨lv, hz, fun j hj => Nat.le_trans hb.size (ho j hj)⟩, Nat.le_trans hb.size h.lz, Nat.le_trans hb.size h.lm, hb.trans (h.below.mono hb.size), h.few⟩
end Go.Proofs.YtlnjcaicagcinaaGreat
