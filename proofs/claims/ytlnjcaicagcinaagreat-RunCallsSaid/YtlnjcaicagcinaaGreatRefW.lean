/-
  The document's zones (dowelref05): Ints; a zone as the document's. No conditions beyond those that each theorem names.
-/
import Derived.Test.YtlnjcaicagcinaaGreatRefT
import Derived.Deep.RegionHeld3
namespace Go.Proofs.YtlnjcaicagcinaaGreat
open Go.ChangeShapes Go.WideShapes Go.ChangeAt Go.RowKit

theorem store_rzone {w : World} {b : Nat} {t : TypeId} {cs : List Value} (h : RowAt w b t cs) (hl : cs.length = 6) (x : ZR) :
    (Instr.storeAt RZT (.pointer (some ⟨b, 0, none⟩)) (.agg #[.int .i64 x.z.b, .int .i64 x.z.d, .int .i64 x.z.r, .int .i64 x.z.e, x.p.v, x.q.v])).run Tryz.prog w = .ok () (w.setRow b x.el.cs.toArray) := by
  have := store_el (P := Tryz.prog) h 0 x.el RZT sizeR x.v rfl (by omega)
  rw [splice_all _ _ (by rw [hl, x.el.len])] at this
  exact this

set_option maxRecDepth 100000 in
set_option maxHeartbeats 1000000 in
theorem as6_any (x : ZR) (w : World) : Calls Tryz.prog 20 #[x.v] w fun e w' => e = .returned (.agg #[.int .i64 x.z.b, .int .i64 x.z.d, .int .i64 x.z.r, .int .i64 x.z.e, x.p.v, x.q.v]) ∧ Kept No w w' := by
  obtain ⟨W0, hW0⟩ : ∃ W0, W0 = (w.alloc (.cells #[.int .i64 x.z.b, .int .i64 x.z.d, .int .i64 x.z.r, .int .i64 x.z.e, x.p.v, x.q.v] ZT)).alloc (.cells #[.int .i64 0, .int .i64 0, .int .i64 0, .int .i64 0, .slice none 0 0, .slice none 0 0] RZT) := ⟨_, rfl⟩
  have e0 : (w.alloc (.cells #[.int .i64 x.z.b, .int .i64 x.z.d, .int .i64 x.z.r, .int .i64 x.z.e, x.p.v, x.q.v] ZT)).heap.size = w.heap.size + 1 := by simp
  have r0 : RowAt W0 w.heap.size ZT x.el.cs := by rw [hW0]; exact (RowAt.new w ZT x.el.cs).keep (S := No) ((Kept.refl _ _).alloc _) (fun h => h)
  have r1 : RowAt W0 (w.heap.size + 1) RZT zeros6 := by
    have := RowAt.new (w.alloc (.cells #[.int .i64 x.z.b, .int .i64 x.z.d, .int .i64 x.z.r, .int .i64 x.z.e, x.p.v, x.q.v] ZT)) RZT zeros6
    rw [e0] at this
    rw [hW0]
    exact this
  have k0 : Kept No w W0 := by rw [hW0]; exact ((Kept.refl _ _).alloc _).alloc _
  obtain ⟨t0, t1, t2, t3, t4, t5⟩ := cells_zone r0
  simp only [Nat.zero_add] at t1 t2 t3 t4 t5
  have HS := Lib.hid (store_rzone r1 rfl x)
  have hk : Kept No w (W0.setRow (w.heap.size + 1) x.el.cs.toArray) := k0.then (kept_row W0 (w.heap.size + 1) x.el.cs.toArray) (fun j hj h => by omega)
  have HK := Lib.hid hk
  clear hk k0 e0
  obtain ⟨u0, u1, u2, u3, u4, u5⟩ := cells_zone (r1.set x.el.cs)
  simp only [Nat.zero_add] at u1 u2 u3 u4 u5
  clear r0 r1
  obtain ⟨z, ⟨pa, pn, pc⟩, ⟨qa, qn, qc⟩⟩ := x
  simp only [Sl.mk_v] at t0 t1 t2 t3 t4 t5 HS u0 u1 u2 u3 u4 u5 hW0
  subst hW0
  show Calls Tryz.prog 20 #[.agg #[.int .i64 z.b, .int .i64 z.d, .int .i64 z.r, .int .i64 z.e, .slice pa pn pc, .slice qa qn qc]] w _
  go_enter Tryz.func20, Tryz.ntmps20
  go_wp2_with (refine wpList_store_run _ rfl _ _ _ rfl _ _ rfl rfl (by exact HS.out) ?_)
  exact bodyPost_ret (v := .agg #[.int .i64 z.b, .int .i64 z.d, .int .i64 z.r, .int .i64 z.e, .slice pa pn pc, .slice qa qn qc]) (by simp [results, Tryz.results20, go_sem, u0, u1, u2, u3, u4, u5]) rfl ⟨rfl, HK.out⟩
end Go.Proofs.YtlnjcaicagcinaaGreat
