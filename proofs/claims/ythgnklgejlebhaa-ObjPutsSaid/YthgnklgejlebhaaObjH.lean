/-
  The program's readers of an object's elements, and of lists of them (layer 12). No conditions beyond those that each theorem names. (Written by wip/tools/obj-g.py.)
-/
import Derived.Test.YthgnklgejlebhaaObjG
import Derived.Deep.DeepCutAuto
namespace Go.Proofs.Ythgnklgejlebhaa
open Go.ChangeShapes Go.WideShapes Go.ChangeAt Go.RowKit

/- a whole element stored into a block of its own -/
theorem told_row {w : World} {b k : Nat} {t : TypeId} {cs xs : List Value} (h : RowAt w b t cs) (hc : cs.length = k) (hx : xs.length = k) (h1 : Ones xs) (hs : (Try.prog.info? t).map (·.size) = some k) :
    (Instr.storeAt t (.pointer (some ⟨b, 0, none⟩)) (.agg xs.toArray)).run Try.prog w = .ok () (w.setRow b xs.toArray) ∧ RowAt (w.setRow b xs.toArray) b t xs ∧ Kept (· = b) w (w.setRow b xs.toArray) := by
  have hr := store_el (P := Try.prog) h 0 (⟨xs, hx, h1⟩ : El k) t hs (.agg xs.toArray) (by simp [Value.cells]) (by omega)
  rw [splice_all cs xs (by omega)] at hr
  exact ⟨hr, h.set xs, kept_row w b _⟩
theorem size_imp : (Try.prog.info? 53).map (·.size) = some 2 := by kernel_rfl
theorem size_cmd : (Try.prog.info? 57).map (·.size) = some 2 := by kernel_rfl
theorem size_exp : (Try.prog.info? 59).map (·.size) = some 2 := by kernel_rfl
theorem size_type : (Try.prog.info? 55).map (·.size) = some 3 := by kernel_rfl
theorem ones_imp (x : ByteArray × Nat) : Ones (impRow x) := by intro u hu; simp [impRow] at hu; rcases hu with rfl | rfl <;> rfl
theorem ones_cmd (x : ByteArray × Int) : Ones (cmdRow x) := by intro u hu; simp [cmdRow] at hu; rcases hu with rfl | rfl <;> rfl
theorem ones_exp (x : Int × Int) : Ones (expRow x) := by intro u hu; simp [expRow] at hu; rcases hu with rfl | rfl <;> rfl
theorem ones_type (x : Int × Int × Int) : Ones (typeRow x) := by intro u hu; simp [typeRow] at hu; rcases hu with rfl | rfl | rfl <;> rfl
theorem ones_word (x : Nat) : Ones (wordRow x) := by intro u hu; simp [wordRow] at hu; subst hu; rfl
theorem ones_int (x : Int) : Ones (intRow x) := by intro u hu; simp [intRow] at hu; subst hu; rfl
theorem PrR.then {pb B : Nat} {w0 w w' : World} {α : Type} {f : Ps → α × Ps} {s : Ps} (h : PrR pb B w f s w') (k : Kept (· = pb) w0 w) : PrR pb B w0 f s w' := ⟨h.1, k.trans h.2⟩

set_option maxRecDepth 100000 in
set_option maxHeartbeats 1000000 in
theorem pimp_any (pb B : Nat) (hB : B ≤ pb) (s : Ps) (w : World) (h : PrS w pb B s) :
    Calls Try.prog 53 #[.pointer (some ⟨pb, 0, none⟩)] w fun e w' => e = .returned (.agg (impRow (pImp s).1).toArray) ∧ PrR pb B w pImp s w' := by
  have hlt := h.lt
  have D : Hid (RowAt (w.alloc (.cells #[.string ⟨#[]⟩, .int .u32 0] 53)) w.heap.size 53 [.string ⟨#[]⟩, .int .u32 0] ∧ PrS (w.alloc (.cells #[.string ⟨#[]⟩, .int .u32 0] 53)) pb B s ∧ Kept (· = pb) w (w.alloc (.cells #[.string ⟨#[]⟩, .int .u32 0] 53))) := ⟨RowAt.new w _ _, h.keep ((Kept.refl (fun _ => False) w).alloc _) (fun h => h) (fun _ h => h.elim), (Kept.refl _ w).alloc _⟩
  have HL : Hid (pb < w.heap.size) := hlt
  have HN : Hid (∀ wx : World, Kept (· = w.heap.size) wx wx → True) := fun _ _ => trivial
  have HO : Hid (∀ k, k < w.heap.size → k = w.heap.size → False) := fun k h1 h2 => by omega
  clear h hlt HN
  go_enter Try.func53, Try.ntmps53
  go_upto_region 1 with fail
  generalize (w.alloc (.cells #[.string ⟨#[]⟩, .int .u32 0] 53)) = w0 at *
  have HOB : Hid (∀ wx wy : World, Kept (· = pb) w wx → Kept (· = w.heap.size) wx wy → Kept (· = pb) w wy) := fun wx wy h1 h2 => h1.then (T := (· = w.heap.size)) h2 (fun k hk e => by omega)
  generalize w.heap.size = ob at *
  go_wp2_with fail
  refine (pt_any pb B (s) _ D.out.2.1).mono ?_
  rintro e w1 ⟨rfl, p1, k1⟩
  have D1 := Lib.hid (And.intro (D.out.1.keep k1 (fun e => by have := HL.out; omega)) (And.intro p1 (D.out.2.2.trans k1)))
  clear p1 k1 D
  go_wp2_with fail
  refine (pn_any pb B ((pt s).2) 4 _ D1.out.2.1).mono ?_
  rintro e w2 ⟨rfl, p2, k2⟩
  have D2 := Lib.hid (And.intro (D1.out.1.keep k2 (fun e => by have := HL.out; omega)) (And.intro p2 (D1.out.2.2.trans k2)))
  clear p2 k2 D1
  have RUN := Lib.hid (told_row D2.out.1 (xs := impRow (pImp s).1) (k := 2) rfl rfl (ones_imp _) size_imp)
  have RES : Hid (PrR pb B w pImp s (w2.setRow ob (impRow (pImp s).1).toArray)) := ⟨D2.out.2.1.keep RUN.out.2.2 (fun e => by have := HL.out; omega) (fun j e => by have := HL.out; omega), HOB.out _ _ D2.out.2.2 RUN.out.2.2⟩
  clear D2 HL HO HOB
  go_wp2_with (refine wpList_store_run _ rfl _ _ _ rfl _ _ rfl rfl (by exact RUN.out.1) ?_)
  refine bodyPost_ret (v := .agg (impRow (pImp s).1).toArray) ?_ rfl ⟨rfl, RES.out⟩
  exact results_cell_row Try.results53 _ _ ob 53 _ _ _ rfl RUN.out.2.1 Try.underlying53 rfl (by rw [size_imp]; rfl)

set_option maxRecDepth 100000 in
set_option maxHeartbeats 1000000 in
theorem pcmd_any (pb B : Nat) (hB : B ≤ pb) (s : Ps) (w : World) (h : PrS w pb B s) :
    Calls Try.prog 60 #[.pointer (some ⟨pb, 0, none⟩)] w fun e w' => e = .returned (.agg (cmdRow (pCmd s).1).toArray) ∧ PrR pb B w pCmd s w' := by
  have hlt := h.lt
  have D : Hid (RowAt (w.alloc (.cells #[.string ⟨#[]⟩, .int .i64 0] 57)) w.heap.size 57 [.string ⟨#[]⟩, .int .i64 0] ∧ PrS (w.alloc (.cells #[.string ⟨#[]⟩, .int .i64 0] 57)) pb B s ∧ Kept (· = pb) w (w.alloc (.cells #[.string ⟨#[]⟩, .int .i64 0] 57))) := ⟨RowAt.new w _ _, h.keep ((Kept.refl (fun _ => False) w).alloc _) (fun h => h) (fun _ h => h.elim), (Kept.refl _ w).alloc _⟩
  have HL : Hid (pb < w.heap.size) := hlt
  have HN : Hid (∀ wx : World, Kept (· = w.heap.size) wx wx → True) := fun _ _ => trivial
  have HO : Hid (∀ k, k < w.heap.size → k = w.heap.size → False) := fun k h1 h2 => by omega
  clear h hlt HN
  go_enter Try.func60, Try.ntmps60
  go_upto_region 1 with fail
  generalize (w.alloc (.cells #[.string ⟨#[]⟩, .int .i64 0] 57)) = w0 at *
  have HOB : Hid (∀ wx wy : World, Kept (· = pb) w wx → Kept (· = w.heap.size) wx wy → Kept (· = pb) w wy) := fun wx wy h1 h2 => h1.then (T := (· = w.heap.size)) h2 (fun k hk e => by omega)
  generalize w.heap.size = ob at *
  go_wp2_with fail
  refine (pt_any pb B (s) _ D.out.2.1).mono ?_
  rintro e w1 ⟨rfl, p1, k1⟩
  have D1 := Lib.hid (And.intro (D.out.1.keep k1 (fun e => by have := HL.out; omega)) (And.intro p1 (D.out.2.2.trans k1)))
  clear p1 k1 D
  go_wp2_with fail
  refine (pplace_any pb B ((pt s).2) _ D1.out.2.1).mono ?_
  rintro e w2 ⟨rfl, p2, k2⟩
  have D2 := Lib.hid (And.intro (D1.out.1.keep k2 (fun e => by have := HL.out; omega)) (And.intro p2 (D1.out.2.2.trans k2)))
  clear p2 k2 D1
  have RUN := Lib.hid (told_row D2.out.1 (xs := cmdRow (pCmd s).1) (k := 2) rfl rfl (ones_cmd _) size_cmd)
  have RES : Hid (PrR pb B w pCmd s (w2.setRow ob (cmdRow (pCmd s).1).toArray)) := ⟨D2.out.2.1.keep RUN.out.2.2 (fun e => by have := HL.out; omega) (fun j e => by have := HL.out; omega), HOB.out _ _ D2.out.2.2 RUN.out.2.2⟩
  clear D2 HL HO HOB
  go_wp2_with (refine wpList_store_run _ rfl _ _ _ rfl _ _ rfl rfl (by exact RUN.out.1) ?_)
  refine bodyPost_ret (v := .agg (cmdRow (pCmd s).1).toArray) ?_ rfl ⟨rfl, RES.out⟩
  exact results_cell_row Try.results60 _ _ ob 57 _ _ _ rfl RUN.out.2.1 Try.underlying57 rfl (by rw [size_cmd]; rfl)

set_option maxRecDepth 100000 in
set_option maxHeartbeats 1000000 in
theorem pexp_any (pb B : Nat) (hB : B ≤ pb) (s : Ps) (w : World) (h : PrS w pb B s) :
    Calls Try.prog 62 #[.pointer (some ⟨pb, 0, none⟩)] w fun e w' => e = .returned (.agg (expRow (pExp s).1).toArray) ∧ PrR pb B w pExp s w' := by
  have hlt := h.lt
  have D : Hid (RowAt (w.alloc (.cells #[.int .i64 0, .int .i64 0] 59)) w.heap.size 59 [.int .i64 0, .int .i64 0] ∧ PrS (w.alloc (.cells #[.int .i64 0, .int .i64 0] 59)) pb B s ∧ Kept (· = pb) w (w.alloc (.cells #[.int .i64 0, .int .i64 0] 59))) := ⟨RowAt.new w _ _, h.keep ((Kept.refl (fun _ => False) w).alloc _) (fun h => h) (fun _ h => h.elim), (Kept.refl _ w).alloc _⟩
  have HL : Hid (pb < w.heap.size) := hlt
  have HN : Hid (∀ wx : World, Kept (· = w.heap.size) wx wx → True) := fun _ _ => trivial
  have HO : Hid (∀ k, k < w.heap.size → k = w.heap.size → False) := fun k h1 h2 => by omega
  clear h hlt HN
  go_enter Try.func62, Try.ntmps62
  go_upto_region 1 with fail
  generalize (w.alloc (.cells #[.int .i64 0, .int .i64 0] 59)) = w0 at *
  have HOB : Hid (∀ wx wy : World, Kept (· = pb) w wx → Kept (· = w.heap.size) wx wy → Kept (· = pb) w wy) := fun wx wy h1 h2 => h1.then (T := (· = w.heap.size)) h2 (fun k hk e => by omega)
  generalize w.heap.size = ob at *
  go_wp2_with fail
  refine (pbyte_any pb B (s) _ D.out.2.1).mono ?_
  rintro e w1 ⟨rfl, p1, k1⟩
  have D1 := Lib.hid (And.intro (D.out.1.keep k1 (fun e => by have := HL.out; omega)) (And.intro p1 (D.out.2.2.trans k1)))
  clear p1 k1 D
  go_wp2_with fail
  refine (pplace_any pb B ((pByte s).2) _ D1.out.2.1).mono ?_
  rintro e w2 ⟨rfl, p2, k2⟩
  have D2 := Lib.hid (And.intro (D1.out.1.keep k2 (fun e => by have := HL.out; omega)) (And.intro p2 (D1.out.2.2.trans k2)))
  clear p2 k2 D1
  have RUN := Lib.hid (told_row D2.out.1 (xs := expRow (pExp s).1) (k := 2) rfl rfl (ones_exp _) size_exp)
  have RES : Hid (PrR pb B w pExp s (w2.setRow ob (expRow (pExp s).1).toArray)) := ⟨D2.out.2.1.keep RUN.out.2.2 (fun e => by have := HL.out; omega) (fun j e => by have := HL.out; omega), HOB.out _ _ D2.out.2.2 RUN.out.2.2⟩
  clear D2 HL HO HOB
  go_wp2_with (refine wpList_store_run _ rfl _ _ _ rfl _ _ rfl rfl (by exact RUN.out.1) ?_)
  refine bodyPost_ret (v := .agg (expRow (pExp s).1).toArray) ?_ rfl ⟨rfl, RES.out⟩
  exact results_cell_row Try.results62 _ _ ob 59 _ _ _ rfl RUN.out.2.1 Try.underlying59 rfl (by rw [size_exp]; rfl)

set_option maxRecDepth 100000 in
set_option maxHeartbeats 1000000 in
theorem ptype_any (pb B : Nat) (hB : B ≤ pb) (s : Ps) (w : World) (h : PrS w pb B s) :
    Calls Try.prog 55 #[.pointer (some ⟨pb, 0, none⟩)] w fun e w' => e = .returned (.agg (typeRow (pType s).1).toArray) ∧ PrR pb B w pType s w' := by
  have hlt := h.lt
  have D : Hid (RowAt (w.alloc (.cells #[.int .i64 0, .int .i64 0, .int .i64 0] 55)) w.heap.size 55 [.int .i64 0, .int .i64 0, .int .i64 0] ∧ PrS (w.alloc (.cells #[.int .i64 0, .int .i64 0, .int .i64 0] 55)) pb B s ∧ Kept (· = pb) w (w.alloc (.cells #[.int .i64 0, .int .i64 0, .int .i64 0] 55))) := ⟨RowAt.new w _ _, h.keep ((Kept.refl (fun _ => False) w).alloc _) (fun h => h) (fun _ h => h.elim), (Kept.refl _ w).alloc _⟩
  have HL : Hid (pb < w.heap.size) := hlt
  have HN : Hid (∀ wx : World, Kept (· = w.heap.size) wx wx → True) := fun _ _ => trivial
  have HO : Hid (∀ k, k < w.heap.size → k = w.heap.size → False) := fun k h1 h2 => by omega
  clear h hlt HN
  go_enter Try.func55, Try.ntmps55
  go_upto_region 1 with fail
  generalize (w.alloc (.cells #[.int .i64 0, .int .i64 0, .int .i64 0] 55)) = w0 at *
  have HOB : Hid (∀ wx wy : World, Kept (· = pb) w wx → Kept (· = w.heap.size) wx wy → Kept (· = pb) w wy) := fun wx wy h1 h2 => h1.then (T := (· = w.heap.size)) h2 (fun k hk e => by omega)
  generalize w.heap.size = ob at *
  go_wp2_with fail
  refine (pplace_any pb B (s) _ D.out.2.1).mono ?_
  rintro e w1 ⟨rfl, p1, k1⟩
  have D1 := Lib.hid (And.intro (D.out.1.keep k1 (fun e => by have := HL.out; omega)) (And.intro p1 (D.out.2.2.trans k1)))
  clear p1 k1 D
  go_wp2_with fail
  refine (pbyte_any pb B ((pPlace s).2) _ D1.out.2.1).mono ?_
  rintro e w2 ⟨rfl, p2, k2⟩
  have D2 := Lib.hid (And.intro (D1.out.1.keep k2 (fun e => by have := HL.out; omega)) (And.intro p2 (D1.out.2.2.trans k2)))
  clear p2 k2 D1
  go_wp2_with fail
  refine (pbase_any pb B ((pByte ((pPlace s).2)).2) _ D2.out.2.1).mono ?_
  rintro e w3 ⟨rfl, p3, k3⟩
  have D3 := Lib.hid (And.intro (D2.out.1.keep k3 (fun e => by have := HL.out; omega)) (And.intro p3 (D2.out.2.2.trans k3)))
  clear p3 k3 D2
  have RUN := Lib.hid (told_row D3.out.1 (xs := typeRow (pType s).1) (k := 3) rfl rfl (ones_type _) size_type)
  have RES : Hid (PrR pb B w pType s (w3.setRow ob (typeRow (pType s).1).toArray)) := ⟨D3.out.2.1.keep RUN.out.2.2 (fun e => by have := HL.out; omega) (fun j e => by have := HL.out; omega), HOB.out _ _ D3.out.2.2 RUN.out.2.2⟩
  clear D3 HL HO HOB
  go_wp2_with (refine wpList_store_run _ rfl _ _ _ rfl _ _ rfl rfl (by exact RUN.out.1) ?_)
  refine bodyPost_ret (v := .agg (typeRow (pType s).1).toArray) ?_ rfl ⟨rfl, RES.out⟩
  exact results_cell_row Try.results55 _ _ ob 55 _ _ _ rfl RUN.out.2.1 Try.underlying55 rfl (by rw [size_type]; rfl)

end Go.Proofs.Ythgnklgejlebhaa
