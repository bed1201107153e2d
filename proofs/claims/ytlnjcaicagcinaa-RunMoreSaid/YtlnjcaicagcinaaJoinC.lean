/-
  A machine of package cpu as plain data: a state, a memory, zones; what each of Step's ways does to it: load, store, of words and bytes (layer 7). No conditions beyond those that each theorem names.
-/
import Derived.Test.YtlnjcaicagcinaaJoinA
import Derived.Test.YtlnjcaicagcinaaMemB
import Derived.Test.YtlnjcaicagcinaaZoneH
import Derived.Deep.RegionHeld3
import Derived.Test.YtlnjcaicagcinaaJoinI
namespace Go.Proofs.Ytlnjcaicagcinaa
open Go.ChangeShapes Go.WideShapes Go.ChangeAt Go.RowKit

theorem byteRow_row {w : World} {g : Nat} {l : List Nat} (h : ByteRow w g l) : RowAt w g 5 (byteVals l) := h.1
theorem MemAt.row_head {w : World} {p g : Nat} {l : List Nat} (h : MemAt w p g l) : RowAt w p 70 [.slice (some ⟨g, 0, none⟩) l.length l.length] := h.head

/- zones stay where the block of a row of another type changes -/
def OtherType (t : TypeId) : Prop := t ≠ 76 ∧ t ≠ ZT ∧ t ≠ 3
theorem ZAt.keep_row {w w' : World} {zp mb : Nat} {lv : Value} {L : List ZR} {n : Nat} (h : ZAt w zp mb lv L n) {S : Nat → Prop} (k : Kept S w w') (hS : ∀ j, S j → ∃ t cs, RowAt w j t cs ∧ OtherType t) : ZAt w' zp mb lv L n := by
  have ne : ∀ {b : Nat} {t : TypeId} {cs : List Value}, RowAt w b t cs → (t = 76 ∨ t = ZT ∨ t = 3) → ¬ S b := by
    intro b t cs hr ht hs
    obtain ⟨t', cs', hr', h1, h2, h3⟩ := hS b hs
    refine RowAt.ne_type hr' hr ?_ rfl
    rcases ht with rfl | rfl | rfl <;> assumption
  refine ⟨h.head.keep k (ne h.head (.inl rfl)), h.list.keep k fun j hj => ?_, h.cells.keep k fun hs => ?_, h.good, fun x hx => (h.read x hx).keep k fun b cs hr => ne hr (.inr (.inr rfl)), h.small⟩
  · obtain ⟨ds, hr⟩ := h.list.own_row j hj
    exact ne hr (.inr (.inl rfl))
  · obtain ⟨t', cs', hr', _⟩ := hS mb hs
    exact hr'.ne_map h.cells rfl

/- a machine -/
structure Mach (w : World) (sp mp g zp mb : Nat) (lv : Value) (L : List ZR) (n : Nat) (r : List Int) (p : Int) (l : List Nat) : Prop where
  st : RowAt w sp ST (cst r p)
  mem : MemAt w mp g l
  z : ZAt w zp mb lv L n
  rl : r.length = 16
theorem Mach.on {w w' : World} {sp mp g zp mb : Nat} {lv : Value} {L : List ZR} {n : Nat} {r : List Int} {p : Int} {l : List Nat} (h : Mach w sp mp g zp mb lv L n r p l) (k : Kept No w w') : Mach w' sp mp g zp mb lv L n r p l :=
  ⟨h.st.keep k (fun h => h), h.mem.keep k (fun h => h) (fun h => h), h.z.keep_row k fun _ h => h.elim, h.rl⟩
theorem Mach.ne {w : World} {sp mp g zp mb : Nat} {lv : Value} {L : List ZR} {n : Nat} {r : List Int} {p : Int} {l : List Nat} (h : Mach w sp mp g zp mb lv L n r p l) : sp ≠ g ∧ sp ≠ mp :=
  ⟨RowAt.ne_type h.st (byteRow_row h.mem.row) (by decide), RowAt.ne_type h.st h.mem.row_head (by decide)⟩
/- the state is another one -/
theorem Mach.state {w w' : World} {sp mp g zp mb : Nat} {lv : Value} {L : List ZR} {n : Nat} {r r' : List Int} {p p' : Int} {l : List Nat} (h : Mach w sp mp g zp mb lv L n r p l) (k : Kept (· = sp) w w') (h' : RowAt w' sp ST (cst r' p')) (hr : r'.length = 16) : Mach w' sp mp g zp mb lv L n r' p' l :=
  ⟨h', h.mem.keep k (fun e => h.ne.2 e.symm) (fun e => h.ne.1 e.symm), h.z.keep_row k fun j hj => by subst hj; exact ⟨ST, _, h.st, by decide, by decide, by decide⟩, hr⟩
/- its bytes are others -/
theorem Mach.bytes {w w' : World} {sp mp g zp mb : Nat} {lv : Value} {L : List ZR} {n : Nat} {r : List Int} {p : Int} {l l' : List Nat} (h : Mach w sp mp g zp mb lv L n r p l) (k : Kept (· = g) w w') (h' : MemAt w' mp g l') : Mach w' sp mp g zp mb lv L n r p l' :=
  ⟨h.st.keep k (fun e => h.ne.1 e), h', h.z.keep_row k fun j hj => by subst hj; exact ⟨5, _, byteRow_row h.mem.row, by decide, by decide, by decide⟩, h.rl⟩

theorem Mach.reach {w : World} {sp mp g zp mb : Nat} {lv : Value} {L : List ZR} {n : Nat} {r : List Int} {p : Int} {l : List Nat} (h : Mach w sp mp g zp mb lv L n r p l) (o a c : Int) {b : Nat} (hb : b < 16) :
    Calls Try.prog 69 #[.pointer (some ⟨sp, 0, none⟩), .agg #[.int .i64 o, .int .i64 a, .int .i64 b, .int .i64 c]] w fun e w' => e = .returned (.int .i64 ((r.getD b 0 + c) % 4294967296)) ∧ Kept No w w' :=
  (reach_any sp r p o a c b w h.st h.rl hb).mono fun _ _ ⟨he, hk⟩ => ⟨he, .of_below hk⟩
theorem Mach.canLoad {w : World} {sp mp g zp mb : Nat} {lv : Value} {L : List ZR} {n : Nat} {r : List Int} {p : Int} {l : List Nat} (h : Mach w sp mp g zp mb lv L n r p l) (a k : Int) :
    Calls Try.prog 71 #[.pointer (some ⟨zp, 0, none⟩), .int .i64 a, .int .i64 k] w fun e w' => e = .returned (.bool (Proofs.Ytlnjcaicagcinaa.canLoad (L.map ZR.z) a k)) ∧ Kept No w w' :=
  (canload_any zp mb lv L n a k w h.z).mono fun _ _ ⟨he, hk⟩ => ⟨he, .of_below hk⟩
theorem Mach.canStore {w : World} {sp mp g zp mb : Nat} {lv : Value} {L : List ZR} {n : Nat} {r : List Int} {p : Int} {l : List Nat} (h : Mach w sp mp g zp mb lv L n r p l) (a k : Int) :
    Calls Try.prog 72 #[.pointer (some ⟨zp, 0, none⟩), .int .i64 a, .int .i64 k] w fun e w' => e = .returned (.bool (Proofs.Ytlnjcaicagcinaa.canStore (L.map ZR.z) a k)) ∧ Kept No w w' :=
  (canstore_any zp mb lv L n a k w h.z).mono fun _ _ ⟨he, hk⟩ => ⟨he, .of_below hk⟩
theorem Mach.canRun {w : World} {sp mp g zp mb : Nat} {lv : Value} {L : List ZR} {n : Nat} {r : List Int} {p : Int} {l : List Nat} (h : Mach w sp mp g zp mb lv L n r p l) (a : Int) :
    Calls Try.prog 47 #[.pointer (some ⟨zp, 0, none⟩), .int .i64 a] w fun e w' => e = .returned (.bool (Proofs.Ytlnjcaicagcinaa.canRun (L.map ZR.z) a)) ∧ Kept No w w' :=
  (canrun_any zp mb lv L n a w h.z).mono fun _ _ ⟨he, hk⟩ => ⟨he, .of_below hk⟩
theorem Mach.fits {w : World} {sp mp g zp mb : Nat} {lv : Value} {L : List ZR} {n : Nat} {r : List Int} {p : Int} {l : List Nat} (h : Mach w sp mp g zp mb lv L n r p l) (k v : Int) :
    Calls Try.prog 73 #[.pointer (some ⟨zp, 0, none⟩), .int .i64 k, .int .i64 v] w fun e w' => e = .returned (.bool (fitsZ (L.map ZR.z) k v)) ∧ Kept No w w' :=
  (zfits_any zp mb lv L n k v w h.z).mono fun _ _ ⟨he, hk⟩ => ⟨he, .of_below hk⟩
theorem Mach.cell {w : World} {sp mp g zp mb : Nat} {lv : Value} {L : List ZR} {n : Nat} {r : List Int} {p : Int} {l : List Nat} (h : Mach w sp mp g zp mb lv L n r p l) (a : Int) (ha : (Lit.int .i64 a).wf = true) :
    Calls Try.prog 74 #[.pointer (some ⟨zp, 0, none⟩), .int .i64 a] w fun e w' => e = .returned (.int .i64 (kindOf (L.map ZR.z) (a - a % 4))) ∧ Kept No w w' :=
  (zcell_any zp mb lv L n a w h.z ha).mono fun _ _ ⟨he, hk⟩ => ⟨he, hk ▸ .refl _ _⟩

theorem Kept.up {S : Nat → Prop} {a b : World} (h : Kept No a b) : Kept S a b := ⟨h.still, h.more, fun k hk _ => h.rest k hk fun h => h⟩
/- a register of the state is another one -/
theorem Mach.set {w v : World} {sp mp g zp mb : Nat} {lv : Value} {L : List ZR} {n : Nat} {r : List Int} {p : Int} {l : List Nat} (h : Mach w sp mp g zp mb lv L n r p l) (k : Kept No w v) {a : Nat} (ha : a < 16) (x : Int) :
    RowAt (v.setCell ⟨sp, a, none⟩ (.int .i32 x)) sp ST (cst (r.set a x) p) ∧ Kept (· = sp) w (v.setCell ⟨sp, a, none⟩ (.int .i32 x)) :=
  ⟨by rw [← cst_set r p h.rl a ha]; exact (h.on k).st.setCell a _, (k.up (S := (· = sp))).setCell (p := ⟨sp, a, none⟩) (fun _ => rfl) _⟩
theorem tmod4 (q : Nat) : (((q : Int).tmod 4) == 0) = decide (q % 4 = 0) := by
  rw [Int.tmod_eq_emod_of_nonneg (by omega)]
  by_cases h : q % 4 = 0
  · simp [h]; omega
  · simp [h]; omega

/- the four cells of an instruction's box -/
theorem box_cells {w v : World} {o a b c : Int} (k : Kept No (w.alloc (.cells #[.int .i64 o, .int .i64 a, .int .i64 b, .int .i64 c] 42)) v) :
    v.cell? ⟨w.heap.size, 0, none⟩ = some (.int .i64 o) ∧ v.cell? ⟨w.heap.size, 1, none⟩ = some (.int .i64 a) ∧ v.cell? ⟨w.heap.size, 2, none⟩ = some (.int .i64 b) ∧ v.cell? ⟨w.heap.size, 3, none⟩ = some (.int .i64 c) := by
  have hr : RowAt v w.heap.size 42 [.int .i64 o, .int .i64 a, .int .i64 b, .int .i64 c] := (RowAt.new w _ _).keep k (fun h => h)
  refine ⟨?_, ?_, ?_, ?_⟩ <;> (rw [hr.cell]; rfl)

/- what a load of a word comes to: a trap, registers -/
def wordI (l : List Nat) (q : Nat) : Int := IntKind.i32.wrap (wordAt l q : Nat)
def loadW (Z : List ZV) (r : List Int) (l : List Nat) (a b : Nat) (c : Int) : Int × List Int :=
  let q := ((r.getD b 0 + c) % 4294967296).toNat
  if q % 4 ≠ 0 then (3, r) else if canLoad Z q 4 = false ∨ l.length < q + 4 then (2, r) else (0, r.set a (wordI l q))

set_option maxRecDepth 100000 in
set_option maxHeartbeats 1000000 in
theorem load_any {w : World} {sp mp g zp mb : Nat} {lv : Value} {L : List ZR} {n : Nat} {r : List Int} {p : Int} {l : List Nat} (h : Mach w sp mp g zp mb lv L n r p l) (o c : Int) {a b : Nat} (ha : a < 16) (hb : b < 16) :
    Calls Try.prog 50 #[.pointer (some ⟨sp, 0, none⟩), .agg #[.int .i64 o, .int .i64 a, .int .i64 b, .int .i64 c], .pointer (some ⟨mp, 0, none⟩), .pointer (some ⟨zp, 0, none⟩)] w fun e w' =>
      e = .returned (.int .i64 (loadW (L.map ZR.z) r l a b c).1) ∧ RowAt w' sp ST (cst (loadW (L.map ZR.z) r l a b c).2 p) ∧ Kept (· = sp) w w' := by
  have HM := Lib.hid h
  have k0 : Kept No w (w.alloc (.cells #[.int .i64 o, .int .i64 a, .int .i64 b, .int .i64 c] 42)) := (Kept.refl _ _).alloc _
  have hreach := (h.on k0).reach o a c hb
  obtain ⟨q, hq⟩ : ∃ q : Nat, ((r.getD b 0 + c) % 4294967296).toNat = q := ⟨_, rfl⟩
  have hq2 : (r.getD b 0 + c) % 4294967296 = (q : Int) := by omega
  have hlw : q < 4294967296 := by omega
  rw [hq2] at hreach
  have HR := Lib.hid hreach
  have HK0 := Lib.hid k0
  have HA := Lib.hid ha
  by_cases h4 : q % 4 = 0
  · have e4 : ((q : Int).tmod 4 == 0) = true := by rw [tmod4]; simp [h4]
    have HC4 := Lib.hid h4
    by_cases hc : canLoad (L.map ZR.z) q 4 = true
    · have HC := Lib.hid hc
      by_cases hl : q + 4 ≤ l.length
      · rw [show loadW (L.map ZR.z) r l a b c = (0, r.set a (wordI l q)) by simp only [loadW, hq]; rw [if_neg (by omega), if_neg (by rw [hc]; simp; omega)]]
        have HL := Lib.hid hl
        have i1 : (a : Int) < 16 := by omega
        have i2 : (0 : Int) ≤ (a : Int) := by omega
        clear h hreach hq hq2 k0 h4 hc hl ha
        go_enter Try.func50, Try.ntmps50
        go_wp2_with fail
        refine HR.out.mono ?_
        rintro e w1 ⟨rfl, k1⟩
        have K1 := HK0.out.trans k1
        go_wp2_with fail
        refine (cpuAligned_any _ _).mono ?_
        rintro e w2 ⟨rfl, rfl⟩
        rw [e4]
        go_wp2_with fail
        refine ((HM.out.on K1).canLoad q 4).mono ?_
        rintro e w3 ⟨rfl, k3⟩
        rw [HC.out]
        have K3 := Lib.hid (K1.trans k3)
        obtain ⟨-, b1, -, -⟩ := box_cells (k1.trans k3)
        have s1 := (HM.out.on K3.out).st.reg HM.out.rl HA.out
        have s2 := (HM.out.on K3.out).st.free a
        clear k1 K1 k3
        go_wp2_with fail
        refine (memWord_yes mp g l q _ (HM.out.on K3.out).mem HC4.out HL.out).mono ?_
        rintro e w4 ⟨rfl, rfl⟩
        go_wp2_with fail
        go_region_with fail
        all_goals
          go_wp2_with fail
          go_ret
          exact ⟨rfl, (HM.out.set K3.out HA.out (wordI l q)).1, (HM.out.set K3.out HA.out (wordI l q)).2.drew⟩
      · rw [show loadW (L.map ZR.z) r l a b c = (2, r) by simp only [loadW, hq]; rw [if_neg (by omega), if_pos (by right; omega)]]
        have HL : Hid ((q : Int) < 0 ∨ (l.length : Int) - 4 < q) := by show _ ∨ _; omega
        have HT4 : Hid ((q : Int).tmod 4 = 0) := by show _ = _; rw [Int.tmod_eq_emod_of_nonneg (by omega)]; omega
        clear h hreach hq hq2 k0 h4 hc hl ha
        go_enter Try.func50, Try.ntmps50
        go_wp2_with fail
        refine HR.out.mono ?_
        rintro e w1 ⟨rfl, k1⟩
        have K1 := HK0.out.trans k1
        go_wp2_with fail
        refine (cpuAligned_any _ _).mono ?_
        rintro e w2 ⟨rfl, rfl⟩
        rw [e4]
        go_wp2_with fail
        refine ((HM.out.on K1).canLoad q 4).mono ?_
        rintro e w3 ⟨rfl, k3⟩
        rw [HC.out]
        have K3 := Lib.hid (K1.trans k3)
        clear k1 K1 k3
        go_wp2_with fail
        refine (memWord_far mp g l q _ (HM.out.on K3.out).mem HT4.out HL.out).mono ?_
        rintro e w4 ⟨rfl, rfl⟩
        go_wp2_with fail
        go_ret
        exact ⟨rfl, (HM.out.on K3.out).st, K3.out.up⟩
    · have hc' : canLoad (L.map ZR.z) q 4 = false := by simpa using hc
      rw [show loadW (L.map ZR.z) r l a b c = (2, r) by simp only [loadW, hq]; rw [if_neg (by omega), if_pos (.inl hc')]]
      have HC := Lib.hid hc'
      clear h hreach hq hq2 k0 h4 hc hc' ha
      go_enter Try.func50, Try.ntmps50
      go_wp2_with fail
      refine HR.out.mono ?_
      rintro e w1 ⟨rfl, k1⟩
      have K1 := HK0.out.trans k1
      go_wp2_with fail
      refine (cpuAligned_any _ _).mono ?_
      rintro e w2 ⟨rfl, rfl⟩
      rw [e4]
      go_wp2_with fail
      refine ((HM.out.on K1).canLoad q 4).mono ?_
      rintro e w3 ⟨rfl, k3⟩
      rw [HC.out]
      have K3 := Lib.hid (K1.trans k3)
      clear k1 K1 k3
      go_wp2_with fail
      go_ret
      exact ⟨rfl, (HM.out.on K3.out).st, K3.out.up⟩
  · rw [show loadW (L.map ZR.z) r l a b c = (3, r) by simp only [loadW, hq]; rw [if_pos (by omega)]]
    have e4 : ((q : Int).tmod 4 == 0) = false := by rw [tmod4]; simp [h4]
    clear h hreach hq hq2 k0 h4 ha
    go_enter Try.func50, Try.ntmps50
    go_wp2_with fail
    refine HR.out.mono ?_
    rintro e w1 ⟨rfl, k1⟩
    go_wp2_with fail
    refine (cpuAligned_any _ _).mono ?_
    rintro e w2 ⟨rfl, rfl⟩
    rw [e4]
    go_wp2_with fail
    go_ret
    have k2 := HK0.out.trans k1
    exact ⟨rfl, (HM.out.on k2).st, k2.up⟩
end Go.Proofs.Ytlnjcaicagcinaa

/-
  A machine of package cpu: what LoadB, Store, StorB do to it (layer 7). No conditions beyond those that each theorem names.
-/
namespace Go.Proofs.Ytlnjcaicagcinaa
open Go.ChangeShapes Go.WideShapes Go.ChangeAt Go.RowKit

def loadB (Z : List ZV) (r : List Int) (l : List Nat) (a b : Nat) (c : Int) : Int × List Int :=
  let q := ((r.getD b 0 + c) % 4294967296).toNat
  if canLoad Z q 1 = false ∨ l.length < q + 1 then (2, r) else (0, r.set a (IntKind.i32.wrap ((l.getD q 0 : Nat) : Int)))
def storeW (Z : List ZV) (r : List Int) (l : List Nat) (a b : Nat) (c : Int) : Int × List Nat :=
  let q := ((r.getD b 0 + c) % 4294967296).toNat
  if q % 4 ≠ 0 then (3, l) else if canStore Z q 4 = false then (2, l) else if fitsZ Z (kindOf Z q) (r.getD a 0 % 4294967296) = false then (6, l)
  else if l.length < q + 4 then (2, l) else (0, splice l q (bytes4 (r.getD a 0 % 4294967296).toNat))
def storeB (Z : List ZV) (r : List Int) (l : List Nat) (a b : Nat) (c : Int) : Int × List Nat :=
  let q := ((r.getD b 0 + c) % 4294967296).toNat
  if canStore Z q 1 = false then (2, l) else if kindOf Z (q - q % 4 : Int) ≠ 0 then (6, l)
  else if l.length < q + 1 then (2, l) else (0, l.set q (r.getD a 0 % 256).toNat)

set_option maxRecDepth 100000 in
set_option maxHeartbeats 1000000 in
theorem loadByte_any {w : World} {sp mp g zp mb : Nat} {lv : Value} {L : List ZR} {n : Nat} {r : List Int} {p : Int} {l : List Nat} (h : Mach w sp mp g zp mb lv L n r p l) (o c : Int) {a b : Nat} (ha : a < 16) (hb : b < 16) :
    Calls Try.prog 52 #[.pointer (some ⟨sp, 0, none⟩), .agg #[.int .i64 o, .int .i64 a, .int .i64 b, .int .i64 c], .pointer (some ⟨mp, 0, none⟩), .pointer (some ⟨zp, 0, none⟩)] w fun e w' =>
      e = .returned (.int .i64 (loadB (L.map ZR.z) r l a b c).1) ∧ RowAt w' sp ST (cst (loadB (L.map ZR.z) r l a b c).2 p) ∧ Kept (· = sp) w w' := by
  have HM := Lib.hid h
  have k0 : Kept No w (w.alloc (.cells #[.int .i64 o, .int .i64 a, .int .i64 b, .int .i64 c] 42)) := (Kept.refl _ _).alloc _
  have hreach := (h.on k0).reach o a c hb
  obtain ⟨q, hq⟩ : ∃ q : Nat, ((r.getD b 0 + c) % 4294967296).toNat = q := ⟨_, rfl⟩
  have hq2 : (r.getD b 0 + c) % 4294967296 = (q : Int) := by omega
  have hlw : q < 4294967296 := by omega
  rw [hq2] at hreach
  have HR := Lib.hid hreach
  have HK0 := Lib.hid k0
  have HA := Lib.hid ha
  by_cases hc : canLoad (L.map ZR.z) q 1 = true
  · have HC := Lib.hid hc
    by_cases hl : q < l.length
    · obtain ⟨y, hy⟩ : ∃ y, l.getD q 0 = y := ⟨_, rfl⟩
      rw [show loadB (L.map ZR.z) r l a b c = (0, r.set a (IntKind.i32.wrap (y : Int))) by simp only [loadB, hq, hy]; rw [if_neg (by rw [hc]; simp; omega)]]
      have HL := Lib.hid hl
      have HW : Hid (∀ v, Kept No w v → Calls Try.prog 75 #[.pointer (some ⟨mp, 0, none⟩), .int .i64 q] v fun e v' => e = .returned (.tuple #[.int .u8 (y : Nat), .int .i64 0]) ∧ v = v') := fun v k => by
        rw [← hy]
        exact memByte_yes mp g l q _ (h.on k).mem hl
      clear hy
      have i1 : (a : Int) < 16 := by omega
      have i2 : (0 : Int) ≤ (a : Int) := by omega
      clear h hreach hq hq2 k0 hc hl ha
      go_enter Try.func52, Try.ntmps52
      go_wp2_with fail
      refine HR.out.mono ?_
      rintro e w1 ⟨rfl, k1⟩
      have K1 := HK0.out.trans k1
      go_wp2_with fail
      refine ((HM.out.on K1).canLoad q 1).mono ?_
      rintro e w3 ⟨rfl, k3⟩
      rw [HC.out]
      have K3 := Lib.hid (K1.trans k3)
      obtain ⟨-, b1, -, -⟩ := box_cells (k1.trans k3)
      have s1 := (HM.out.on K3.out).st.reg HM.out.rl HA.out
      have s2 := (HM.out.on K3.out).st.free a
      have RES := Lib.hid (HM.out.set K3.out HA.out (IntKind.i32.wrap (y : Int)))
      clear k1 K1 k3
      go_wp2_with fail
      refine (HW.out _ K3.out).mono ?_
      rintro e w4 ⟨rfl, rfl⟩
      go_wp2_with fail
      go_region_with fail
      all_goals
        go_wp2_with fail
        go_ret
        exact ⟨rfl, RES.out.1, RES.out.2.drew⟩
    · rw [show loadB (L.map ZR.z) r l a b c = (2, r) by simp only [loadB, hq]; rw [if_pos (by right; omega)]]
      have HL : Hid ((q : Int) < 0 ∨ (l.length : Int) ≤ q) := by show _ ∨ _; omega
      clear h hreach hq hq2 k0 hc hl ha
      go_enter Try.func52, Try.ntmps52
      go_wp2_with fail
      refine HR.out.mono ?_
      rintro e w1 ⟨rfl, k1⟩
      have K1 := HK0.out.trans k1
      go_wp2_with fail
      refine ((HM.out.on K1).canLoad q 1).mono ?_
      rintro e w3 ⟨rfl, k3⟩
      rw [HC.out]
      have K3 := Lib.hid (K1.trans k3)
      clear k1 K1 k3
      go_wp2_with fail
      refine (memByte_no mp g l q _ (HM.out.on K3.out).mem HL.out).mono ?_
      rintro e w4 ⟨rfl, rfl⟩
      go_wp2_with fail
      go_ret
      exact ⟨rfl, (HM.out.on K3.out).st, K3.out.up⟩
  · have hc' : canLoad (L.map ZR.z) q 1 = false := by simpa using hc
    rw [show loadB (L.map ZR.z) r l a b c = (2, r) by simp only [loadB, hq]; rw [if_pos (.inl hc')]]
    have HC := Lib.hid hc'
    clear h hreach hq hq2 k0 hc hc' ha
    go_enter Try.func52, Try.ntmps52
    go_wp2_with fail
    refine HR.out.mono ?_
    rintro e w1 ⟨rfl, k1⟩
    have K1 := HK0.out.trans k1
    go_wp2_with fail
    refine ((HM.out.on K1).canLoad q 1).mono ?_
    rintro e w3 ⟨rfl, k3⟩
    rw [HC.out]
    have K3 := Lib.hid (K1.trans k3)
    clear k1 K1 k3
    go_wp2_with fail
    go_ret
    exact ⟨rfl, (HM.out.on K3.out).st, K3.out.up⟩

/- the box's cell of A and the register that it names, in every world that is kept -/
theorem Mach.held {w v : World} {sp mp g zp mb : Nat} {lv : Value} {L : List ZR} {n : Nat} {r : List Int} {p : Int} {l : List Nat} (h : Mach w sp mp g zp mb lv L n r p l) {o c : Int} {a : Nat} {b : Int} (ha : a < 16)
    (k : Kept No (w.alloc (.cells #[.int .i64 o, .int .i64 a, .int .i64 b, .int .i64 c] 42)) v) :
    (v.cell? ⟨w.heap.size, 1, none⟩ = some (.int .i64 a) ∧ v.cell? ⟨sp, a, none⟩ = some (.int .i32 (r.getD a 0))) ∧ Kept No (w.alloc (.cells #[.int .i64 o, .int .i64 a, .int .i64 b, .int .i64 c] 42)) v :=
  ⟨⟨(box_cells k).2.1, (h.on (((Kept.refl _ _).alloc _).trans k)).st.reg h.rl ha⟩, k⟩

set_option maxRecDepth 100000 in
set_option maxHeartbeats 1000000 in
theorem store_any {w : World} {sp mp g zp mb : Nat} {lv : Value} {L : List ZR} {n : Nat} {r : List Int} {p : Int} {l : List Nat} (h : Mach w sp mp g zp mb lv L n r p l) (o c : Int) {a b : Nat} (ha : a < 16) (hb : b < 16) :
    Calls Try.prog 51 #[.pointer (some ⟨sp, 0, none⟩), .agg #[.int .i64 o, .int .i64 a, .int .i64 b, .int .i64 c], .pointer (some ⟨mp, 0, none⟩), .pointer (some ⟨zp, 0, none⟩)] w fun e w' =>
      e = .returned (.int .i64 (storeW (L.map ZR.z) r l a b c).1) ∧ MemAt w' mp g (storeW (L.map ZR.z) r l a b c).2 ∧ Kept (· = g) w w' := by
  have HM := Lib.hid h
  have HG := Lib.hid h.ne.1
  have hmg : mp < w.heap.size := h.mem.lt
  have k0 : Kept No w (w.alloc (.cells #[.int .i64 o, .int .i64 a, .int .i64 b, .int .i64 c] 42)) := (Kept.refl _ _).alloc _
  have hreach := (h.on k0).reach o a c hb
  obtain ⟨q, hq⟩ : ∃ q : Nat, ((r.getD b 0 + c) % 4294967296).toNat = q := ⟨_, rfl⟩
  have hq2 : (r.getD b 0 + c) % 4294967296 = (q : Int) := by omega
  have hlw : q < 4294967296 := by omega
  rw [hq2] at hreach
  have HR := Lib.hid hreach
  have HK0 := Lib.hid k0
  have HA := Lib.hid ha
  have HH := Lib.hid (fun v k => h.held (o := o) (c := c) (b := (b : Int)) (v := v) ha k)
  have hwf : (Lit.int .i64 (q : Int)).wf = true := WalkArith.wf_i64 (by omega)
  have HWf := Lib.hid hwf
  have i1 : (a : Int) < 16 := by omega
  have i2 : (0 : Int) ≤ (a : Int) := by omega
  obtain ⟨x, hx⟩ : ∃ x, r.getD a 0 = x := ⟨_, rfl⟩
  rw [hx] at HH
  unfold storeW
  simp only [hq, hx]
  clear hq hx
  by_cases h4 : q % 4 = 0
  · have e4 : ((q : Int).tmod 4 == 0) = true := by rw [tmod4]; simp [h4]
    have HC4 := Lib.hid h4
    have hkind : ((q : Int) - (q : Int) % 4) = q := by omega
    have HKi := Lib.hid hkind
    by_cases hc : canStore (L.map ZR.z) q 4 = true
    · have HC := Lib.hid hc
      by_cases hf : fitsZ (L.map ZR.z) (kindOf (L.map ZR.z) q) (x % 4294967296) = true
      · have HF := Lib.hid hf
        by_cases hl : q + 4 ≤ l.length
        · rw [if_neg (by omega), if_neg (by rw [hc]; simp), if_neg (by rw [hf]; simp), if_neg (by omega)]
          have HS : Hid (∀ v, Kept No w v → Calls Try.prog 16 #[.pointer (some ⟨mp, 0, none⟩), .int .i64 q, .int .u32 (x % 4294967296)] v fun e w' => e = .returned (.int .i64 0) ∧ MemAt w' mp g (splice l q (bytes4 (x % 4294967296).toNat)) ∧ Kept (· = g) v w') := fun v k => by
            have := memSetWord_yes mp g l q (x % 4294967296).toNat v (h.on k).mem (by omega) h4 hl
            rw [show (((x % 4294967296).toNat : Nat) : Int) = x % 4294967296 by omega] at this
            exact this
          clear h hreach hq2 k0 h4 hc hl ha hf hkind hwf
          go_enter Try.func51, Try.ntmps51
          go_wp2_with fail
          refine HR.out.mono ?_
          rintro e w1 ⟨rfl, k1⟩
          have K1 := HK0.out.trans k1
          go_wp2_with fail
          refine (cpuAligned_any _ _).mono ?_
          rintro e w2 ⟨rfl, rfl⟩
          rw [e4]
          go_wp2_with fail
          refine ((HM.out.on K1).canStore q 4).mono ?_
          rintro e w3 ⟨rfl, k3⟩
          rw [HC.out]
          have K3 := Lib.hid (k1.trans k3)
          clear k1 K1 k3
          go_wp2_with fail
          refine wp_region_held_drew (S := fun w' => (w'.cell? ⟨w.heap.size, 1, none⟩ = some (.int .i64 a) ∧ w'.cell? ⟨sp, a, none⟩ = some (.int .i32 (x))) ∧ Kept No (w.alloc (.cells #[.int .i64 o, .int .i64 a, .int .i64 b, .int .i64 c] 42)) w') (by kernel_rfl) ?_ (fun hHeld => ?_)
          · exact HH.out _ K3.out.drew
          refine wpAnyH_take (i := 0) (v := ?_) rfl (by kernel_rfl) (by kernel_rfl) (by kernel_rfl) (fun _ _ _ h => h) (Or.inl ⟨by rfl, ?_⟩) (by assumption) ?_
          rotate_left
          · intro w hSw
            (try dsimp only at hSw)
            go_simp
            (try with_reducible rfl)
          try simp only [Act.put, List.getElem_toArray, List.getElem_cons_zero, List.setIfInBounds_toArray, List.set_cons_zero, List.set_cons_succ]
          refine wpAnyH_take (i := 1) (v := ?_) rfl (by kernel_rfl) (by kernel_rfl) (by kernel_rfl) (fun _ _ _ h => h) (Or.inl ⟨by rfl, ?_⟩) (by assumption) ?_
          rotate_left
          · intro w hSw
            (try dsimp only at hSw)
            go_simp
            (try with_reducible rfl)
          try simp only [Act.put, List.getElem_toArray, List.getElem_cons_zero, List.getElem_cons_succ, List.setIfInBounds_toArray, List.set_cons_zero, List.set_cons_succ]
          refine wpAnyH_take (i := 2) (v := ?_) rfl (by kernel_rfl) (by kernel_rfl) (by kernel_rfl) (fun _ _ _ h => h) (Or.inl ⟨by rfl, ?_⟩) (by assumption) ?_
          rotate_left
          · intro w hSw
            (try dsimp only at hSw)
            go_simp
            (try with_reducible rfl)
          try simp only [Act.put, List.getElem_toArray, List.getElem_cons_zero, List.getElem_cons_succ, List.setIfInBounds_toArray, List.set_cons_zero, List.set_cons_succ]
          refine wpAnyH_take (i := 4) (v := ?_) rfl (by kernel_rfl) (by kernel_rfl) (by kernel_rfl) (fun _ _ _ h => h) (Or.inl ⟨by rfl, ?_⟩) (by assumption) ?_
          rotate_left
          · intro w hSw
            (try dsimp only at hSw)
            go_simp
            (try with_reducible rfl)
          try simp only [Act.put, List.getElem_toArray, List.getElem_cons_zero, List.getElem_cons_succ, List.setIfInBounds_toArray, List.set_cons_zero, List.set_cons_succ]
          refine wpAnyH_take (i := 5) (v := ?_) rfl (by kernel_rfl) (by kernel_rfl) (by kernel_rfl) (fun _ _ _ h => h) (Or.inl ⟨by rfl, ?_⟩) (by assumption) ?_
          rotate_left
          · intro w hSw
            (try dsimp only at hSw)
            go_simp
            (try with_reducible rfl)
          try simp only [Act.put, List.getElem_toArray, List.getElem_cons_zero, List.getElem_cons_succ, List.setIfInBounds_toArray, List.set_cons_zero, List.set_cons_succ]
          refine wpAnyH_take (i := 6) (v := ?_) rfl (by kernel_rfl) (by kernel_rfl) (by kernel_rfl) (fun _ _ _ h => h) (Or.inl ⟨by rfl, ?_⟩) (by assumption) ?_
          rotate_left
          · intro w hSw
            (try dsimp only at hSw)
            go_simp
            (try with_reducible rfl)
          try simp only [Act.put, List.getElem_toArray, List.getElem_cons_zero, List.getElem_cons_succ, List.setIfInBounds_toArray, List.set_cons_zero, List.set_cons_succ]
          refine wpAnyH_take (i := 7) (v := ?_) rfl (by kernel_rfl) (by kernel_rfl) (by kernel_rfl) (fun _ _ _ h => h) (Or.inl ⟨by rfl, ?_⟩) (by assumption) ?_
          rotate_left
          · intro w hSw
            (try dsimp only at hSw)
            go_simp
            (try with_reducible rfl)
          try simp only [Act.put, List.getElem_toArray, List.getElem_cons_zero, List.getElem_cons_succ, List.setIfInBounds_toArray, List.set_cons_zero, List.set_cons_succ]
          refine wpAnyH_take (i := 8) (v := ?_) rfl (by kernel_rfl) (by kernel_rfl) (by kernel_rfl) (fun _ _ _ h => h) (Or.inl ⟨by rfl, ?_⟩) (by assumption) ?_
          rotate_left
          · intro w hSw
            (try dsimp only at hSw)
            go_simp
            (try with_reducible rfl)
          try simp only [Act.put, List.getElem_toArray, List.getElem_cons_zero, List.getElem_cons_succ, List.setIfInBounds_toArray, List.set_cons_zero, List.set_cons_succ]
          refine wpAnyH_take (i := 9) (v := ?_) rfl (by kernel_rfl) (by kernel_rfl) (by kernel_rfl) (fun _ _ _ h => h) (Or.inl ⟨by rfl, ?_⟩) (by assumption) ?_
          rotate_left
          · intro w hSw
            (try dsimp only at hSw)
            go_simp
            (try with_reducible rfl)
          try simp only [Act.put, List.getElem_toArray, List.getElem_cons_zero, List.getElem_cons_succ, List.setIfInBounds_toArray, List.set_cons_zero, List.set_cons_succ]
          refine wpAnyH_take (i := 10) (v := ?_) rfl (by kernel_rfl) (by kernel_rfl) (by kernel_rfl) (fun _ _ _ h => h) (Or.inl ⟨by rfl, ?_⟩) (by assumption) ?_
          rotate_left
          · intro w hSw
            (try dsimp only at hSw)
            go_simp
            (try with_reducible rfl)
          try simp only [Act.put, List.getElem_toArray, List.getElem_cons_zero, List.getElem_cons_succ, List.setIfInBounds_toArray, List.set_cons_zero, List.set_cons_succ]
          refine wpAnyH_ready (rs := [3]) (by kernel_rfl) (by simp) ?_
          refine AllReadyH.cons rfl (fun K hK => ?_) AllReadyH.nil
          go_simp
          refine ((HM.out.on (HK0.out.trans hHeld.2)).cell q HWf.out).mono ?_
          rintro e v1 ⟨rfl, j1⟩
          rw [HKi.out]
          first | show K _ _ | go_wp2_with fail
          refine hK.out _ _ ?_ (fun hHeld1 => ?_)
          · exact HH.out _ (hHeld.2.trans j1)
          clear hK K
          try simp only [Act.put, List.getElem_toArray, List.getElem_cons_zero, List.getElem_cons_succ, List.setIfInBounds_toArray, List.set_cons_zero, List.set_cons_succ]
          refine wpAnyH_ready (rs := [11]) (by kernel_rfl) (by simp) ?_
          refine AllReadyH.cons rfl (fun K hK => ?_) AllReadyH.nil
          go_simp
          refine (place_any _ _).mono ?_
          rintro e v2 ⟨rfl, rfl⟩
          first | show K _ _ | go_wp2_with fail
          refine hK.out _ _ ?_ (fun hHeld2 => ?_)
          · exact hHeld1
          clear hK K
          try simp only [Act.put, List.getElem_toArray, List.getElem_cons_zero, List.getElem_cons_succ, List.setIfInBounds_toArray, List.set_cons_zero, List.set_cons_succ]
          refine wpAnyH_ready (rs := [12]) (by kernel_rfl) (by simp) ?_
          refine AllReadyH.cons rfl (fun K hK => ?_) AllReadyH.nil
          go_simp
          refine ((HM.out.on (HK0.out.trans hHeld2.2)).fits _ _).mono ?_
          rintro e v3 ⟨rfl, j3⟩
          rw [HF.out]
          first | show K _ _ | go_wp2_with fail
          refine hK.out _ _ ?_ (fun hHeld3 => ?_)
          · exact HH.out _ (hHeld2.2.trans j3)
          clear hK K
          try simp only [Act.put, List.getElem_toArray, List.getElem_cons_zero, List.getElem_cons_succ, List.setIfInBounds_toArray, List.set_cons_zero, List.set_cons_succ]
          refine wpAnyH_take (i := 13) (v := ?_) rfl (by kernel_rfl) (by kernel_rfl) (by kernel_rfl) (fun _ _ _ h => h) (Or.inl ⟨by rfl, ?_⟩) (by assumption) ?_
          rotate_left
          · intro w hSw
            (try dsimp only at hSw)
            go_simp
            (try with_reducible rfl)
          try simp only [Act.put, List.getElem_toArray, List.getElem_cons_zero, List.getElem_cons_succ, List.setIfInBounds_toArray, List.set_cons_zero, List.set_cons_succ]
          refine wpAnyH_done (by kernel_rfl) ?_ _
          have K4 := Lib.hid hHeld3.2
          clear hHeld hHeld1 hHeld2 hHeld3
          go_wp2_with fail
          refine wp_region_held_drew (S := fun w' => w'.cell? ⟨w.heap.size, 1, none⟩ = some (.int .i64 a) ∧ w'.cell? ⟨sp, a, none⟩ = some (.int .i32 (x))) (by kernel_rfl) ?_ (fun hHeld => ?_)
          · exact (HH.out _ K4.out.drew).1
          refine wpAnyH_take (i := 0) (v := ?_) rfl (by kernel_rfl) (by kernel_rfl) (by kernel_rfl) (fun _ _ _ h => h) (Or.inl ⟨by rfl, ?_⟩) (by assumption) ?_
          rotate_left
          · intro w hSw
            (try dsimp only at hSw)
            go_simp
            (try with_reducible rfl)
          try simp only [Act.put, List.getElem_toArray, List.getElem_cons_zero, List.setIfInBounds_toArray, List.set_cons_zero, List.set_cons_succ]
          refine wpAnyH_take (i := 1) (v := ?_) rfl (by kernel_rfl) (by kernel_rfl) (by kernel_rfl) (fun _ _ _ h => h) (Or.inl ⟨by rfl, ?_⟩) (by assumption) ?_
          rotate_left
          · intro w hSw
            (try dsimp only at hSw)
            go_simp
            (try with_reducible rfl)
          try simp only [Act.put, List.getElem_toArray, List.getElem_cons_zero, List.getElem_cons_succ, List.setIfInBounds_toArray, List.set_cons_zero, List.set_cons_succ]
          refine wpAnyH_take (i := 2) (v := ?_) rfl (by kernel_rfl) (by kernel_rfl) (by kernel_rfl) (fun _ _ _ h => h) (Or.inl ⟨by rfl, ?_⟩) (by assumption) ?_
          rotate_left
          · intro w hSw
            (try dsimp only at hSw)
            go_simp
            (try with_reducible rfl)
          try simp only [Act.put, List.getElem_toArray, List.getElem_cons_zero, List.getElem_cons_succ, List.setIfInBounds_toArray, List.set_cons_zero, List.set_cons_succ]
          refine wpAnyH_take (i := 3) (v := ?_) rfl (by kernel_rfl) (by kernel_rfl) (by kernel_rfl) (fun _ _ _ h => h) (Or.inl ⟨by rfl, ?_⟩) (by assumption) ?_
          rotate_left
          · intro w hSw
            (try dsimp only at hSw)
            go_simp
            (try with_reducible rfl)
          try simp only [Act.put, List.getElem_toArray, List.getElem_cons_zero, List.getElem_cons_succ, List.setIfInBounds_toArray, List.set_cons_zero, List.set_cons_succ]
          refine wpAnyH_take (i := 4) (v := ?_) rfl (by kernel_rfl) (by kernel_rfl) (by kernel_rfl) (fun _ _ _ h => h) (Or.inl ⟨by rfl, ?_⟩) (by assumption) ?_
          rotate_left
          · intro w hSw
            (try dsimp only at hSw)
            go_simp
            (try with_reducible rfl)
          try simp only [Act.put, List.getElem_toArray, List.getElem_cons_zero, List.getElem_cons_succ, List.setIfInBounds_toArray, List.set_cons_zero, List.set_cons_succ]
          refine wpAnyH_take (i := 5) (v := ?_) rfl (by kernel_rfl) (by kernel_rfl) (by kernel_rfl) (fun _ _ _ h => h) (Or.inl ⟨by rfl, ?_⟩) (by assumption) ?_
          rotate_left
          · intro w hSw
            (try dsimp only at hSw)
            go_simp
            (try with_reducible rfl)
          try simp only [Act.put, List.getElem_toArray, List.getElem_cons_zero, List.getElem_cons_succ, List.setIfInBounds_toArray, List.set_cons_zero, List.set_cons_succ]
          refine wpAnyH_take (i := 6) (v := ?_) rfl (by kernel_rfl) (by kernel_rfl) (by kernel_rfl) (fun _ _ _ h => h) (Or.inl ⟨by rfl, ?_⟩) (by assumption) ?_
          rotate_left
          · intro w hSw
            (try dsimp only at hSw)
            go_simp
            (try with_reducible rfl)
          try simp only [Act.put, List.getElem_toArray, List.getElem_cons_zero, List.getElem_cons_succ, List.setIfInBounds_toArray, List.set_cons_zero, List.set_cons_succ]
          refine wpAnyH_take (i := 7) (v := ?_) rfl (by kernel_rfl) (by kernel_rfl) (by kernel_rfl) (fun _ _ _ h => h) (Or.inl ⟨by rfl, ?_⟩) (by assumption) ?_
          rotate_left
          · intro w hSw
            (try dsimp only at hSw)
            go_simp
            (try with_reducible rfl)
          try simp only [Act.put, List.getElem_toArray, List.getElem_cons_zero, List.getElem_cons_succ, List.setIfInBounds_toArray, List.set_cons_zero, List.set_cons_succ]
          refine wpAnyH_take (i := 8) (v := ?_) rfl (by kernel_rfl) (by kernel_rfl) (by kernel_rfl) (fun _ _ _ h => h) (Or.inl ⟨by rfl, ?_⟩) (by assumption) ?_
          rotate_left
          · intro w hSw
            (try dsimp only at hSw)
            go_simp
            (try with_reducible rfl)
          try simp only [Act.put, List.getElem_toArray, List.getElem_cons_zero, List.getElem_cons_succ, List.setIfInBounds_toArray, List.set_cons_zero, List.set_cons_succ]
          refine wpAnyH_take (i := 9) (v := ?_) rfl (by kernel_rfl) (by kernel_rfl) (by kernel_rfl) (fun _ _ _ h => h) (Or.inl ⟨by rfl, ?_⟩) (by assumption) ?_
          rotate_left
          · intro w hSw
            (try dsimp only at hSw)
            go_simp
            (try with_reducible rfl)
          try simp only [Act.put, List.getElem_toArray, List.getElem_cons_zero, List.getElem_cons_succ, List.setIfInBounds_toArray, List.set_cons_zero, List.set_cons_succ]
          refine wpAnyH_ready (rs := [10]) (by kernel_rfl) (by simp) ?_
          refine AllReadyH.cons rfl (fun K hK => ?_) AllReadyH.nil
          go_simp
          refine (HS.out _ (HK0.out.trans K4.out.drew)).mono ?_
          rintro e v5 ⟨rfl, m5, j5⟩
          first | show K _ _ | go_wp2_with fail
          refine hK.out _ _ ?_ (fun hHeld1 => ?_)
          · exact ⟨(j5.cell (p := ⟨_, _, none⟩) (cell_lt hHeld.1) (fun e => by have := m5.row.lt; have := HM.out.mem.row.lt; simp only at e; omega)).trans hHeld.1, (j5.cell (p := ⟨_, _, none⟩) (cell_lt hHeld.2) (fun e => HG.out e)).trans hHeld.2⟩
          clear hK K
          try simp only [Act.put, List.getElem_toArray, List.getElem_cons_zero, List.getElem_cons_succ, List.setIfInBounds_toArray, List.set_cons_zero, List.set_cons_succ]
          refine wpAnyH_take (i := 11) (v := ?_) rfl (by kernel_rfl) (by kernel_rfl) (by kernel_rfl) (fun _ _ _ h => h) (Or.inl ⟨by rfl, ?_⟩) (by assumption) ?_
          rotate_left
          · intro w hSw
            (try dsimp only at hSw)
            go_simp
            (try with_reducible rfl)
          try simp only [Act.put, List.getElem_toArray, List.getElem_cons_zero, List.getElem_cons_succ, List.setIfInBounds_toArray, List.set_cons_zero, List.set_cons_succ]
          refine wpAnyH_done (by kernel_rfl) ?_ _
          go_wp2_with fail
          go_ret
          exact ⟨rfl, m5, ((HK0.out.trans K4.out.drew).up (S := (· = g))).trans j5⟩
        · rw [if_neg (by omega), if_neg (by rw [hc]; simp), if_neg (by rw [hf]; simp), if_pos (by omega)]
          have HL : Hid ((q : Int) < 0 ∨ (l.length : Int) - 4 < q) := by show _ ∨ _; omega
          have HT4 : Hid ((q : Int).tmod 4 = 0) := by show _ = _; rw [Int.tmod_eq_emod_of_nonneg (by omega)]; omega
          clear h hreach hq2 k0 h4 hc hl ha hf hkind hwf
          go_enter Try.func51, Try.ntmps51
          go_wp2_with fail
          refine HR.out.mono ?_
          rintro e w1 ⟨rfl, k1⟩
          have K1 := HK0.out.trans k1
          go_wp2_with fail
          refine (cpuAligned_any _ _).mono ?_
          rintro e w2 ⟨rfl, rfl⟩
          rw [e4]
          go_wp2_with fail
          refine ((HM.out.on K1).canStore q 4).mono ?_
          rintro e w3 ⟨rfl, k3⟩
          rw [HC.out]
          have K3 := Lib.hid (k1.trans k3)
          clear k1 K1 k3
          go_wp2_with fail
          refine wp_region_held_drew (S := fun w' => (w'.cell? ⟨w.heap.size, 1, none⟩ = some (.int .i64 a) ∧ w'.cell? ⟨sp, a, none⟩ = some (.int .i32 (x))) ∧ Kept No (w.alloc (.cells #[.int .i64 o, .int .i64 a, .int .i64 b, .int .i64 c] 42)) w') (by kernel_rfl) ?_ (fun hHeld => ?_)
          · exact HH.out _ K3.out.drew
          refine wpAnyH_take (i := 0) (v := ?_) rfl (by kernel_rfl) (by kernel_rfl) (by kernel_rfl) (fun _ _ _ h => h) (Or.inl ⟨by rfl, ?_⟩) (by assumption) ?_
          rotate_left
          · intro w hSw
            (try dsimp only at hSw)
            go_simp
            (try with_reducible rfl)
          try simp only [Act.put, List.getElem_toArray, List.getElem_cons_zero, List.setIfInBounds_toArray, List.set_cons_zero, List.set_cons_succ]
          refine wpAnyH_take (i := 1) (v := ?_) rfl (by kernel_rfl) (by kernel_rfl) (by kernel_rfl) (fun _ _ _ h => h) (Or.inl ⟨by rfl, ?_⟩) (by assumption) ?_
          rotate_left
          · intro w hSw
            (try dsimp only at hSw)
            go_simp
            (try with_reducible rfl)
          try simp only [Act.put, List.getElem_toArray, List.getElem_cons_zero, List.getElem_cons_succ, List.setIfInBounds_toArray, List.set_cons_zero, List.set_cons_succ]
          refine wpAnyH_take (i := 2) (v := ?_) rfl (by kernel_rfl) (by kernel_rfl) (by kernel_rfl) (fun _ _ _ h => h) (Or.inl ⟨by rfl, ?_⟩) (by assumption) ?_
          rotate_left
          · intro w hSw
            (try dsimp only at hSw)
            go_simp
            (try with_reducible rfl)
          try simp only [Act.put, List.getElem_toArray, List.getElem_cons_zero, List.getElem_cons_succ, List.setIfInBounds_toArray, List.set_cons_zero, List.set_cons_succ]
          refine wpAnyH_take (i := 4) (v := ?_) rfl (by kernel_rfl) (by kernel_rfl) (by kernel_rfl) (fun _ _ _ h => h) (Or.inl ⟨by rfl, ?_⟩) (by assumption) ?_
          rotate_left
          · intro w hSw
            (try dsimp only at hSw)
            go_simp
            (try with_reducible rfl)
          try simp only [Act.put, List.getElem_toArray, List.getElem_cons_zero, List.getElem_cons_succ, List.setIfInBounds_toArray, List.set_cons_zero, List.set_cons_succ]
          refine wpAnyH_take (i := 5) (v := ?_) rfl (by kernel_rfl) (by kernel_rfl) (by kernel_rfl) (fun _ _ _ h => h) (Or.inl ⟨by rfl, ?_⟩) (by assumption) ?_
          rotate_left
          · intro w hSw
            (try dsimp only at hSw)
            go_simp
            (try with_reducible rfl)
          try simp only [Act.put, List.getElem_toArray, List.getElem_cons_zero, List.getElem_cons_succ, List.setIfInBounds_toArray, List.set_cons_zero, List.set_cons_succ]
          refine wpAnyH_take (i := 6) (v := ?_) rfl (by kernel_rfl) (by kernel_rfl) (by kernel_rfl) (fun _ _ _ h => h) (Or.inl ⟨by rfl, ?_⟩) (by assumption) ?_
          rotate_left
          · intro w hSw
            (try dsimp only at hSw)
            go_simp
            (try with_reducible rfl)
          try simp only [Act.put, List.getElem_toArray, List.getElem_cons_zero, List.getElem_cons_succ, List.setIfInBounds_toArray, List.set_cons_zero, List.set_cons_succ]
          refine wpAnyH_take (i := 7) (v := ?_) rfl (by kernel_rfl) (by kernel_rfl) (by kernel_rfl) (fun _ _ _ h => h) (Or.inl ⟨by rfl, ?_⟩) (by assumption) ?_
          rotate_left
          · intro w hSw
            (try dsimp only at hSw)
            go_simp
            (try with_reducible rfl)
          try simp only [Act.put, List.getElem_toArray, List.getElem_cons_zero, List.getElem_cons_succ, List.setIfInBounds_toArray, List.set_cons_zero, List.set_cons_succ]
          refine wpAnyH_take (i := 8) (v := ?_) rfl (by kernel_rfl) (by kernel_rfl) (by kernel_rfl) (fun _ _ _ h => h) (Or.inl ⟨by rfl, ?_⟩) (by assumption) ?_
          rotate_left
          · intro w hSw
            (try dsimp only at hSw)
            go_simp
            (try with_reducible rfl)
          try simp only [Act.put, List.getElem_toArray, List.getElem_cons_zero, List.getElem_cons_succ, List.setIfInBounds_toArray, List.set_cons_zero, List.set_cons_succ]
          refine wpAnyH_take (i := 9) (v := ?_) rfl (by kernel_rfl) (by kernel_rfl) (by kernel_rfl) (fun _ _ _ h => h) (Or.inl ⟨by rfl, ?_⟩) (by assumption) ?_
          rotate_left
          · intro w hSw
            (try dsimp only at hSw)
            go_simp
            (try with_reducible rfl)
          try simp only [Act.put, List.getElem_toArray, List.getElem_cons_zero, List.getElem_cons_succ, List.setIfInBounds_toArray, List.set_cons_zero, List.set_cons_succ]
          refine wpAnyH_take (i := 10) (v := ?_) rfl (by kernel_rfl) (by kernel_rfl) (by kernel_rfl) (fun _ _ _ h => h) (Or.inl ⟨by rfl, ?_⟩) (by assumption) ?_
          rotate_left
          · intro w hSw
            (try dsimp only at hSw)
            go_simp
            (try with_reducible rfl)
          try simp only [Act.put, List.getElem_toArray, List.getElem_cons_zero, List.getElem_cons_succ, List.setIfInBounds_toArray, List.set_cons_zero, List.set_cons_succ]
          refine wpAnyH_ready (rs := [3]) (by kernel_rfl) (by simp) ?_
          refine AllReadyH.cons rfl (fun K hK => ?_) AllReadyH.nil
          go_simp
          refine ((HM.out.on (HK0.out.trans hHeld.2)).cell q HWf.out).mono ?_
          rintro e v1 ⟨rfl, j1⟩
          rw [HKi.out]
          first | show K _ _ | go_wp2_with fail
          refine hK.out _ _ ?_ (fun hHeld1 => ?_)
          · exact HH.out _ (hHeld.2.trans j1)
          clear hK K
          try simp only [Act.put, List.getElem_toArray, List.getElem_cons_zero, List.getElem_cons_succ, List.setIfInBounds_toArray, List.set_cons_zero, List.set_cons_succ]
          refine wpAnyH_ready (rs := [11]) (by kernel_rfl) (by simp) ?_
          refine AllReadyH.cons rfl (fun K hK => ?_) AllReadyH.nil
          go_simp
          refine (place_any _ _).mono ?_
          rintro e v2 ⟨rfl, rfl⟩
          first | show K _ _ | go_wp2_with fail
          refine hK.out _ _ ?_ (fun hHeld2 => ?_)
          · exact hHeld1
          clear hK K
          try simp only [Act.put, List.getElem_toArray, List.getElem_cons_zero, List.getElem_cons_succ, List.setIfInBounds_toArray, List.set_cons_zero, List.set_cons_succ]
          refine wpAnyH_ready (rs := [12]) (by kernel_rfl) (by simp) ?_
          refine AllReadyH.cons rfl (fun K hK => ?_) AllReadyH.nil
          go_simp
          refine ((HM.out.on (HK0.out.trans hHeld2.2)).fits _ _).mono ?_
          rintro e v3 ⟨rfl, j3⟩
          rw [HF.out]
          first | show K _ _ | go_wp2_with fail
          refine hK.out _ _ ?_ (fun hHeld3 => ?_)
          · exact HH.out _ (hHeld2.2.trans j3)
          clear hK K
          try simp only [Act.put, List.getElem_toArray, List.getElem_cons_zero, List.getElem_cons_succ, List.setIfInBounds_toArray, List.set_cons_zero, List.set_cons_succ]
          refine wpAnyH_take (i := 13) (v := ?_) rfl (by kernel_rfl) (by kernel_rfl) (by kernel_rfl) (fun _ _ _ h => h) (Or.inl ⟨by rfl, ?_⟩) (by assumption) ?_
          rotate_left
          · intro w hSw
            (try dsimp only at hSw)
            go_simp
            (try with_reducible rfl)
          try simp only [Act.put, List.getElem_toArray, List.getElem_cons_zero, List.getElem_cons_succ, List.setIfInBounds_toArray, List.set_cons_zero, List.set_cons_succ]
          refine wpAnyH_done (by kernel_rfl) ?_ _
          have K4 := Lib.hid hHeld3.2
          clear hHeld hHeld1 hHeld2 hHeld3
          go_wp2_with fail
          refine wp_region_held_drew (S := fun w' => (w'.cell? ⟨w.heap.size, 1, none⟩ = some (.int .i64 a) ∧ w'.cell? ⟨sp, a, none⟩ = some (.int .i32 (x))) ∧ Kept No (w.alloc (.cells #[.int .i64 o, .int .i64 a, .int .i64 b, .int .i64 c] 42)) w') (by kernel_rfl) ?_ (fun hHeld => ?_)
          · exact HH.out _ K4.out.drew
          refine wpAnyH_take (i := 0) (v := ?_) rfl (by kernel_rfl) (by kernel_rfl) (by kernel_rfl) (fun _ _ _ h => h) (Or.inl ⟨by rfl, ?_⟩) (by assumption) ?_
          rotate_left
          · intro w hSw
            (try dsimp only at hSw)
            go_simp
            (try with_reducible rfl)
          try simp only [Act.put, List.getElem_toArray, List.getElem_cons_zero, List.setIfInBounds_toArray, List.set_cons_zero, List.set_cons_succ]
          refine wpAnyH_take (i := 1) (v := ?_) rfl (by kernel_rfl) (by kernel_rfl) (by kernel_rfl) (fun _ _ _ h => h) (Or.inl ⟨by rfl, ?_⟩) (by assumption) ?_
          rotate_left
          · intro w hSw
            (try dsimp only at hSw)
            go_simp
            (try with_reducible rfl)
          try simp only [Act.put, List.getElem_toArray, List.getElem_cons_zero, List.getElem_cons_succ, List.setIfInBounds_toArray, List.set_cons_zero, List.set_cons_succ]
          refine wpAnyH_take (i := 2) (v := ?_) rfl (by kernel_rfl) (by kernel_rfl) (by kernel_rfl) (fun _ _ _ h => h) (Or.inl ⟨by rfl, ?_⟩) (by assumption) ?_
          rotate_left
          · intro w hSw
            (try dsimp only at hSw)
            go_simp
            (try with_reducible rfl)
          try simp only [Act.put, List.getElem_toArray, List.getElem_cons_zero, List.getElem_cons_succ, List.setIfInBounds_toArray, List.set_cons_zero, List.set_cons_succ]
          refine wpAnyH_take (i := 3) (v := ?_) rfl (by kernel_rfl) (by kernel_rfl) (by kernel_rfl) (fun _ _ _ h => h) (Or.inl ⟨by rfl, ?_⟩) (by assumption) ?_
          rotate_left
          · intro w hSw
            (try dsimp only at hSw)
            go_simp
            (try with_reducible rfl)
          try simp only [Act.put, List.getElem_toArray, List.getElem_cons_zero, List.getElem_cons_succ, List.setIfInBounds_toArray, List.set_cons_zero, List.set_cons_succ]
          refine wpAnyH_take (i := 4) (v := ?_) rfl (by kernel_rfl) (by kernel_rfl) (by kernel_rfl) (fun _ _ _ h => h) (Or.inl ⟨by rfl, ?_⟩) (by assumption) ?_
          rotate_left
          · intro w hSw
            (try dsimp only at hSw)
            go_simp
            (try with_reducible rfl)
          try simp only [Act.put, List.getElem_toArray, List.getElem_cons_zero, List.getElem_cons_succ, List.setIfInBounds_toArray, List.set_cons_zero, List.set_cons_succ]
          refine wpAnyH_take (i := 5) (v := ?_) rfl (by kernel_rfl) (by kernel_rfl) (by kernel_rfl) (fun _ _ _ h => h) (Or.inl ⟨by rfl, ?_⟩) (by assumption) ?_
          rotate_left
          · intro w hSw
            (try dsimp only at hSw)
            go_simp
            (try with_reducible rfl)
          try simp only [Act.put, List.getElem_toArray, List.getElem_cons_zero, List.getElem_cons_succ, List.setIfInBounds_toArray, List.set_cons_zero, List.set_cons_succ]
          refine wpAnyH_take (i := 6) (v := ?_) rfl (by kernel_rfl) (by kernel_rfl) (by kernel_rfl) (fun _ _ _ h => h) (Or.inl ⟨by rfl, ?_⟩) (by assumption) ?_
          rotate_left
          · intro w hSw
            (try dsimp only at hSw)
            go_simp
            (try with_reducible rfl)
          try simp only [Act.put, List.getElem_toArray, List.getElem_cons_zero, List.getElem_cons_succ, List.setIfInBounds_toArray, List.set_cons_zero, List.set_cons_succ]
          refine wpAnyH_take (i := 7) (v := ?_) rfl (by kernel_rfl) (by kernel_rfl) (by kernel_rfl) (fun _ _ _ h => h) (Or.inl ⟨by rfl, ?_⟩) (by assumption) ?_
          rotate_left
          · intro w hSw
            (try dsimp only at hSw)
            go_simp
            (try with_reducible rfl)
          try simp only [Act.put, List.getElem_toArray, List.getElem_cons_zero, List.getElem_cons_succ, List.setIfInBounds_toArray, List.set_cons_zero, List.set_cons_succ]
          refine wpAnyH_take (i := 8) (v := ?_) rfl (by kernel_rfl) (by kernel_rfl) (by kernel_rfl) (fun _ _ _ h => h) (Or.inl ⟨by rfl, ?_⟩) (by assumption) ?_
          rotate_left
          · intro w hSw
            (try dsimp only at hSw)
            go_simp
            (try with_reducible rfl)
          try simp only [Act.put, List.getElem_toArray, List.getElem_cons_zero, List.getElem_cons_succ, List.setIfInBounds_toArray, List.set_cons_zero, List.set_cons_succ]
          refine wpAnyH_take (i := 9) (v := ?_) rfl (by kernel_rfl) (by kernel_rfl) (by kernel_rfl) (fun _ _ _ h => h) (Or.inl ⟨by rfl, ?_⟩) (by assumption) ?_
          rotate_left
          · intro w hSw
            (try dsimp only at hSw)
            go_simp
            (try with_reducible rfl)
          try simp only [Act.put, List.getElem_toArray, List.getElem_cons_zero, List.getElem_cons_succ, List.setIfInBounds_toArray, List.set_cons_zero, List.set_cons_succ]
          refine wpAnyH_ready (rs := [10]) (by kernel_rfl) (by simp) ?_
          refine AllReadyH.cons rfl (fun K hK => ?_) AllReadyH.nil
          go_simp
          refine (memSetWord_far mp g l q _ _ (HM.out.on (HK0.out.trans hHeld.2)).mem HT4.out HL.out).mono ?_
          rintro e v5 ⟨rfl, rfl⟩
          first | show K _ _ | go_wp2_with fail
          refine hK.out _ _ ?_ (fun hHeld1 => ?_)
          · exact hHeld
          clear hK K
          try simp only [Act.put, List.getElem_toArray, List.getElem_cons_zero, List.getElem_cons_succ, List.setIfInBounds_toArray, List.set_cons_zero, List.set_cons_succ]
          refine wpAnyH_take (i := 11) (v := ?_) rfl (by kernel_rfl) (by kernel_rfl) (by kernel_rfl) (fun _ _ _ h => h) (Or.inl ⟨by rfl, ?_⟩) (by assumption) ?_
          rotate_left
          · intro w hSw
            (try dsimp only at hSw)
            go_simp
            (try with_reducible rfl)
          try simp only [Act.put, List.getElem_toArray, List.getElem_cons_zero, List.getElem_cons_succ, List.setIfInBounds_toArray, List.set_cons_zero, List.set_cons_succ]
          refine wpAnyH_done (by kernel_rfl) ?_ _
          have K5 := HK0.out.trans hHeld1.2
          go_wp2_with fail
          go_ret
          exact ⟨rfl, (HM.out.on K5).mem, K5.up⟩
      · have hf' : fitsZ (L.map ZR.z) (kindOf (L.map ZR.z) q) (x % 4294967296) = false := by simpa using hf
        rw [if_neg (by omega), if_neg (by rw [hc]; simp), if_pos hf']
        have HF := Lib.hid hf'
        clear h hreach hq2 k0 h4 hc ha hf hf' hkind hwf
        go_enter Try.func51, Try.ntmps51
        go_wp2_with fail
        refine HR.out.mono ?_
        rintro e w1 ⟨rfl, k1⟩
        have K1 := HK0.out.trans k1
        go_wp2_with fail
        refine (cpuAligned_any _ _).mono ?_
        rintro e w2 ⟨rfl, rfl⟩
        rw [e4]
        go_wp2_with fail
        refine ((HM.out.on K1).canStore q 4).mono ?_
        rintro e w3 ⟨rfl, k3⟩
        rw [HC.out]
        have K3 := Lib.hid (k1.trans k3)
        clear k1 K1 k3
        go_wp2_with fail
        refine wp_region_held_drew (S := fun w' => (w'.cell? ⟨w.heap.size, 1, none⟩ = some (.int .i64 a) ∧ w'.cell? ⟨sp, a, none⟩ = some (.int .i32 (x))) ∧ Kept No (w.alloc (.cells #[.int .i64 o, .int .i64 a, .int .i64 b, .int .i64 c] 42)) w') (by kernel_rfl) ?_ (fun hHeld => ?_)
        · exact HH.out _ K3.out.drew
        refine wpAnyH_take (i := 0) (v := ?_) rfl (by kernel_rfl) (by kernel_rfl) (by kernel_rfl) (fun _ _ _ h => h) (Or.inl ⟨by rfl, ?_⟩) (by assumption) ?_
        rotate_left
        · intro w hSw
          (try dsimp only at hSw)
          go_simp
          (try with_reducible rfl)
        try simp only [Act.put, List.getElem_toArray, List.getElem_cons_zero, List.setIfInBounds_toArray, List.set_cons_zero, List.set_cons_succ]
        refine wpAnyH_take (i := 1) (v := ?_) rfl (by kernel_rfl) (by kernel_rfl) (by kernel_rfl) (fun _ _ _ h => h) (Or.inl ⟨by rfl, ?_⟩) (by assumption) ?_
        rotate_left
        · intro w hSw
          (try dsimp only at hSw)
          go_simp
          (try with_reducible rfl)
        try simp only [Act.put, List.getElem_toArray, List.getElem_cons_zero, List.getElem_cons_succ, List.setIfInBounds_toArray, List.set_cons_zero, List.set_cons_succ]
        refine wpAnyH_take (i := 2) (v := ?_) rfl (by kernel_rfl) (by kernel_rfl) (by kernel_rfl) (fun _ _ _ h => h) (Or.inl ⟨by rfl, ?_⟩) (by assumption) ?_
        rotate_left
        · intro w hSw
          (try dsimp only at hSw)
          go_simp
          (try with_reducible rfl)
        try simp only [Act.put, List.getElem_toArray, List.getElem_cons_zero, List.getElem_cons_succ, List.setIfInBounds_toArray, List.set_cons_zero, List.set_cons_succ]
        refine wpAnyH_take (i := 4) (v := ?_) rfl (by kernel_rfl) (by kernel_rfl) (by kernel_rfl) (fun _ _ _ h => h) (Or.inl ⟨by rfl, ?_⟩) (by assumption) ?_
        rotate_left
        · intro w hSw
          (try dsimp only at hSw)
          go_simp
          (try with_reducible rfl)
        try simp only [Act.put, List.getElem_toArray, List.getElem_cons_zero, List.getElem_cons_succ, List.setIfInBounds_toArray, List.set_cons_zero, List.set_cons_succ]
        refine wpAnyH_take (i := 5) (v := ?_) rfl (by kernel_rfl) (by kernel_rfl) (by kernel_rfl) (fun _ _ _ h => h) (Or.inl ⟨by rfl, ?_⟩) (by assumption) ?_
        rotate_left
        · intro w hSw
          (try dsimp only at hSw)
          go_simp
          (try with_reducible rfl)
        try simp only [Act.put, List.getElem_toArray, List.getElem_cons_zero, List.getElem_cons_succ, List.setIfInBounds_toArray, List.set_cons_zero, List.set_cons_succ]
        refine wpAnyH_take (i := 6) (v := ?_) rfl (by kernel_rfl) (by kernel_rfl) (by kernel_rfl) (fun _ _ _ h => h) (Or.inl ⟨by rfl, ?_⟩) (by assumption) ?_
        rotate_left
        · intro w hSw
          (try dsimp only at hSw)
          go_simp
          (try with_reducible rfl)
        try simp only [Act.put, List.getElem_toArray, List.getElem_cons_zero, List.getElem_cons_succ, List.setIfInBounds_toArray, List.set_cons_zero, List.set_cons_succ]
        refine wpAnyH_take (i := 7) (v := ?_) rfl (by kernel_rfl) (by kernel_rfl) (by kernel_rfl) (fun _ _ _ h => h) (Or.inl ⟨by rfl, ?_⟩) (by assumption) ?_
        rotate_left
        · intro w hSw
          (try dsimp only at hSw)
          go_simp
          (try with_reducible rfl)
        try simp only [Act.put, List.getElem_toArray, List.getElem_cons_zero, List.getElem_cons_succ, List.setIfInBounds_toArray, List.set_cons_zero, List.set_cons_succ]
        refine wpAnyH_take (i := 8) (v := ?_) rfl (by kernel_rfl) (by kernel_rfl) (by kernel_rfl) (fun _ _ _ h => h) (Or.inl ⟨by rfl, ?_⟩) (by assumption) ?_
        rotate_left
        · intro w hSw
          (try dsimp only at hSw)
          go_simp
          (try with_reducible rfl)
        try simp only [Act.put, List.getElem_toArray, List.getElem_cons_zero, List.getElem_cons_succ, List.setIfInBounds_toArray, List.set_cons_zero, List.set_cons_succ]
        refine wpAnyH_take (i := 9) (v := ?_) rfl (by kernel_rfl) (by kernel_rfl) (by kernel_rfl) (fun _ _ _ h => h) (Or.inl ⟨by rfl, ?_⟩) (by assumption) ?_
        rotate_left
        · intro w hSw
          (try dsimp only at hSw)
          go_simp
          (try with_reducible rfl)
        try simp only [Act.put, List.getElem_toArray, List.getElem_cons_zero, List.getElem_cons_succ, List.setIfInBounds_toArray, List.set_cons_zero, List.set_cons_succ]
        refine wpAnyH_take (i := 10) (v := ?_) rfl (by kernel_rfl) (by kernel_rfl) (by kernel_rfl) (fun _ _ _ h => h) (Or.inl ⟨by rfl, ?_⟩) (by assumption) ?_
        rotate_left
        · intro w hSw
          (try dsimp only at hSw)
          go_simp
          (try with_reducible rfl)
        try simp only [Act.put, List.getElem_toArray, List.getElem_cons_zero, List.getElem_cons_succ, List.setIfInBounds_toArray, List.set_cons_zero, List.set_cons_succ]
        refine wpAnyH_ready (rs := [3]) (by kernel_rfl) (by simp) ?_
        refine AllReadyH.cons rfl (fun K hK => ?_) AllReadyH.nil
        go_simp
        refine ((HM.out.on (HK0.out.trans hHeld.2)).cell q HWf.out).mono ?_
        rintro e v1 ⟨rfl, j1⟩
        rw [HKi.out]
        first | show K _ _ | go_wp2_with fail
        refine hK.out _ _ ?_ (fun hHeld1 => ?_)
        · exact HH.out _ (hHeld.2.trans j1)
        clear hK K
        try simp only [Act.put, List.getElem_toArray, List.getElem_cons_zero, List.getElem_cons_succ, List.setIfInBounds_toArray, List.set_cons_zero, List.set_cons_succ]
        refine wpAnyH_ready (rs := [11]) (by kernel_rfl) (by simp) ?_
        refine AllReadyH.cons rfl (fun K hK => ?_) AllReadyH.nil
        go_simp
        refine (place_any _ _).mono ?_
        rintro e v2 ⟨rfl, rfl⟩
        first | show K _ _ | go_wp2_with fail
        refine hK.out _ _ ?_ (fun hHeld2 => ?_)
        · exact hHeld1
        clear hK K
        try simp only [Act.put, List.getElem_toArray, List.getElem_cons_zero, List.getElem_cons_succ, List.setIfInBounds_toArray, List.set_cons_zero, List.set_cons_succ]
        refine wpAnyH_ready (rs := [12]) (by kernel_rfl) (by simp) ?_
        refine AllReadyH.cons rfl (fun K hK => ?_) AllReadyH.nil
        go_simp
        refine ((HM.out.on (HK0.out.trans hHeld2.2)).fits _ _).mono ?_
        rintro e v3 ⟨rfl, j3⟩
        rw [HF.out]
        first | show K _ _ | go_wp2_with fail
        refine hK.out _ _ ?_ (fun hHeld3 => ?_)
        · exact HH.out _ (hHeld2.2.trans j3)
        clear hK K
        try simp only [Act.put, List.getElem_toArray, List.getElem_cons_zero, List.getElem_cons_succ, List.setIfInBounds_toArray, List.set_cons_zero, List.set_cons_succ]
        refine wpAnyH_take (i := 13) (v := ?_) rfl (by kernel_rfl) (by kernel_rfl) (by kernel_rfl) (fun _ _ _ h => h) (Or.inl ⟨by rfl, ?_⟩) (by assumption) ?_
        rotate_left
        · intro w hSw
          (try dsimp only at hSw)
          go_simp
          (try with_reducible rfl)
        try simp only [Act.put, List.getElem_toArray, List.getElem_cons_zero, List.getElem_cons_succ, List.setIfInBounds_toArray, List.set_cons_zero, List.set_cons_succ]
        refine wpAnyH_done (by kernel_rfl) ?_ _
        have K4 := HK0.out.trans hHeld3.2
        clear hHeld hHeld1 hHeld2 hHeld3
        go_wp2_with fail
        go_ret
        exact ⟨rfl, (HM.out.on K4).mem, K4.up⟩
    · have hc' : canStore (L.map ZR.z) q 4 = false := by simpa using hc
      rw [if_neg (by omega), if_pos hc']
      have HC := Lib.hid hc'
      clear h hreach hq2 k0 h4 hc hc' ha hkind hwf
      go_enter Try.func51, Try.ntmps51
      go_wp2_with fail
      refine HR.out.mono ?_
      rintro e w1 ⟨rfl, k1⟩
      have K1 := HK0.out.trans k1
      go_wp2_with fail
      refine (cpuAligned_any _ _).mono ?_
      rintro e w2 ⟨rfl, rfl⟩
      rw [e4]
      go_wp2_with fail
      refine ((HM.out.on K1).canStore q 4).mono ?_
      rintro e w3 ⟨rfl, k3⟩
      rw [HC.out]
      have K3 := Lib.hid (K1.trans k3)
      clear k1 K1 k3
      go_wp2_with fail
      go_ret
      exact ⟨rfl, (HM.out.on K3.out).mem, K3.out.up⟩
  · rw [if_pos (by omega)]
    have e4 : ((q : Int).tmod 4 == 0) = false := by rw [tmod4]; simp [h4]
    clear h hreach hq2 k0 h4 ha hwf
    go_enter Try.func51, Try.ntmps51
    go_wp2_with fail
    refine HR.out.mono ?_
    rintro e w1 ⟨rfl, k1⟩
    have K1 := HK0.out.trans k1
    go_wp2_with fail
    refine (cpuAligned_any _ _).mono ?_
    rintro e w2 ⟨rfl, rfl⟩
    rw [e4]
    go_wp2_with fail
    go_ret
    exact ⟨rfl, (HM.out.on K1).mem, K1.up⟩
end Go.Proofs.Ytlnjcaicagcinaa

/-
  A machine of package cpu: what StorB, and the operations of package alu, do to it (layer 7). No conditions beyond those that each theorem names.
-/
namespace Go.Proofs.Ytlnjcaicagcinaa
open Go.ChangeShapes Go.WideShapes Go.ChangeAt Go.RowKit

theorem MemAt.setB {w : World} {p g : Nat} {l : List Nat} (h : MemAt w p g l) (q y : Nat) (hy : y < 256) : MemAt (w.setCell ⟨g, q, none⟩ (.int .u8 (y : Int))) p g (l.set q y) := by
  have k : Kept (· = g) w (w.setCell ⟨g, q, none⟩ (.int .u8 (y : Int))) := kept_set w g q _
  refine ⟨?_, h.row.setCell q y hy, h.apart, by rw [List.length_set]; exact h.small⟩
  rw [List.length_set]
  exact k.block h.head h.apart

set_option maxRecDepth 100000 in
set_option maxHeartbeats 1000000 in
theorem storeByte_any {w : World} {sp mp g zp mb : Nat} {lv : Value} {L : List ZR} {n : Nat} {r : List Int} {p : Int} {l : List Nat} (h : Mach w sp mp g zp mb lv L n r p l) (o c : Int) {a b : Nat} (ha : a < 16) (hb : b < 16) :
    Calls Try.prog 53 #[.pointer (some ⟨sp, 0, none⟩), .agg #[.int .i64 o, .int .i64 a, .int .i64 b, .int .i64 c], .pointer (some ⟨mp, 0, none⟩), .pointer (some ⟨zp, 0, none⟩)] w fun e w' =>
      e = .returned (.int .i64 (storeB (L.map ZR.z) r l a b c).1) ∧ MemAt w' mp g (storeB (L.map ZR.z) r l a b c).2 ∧ Kept (· = g) w w' := by
  have HM := Lib.hid h
  have HG := Lib.hid h.ne.1
  have k0 : Kept No w (w.alloc (.cells #[.int .i64 o, .int .i64 a, .int .i64 b, .int .i64 c] 42)) := (Kept.refl _ _).alloc _
  have hreach := (h.on k0).reach o a c hb
  obtain ⟨q, hq⟩ : ∃ q : Nat, ((r.getD b 0 + c) % 4294967296).toNat = q := ⟨_, rfl⟩
  have hq2 : (r.getD b 0 + c) % 4294967296 = (q : Int) := by omega
  have hlw : q < 4294967296 := by omega
  rw [hq2] at hreach
  have HR := Lib.hid hreach
  have HK0 := Lib.hid k0
  have HA := Lib.hid ha
  have HH := Lib.hid (fun v k => h.held (o := o) (c := c) (b := (b : Int)) (v := v) ha k)
  have hwf : (Lit.int .i64 (q : Int)).wf = true := WalkArith.wf_i64 (by omega)
  have HWf := Lib.hid hwf
  have i1 : (a : Int) < 16 := by omega
  have i2 : (0 : Int) ≤ (a : Int) := by omega
  obtain ⟨x, hx⟩ : ∃ x, r.getD a 0 = x := ⟨_, rfl⟩
  rw [hx] at HH
  unfold storeB
  simp only [hq, hx]
  clear hq hx
  obtain ⟨kd, hkd⟩ : ∃ kd, kindOf (L.map ZR.z) ((q : Int) - (q : Int) % 4) = kd := ⟨_, rfl⟩
  rw [hkd]
  by_cases hc : canStore (L.map ZR.z) q 1 = true
  · have HC := Lib.hid hc
    have HKD := Lib.hid hkd
    by_cases hk : kd = 0
    · have hkn : (kd != 0) = false := by simp [hk]
      have HKN := Lib.hid hkn
      have HKE := Lib.hid hk
      by_cases hl : q + 1 ≤ l.length
      · rw [if_neg (by rw [hc]; simp), if_neg (by simp [hk]), if_neg (by omega)]
        have HS : Hid (∀ v, Kept No w v → Calls Try.prog 76 #[.pointer (some ⟨mp, 0, none⟩), .int .i64 q, .int .u8 (x % 256)] v fun e w' => e = .returned (.int .i64 0) ∧ MemAt w' mp g (l.set q (x % 256).toNat) ∧ Kept (· = g) v w') := fun v k => by
          have := memSetByte_yes mp g l q (x % 256).toNat v (h.on k).mem (by omega)
          have e : (((x % 256).toNat : Nat) : Int) = x % 256 := by omega
          rw [e] at this
          refine this.mono ?_
          rintro _ _ ⟨rfl, rfl⟩
          have hs := (h.on k).mem.setB q (x % 256).toNat (by omega)
          rw [e] at hs
          exact ⟨rfl, hs, kept_set _ _ _ _⟩
        clear h hreach hq2 k0 hc hl ha hwf hkd hkn hk
        go_enter Try.func53, Try.ntmps53
        go_wp2_with fail
        refine HR.out.mono ?_
        rintro e w1 ⟨rfl, k1⟩
        have K1 := HK0.out.trans k1
        go_wp2_with fail
        refine ((HM.out.on K1).canStore q 1).mono ?_
        rintro e w3 ⟨rfl, k3⟩
        rw [HC.out]
        have K3 := Lib.hid (k1.trans k3)
        clear k1 K1 k3
        go_wp2_with fail
        refine ((HM.out.on (HK0.out.trans K3.out)).cell q HWf.out).mono ?_
        rintro e w4 ⟨rfl, k4⟩
        rw [HKD.out]
        have K4 := Lib.hid (K3.out.trans k4)
        have hkn := HKN.out
        clear k4
        go_wp2_with fail
        refine wp_region_held_drew (S := fun w' => w'.cell? ⟨w.heap.size, 1, none⟩ = some (.int .i64 a) ∧ w'.cell? ⟨sp, a, none⟩ = some (.int .i32 x)) (by kernel_rfl) ?_ (fun hHeld => ?_)
        · exact (HH.out _ K4.out.drew).1
        refine wpAnyH_take (i := 0) (v := ?_) rfl (by kernel_rfl) (by kernel_rfl) (by kernel_rfl) (fun _ _ _ h => h) (Or.inl ⟨by rfl, ?_⟩) (by assumption) ?_
        rotate_left
        · intro w hSw
          (try dsimp only at hSw)
          go_simp
          (try with_reducible rfl)
        try simp only [Act.put, List.getElem_toArray, List.getElem_cons_zero, List.setIfInBounds_toArray, List.set_cons_zero, List.set_cons_succ]
        refine wpAnyH_take (i := 1) (v := ?_) rfl (by kernel_rfl) (by kernel_rfl) (by kernel_rfl) (fun _ _ _ h => h) (Or.inl ⟨by rfl, ?_⟩) (by assumption) ?_
        rotate_left
        · intro w hSw
          (try dsimp only at hSw)
          go_simp
          (try with_reducible rfl)
        try simp only [Act.put, List.getElem_toArray, List.getElem_cons_zero, List.getElem_cons_succ, List.setIfInBounds_toArray, List.set_cons_zero, List.set_cons_succ]
        refine wpAnyH_take (i := 2) (v := ?_) rfl (by kernel_rfl) (by kernel_rfl) (by kernel_rfl) (fun _ _ _ h => h) (Or.inl ⟨by rfl, ?_⟩) (by assumption) ?_
        rotate_left
        · intro w hSw
          (try dsimp only at hSw)
          go_simp
          (try with_reducible rfl)
        try simp only [Act.put, List.getElem_toArray, List.getElem_cons_zero, List.getElem_cons_succ, List.setIfInBounds_toArray, List.set_cons_zero, List.set_cons_succ]
        refine wpAnyH_take (i := 3) (v := ?_) rfl (by kernel_rfl) (by kernel_rfl) (by kernel_rfl) (fun _ _ _ h => h) (Or.inl ⟨by rfl, ?_⟩) (by assumption) ?_
        rotate_left
        · intro w hSw
          (try dsimp only at hSw)
          go_simp
          (try with_reducible rfl)
        try simp only [Act.put, List.getElem_toArray, List.getElem_cons_zero, List.getElem_cons_succ, List.setIfInBounds_toArray, List.set_cons_zero, List.set_cons_succ]
        refine wpAnyH_take (i := 4) (v := ?_) rfl (by kernel_rfl) (by kernel_rfl) (by kernel_rfl) (fun _ _ _ h => h) (Or.inl ⟨by rfl, ?_⟩) (by assumption) ?_
        rotate_left
        · intro w hSw
          (try dsimp only at hSw)
          go_simp
          (try with_reducible rfl)
        try simp only [Act.put, List.getElem_toArray, List.getElem_cons_zero, List.getElem_cons_succ, List.setIfInBounds_toArray, List.set_cons_zero, List.set_cons_succ]
        refine wpAnyH_take (i := 5) (v := ?_) rfl (by kernel_rfl) (by kernel_rfl) (by kernel_rfl) (fun _ _ _ h => h) (Or.inl ⟨by rfl, ?_⟩) (by assumption) ?_
        rotate_left
        · intro w hSw
          (try dsimp only at hSw)
          go_simp
          (try with_reducible rfl)
        try simp only [Act.put, List.getElem_toArray, List.getElem_cons_zero, List.getElem_cons_succ, List.setIfInBounds_toArray, List.set_cons_zero, List.set_cons_succ]
        refine wpAnyH_take (i := 6) (v := ?_) rfl (by kernel_rfl) (by kernel_rfl) (by kernel_rfl) (fun _ _ _ h => h) (Or.inl ⟨by rfl, ?_⟩) (by assumption) ?_
        rotate_left
        · intro w hSw
          (try dsimp only at hSw)
          go_simp
          (try with_reducible rfl)
        try simp only [Act.put, List.getElem_toArray, List.getElem_cons_zero, List.getElem_cons_succ, List.setIfInBounds_toArray, List.set_cons_zero, List.set_cons_succ]
        refine wpAnyH_take (i := 7) (v := ?_) rfl (by kernel_rfl) (by kernel_rfl) (by kernel_rfl) (fun _ _ _ h => h) (Or.inl ⟨by rfl, ?_⟩) (by assumption) ?_
        rotate_left
        · intro w hSw
          (try dsimp only at hSw)
          go_simp
          (try with_reducible rfl)
        try simp only [Act.put, List.getElem_toArray, List.getElem_cons_zero, List.getElem_cons_succ, List.setIfInBounds_toArray, List.set_cons_zero, List.set_cons_succ]
        refine wpAnyH_take (i := 8) (v := ?_) rfl (by kernel_rfl) (by kernel_rfl) (by kernel_rfl) (fun _ _ _ h => h) (Or.inl ⟨by rfl, ?_⟩) (by assumption) ?_
        rotate_left
        · intro w hSw
          (try dsimp only at hSw)
          go_simp
          (try with_reducible rfl)
        try simp only [Act.put, List.getElem_toArray, List.getElem_cons_zero, List.getElem_cons_succ, List.setIfInBounds_toArray, List.set_cons_zero, List.set_cons_succ]
        refine wpAnyH_take (i := 9) (v := ?_) rfl (by kernel_rfl) (by kernel_rfl) (by kernel_rfl) (fun _ _ _ h => h) (Or.inl ⟨by rfl, ?_⟩) (by assumption) ?_
        rotate_left
        · intro w hSw
          (try dsimp only at hSw)
          go_simp
          (try with_reducible rfl)
        try simp only [Act.put, List.getElem_toArray, List.getElem_cons_zero, List.getElem_cons_succ, List.setIfInBounds_toArray, List.set_cons_zero, List.set_cons_succ]
        refine wpAnyH_ready (rs := [10]) (by kernel_rfl) (by simp) ?_
        refine AllReadyH.cons rfl (fun K hK => ?_) AllReadyH.nil
        go_simp
        refine (HS.out _ (HK0.out.trans K4.out.drew)).mono ?_
        rintro e v5 ⟨rfl, m5, j5⟩
        first | show K _ _ | go_wp2_with fail
        refine hK.out _ _ ?_ (fun hHeld1 => ?_)
        · exact ⟨(j5.cell (p := ⟨_, _, none⟩) (cell_lt hHeld.1) (fun e => by have := m5.row.lt; have := HM.out.mem.row.lt; simp only at e; omega)).trans hHeld.1, (j5.cell (p := ⟨_, _, none⟩) (cell_lt hHeld.2) (fun e => HG.out e)).trans hHeld.2⟩
        clear hK K
        try simp only [Act.put, List.getElem_toArray, List.getElem_cons_zero, List.getElem_cons_succ, List.setIfInBounds_toArray, List.set_cons_zero, List.set_cons_succ]
        refine wpAnyH_take (i := 11) (v := ?_) rfl (by kernel_rfl) (by kernel_rfl) (by kernel_rfl) (fun _ _ _ h => h) (Or.inl ⟨by rfl, ?_⟩) (by assumption) ?_
        rotate_left
        · intro w hSw
          (try dsimp only at hSw)
          go_simp
          (try with_reducible rfl)
        try simp only [Act.put, List.getElem_toArray, List.getElem_cons_zero, List.getElem_cons_succ, List.setIfInBounds_toArray, List.set_cons_zero, List.set_cons_succ]
        refine wpAnyH_done (by kernel_rfl) ?_ _
        go_wp2_with fail
        go_ret
        exact ⟨rfl, m5, ((HK0.out.trans K4.out.drew).up (S := (· = g))).trans j5⟩
      · rw [if_neg (by rw [hc]; simp), if_neg (by simp [hk]), if_pos (by omega)]
        have HL : Hid ((q : Int) < 0 ∨ (l.length : Int) ≤ q) := by show _ ∨ _; omega
        clear h hreach hq2 k0 hc hl ha hwf hkd hkn hk
        go_enter Try.func53, Try.ntmps53
        go_wp2_with fail
        refine HR.out.mono ?_
        rintro e w1 ⟨rfl, k1⟩
        have K1 := HK0.out.trans k1
        go_wp2_with fail
        refine ((HM.out.on K1).canStore q 1).mono ?_
        rintro e w3 ⟨rfl, k3⟩
        rw [HC.out]
        have K3 := Lib.hid (k1.trans k3)
        clear k1 K1 k3
        go_wp2_with fail
        refine ((HM.out.on (HK0.out.trans K3.out)).cell q HWf.out).mono ?_
        rintro e w4 ⟨rfl, k4⟩
        rw [HKD.out]
        have K4 := Lib.hid (K3.out.trans k4)
        have hkn := HKN.out
        clear k4
        go_wp2_with fail
        refine wp_region_held_drew (S := fun w' => (w'.cell? ⟨w.heap.size, 1, none⟩ = some (.int .i64 a) ∧ w'.cell? ⟨sp, a, none⟩ = some (.int .i32 (x))) ∧ Kept No (w.alloc (.cells #[.int .i64 o, .int .i64 a, .int .i64 b, .int .i64 c] 42)) w') (by kernel_rfl) ?_ (fun hHeld => ?_)
        · exact HH.out _ K4.out.drew
        refine wpAnyH_take (i := 0) (v := ?_) rfl (by kernel_rfl) (by kernel_rfl) (by kernel_rfl) (fun _ _ _ h => h) (Or.inl ⟨by rfl, ?_⟩) (by assumption) ?_
        rotate_left
        · intro w hSw
          (try dsimp only at hSw)
          go_simp
          (try with_reducible rfl)
        try simp only [Act.put, List.getElem_toArray, List.getElem_cons_zero, List.setIfInBounds_toArray, List.set_cons_zero, List.set_cons_succ]
        refine wpAnyH_take (i := 1) (v := ?_) rfl (by kernel_rfl) (by kernel_rfl) (by kernel_rfl) (fun _ _ _ h => h) (Or.inl ⟨by rfl, ?_⟩) (by assumption) ?_
        rotate_left
        · intro w hSw
          (try dsimp only at hSw)
          go_simp
          (try with_reducible rfl)
        try simp only [Act.put, List.getElem_toArray, List.getElem_cons_zero, List.getElem_cons_succ, List.setIfInBounds_toArray, List.set_cons_zero, List.set_cons_succ]
        refine wpAnyH_take (i := 2) (v := ?_) rfl (by kernel_rfl) (by kernel_rfl) (by kernel_rfl) (fun _ _ _ h => h) (Or.inl ⟨by rfl, ?_⟩) (by assumption) ?_
        rotate_left
        · intro w hSw
          (try dsimp only at hSw)
          go_simp
          (try with_reducible rfl)
        try simp only [Act.put, List.getElem_toArray, List.getElem_cons_zero, List.getElem_cons_succ, List.setIfInBounds_toArray, List.set_cons_zero, List.set_cons_succ]
        refine wpAnyH_take (i := 3) (v := ?_) rfl (by kernel_rfl) (by kernel_rfl) (by kernel_rfl) (fun _ _ _ h => h) (Or.inl ⟨by rfl, ?_⟩) (by assumption) ?_
        rotate_left
        · intro w hSw
          (try dsimp only at hSw)
          go_simp
          (try with_reducible rfl)
        try simp only [Act.put, List.getElem_toArray, List.getElem_cons_zero, List.getElem_cons_succ, List.setIfInBounds_toArray, List.set_cons_zero, List.set_cons_succ]
        refine wpAnyH_take (i := 4) (v := ?_) rfl (by kernel_rfl) (by kernel_rfl) (by kernel_rfl) (fun _ _ _ h => h) (Or.inl ⟨by rfl, ?_⟩) (by assumption) ?_
        rotate_left
        · intro w hSw
          (try dsimp only at hSw)
          go_simp
          (try with_reducible rfl)
        try simp only [Act.put, List.getElem_toArray, List.getElem_cons_zero, List.getElem_cons_succ, List.setIfInBounds_toArray, List.set_cons_zero, List.set_cons_succ]
        refine wpAnyH_take (i := 5) (v := ?_) rfl (by kernel_rfl) (by kernel_rfl) (by kernel_rfl) (fun _ _ _ h => h) (Or.inl ⟨by rfl, ?_⟩) (by assumption) ?_
        rotate_left
        · intro w hSw
          (try dsimp only at hSw)
          go_simp
          (try with_reducible rfl)
        try simp only [Act.put, List.getElem_toArray, List.getElem_cons_zero, List.getElem_cons_succ, List.setIfInBounds_toArray, List.set_cons_zero, List.set_cons_succ]
        refine wpAnyH_take (i := 6) (v := ?_) rfl (by kernel_rfl) (by kernel_rfl) (by kernel_rfl) (fun _ _ _ h => h) (Or.inl ⟨by rfl, ?_⟩) (by assumption) ?_
        rotate_left
        · intro w hSw
          (try dsimp only at hSw)
          go_simp
          (try with_reducible rfl)
        try simp only [Act.put, List.getElem_toArray, List.getElem_cons_zero, List.getElem_cons_succ, List.setIfInBounds_toArray, List.set_cons_zero, List.set_cons_succ]
        refine wpAnyH_take (i := 7) (v := ?_) rfl (by kernel_rfl) (by kernel_rfl) (by kernel_rfl) (fun _ _ _ h => h) (Or.inl ⟨by rfl, ?_⟩) (by assumption) ?_
        rotate_left
        · intro w hSw
          (try dsimp only at hSw)
          go_simp
          (try with_reducible rfl)
        try simp only [Act.put, List.getElem_toArray, List.getElem_cons_zero, List.getElem_cons_succ, List.setIfInBounds_toArray, List.set_cons_zero, List.set_cons_succ]
        refine wpAnyH_take (i := 8) (v := ?_) rfl (by kernel_rfl) (by kernel_rfl) (by kernel_rfl) (fun _ _ _ h => h) (Or.inl ⟨by rfl, ?_⟩) (by assumption) ?_
        rotate_left
        · intro w hSw
          (try dsimp only at hSw)
          go_simp
          (try with_reducible rfl)
        try simp only [Act.put, List.getElem_toArray, List.getElem_cons_zero, List.getElem_cons_succ, List.setIfInBounds_toArray, List.set_cons_zero, List.set_cons_succ]
        refine wpAnyH_take (i := 9) (v := ?_) rfl (by kernel_rfl) (by kernel_rfl) (by kernel_rfl) (fun _ _ _ h => h) (Or.inl ⟨by rfl, ?_⟩) (by assumption) ?_
        rotate_left
        · intro w hSw
          (try dsimp only at hSw)
          go_simp
          (try with_reducible rfl)
        try simp only [Act.put, List.getElem_toArray, List.getElem_cons_zero, List.getElem_cons_succ, List.setIfInBounds_toArray, List.set_cons_zero, List.set_cons_succ]
        refine wpAnyH_ready (rs := [10]) (by kernel_rfl) (by simp) ?_
        refine AllReadyH.cons rfl (fun K hK => ?_) AllReadyH.nil
        go_simp
        refine (memSetByte_no mp g l q _ _ (HM.out.on (HK0.out.trans hHeld.2)).mem HL.out).mono ?_
        rintro e v5 ⟨rfl, rfl⟩
        first | show K _ _ | go_wp2_with fail
        refine hK.out _ _ ?_ (fun hHeld1 => ?_)
        · exact hHeld
        clear hK K
        try simp only [Act.put, List.getElem_toArray, List.getElem_cons_zero, List.getElem_cons_succ, List.setIfInBounds_toArray, List.set_cons_zero, List.set_cons_succ]
        refine wpAnyH_take (i := 11) (v := ?_) rfl (by kernel_rfl) (by kernel_rfl) (by kernel_rfl) (fun _ _ _ h => h) (Or.inl ⟨by rfl, ?_⟩) (by assumption) ?_
        rotate_left
        · intro w hSw
          (try dsimp only at hSw)
          go_simp
          (try with_reducible rfl)
        try simp only [Act.put, List.getElem_toArray, List.getElem_cons_zero, List.getElem_cons_succ, List.setIfInBounds_toArray, List.set_cons_zero, List.set_cons_succ]
        refine wpAnyH_done (by kernel_rfl) ?_ _
        have K5 := HK0.out.trans hHeld1.2
        go_wp2_with fail
        go_ret
        exact ⟨rfl, (HM.out.on K5).mem, K5.up⟩
    · have hkn : (kd != 0) = true := by simp [hk]
      have HKN := Lib.hid hkn
      rw [if_neg (by rw [hc]; simp), if_pos (by simp [hk])]
      clear h hreach hq2 k0 hc ha hwf hkd hkn hk
      go_enter Try.func53, Try.ntmps53
      go_wp2_with fail
      refine HR.out.mono ?_
      rintro e w1 ⟨rfl, k1⟩
      have K1 := HK0.out.trans k1
      go_wp2_with fail
      refine ((HM.out.on K1).canStore q 1).mono ?_
      rintro e w3 ⟨rfl, k3⟩
      rw [HC.out]
      have K3 := Lib.hid (k1.trans k3)
      clear k1 K1 k3
      go_wp2_with fail
      refine ((HM.out.on (HK0.out.trans K3.out)).cell q HWf.out).mono ?_
      rintro e w4 ⟨rfl, k4⟩
      rw [HKD.out]
      have K4 := Lib.hid (K3.out.trans k4)
      have hkn := HKN.out
      clear k4
      go_wp2_with fail
      go_ret
      exact ⟨rfl, (HM.out.on (HK0.out.trans K4.out)).mem, (HK0.out.trans K4.out).up⟩
  · have hc' : canStore (L.map ZR.z) q 1 = false := by simpa using hc
    rw [if_pos hc']
    have HC := Lib.hid hc'
    clear h hreach hq2 k0 hc hc' ha hwf hkd
    go_enter Try.func53, Try.ntmps53
    go_wp2_with fail
    refine HR.out.mono ?_
    rintro e w1 ⟨rfl, k1⟩
    have K1 := HK0.out.trans k1
    go_wp2_with fail
    refine ((HM.out.on K1).canStore q 1).mono ?_
    rintro e w3 ⟨rfl, k3⟩
    rw [HC.out]
    have K3 := Lib.hid (K1.trans k3)
    clear k1 K1 k3
    go_wp2_with fail
    go_ret
    exact ⟨rfl, (HM.out.on K3.out).mem, K3.out.up⟩

/- what an operation of package alu comes to: a trap, registers -/
def reckonOf (r : List Int) (o : Int) (a b m : Nat) : Int × List Int :=
  if aluT o (r.getD m 0) = 0 then (0, r.set a (aluV o (r.getD b 0) (r.getD m 0))) else (aluT o (r.getD m 0), r)

theorem Mach.held4 {w v : World} {sp mp g zp mb : Nat} {lv : Value} {L : List ZR} {n : Nat} {r : List Int} {p : Int} {l : List Nat} (h : Mach w sp mp g zp mb lv L n r p l) {o : Int} {a b m : Nat} (hb : b < 16) (hm : m < 16)
    (k : Kept No (w.alloc (.cells #[.int .i64 o, .int .i64 a, .int .i64 b, .int .i64 m] 42)) v) :
    (v.cell? ⟨w.heap.size, 0, none⟩ = some (.int .i64 o) ∧ v.cell? ⟨w.heap.size, 1, none⟩ = some (.int .i64 a) ∧ v.cell? ⟨w.heap.size, 2, none⟩ = some (.int .i64 b) ∧ v.cell? ⟨w.heap.size, 3, none⟩ = some (.int .i64 m) ∧ v.cell? ⟨sp, b, none⟩ = some (.int .i32 (r.getD b 0)) ∧ v.cell? ⟨sp, m, none⟩ = some (.int .i32 (r.getD m 0))) ∧ Kept No (w.alloc (.cells #[.int .i64 o, .int .i64 a, .int .i64 b, .int .i64 m] 42)) v :=
  have q := box_cells k
  ⟨⟨q.1, q.2.1, q.2.2.1, q.2.2.2, (h.on (((Kept.refl _ _).alloc _).trans k)).st.reg h.rl hb, (h.on (((Kept.refl _ _).alloc _).trans k)).st.reg h.rl hm⟩, k⟩

set_option maxRecDepth 100000 in
set_option maxHeartbeats 1000000 in
theorem reckon_any {w : World} {sp mp g zp mb : Nat} {lv : Value} {L : List ZR} {n : Nat} {r : List Int} {p : Int} {l : List Nat} (h : Mach w sp mp g zp mb lv L n r p l) (o : Int) {a b m : Nat} (ha : a < 16) (hb : b < 16) (hm : m < 16) (h1 : 2 ≤ o) (h2 : o ≤ 10) :
    Calls Try.prog 57 #[.pointer (some ⟨sp, 0, none⟩), .agg #[.int .i64 o, .int .i64 a, .int .i64 b, .int .i64 m]] w fun e w' =>
      e = .returned (.int .i64 (reckonOf r o a b m).1) ∧ RowAt w' sp ST (cst (reckonOf r o a b m).2 p) ∧ Kept (· = sp) w w' := by
  have HM := Lib.hid h
  have k0 : Kept No w (w.alloc (.cells #[.int .i64 o, .int .i64 a, .int .i64 b, .int .i64 m] 42)) := (Kept.refl _ _).alloc _
  have HK0 := Lib.hid k0
  have HA := Lib.hid ha
  have HH := Lib.hid (fun v k => h.held4 (o := o) (a := a) (v := v) hb hm k)
  obtain ⟨x, hx⟩ : ∃ x, r.getD b 0 = x := ⟨_, rfl⟩
  obtain ⟨y, hy⟩ : ∃ y, r.getD m 0 = y := ⟨_, rfl⟩
  rw [hx, hy] at HH
  unfold reckonOf
  rw [hx, hy]
  have HDo := Lib.hid (fun v => do_any o x y v h1 h2)
  have i1 : (a : Int) < 16 := by omega
  have i2 : (0 : Int) ≤ (a : Int) := by omega
  have i3 : (b : Int) < 16 := by omega
  have i4 : (0 : Int) ≤ (b : Int) := by omega
  have i5 : (m : Int) < 16 := by omega
  have i6 : (0 : Int) ≤ (m : Int) := by omega
  generalize aluV o x y = z at *
  by_cases ht : aluT o y = 0
  · rw [if_pos ht]
    rw [ht] at HDo
    clear h k0 ha hb hm ht h1 h2 hx hy
    go_enter Try.func57, Try.ntmps57
    go_wp2_with fail
    refine wp_region_held_drew (S := fun w' => (w'.cell? ⟨w.heap.size, 0, none⟩ = some (.int .i64 o) ∧ w'.cell? ⟨w.heap.size, 1, none⟩ = some (.int .i64 a) ∧ w'.cell? ⟨w.heap.size, 2, none⟩ = some (.int .i64 b) ∧ w'.cell? ⟨w.heap.size, 3, none⟩ = some (.int .i64 m) ∧ w'.cell? ⟨sp, b, none⟩ = some (.int .i32 x) ∧ w'.cell? ⟨sp, m, none⟩ = some (.int .i32 y)) ∧ Kept No (w.alloc (.cells #[.int .i64 o, .int .i64 a, .int .i64 b, .int .i64 m] 42)) w') (by kernel_rfl) ?_ (fun hHeld => ?_)
    · exact HH.out _ (Kept.refl _ _).drew
    refine wpAnyH_take (i := 0) (v := ?_) rfl (by kernel_rfl) (by kernel_rfl) (by kernel_rfl) (fun _ _ _ h => h) (Or.inl ⟨by rfl, ?_⟩) (by assumption) ?_
    rotate_left
    · intro w hSw
      (try dsimp only at hSw)
      go_simp
      (try with_reducible rfl)
    try simp only [Act.put, List.getElem_toArray, List.getElem_cons_zero, List.setIfInBounds_toArray, List.set_cons_zero, List.set_cons_succ]
    refine wpAnyH_take (i := 1) (v := ?_) rfl (by kernel_rfl) (by kernel_rfl) (by kernel_rfl) (fun _ _ _ h => h) (Or.inl ⟨by rfl, ?_⟩) (by assumption) ?_
    rotate_left
    · intro w hSw
      (try dsimp only at hSw)
      go_simp
      (try with_reducible rfl)
    try simp only [Act.put, List.getElem_toArray, List.getElem_cons_zero, List.getElem_cons_succ, List.setIfInBounds_toArray, List.set_cons_zero, List.set_cons_succ]
    refine wpAnyH_take (i := 2) (v := ?_) rfl (by kernel_rfl) (by kernel_rfl) (by kernel_rfl) (fun _ _ _ h => h) (Or.inl ⟨by rfl, ?_⟩) (by assumption) ?_
    rotate_left
    · intro w hSw
      (try dsimp only at hSw)
      go_simp
      (try with_reducible rfl)
    try simp only [Act.put, List.getElem_toArray, List.getElem_cons_zero, List.getElem_cons_succ, List.setIfInBounds_toArray, List.set_cons_zero, List.set_cons_succ]
    refine wpAnyH_take (i := 3) (v := ?_) rfl (by kernel_rfl) (by kernel_rfl) (by kernel_rfl) (fun _ _ _ h => h) (Or.inl ⟨by rfl, ?_⟩) (by assumption) ?_
    rotate_left
    · intro w hSw
      (try dsimp only at hSw)
      go_simp
      (try with_reducible rfl)
    try simp only [Act.put, List.getElem_toArray, List.getElem_cons_zero, List.getElem_cons_succ, List.setIfInBounds_toArray, List.set_cons_zero, List.set_cons_succ]
    refine wpAnyH_take (i := 4) (v := ?_) rfl (by kernel_rfl) (by kernel_rfl) (by kernel_rfl) (fun _ _ _ h => h) (Or.inl ⟨by rfl, ?_⟩) (by assumption) ?_
    rotate_left
    · intro w hSw
      (try dsimp only at hSw)
      go_simp
      (try with_reducible rfl)
    try simp only [Act.put, List.getElem_toArray, List.getElem_cons_zero, List.getElem_cons_succ, List.setIfInBounds_toArray, List.set_cons_zero, List.set_cons_succ]
    refine wpAnyH_take (i := 5) (v := ?_) rfl (by kernel_rfl) (by kernel_rfl) (by kernel_rfl) (fun _ _ _ h => h) (Or.inl ⟨by rfl, ?_⟩) (by assumption) ?_
    rotate_left
    · intro w hSw
      (try dsimp only at hSw)
      go_simp
      (try with_reducible rfl)
    try simp only [Act.put, List.getElem_toArray, List.getElem_cons_zero, List.getElem_cons_succ, List.setIfInBounds_toArray, List.set_cons_zero, List.set_cons_succ]
    refine wpAnyH_take (i := 6) (v := ?_) rfl (by kernel_rfl) (by kernel_rfl) (by kernel_rfl) (fun _ _ _ h => h) (Or.inl ⟨by rfl, ?_⟩) (by assumption) ?_
    rotate_left
    · intro w hSw
      (try dsimp only at hSw)
      go_simp
      (try with_reducible rfl)
    try simp only [Act.put, List.getElem_toArray, List.getElem_cons_zero, List.getElem_cons_succ, List.setIfInBounds_toArray, List.set_cons_zero, List.set_cons_succ]
    refine wpAnyH_take (i := 7) (v := ?_) rfl (by kernel_rfl) (by kernel_rfl) (by kernel_rfl) (fun _ _ _ h => h) (Or.inl ⟨by rfl, ?_⟩) (by assumption) ?_
    rotate_left
    · intro w hSw
      (try dsimp only at hSw)
      go_simp
      (try with_reducible rfl)
    try simp only [Act.put, List.getElem_toArray, List.getElem_cons_zero, List.getElem_cons_succ, List.setIfInBounds_toArray, List.set_cons_zero, List.set_cons_succ]
    refine wpAnyH_take (i := 8) (v := ?_) rfl (by kernel_rfl) (by kernel_rfl) (by kernel_rfl) (fun _ _ _ h => h) (Or.inl ⟨by rfl, ?_⟩) (by assumption) ?_
    rotate_left
    · intro w hSw
      (try dsimp only at hSw)
      go_simp
      (try with_reducible rfl)
    try simp only [Act.put, List.getElem_toArray, List.getElem_cons_zero, List.getElem_cons_succ, List.setIfInBounds_toArray, List.set_cons_zero, List.set_cons_succ]
    refine wpAnyH_take (i := 9) (v := ?_) rfl (by kernel_rfl) (by kernel_rfl) (by kernel_rfl) (fun _ _ _ h => h) (Or.inl ⟨by rfl, ?_⟩) (by assumption) ?_
    rotate_left
    · intro w hSw
      (try dsimp only at hSw)
      go_simp
      (try with_reducible rfl)
    try simp only [Act.put, List.getElem_toArray, List.getElem_cons_zero, List.getElem_cons_succ, List.setIfInBounds_toArray, List.set_cons_zero, List.set_cons_succ]
    refine wpAnyH_take (i := 10) (v := ?_) rfl (by kernel_rfl) (by kernel_rfl) (by kernel_rfl) (fun _ _ _ h => h) (Or.inl ⟨by rfl, ?_⟩) (by assumption) ?_
    rotate_left
    · intro w hSw
      (try dsimp only at hSw)
      go_simp
      (try with_reducible rfl)
    try simp only [Act.put, List.getElem_toArray, List.getElem_cons_zero, List.getElem_cons_succ, List.setIfInBounds_toArray, List.set_cons_zero, List.set_cons_succ]
    refine wpAnyH_take (i := 11) (v := ?_) rfl (by kernel_rfl) (by kernel_rfl) (by kernel_rfl) (fun _ _ _ h => h) (Or.inl ⟨by rfl, ?_⟩) (by assumption) ?_
    rotate_left
    · intro w hSw
      (try dsimp only at hSw)
      go_simp
      (try with_reducible rfl)
    try simp only [Act.put, List.getElem_toArray, List.getElem_cons_zero, List.getElem_cons_succ, List.setIfInBounds_toArray, List.set_cons_zero, List.set_cons_succ]
    refine wpAnyH_take (i := 12) (v := ?_) rfl (by kernel_rfl) (by kernel_rfl) (by kernel_rfl) (fun _ _ _ h => h) (Or.inl ⟨by rfl, ?_⟩) (by assumption) ?_
    rotate_left
    · intro w hSw
      (try dsimp only at hSw)
      go_simp
      (try with_reducible rfl)
    try simp only [Act.put, List.getElem_toArray, List.getElem_cons_zero, List.getElem_cons_succ, List.setIfInBounds_toArray, List.set_cons_zero, List.set_cons_succ]
    refine wpAnyH_take (i := 13) (v := ?_) rfl (by kernel_rfl) (by kernel_rfl) (by kernel_rfl) (fun _ _ _ h => h) (Or.inl ⟨by rfl, ?_⟩) (by assumption) ?_
    rotate_left
    · intro w hSw
      (try dsimp only at hSw)
      go_simp
      (try with_reducible rfl)
    try simp only [Act.put, List.getElem_toArray, List.getElem_cons_zero, List.getElem_cons_succ, List.setIfInBounds_toArray, List.set_cons_zero, List.set_cons_succ]
    refine wpAnyH_take (i := 14) (v := ?_) rfl (by kernel_rfl) (by kernel_rfl) (by kernel_rfl) (fun _ _ _ h => h) (Or.inl ⟨by rfl, ?_⟩) (by assumption) ?_
    rotate_left
    · intro w hSw
      (try dsimp only at hSw)
      go_simp
      (try with_reducible rfl)
    try simp only [Act.put, List.getElem_toArray, List.getElem_cons_zero, List.getElem_cons_succ, List.setIfInBounds_toArray, List.set_cons_zero, List.set_cons_succ]
    refine wpAnyH_take (i := 15) (v := ?_) rfl (by kernel_rfl) (by kernel_rfl) (by kernel_rfl) (fun _ _ _ h => h) (Or.inl ⟨by rfl, ?_⟩) (by assumption) ?_
    rotate_left
    · intro w hSw
      (try dsimp only at hSw)
      go_simp
      (try with_reducible rfl)
    try simp only [Act.put, List.getElem_toArray, List.getElem_cons_zero, List.getElem_cons_succ, List.setIfInBounds_toArray, List.set_cons_zero, List.set_cons_succ]
    refine wpAnyH_ready (rs := [16]) (by kernel_rfl) (by simp) ?_
    refine AllReadyH.cons rfl (fun K hK => ?_) AllReadyH.nil
    go_simp
    refine (HDo.out _).mono ?_
    rintro e v1 ⟨rfl, rfl⟩
    first | show K _ _ | go_wp2_with fail
    refine hK.out _ _ ?_ (fun hHeld1 => ?_)
    · exact hHeld
    clear hK K
    try simp only [Act.put, List.getElem_toArray, List.getElem_cons_zero, List.getElem_cons_succ, List.setIfInBounds_toArray, List.set_cons_zero, List.set_cons_succ]
    refine wpAnyH_take (i := 17) (v := ?_) rfl (by kernel_rfl) (by kernel_rfl) (by kernel_rfl) (fun _ _ _ h => h) (Or.inl ⟨by rfl, ?_⟩) (by assumption) ?_
    rotate_left
    · intro w hSw
      (try dsimp only at hSw)
      go_simp
      (try with_reducible rfl)
    try simp only [Act.put, List.getElem_toArray, List.getElem_cons_zero, List.getElem_cons_succ, List.setIfInBounds_toArray, List.set_cons_zero, List.set_cons_succ]
    refine wpAnyH_take (i := 18) (v := ?_) rfl (by kernel_rfl) (by kernel_rfl) (by kernel_rfl) (fun _ _ _ h => h) (Or.inl ⟨by rfl, ?_⟩) (by assumption) ?_
    rotate_left
    · intro w hSw
      (try dsimp only at hSw)
      go_simp
      (try with_reducible rfl)
    try simp only [Act.put, List.getElem_toArray, List.getElem_cons_zero, List.getElem_cons_succ, List.setIfInBounds_toArray, List.set_cons_zero, List.set_cons_succ]
    refine wpAnyH_take (i := 19) (v := ?_) rfl (by kernel_rfl) (by kernel_rfl) (by kernel_rfl) (fun _ _ _ h => h) (Or.inl ⟨by rfl, ?_⟩) (by assumption) ?_
    rotate_left
    · intro w hSw
      (try dsimp only at hSw)
      go_simp
      (try with_reducible rfl)
    try simp only [Act.put, List.getElem_toArray, List.getElem_cons_zero, List.getElem_cons_succ, List.setIfInBounds_toArray, List.set_cons_zero, List.set_cons_succ]
    refine wpAnyH_take (i := 20) (v := ?_) rfl (by kernel_rfl) (by kernel_rfl) (by kernel_rfl) (fun _ _ _ h => h) (Or.inl ⟨by rfl, ?_⟩) (by assumption) ?_
    rotate_left
    · intro w hSw
      (try dsimp only at hSw)
      go_simp
      (try with_reducible rfl)
    try simp only [Act.put, List.getElem_toArray, List.getElem_cons_zero, List.getElem_cons_succ, List.setIfInBounds_toArray, List.set_cons_zero, List.set_cons_succ]
    refine wpAnyH_take (i := 21) (v := ?_) rfl (by kernel_rfl) (by kernel_rfl) (by kernel_rfl) (fun _ _ _ h => h) (Or.inl ⟨by rfl, ?_⟩) (by assumption) ?_
    rotate_left
    · intro w hSw
      (try dsimp only at hSw)
      go_simp
      (try with_reducible rfl)
    try simp only [Act.put, List.getElem_toArray, List.getElem_cons_zero, List.getElem_cons_succ, List.setIfInBounds_toArray, List.set_cons_zero, List.set_cons_succ]
    refine wpAnyH_done (by kernel_rfl) ?_ _
    have K3 := Lib.hid (HK0.out.trans hHeld1.2)
    obtain ⟨-, b1, -, -⟩ := box_cells hHeld1.2
    clear hHeld hHeld1
    have HRG := Lib.hid (HM.out.set K3.out HA.out z)
    have s2 := (HM.out.on K3.out).st.free a
    have s1 := (HM.out.on K3.out).st.reg HM.out.rl HA.out
    go_wp2_with fail
    go_region_with fail
    all_goals
      go_wp2_with fail
      go_ret
      exact ⟨rfl, HRG.out.1, HRG.out.2.drew⟩
  · have htn : (aluT o y != 0) = true := by simp [ht]
    rw [if_neg ht]
    generalize aluT o y = t at *
    clear h k0 ha hb hm ht h1 h2 hx hy
    go_enter Try.func57, Try.ntmps57
    go_wp2_with fail
    refine wp_region_held_drew (S := fun w' => (w'.cell? ⟨w.heap.size, 0, none⟩ = some (.int .i64 o) ∧ w'.cell? ⟨w.heap.size, 1, none⟩ = some (.int .i64 a) ∧ w'.cell? ⟨w.heap.size, 2, none⟩ = some (.int .i64 b) ∧ w'.cell? ⟨w.heap.size, 3, none⟩ = some (.int .i64 m) ∧ w'.cell? ⟨sp, b, none⟩ = some (.int .i32 x) ∧ w'.cell? ⟨sp, m, none⟩ = some (.int .i32 y)) ∧ Kept No (w.alloc (.cells #[.int .i64 o, .int .i64 a, .int .i64 b, .int .i64 m] 42)) w') (by kernel_rfl) ?_ (fun hHeld => ?_)
    · exact HH.out _ (Kept.refl _ _).drew
    refine wpAnyH_take (i := 0) (v := ?_) rfl (by kernel_rfl) (by kernel_rfl) (by kernel_rfl) (fun _ _ _ h => h) (Or.inl ⟨by rfl, ?_⟩) (by assumption) ?_
    rotate_left
    · intro w hSw
      (try dsimp only at hSw)
      go_simp
      (try with_reducible rfl)
    try simp only [Act.put, List.getElem_toArray, List.getElem_cons_zero, List.setIfInBounds_toArray, List.set_cons_zero, List.set_cons_succ]
    refine wpAnyH_take (i := 1) (v := ?_) rfl (by kernel_rfl) (by kernel_rfl) (by kernel_rfl) (fun _ _ _ h => h) (Or.inl ⟨by rfl, ?_⟩) (by assumption) ?_
    rotate_left
    · intro w hSw
      (try dsimp only at hSw)
      go_simp
      (try with_reducible rfl)
    try simp only [Act.put, List.getElem_toArray, List.getElem_cons_zero, List.getElem_cons_succ, List.setIfInBounds_toArray, List.set_cons_zero, List.set_cons_succ]
    refine wpAnyH_take (i := 2) (v := ?_) rfl (by kernel_rfl) (by kernel_rfl) (by kernel_rfl) (fun _ _ _ h => h) (Or.inl ⟨by rfl, ?_⟩) (by assumption) ?_
    rotate_left
    · intro w hSw
      (try dsimp only at hSw)
      go_simp
      (try with_reducible rfl)
    try simp only [Act.put, List.getElem_toArray, List.getElem_cons_zero, List.getElem_cons_succ, List.setIfInBounds_toArray, List.set_cons_zero, List.set_cons_succ]
    refine wpAnyH_take (i := 3) (v := ?_) rfl (by kernel_rfl) (by kernel_rfl) (by kernel_rfl) (fun _ _ _ h => h) (Or.inl ⟨by rfl, ?_⟩) (by assumption) ?_
    rotate_left
    · intro w hSw
      (try dsimp only at hSw)
      go_simp
      (try with_reducible rfl)
    try simp only [Act.put, List.getElem_toArray, List.getElem_cons_zero, List.getElem_cons_succ, List.setIfInBounds_toArray, List.set_cons_zero, List.set_cons_succ]
    refine wpAnyH_take (i := 4) (v := ?_) rfl (by kernel_rfl) (by kernel_rfl) (by kernel_rfl) (fun _ _ _ h => h) (Or.inl ⟨by rfl, ?_⟩) (by assumption) ?_
    rotate_left
    · intro w hSw
      (try dsimp only at hSw)
      go_simp
      (try with_reducible rfl)
    try simp only [Act.put, List.getElem_toArray, List.getElem_cons_zero, List.getElem_cons_succ, List.setIfInBounds_toArray, List.set_cons_zero, List.set_cons_succ]
    refine wpAnyH_take (i := 5) (v := ?_) rfl (by kernel_rfl) (by kernel_rfl) (by kernel_rfl) (fun _ _ _ h => h) (Or.inl ⟨by rfl, ?_⟩) (by assumption) ?_
    rotate_left
    · intro w hSw
      (try dsimp only at hSw)
      go_simp
      (try with_reducible rfl)
    try simp only [Act.put, List.getElem_toArray, List.getElem_cons_zero, List.getElem_cons_succ, List.setIfInBounds_toArray, List.set_cons_zero, List.set_cons_succ]
    refine wpAnyH_take (i := 6) (v := ?_) rfl (by kernel_rfl) (by kernel_rfl) (by kernel_rfl) (fun _ _ _ h => h) (Or.inl ⟨by rfl, ?_⟩) (by assumption) ?_
    rotate_left
    · intro w hSw
      (try dsimp only at hSw)
      go_simp
      (try with_reducible rfl)
    try simp only [Act.put, List.getElem_toArray, List.getElem_cons_zero, List.getElem_cons_succ, List.setIfInBounds_toArray, List.set_cons_zero, List.set_cons_succ]
    refine wpAnyH_take (i := 7) (v := ?_) rfl (by kernel_rfl) (by kernel_rfl) (by kernel_rfl) (fun _ _ _ h => h) (Or.inl ⟨by rfl, ?_⟩) (by assumption) ?_
    rotate_left
    · intro w hSw
      (try dsimp only at hSw)
      go_simp
      (try with_reducible rfl)
    try simp only [Act.put, List.getElem_toArray, List.getElem_cons_zero, List.getElem_cons_succ, List.setIfInBounds_toArray, List.set_cons_zero, List.set_cons_succ]
    refine wpAnyH_take (i := 8) (v := ?_) rfl (by kernel_rfl) (by kernel_rfl) (by kernel_rfl) (fun _ _ _ h => h) (Or.inl ⟨by rfl, ?_⟩) (by assumption) ?_
    rotate_left
    · intro w hSw
      (try dsimp only at hSw)
      go_simp
      (try with_reducible rfl)
    try simp only [Act.put, List.getElem_toArray, List.getElem_cons_zero, List.getElem_cons_succ, List.setIfInBounds_toArray, List.set_cons_zero, List.set_cons_succ]
    refine wpAnyH_take (i := 9) (v := ?_) rfl (by kernel_rfl) (by kernel_rfl) (by kernel_rfl) (fun _ _ _ h => h) (Or.inl ⟨by rfl, ?_⟩) (by assumption) ?_
    rotate_left
    · intro w hSw
      (try dsimp only at hSw)
      go_simp
      (try with_reducible rfl)
    try simp only [Act.put, List.getElem_toArray, List.getElem_cons_zero, List.getElem_cons_succ, List.setIfInBounds_toArray, List.set_cons_zero, List.set_cons_succ]
    refine wpAnyH_take (i := 10) (v := ?_) rfl (by kernel_rfl) (by kernel_rfl) (by kernel_rfl) (fun _ _ _ h => h) (Or.inl ⟨by rfl, ?_⟩) (by assumption) ?_
    rotate_left
    · intro w hSw
      (try dsimp only at hSw)
      go_simp
      (try with_reducible rfl)
    try simp only [Act.put, List.getElem_toArray, List.getElem_cons_zero, List.getElem_cons_succ, List.setIfInBounds_toArray, List.set_cons_zero, List.set_cons_succ]
    refine wpAnyH_take (i := 11) (v := ?_) rfl (by kernel_rfl) (by kernel_rfl) (by kernel_rfl) (fun _ _ _ h => h) (Or.inl ⟨by rfl, ?_⟩) (by assumption) ?_
    rotate_left
    · intro w hSw
      (try dsimp only at hSw)
      go_simp
      (try with_reducible rfl)
    try simp only [Act.put, List.getElem_toArray, List.getElem_cons_zero, List.getElem_cons_succ, List.setIfInBounds_toArray, List.set_cons_zero, List.set_cons_succ]
    refine wpAnyH_take (i := 12) (v := ?_) rfl (by kernel_rfl) (by kernel_rfl) (by kernel_rfl) (fun _ _ _ h => h) (Or.inl ⟨by rfl, ?_⟩) (by assumption) ?_
    rotate_left
    · intro w hSw
      (try dsimp only at hSw)
      go_simp
      (try with_reducible rfl)
    try simp only [Act.put, List.getElem_toArray, List.getElem_cons_zero, List.getElem_cons_succ, List.setIfInBounds_toArray, List.set_cons_zero, List.set_cons_succ]
    refine wpAnyH_take (i := 13) (v := ?_) rfl (by kernel_rfl) (by kernel_rfl) (by kernel_rfl) (fun _ _ _ h => h) (Or.inl ⟨by rfl, ?_⟩) (by assumption) ?_
    rotate_left
    · intro w hSw
      (try dsimp only at hSw)
      go_simp
      (try with_reducible rfl)
    try simp only [Act.put, List.getElem_toArray, List.getElem_cons_zero, List.getElem_cons_succ, List.setIfInBounds_toArray, List.set_cons_zero, List.set_cons_succ]
    refine wpAnyH_take (i := 14) (v := ?_) rfl (by kernel_rfl) (by kernel_rfl) (by kernel_rfl) (fun _ _ _ h => h) (Or.inl ⟨by rfl, ?_⟩) (by assumption) ?_
    rotate_left
    · intro w hSw
      (try dsimp only at hSw)
      go_simp
      (try with_reducible rfl)
    try simp only [Act.put, List.getElem_toArray, List.getElem_cons_zero, List.getElem_cons_succ, List.setIfInBounds_toArray, List.set_cons_zero, List.set_cons_succ]
    refine wpAnyH_take (i := 15) (v := ?_) rfl (by kernel_rfl) (by kernel_rfl) (by kernel_rfl) (fun _ _ _ h => h) (Or.inl ⟨by rfl, ?_⟩) (by assumption) ?_
    rotate_left
    · intro w hSw
      (try dsimp only at hSw)
      go_simp
      (try with_reducible rfl)
    try simp only [Act.put, List.getElem_toArray, List.getElem_cons_zero, List.getElem_cons_succ, List.setIfInBounds_toArray, List.set_cons_zero, List.set_cons_succ]
    refine wpAnyH_ready (rs := [16]) (by kernel_rfl) (by simp) ?_
    refine AllReadyH.cons rfl (fun K hK => ?_) AllReadyH.nil
    go_simp
    refine (HDo.out _).mono ?_
    rintro e v1 ⟨rfl, rfl⟩
    first | show K _ _ | go_wp2_with fail
    refine hK.out _ _ ?_ (fun hHeld1 => ?_)
    · exact hHeld
    clear hK K
    try simp only [Act.put, List.getElem_toArray, List.getElem_cons_zero, List.getElem_cons_succ, List.setIfInBounds_toArray, List.set_cons_zero, List.set_cons_succ]
    refine wpAnyH_take (i := 17) (v := ?_) rfl (by kernel_rfl) (by kernel_rfl) (by kernel_rfl) (fun _ _ _ h => h) (Or.inl ⟨by rfl, ?_⟩) (by assumption) ?_
    rotate_left
    · intro w hSw
      (try dsimp only at hSw)
      go_simp
      (try with_reducible rfl)
    try simp only [Act.put, List.getElem_toArray, List.getElem_cons_zero, List.getElem_cons_succ, List.setIfInBounds_toArray, List.set_cons_zero, List.set_cons_succ]
    refine wpAnyH_take (i := 18) (v := ?_) rfl (by kernel_rfl) (by kernel_rfl) (by kernel_rfl) (fun _ _ _ h => h) (Or.inl ⟨by rfl, ?_⟩) (by assumption) ?_
    rotate_left
    · intro w hSw
      (try dsimp only at hSw)
      go_simp
      (try with_reducible rfl)
    try simp only [Act.put, List.getElem_toArray, List.getElem_cons_zero, List.getElem_cons_succ, List.setIfInBounds_toArray, List.set_cons_zero, List.set_cons_succ]
    refine wpAnyH_take (i := 19) (v := ?_) rfl (by kernel_rfl) (by kernel_rfl) (by kernel_rfl) (fun _ _ _ h => h) (Or.inl ⟨by rfl, ?_⟩) (by assumption) ?_
    rotate_left
    · intro w hSw
      (try dsimp only at hSw)
      go_simp
      (try with_reducible rfl)
    try simp only [Act.put, List.getElem_toArray, List.getElem_cons_zero, List.getElem_cons_succ, List.setIfInBounds_toArray, List.set_cons_zero, List.set_cons_succ]
    refine wpAnyH_take (i := 20) (v := ?_) rfl (by kernel_rfl) (by kernel_rfl) (by kernel_rfl) (fun _ _ _ h => h) (Or.inl ⟨by rfl, ?_⟩) (by assumption) ?_
    rotate_left
    · intro w hSw
      (try dsimp only at hSw)
      go_simp
      (try with_reducible rfl)
    try simp only [Act.put, List.getElem_toArray, List.getElem_cons_zero, List.getElem_cons_succ, List.setIfInBounds_toArray, List.set_cons_zero, List.set_cons_succ]
    refine wpAnyH_take (i := 21) (v := ?_) rfl (by kernel_rfl) (by kernel_rfl) (by kernel_rfl) (fun _ _ _ h => h) (Or.inl ⟨by rfl, ?_⟩) (by assumption) ?_
    rotate_left
    · intro w hSw
      (try dsimp only at hSw)
      go_simp
      (try with_reducible rfl)
    try simp only [Act.put, List.getElem_toArray, List.getElem_cons_zero, List.getElem_cons_succ, List.setIfInBounds_toArray, List.set_cons_zero, List.set_cons_succ]
    refine wpAnyH_done (by kernel_rfl) ?_ _
    have K3 := HK0.out.trans hHeld1.2
    clear hHeld hHeld1
    go_wp2_with fail
    go_ret
    exact ⟨rfl, (HM.out.on K3).st, K3.up⟩
end Go.Proofs.Ytlnjcaicagcinaa

/-
  A machine of package cpu: what an instruction does to it (layer 7). No conditions beyond those that each theorem names.
-/
namespace Go.Proofs.Ytlnjcaicagcinaa
open Go.ChangeShapes Go.WideShapes Go.ChangeAt Go.RowKit

/- behind an instruction: a trap, registers, a place, bytes -/
structure Out where
  t : Int
  r : List Int
  p : Int
  l : List Nat
def doOf (Z : List ZV) (r : List Int) (p : Int) (l : List Nat) (o : Int) (a b : Nat) (c : Int) : Out :=
  if o = 1 then ⟨0, r.set a (IntKind.i32.wrap c), p, l⟩
  else if o = 11 then ⟨0, r.set a (IntKind.i32.wrap (r.getD b 0 + IntKind.i32.wrap c)), p, l⟩
  else if o = 12 then ⟨(loadW Z r l a b c).1, (loadW Z r l a b c).2, p, l⟩
  else if o = 13 then ⟨(storeW Z r l a b c).1, r, p, (storeW Z r l a b c).2⟩
  else if o = 14 then ⟨(loadB Z r l a b c).1, (loadB Z r l a b c).2, p, l⟩
  else if o = 15 then ⟨(storeB Z r l a b c).1, r, p, (storeB Z r l a b c).2⟩
  else if 16 ≤ o ∧ o ≤ 19 then ⟨0, r, if meetsOf o (r.getD a 0) (r.getD b 0) = true then p + 4 * c else p, l⟩
  else if o = 20 then ⟨0, r.set a (wrap32 p), p + 4 * c, l⟩
  else if o = 21 then ⟨0, r, r.getD a 0 % 4294967296, l⟩
  else ⟨(reckonOf r o a b c.toNat).1, (reckonOf r o a b c.toNat).2, p, l⟩

/- what is changed at all -/
def Mine (sp g : Nat) : Nat → Prop := fun j => j = sp ∨ j = g
theorem Kept.wide2 {S T : Nat → Prop} {a b : World} (h : Kept S a b) (hs : ∀ k, S k → T k) : Kept T a b := ⟨h.still, h.more, fun k hk hT => h.rest k hk fun hS => hT (hs k hS)⟩
def DidIns (w w' : World) (e : Ending) (sp mp g : Nat) (d : Out) : Prop := e = .returned (.int .i64 d.t) ∧ RowAt w' sp ST (cst d.r d.p) ∧ MemAt w' mp g d.l ∧ Kept (Mine sp g) w w'
theorem Mach.did {w w' : World} {sp mp g zp mb : Nat} {lv : Value} {L : List ZR} {n : Nat} {r r' : List Int} {p p' : Int} {l : List Nat} (h : Mach w sp mp g zp mb lv L n r p l) (t : Int) (hr : RowAt w' sp ST (cst r' p')) (k : Kept (· = sp) w w') : DidIns w w' (.returned (.int .i64 t)) sp mp g ⟨t, r', p', l⟩ :=
  ⟨rfl, hr, h.mem.keep k (fun e => h.ne.2 e.symm) (fun e => h.ne.1 e.symm), k.wide2 fun _ e => .inl e⟩
theorem Mach.didB {w w' : World} {sp mp g zp mb : Nat} {lv : Value} {L : List ZR} {n : Nat} {r : List Int} {p : Int} {l l' : List Nat} (h : Mach w sp mp g zp mb lv L n r p l) (t : Int) (hr : MemAt w' mp g l') (k : Kept (· = g) w w') : DidIns w w' (.returned (.int .i64 t)) sp mp g ⟨t, r, p, l'⟩ :=
  ⟨rfl, h.st.keep k (fun e => h.ne.1 e), hr, k.wide2 fun _ e => .inr e⟩
/- the place is another one -/
theorem Mach.goTo {w v : World} {sp mp g zp mb : Nat} {lv : Value} {L : List ZR} {n : Nat} {r : List Int} {p : Int} {l : List Nat} (h : Mach w sp mp g zp mb lv L n r p l) (k : Kept No w v) (q : Int) :
    RowAt (v.setCell ⟨sp, 16, none⟩ (.int .i64 q)) sp ST (cst r q) ∧ Kept (· = sp) w (v.setCell ⟨sp, 16, none⟩ (.int .i64 q)) :=
  ⟨by rw [← cst_put r p q h.rl]; exact (h.on k).st.setCell 16 _, (k.up (S := (· = sp))).setCell (p := ⟨sp, 16, none⟩) (fun _ => rfl) _⟩

theorem Mach.setA {w : World} {sp mp g zp mb : Nat} {lv : Value} {L : List ZR} {n : Nat} {r : List Int} {p : Int} {l : List Nat} (h : Mach w sp mp g zp mb lv L n r p l) {a : Nat} (ha : a < 16) (x : Int) (ob : Obj) :
    RowAt ((w.setCell ⟨sp, a, none⟩ (.int .i32 x)).alloc ob) sp ST (cst (r.set a x) p) ∧ Kept (· = sp) w ((w.setCell ⟨sp, a, none⟩ (.int .i32 x)).alloc ob) :=
  have q := h.set (Kept.refl _ _) ha x
  ⟨q.1.keep ((Kept.refl No _).alloc ob) (fun h => h), q.2.alloc ob⟩
theorem Mach.goA {w : World} {sp mp g zp mb : Nat} {lv : Value} {L : List ZR} {n : Nat} {r : List Int} {p : Int} {l : List Nat} (h : Mach w sp mp g zp mb lv L n r p l) (x : Int) (ob : Obj) :
    RowAt ((w.setCell ⟨sp, 16, none⟩ (.int .i64 x)).alloc ob) sp ST (cst r x) ∧ Kept (· = sp) w ((w.setCell ⟨sp, 16, none⟩ (.int .i64 x)).alloc ob) :=
  have q := h.goTo (Kept.refl _ _) x
  ⟨q.1.keep ((Kept.refl No _).alloc ob) (fun h => h), q.2.alloc ob⟩
/- the box's cells, and two registers, in every world that is kept -/
theorem Mach.held6 {w v : World} {sp mp g zp mb : Nat} {lv : Value} {L : List ZR} {n : Nat} {r : List Int} {p : Int} {l : List Nat} (h : Mach w sp mp g zp mb lv L n r p l) {o c : Int} {a b : Nat} (ha : a < 16) (hb : b < 16)
    (k : Kept No (w.alloc (.cells #[.int .i64 o, .int .i64 a, .int .i64 b, .int .i64 c] 42)) v) :
    (v.cell? ⟨w.heap.size, 0, none⟩ = some (.int .i64 o) ∧ v.cell? ⟨w.heap.size, 1, none⟩ = some (.int .i64 a) ∧ v.cell? ⟨w.heap.size, 2, none⟩ = some (.int .i64 b) ∧ v.cell? ⟨w.heap.size, 3, none⟩ = some (.int .i64 c) ∧ v.cell? ⟨sp, a, none⟩ = some (.int .i32 (r.getD a 0)) ∧ v.cell? ⟨sp, b, none⟩ = some (.int .i32 (r.getD b 0))) ∧ Kept No (w.alloc (.cells #[.int .i64 o, .int .i64 a, .int .i64 b, .int .i64 c] 42)) v :=
  have q := box_cells k
  ⟨⟨q.1, q.2.1, q.2.2.1, q.2.2.2, (h.on (((Kept.refl _ _).alloc _).trans k)).st.reg h.rl ha, (h.on (((Kept.refl _ _).alloc _).trans k)).st.reg h.rl hb⟩, k⟩

set_option maxRecDepth 100000 in
set_option maxHeartbeats 1000000 in
theorem do_set {w : World} {sp mp g zp mb : Nat} {lv : Value} {L : List ZR} {n : Nat} {r : List Int} {p : Int} {l : List Nat} (h : Mach w sp mp g zp mb lv L n r p l) (c : Int) {a b : Nat} (ha : a < 16) (_hb : b < 16) :
    Calls Try.prog 35 #[.pointer (some ⟨sp, 0, none⟩), .agg #[.int .i64 1, .int .i64 a, .int .i64 b, .int .i64 c], .pointer (some ⟨mp, 0, none⟩), .pointer (some ⟨zp, 0, none⟩)] w fun e w' => DidIns w w' e sp mp g ⟨0, r.set a (IntKind.i32.wrap c), p, l⟩ := by
  have HM := Lib.hid h
  have s1 := h.st.reg h.rl ha
  have s2 := h.st.free a
  have hlt := h.st.lt
  have HS := Lib.hid (fun ob => h.setA ha (IntKind.i32.wrap c) ob)
  have i1 : (a : Int) < 16 := by omega
  have i2 : (0 : Int) ≤ (a : Int) := by omega
  generalize r.getD a 0 = x at *
  clear h
  go_enter Try.func35, Try.ntmps35
  go_wp2_with fail
  go_region_with fail
  all_goals
    go_wp2_with fail
    go_ret
    exact HM.out.did 0 (HS.out _).1 (HS.out _).2.drew

set_option maxRecDepth 100000 in
set_option maxHeartbeats 1000000 in
theorem do_more {w : World} {sp mp g zp mb : Nat} {lv : Value} {L : List ZR} {n : Nat} {r : List Int} {p : Int} {l : List Nat} (h : Mach w sp mp g zp mb lv L n r p l) (c : Int) {a b : Nat} (ha : a < 16) (hb : b < 16) :
    Calls Try.prog 35 #[.pointer (some ⟨sp, 0, none⟩), .agg #[.int .i64 11, .int .i64 a, .int .i64 b, .int .i64 c], .pointer (some ⟨mp, 0, none⟩), .pointer (some ⟨zp, 0, none⟩)] w fun e w' => DidIns w w' e sp mp g ⟨0, r.set a (IntKind.i32.wrap (r.getD b 0 + IntKind.i32.wrap c)), p, l⟩ := by
  have HM := Lib.hid h
  have s1 := h.st.reg h.rl ha
  have s2 := h.st.free a
  have s3 := h.st.reg h.rl hb
  have hlt := h.st.lt
  have HS := Lib.hid (fun x ob => h.setA ha x ob)
  have i1 : (a : Int) < 16 := by omega
  have i2 : (0 : Int) ≤ (a : Int) := by omega
  have i3 : (b : Int) < 16 := by omega
  have i4 : (0 : Int) ≤ (b : Int) := by omega
  generalize r.getD a 0 = x at *
  generalize r.getD b 0 = y at *
  clear h
  go_enter Try.func35, Try.ntmps35
  go_wp2_with fail
  go_region_with fail
  all_goals
    go_wp2_with fail
    go_ret
    exact HM.out.did 0 (HS.out _ _).1 (HS.out _ _).2.drew

set_option maxRecDepth 100000 in
set_option maxHeartbeats 1000000 in
theorem do_load {w : World} {sp mp g zp mb : Nat} {lv : Value} {L : List ZR} {n : Nat} {r : List Int} {p : Int} {l : List Nat} (h : Mach w sp mp g zp mb lv L n r p l) (c : Int) {a b : Nat} (ha : a < 16) (hb : b < 16) :
    Calls Try.prog 35 #[.pointer (some ⟨sp, 0, none⟩), .agg #[.int .i64 12, .int .i64 a, .int .i64 b, .int .i64 c], .pointer (some ⟨mp, 0, none⟩), .pointer (some ⟨zp, 0, none⟩)] w fun e w' => DidIns w w' e sp mp g ⟨(loadW (L.map ZR.z) r l a b c).1, (loadW (L.map ZR.z) r l a b c).2, p, l⟩ := by
  have HM := Lib.hid h
  have k0 : Kept No w (w.alloc (.cells #[.int .i64 12, .int .i64 a, .int .i64 b, .int .i64 c] 42)) := (Kept.refl _ _).alloc _
  have HK0 := Lib.hid k0
  have HC := Lib.hid (load_any (h.on k0) 12 c ha hb)
  clear h k0
  generalize loadW (L.map ZR.z) r l a b c = d at *
  go_enter Try.func35, Try.ntmps35
  go_wp2_with fail
  refine HC.out.mono ?_
  rintro e w1 ⟨rfl, hr, k1⟩
  go_wp2_with fail
  go_ret
  exact HM.out.did _ hr ((HK0.out.up (S := (· = sp))).trans k1)

set_option maxRecDepth 100000 in
set_option maxHeartbeats 1000000 in
theorem do_store {w : World} {sp mp g zp mb : Nat} {lv : Value} {L : List ZR} {n : Nat} {r : List Int} {p : Int} {l : List Nat} (h : Mach w sp mp g zp mb lv L n r p l) (c : Int) {a b : Nat} (ha : a < 16) (hb : b < 16) :
    Calls Try.prog 35 #[.pointer (some ⟨sp, 0, none⟩), .agg #[.int .i64 13, .int .i64 a, .int .i64 b, .int .i64 c], .pointer (some ⟨mp, 0, none⟩), .pointer (some ⟨zp, 0, none⟩)] w fun e w' => DidIns w w' e sp mp g ⟨(storeW (L.map ZR.z) r l a b c).1, r, p, (storeW (L.map ZR.z) r l a b c).2⟩ := by
  have HM := Lib.hid h
  have k0 : Kept No w (w.alloc (.cells #[.int .i64 13, .int .i64 a, .int .i64 b, .int .i64 c] 42)) := (Kept.refl _ _).alloc _
  have HK0 := Lib.hid k0
  have HC := Lib.hid (store_any (h.on k0) 13 c ha hb)
  clear h k0
  generalize storeW (L.map ZR.z) r l a b c = d at *
  go_enter Try.func35, Try.ntmps35
  go_wp2_with fail
  refine HC.out.mono ?_
  rintro e w1 ⟨rfl, hr, k1⟩
  go_wp2_with fail
  go_ret
  exact HM.out.didB _ hr ((HK0.out.up (S := (· = g))).trans k1)

set_option maxRecDepth 100000 in
set_option maxHeartbeats 1000000 in
theorem do_loadB {w : World} {sp mp g zp mb : Nat} {lv : Value} {L : List ZR} {n : Nat} {r : List Int} {p : Int} {l : List Nat} (h : Mach w sp mp g zp mb lv L n r p l) (c : Int) {a b : Nat} (ha : a < 16) (hb : b < 16) :
    Calls Try.prog 35 #[.pointer (some ⟨sp, 0, none⟩), .agg #[.int .i64 14, .int .i64 a, .int .i64 b, .int .i64 c], .pointer (some ⟨mp, 0, none⟩), .pointer (some ⟨zp, 0, none⟩)] w fun e w' => DidIns w w' e sp mp g ⟨(loadB (L.map ZR.z) r l a b c).1, (loadB (L.map ZR.z) r l a b c).2, p, l⟩ := by
  have HM := Lib.hid h
  have k0 : Kept No w (w.alloc (.cells #[.int .i64 14, .int .i64 a, .int .i64 b, .int .i64 c] 42)) := (Kept.refl _ _).alloc _
  have HK0 := Lib.hid k0
  have HC := Lib.hid (loadByte_any (h.on k0) 14 c ha hb)
  clear h k0
  generalize loadB (L.map ZR.z) r l a b c = d at *
  go_enter Try.func35, Try.ntmps35
  go_wp2_with fail
  refine HC.out.mono ?_
  rintro e w1 ⟨rfl, hr, k1⟩
  go_wp2_with fail
  go_ret
  exact HM.out.did _ hr ((HK0.out.up (S := (· = sp))).trans k1)

set_option maxRecDepth 100000 in
set_option maxHeartbeats 1000000 in
theorem do_storB {w : World} {sp mp g zp mb : Nat} {lv : Value} {L : List ZR} {n : Nat} {r : List Int} {p : Int} {l : List Nat} (h : Mach w sp mp g zp mb lv L n r p l) (c : Int) {a b : Nat} (ha : a < 16) (hb : b < 16) :
    Calls Try.prog 35 #[.pointer (some ⟨sp, 0, none⟩), .agg #[.int .i64 15, .int .i64 a, .int .i64 b, .int .i64 c], .pointer (some ⟨mp, 0, none⟩), .pointer (some ⟨zp, 0, none⟩)] w fun e w' => DidIns w w' e sp mp g ⟨(storeB (L.map ZR.z) r l a b c).1, r, p, (storeB (L.map ZR.z) r l a b c).2⟩ := by
  have HM := Lib.hid h
  have k0 : Kept No w (w.alloc (.cells #[.int .i64 15, .int .i64 a, .int .i64 b, .int .i64 c] 42)) := (Kept.refl _ _).alloc _
  have HK0 := Lib.hid k0
  have HC := Lib.hid (storeByte_any (h.on k0) 15 c ha hb)
  clear h k0
  generalize storeB (L.map ZR.z) r l a b c = d at *
  go_enter Try.func35, Try.ntmps35
  go_wp2_with fail
  refine HC.out.mono ?_
  rintro e w1 ⟨rfl, hr, k1⟩
  go_wp2_with fail
  go_ret
  exact HM.out.didB _ hr ((HK0.out.up (S := (· = g))).trans k1)

set_option maxRecDepth 100000 in
set_option maxHeartbeats 1000000 in
theorem do_cond16 {w : World} {sp mp g zp mb : Nat} {lv : Value} {L : List ZR} {n : Nat} {r : List Int} {p : Int} {l : List Nat} (h : Mach w sp mp g zp mb lv L n r p l) (c : Int) {a b : Nat} (ha : a < 16) (hb : b < 16) (hp : 0 ≤ p ∧ p ≤ 100000) (hc : -131072 ≤ c ∧ c ≤ 131071) :
    Calls Try.prog 35 #[.pointer (some ⟨sp, 0, none⟩), .agg #[.int .i64 16, .int .i64 a, .int .i64 b, .int .i64 c], .pointer (some ⟨mp, 0, none⟩), .pointer (some ⟨zp, 0, none⟩)] w fun e w' => DidIns w w' e sp mp g ⟨0, r, if meetsOf 16 (r.getD a 0) (r.getD b 0) = true then p + 4 * c else p, l⟩ := by
  have HM := Lib.hid h
  have k0 : Kept No w (w.alloc (.cells #[.int .i64 16, .int .i64 a, .int .i64 b, .int .i64 c] 42)) := (Kept.refl _ _).alloc _
  have HK0 := Lib.hid k0
  have HH := Lib.hid (fun v k => h.held6 (o := 16) (c := c) (v := v) ha hb k)
  have HP := Lib.hid hp
  have HCc := Lib.hid hc
  have i1 : (a : Int) < 16 := by omega
  have i2 : (0 : Int) ≤ (a : Int) := by omega
  have i3 : (b : Int) < 16 := by omega
  have i4 : (0 : Int) ≤ (b : Int) := by omega
  obtain ⟨x, hx⟩ : ∃ x, r.getD a 0 = x := ⟨_, rfl⟩
  obtain ⟨y, hy⟩ : ∃ y, r.getD b 0 = y := ⟨_, rfl⟩
  rw [hx, hy] at HH
  rw [hx, hy]
  have HMe := Lib.hid (fun v => aluMeets_any 16 x y v (by omega) (by omega))
  clear h k0 hp hc hx hy
  cases hm : meetsOf 16 x y with
  | true =>
    rw [hm] at HMe
    simp only [if_true]
    clear hm
    go_enter Try.func35, Try.ntmps35
    go_wp2_with fail
    refine wp_region_held_drew (S := fun w' => (w'.cell? ⟨w.heap.size, 0, none⟩ = some (.int .i64 16) ∧ w'.cell? ⟨w.heap.size, 1, none⟩ = some (.int .i64 a) ∧ w'.cell? ⟨w.heap.size, 2, none⟩ = some (.int .i64 b) ∧ w'.cell? ⟨w.heap.size, 3, none⟩ = some (.int .i64 c) ∧ w'.cell? ⟨sp, a, none⟩ = some (.int .i32 x) ∧ w'.cell? ⟨sp, b, none⟩ = some (.int .i32 y)) ∧ Kept No (w.alloc (.cells #[.int .i64 16, .int .i64 a, .int .i64 b, .int .i64 c] 42)) w') (by kernel_rfl) ?_ (fun hHeld => ?_)
    · exact HH.out _ (Kept.refl _ _).drew
    refine wpAnyH_take (i := 0) (v := ?_) rfl (by kernel_rfl) (by kernel_rfl) (by kernel_rfl) (fun _ _ _ h => h) (Or.inl ⟨by rfl, ?_⟩) (by assumption) ?_
    rotate_left
    · intro w hSw
      (try dsimp only at hSw)
      go_simp
      (try with_reducible rfl)
    try simp only [Act.put, List.getElem_toArray, List.getElem_cons_zero, List.setIfInBounds_toArray, List.set_cons_zero, List.set_cons_succ]
    refine wpAnyH_take (i := 1) (v := ?_) rfl (by kernel_rfl) (by kernel_rfl) (by kernel_rfl) (fun _ _ _ h => h) (Or.inl ⟨by rfl, ?_⟩) (by assumption) ?_
    rotate_left
    · intro w hSw
      (try dsimp only at hSw)
      go_simp
      (try with_reducible rfl)
    try simp only [Act.put, List.getElem_toArray, List.getElem_cons_zero, List.getElem_cons_succ, List.setIfInBounds_toArray, List.set_cons_zero, List.set_cons_succ]
    refine wpAnyH_take (i := 2) (v := ?_) rfl (by kernel_rfl) (by kernel_rfl) (by kernel_rfl) (fun _ _ _ h => h) (Or.inl ⟨by rfl, ?_⟩) (by assumption) ?_
    rotate_left
    · intro w hSw
      (try dsimp only at hSw)
      go_simp
      (try with_reducible rfl)
    try simp only [Act.put, List.getElem_toArray, List.getElem_cons_zero, List.getElem_cons_succ, List.setIfInBounds_toArray, List.set_cons_zero, List.set_cons_succ]
    refine wpAnyH_take (i := 3) (v := ?_) rfl (by kernel_rfl) (by kernel_rfl) (by kernel_rfl) (fun _ _ _ h => h) (Or.inl ⟨by rfl, ?_⟩) (by assumption) ?_
    rotate_left
    · intro w hSw
      (try dsimp only at hSw)
      go_simp
      (try with_reducible rfl)
    try simp only [Act.put, List.getElem_toArray, List.getElem_cons_zero, List.getElem_cons_succ, List.setIfInBounds_toArray, List.set_cons_zero, List.set_cons_succ]
    refine wpAnyH_take (i := 4) (v := ?_) rfl (by kernel_rfl) (by kernel_rfl) (by kernel_rfl) (fun _ _ _ h => h) (Or.inl ⟨by rfl, ?_⟩) (by assumption) ?_
    rotate_left
    · intro w hSw
      (try dsimp only at hSw)
      go_simp
      (try with_reducible rfl)
    try simp only [Act.put, List.getElem_toArray, List.getElem_cons_zero, List.getElem_cons_succ, List.setIfInBounds_toArray, List.set_cons_zero, List.set_cons_succ]
    refine wpAnyH_take (i := 5) (v := ?_) rfl (by kernel_rfl) (by kernel_rfl) (by kernel_rfl) (fun _ _ _ h => h) (Or.inl ⟨by rfl, ?_⟩) (by assumption) ?_
    rotate_left
    · intro w hSw
      (try dsimp only at hSw)
      go_simp
      (try with_reducible rfl)
    try simp only [Act.put, List.getElem_toArray, List.getElem_cons_zero, List.getElem_cons_succ, List.setIfInBounds_toArray, List.set_cons_zero, List.set_cons_succ]
    refine wpAnyH_take (i := 6) (v := ?_) rfl (by kernel_rfl) (by kernel_rfl) (by kernel_rfl) (fun _ _ _ h => h) (Or.inl ⟨by rfl, ?_⟩) (by assumption) ?_
    rotate_left
    · intro w hSw
      (try dsimp only at hSw)
      go_simp
      (try with_reducible rfl)
    try simp only [Act.put, List.getElem_toArray, List.getElem_cons_zero, List.getElem_cons_succ, List.setIfInBounds_toArray, List.set_cons_zero, List.set_cons_succ]
    refine wpAnyH_take (i := 7) (v := ?_) rfl (by kernel_rfl) (by kernel_rfl) (by kernel_rfl) (fun _ _ _ h => h) (Or.inl ⟨by rfl, ?_⟩) (by assumption) ?_
    rotate_left
    · intro w hSw
      (try dsimp only at hSw)
      go_simp
      (try with_reducible rfl)
    try simp only [Act.put, List.getElem_toArray, List.getElem_cons_zero, List.getElem_cons_succ, List.setIfInBounds_toArray, List.set_cons_zero, List.set_cons_succ]
    refine wpAnyH_take (i := 8) (v := ?_) rfl (by kernel_rfl) (by kernel_rfl) (by kernel_rfl) (fun _ _ _ h => h) (Or.inl ⟨by rfl, ?_⟩) (by assumption) ?_
    rotate_left
    · intro w hSw
      (try dsimp only at hSw)
      go_simp
      (try with_reducible rfl)
    try simp only [Act.put, List.getElem_toArray, List.getElem_cons_zero, List.getElem_cons_succ, List.setIfInBounds_toArray, List.set_cons_zero, List.set_cons_succ]
    refine wpAnyH_take (i := 9) (v := ?_) rfl (by kernel_rfl) (by kernel_rfl) (by kernel_rfl) (fun _ _ _ h => h) (Or.inl ⟨by rfl, ?_⟩) (by assumption) ?_
    rotate_left
    · intro w hSw
      (try dsimp only at hSw)
      go_simp
      (try with_reducible rfl)
    try simp only [Act.put, List.getElem_toArray, List.getElem_cons_zero, List.getElem_cons_succ, List.setIfInBounds_toArray, List.set_cons_zero, List.set_cons_succ]
    refine wpAnyH_take (i := 10) (v := ?_) rfl (by kernel_rfl) (by kernel_rfl) (by kernel_rfl) (fun _ _ _ h => h) (Or.inl ⟨by rfl, ?_⟩) (by assumption) ?_
    rotate_left
    · intro w hSw
      (try dsimp only at hSw)
      go_simp
      (try with_reducible rfl)
    try simp only [Act.put, List.getElem_toArray, List.getElem_cons_zero, List.getElem_cons_succ, List.setIfInBounds_toArray, List.set_cons_zero, List.set_cons_succ]
    refine wpAnyH_take (i := 11) (v := ?_) rfl (by kernel_rfl) (by kernel_rfl) (by kernel_rfl) (fun _ _ _ h => h) (Or.inl ⟨by rfl, ?_⟩) (by assumption) ?_
    rotate_left
    · intro w hSw
      (try dsimp only at hSw)
      go_simp
      (try with_reducible rfl)
    try simp only [Act.put, List.getElem_toArray, List.getElem_cons_zero, List.getElem_cons_succ, List.setIfInBounds_toArray, List.set_cons_zero, List.set_cons_succ]
    refine wpAnyH_take (i := 12) (v := ?_) rfl (by kernel_rfl) (by kernel_rfl) (by kernel_rfl) (fun _ _ _ h => h) (Or.inl ⟨by rfl, ?_⟩) (by assumption) ?_
    rotate_left
    · intro w hSw
      (try dsimp only at hSw)
      go_simp
      (try with_reducible rfl)
    try simp only [Act.put, List.getElem_toArray, List.getElem_cons_zero, List.getElem_cons_succ, List.setIfInBounds_toArray, List.set_cons_zero, List.set_cons_succ]
    refine wpAnyH_take (i := 13) (v := ?_) rfl (by kernel_rfl) (by kernel_rfl) (by kernel_rfl) (fun _ _ _ h => h) (Or.inl ⟨by rfl, ?_⟩) (by assumption) ?_
    rotate_left
    · intro w hSw
      (try dsimp only at hSw)
      go_simp
      (try with_reducible rfl)
    try simp only [Act.put, List.getElem_toArray, List.getElem_cons_zero, List.getElem_cons_succ, List.setIfInBounds_toArray, List.set_cons_zero, List.set_cons_succ]
    refine wpAnyH_take (i := 14) (v := ?_) rfl (by kernel_rfl) (by kernel_rfl) (by kernel_rfl) (fun _ _ _ h => h) (Or.inl ⟨by rfl, ?_⟩) (by assumption) ?_
    rotate_left
    · intro w hSw
      (try dsimp only at hSw)
      go_simp
      (try with_reducible rfl)
    try simp only [Act.put, List.getElem_toArray, List.getElem_cons_zero, List.getElem_cons_succ, List.setIfInBounds_toArray, List.set_cons_zero, List.set_cons_succ]
    refine wpAnyH_take (i := 15) (v := ?_) rfl (by kernel_rfl) (by kernel_rfl) (by kernel_rfl) (fun _ _ _ h => h) (Or.inl ⟨by rfl, ?_⟩) (by assumption) ?_
    rotate_left
    · intro w hSw
      (try dsimp only at hSw)
      go_simp
      (try with_reducible rfl)
    try simp only [Act.put, List.getElem_toArray, List.getElem_cons_zero, List.getElem_cons_succ, List.setIfInBounds_toArray, List.set_cons_zero, List.set_cons_succ]
    refine wpAnyH_ready (rs := [16]) (by kernel_rfl) (by simp) ?_
    refine AllReadyH.cons rfl (fun K hK => ?_) AllReadyH.nil
    go_simp
    refine (HMe.out _).mono ?_
    rintro e v1 ⟨rfl, rfl⟩
    first | show K _ _ | go_wp2_with fail
    refine hK.out _ _ ?_ (fun hHeld1 => ?_)
    · exact hHeld
    clear hK K
    try simp only [Act.put, List.getElem_toArray, List.getElem_cons_zero, List.getElem_cons_succ, List.setIfInBounds_toArray, List.set_cons_zero, List.set_cons_succ]
    refine wpAnyH_done (by kernel_rfl) ?_ _
    have K3 := Lib.hid (HK0.out.trans hHeld1.2)
    obtain ⟨-, -, -, b3⟩ := box_cells hHeld1.2
    clear hHeld hHeld1
    go_wp2_with fail
    refine (jump_any sp r p c _ (HM.out.on K3.out).st HM.out.rl HP.out.1 HP.out.2 HCc.out.1 HCc.out.2).mono ?_
    rintro e v2 ⟨rfl, rfl⟩
    go_wp2_with fail
    go_ret
    exact HM.out.did 0 (HM.out.goTo K3.out _).1 (HM.out.goTo K3.out _).2
  | false =>
    rw [hm] at HMe
    simp only [Bool.false_eq_true, if_false]
    clear hm
    go_enter Try.func35, Try.ntmps35
    go_wp2_with fail
    refine wp_region_held_drew (S := fun w' => (w'.cell? ⟨w.heap.size, 0, none⟩ = some (.int .i64 16) ∧ w'.cell? ⟨w.heap.size, 1, none⟩ = some (.int .i64 a) ∧ w'.cell? ⟨w.heap.size, 2, none⟩ = some (.int .i64 b) ∧ w'.cell? ⟨w.heap.size, 3, none⟩ = some (.int .i64 c) ∧ w'.cell? ⟨sp, a, none⟩ = some (.int .i32 x) ∧ w'.cell? ⟨sp, b, none⟩ = some (.int .i32 y)) ∧ Kept No (w.alloc (.cells #[.int .i64 16, .int .i64 a, .int .i64 b, .int .i64 c] 42)) w') (by kernel_rfl) ?_ (fun hHeld => ?_)
    · exact HH.out _ (Kept.refl _ _).drew
    refine wpAnyH_take (i := 0) (v := ?_) rfl (by kernel_rfl) (by kernel_rfl) (by kernel_rfl) (fun _ _ _ h => h) (Or.inl ⟨by rfl, ?_⟩) (by assumption) ?_
    rotate_left
    · intro w hSw
      (try dsimp only at hSw)
      go_simp
      (try with_reducible rfl)
    try simp only [Act.put, List.getElem_toArray, List.getElem_cons_zero, List.setIfInBounds_toArray, List.set_cons_zero, List.set_cons_succ]
    refine wpAnyH_take (i := 1) (v := ?_) rfl (by kernel_rfl) (by kernel_rfl) (by kernel_rfl) (fun _ _ _ h => h) (Or.inl ⟨by rfl, ?_⟩) (by assumption) ?_
    rotate_left
    · intro w hSw
      (try dsimp only at hSw)
      go_simp
      (try with_reducible rfl)
    try simp only [Act.put, List.getElem_toArray, List.getElem_cons_zero, List.getElem_cons_succ, List.setIfInBounds_toArray, List.set_cons_zero, List.set_cons_succ]
    refine wpAnyH_take (i := 2) (v := ?_) rfl (by kernel_rfl) (by kernel_rfl) (by kernel_rfl) (fun _ _ _ h => h) (Or.inl ⟨by rfl, ?_⟩) (by assumption) ?_
    rotate_left
    · intro w hSw
      (try dsimp only at hSw)
      go_simp
      (try with_reducible rfl)
    try simp only [Act.put, List.getElem_toArray, List.getElem_cons_zero, List.getElem_cons_succ, List.setIfInBounds_toArray, List.set_cons_zero, List.set_cons_succ]
    refine wpAnyH_take (i := 3) (v := ?_) rfl (by kernel_rfl) (by kernel_rfl) (by kernel_rfl) (fun _ _ _ h => h) (Or.inl ⟨by rfl, ?_⟩) (by assumption) ?_
    rotate_left
    · intro w hSw
      (try dsimp only at hSw)
      go_simp
      (try with_reducible rfl)
    try simp only [Act.put, List.getElem_toArray, List.getElem_cons_zero, List.getElem_cons_succ, List.setIfInBounds_toArray, List.set_cons_zero, List.set_cons_succ]
    refine wpAnyH_take (i := 4) (v := ?_) rfl (by kernel_rfl) (by kernel_rfl) (by kernel_rfl) (fun _ _ _ h => h) (Or.inl ⟨by rfl, ?_⟩) (by assumption) ?_
    rotate_left
    · intro w hSw
      (try dsimp only at hSw)
      go_simp
      (try with_reducible rfl)
    try simp only [Act.put, List.getElem_toArray, List.getElem_cons_zero, List.getElem_cons_succ, List.setIfInBounds_toArray, List.set_cons_zero, List.set_cons_succ]
    refine wpAnyH_take (i := 5) (v := ?_) rfl (by kernel_rfl) (by kernel_rfl) (by kernel_rfl) (fun _ _ _ h => h) (Or.inl ⟨by rfl, ?_⟩) (by assumption) ?_
    rotate_left
    · intro w hSw
      (try dsimp only at hSw)
      go_simp
      (try with_reducible rfl)
    try simp only [Act.put, List.getElem_toArray, List.getElem_cons_zero, List.getElem_cons_succ, List.setIfInBounds_toArray, List.set_cons_zero, List.set_cons_succ]
    refine wpAnyH_take (i := 6) (v := ?_) rfl (by kernel_rfl) (by kernel_rfl) (by kernel_rfl) (fun _ _ _ h => h) (Or.inl ⟨by rfl, ?_⟩) (by assumption) ?_
    rotate_left
    · intro w hSw
      (try dsimp only at hSw)
      go_simp
      (try with_reducible rfl)
    try simp only [Act.put, List.getElem_toArray, List.getElem_cons_zero, List.getElem_cons_succ, List.setIfInBounds_toArray, List.set_cons_zero, List.set_cons_succ]
    refine wpAnyH_take (i := 7) (v := ?_) rfl (by kernel_rfl) (by kernel_rfl) (by kernel_rfl) (fun _ _ _ h => h) (Or.inl ⟨by rfl, ?_⟩) (by assumption) ?_
    rotate_left
    · intro w hSw
      (try dsimp only at hSw)
      go_simp
      (try with_reducible rfl)
    try simp only [Act.put, List.getElem_toArray, List.getElem_cons_zero, List.getElem_cons_succ, List.setIfInBounds_toArray, List.set_cons_zero, List.set_cons_succ]
    refine wpAnyH_take (i := 8) (v := ?_) rfl (by kernel_rfl) (by kernel_rfl) (by kernel_rfl) (fun _ _ _ h => h) (Or.inl ⟨by rfl, ?_⟩) (by assumption) ?_
    rotate_left
    · intro w hSw
      (try dsimp only at hSw)
      go_simp
      (try with_reducible rfl)
    try simp only [Act.put, List.getElem_toArray, List.getElem_cons_zero, List.getElem_cons_succ, List.setIfInBounds_toArray, List.set_cons_zero, List.set_cons_succ]
    refine wpAnyH_take (i := 9) (v := ?_) rfl (by kernel_rfl) (by kernel_rfl) (by kernel_rfl) (fun _ _ _ h => h) (Or.inl ⟨by rfl, ?_⟩) (by assumption) ?_
    rotate_left
    · intro w hSw
      (try dsimp only at hSw)
      go_simp
      (try with_reducible rfl)
    try simp only [Act.put, List.getElem_toArray, List.getElem_cons_zero, List.getElem_cons_succ, List.setIfInBounds_toArray, List.set_cons_zero, List.set_cons_succ]
    refine wpAnyH_take (i := 10) (v := ?_) rfl (by kernel_rfl) (by kernel_rfl) (by kernel_rfl) (fun _ _ _ h => h) (Or.inl ⟨by rfl, ?_⟩) (by assumption) ?_
    rotate_left
    · intro w hSw
      (try dsimp only at hSw)
      go_simp
      (try with_reducible rfl)
    try simp only [Act.put, List.getElem_toArray, List.getElem_cons_zero, List.getElem_cons_succ, List.setIfInBounds_toArray, List.set_cons_zero, List.set_cons_succ]
    refine wpAnyH_take (i := 11) (v := ?_) rfl (by kernel_rfl) (by kernel_rfl) (by kernel_rfl) (fun _ _ _ h => h) (Or.inl ⟨by rfl, ?_⟩) (by assumption) ?_
    rotate_left
    · intro w hSw
      (try dsimp only at hSw)
      go_simp
      (try with_reducible rfl)
    try simp only [Act.put, List.getElem_toArray, List.getElem_cons_zero, List.getElem_cons_succ, List.setIfInBounds_toArray, List.set_cons_zero, List.set_cons_succ]
    refine wpAnyH_take (i := 12) (v := ?_) rfl (by kernel_rfl) (by kernel_rfl) (by kernel_rfl) (fun _ _ _ h => h) (Or.inl ⟨by rfl, ?_⟩) (by assumption) ?_
    rotate_left
    · intro w hSw
      (try dsimp only at hSw)
      go_simp
      (try with_reducible rfl)
    try simp only [Act.put, List.getElem_toArray, List.getElem_cons_zero, List.getElem_cons_succ, List.setIfInBounds_toArray, List.set_cons_zero, List.set_cons_succ]
    refine wpAnyH_take (i := 13) (v := ?_) rfl (by kernel_rfl) (by kernel_rfl) (by kernel_rfl) (fun _ _ _ h => h) (Or.inl ⟨by rfl, ?_⟩) (by assumption) ?_
    rotate_left
    · intro w hSw
      (try dsimp only at hSw)
      go_simp
      (try with_reducible rfl)
    try simp only [Act.put, List.getElem_toArray, List.getElem_cons_zero, List.getElem_cons_succ, List.setIfInBounds_toArray, List.set_cons_zero, List.set_cons_succ]
    refine wpAnyH_take (i := 14) (v := ?_) rfl (by kernel_rfl) (by kernel_rfl) (by kernel_rfl) (fun _ _ _ h => h) (Or.inl ⟨by rfl, ?_⟩) (by assumption) ?_
    rotate_left
    · intro w hSw
      (try dsimp only at hSw)
      go_simp
      (try with_reducible rfl)
    try simp only [Act.put, List.getElem_toArray, List.getElem_cons_zero, List.getElem_cons_succ, List.setIfInBounds_toArray, List.set_cons_zero, List.set_cons_succ]
    refine wpAnyH_take (i := 15) (v := ?_) rfl (by kernel_rfl) (by kernel_rfl) (by kernel_rfl) (fun _ _ _ h => h) (Or.inl ⟨by rfl, ?_⟩) (by assumption) ?_
    rotate_left
    · intro w hSw
      (try dsimp only at hSw)
      go_simp
      (try with_reducible rfl)
    try simp only [Act.put, List.getElem_toArray, List.getElem_cons_zero, List.getElem_cons_succ, List.setIfInBounds_toArray, List.set_cons_zero, List.set_cons_succ]
    refine wpAnyH_ready (rs := [16]) (by kernel_rfl) (by simp) ?_
    refine AllReadyH.cons rfl (fun K hK => ?_) AllReadyH.nil
    go_simp
    refine (HMe.out _).mono ?_
    rintro e v1 ⟨rfl, rfl⟩
    first | show K _ _ | go_wp2_with fail
    refine hK.out _ _ ?_ (fun hHeld1 => ?_)
    · exact hHeld
    clear hK K
    try simp only [Act.put, List.getElem_toArray, List.getElem_cons_zero, List.getElem_cons_succ, List.setIfInBounds_toArray, List.set_cons_zero, List.set_cons_succ]
    refine wpAnyH_done (by kernel_rfl) ?_ _
    have K3 := Lib.hid (HK0.out.trans hHeld1.2)
    obtain ⟨-, -, -, b3⟩ := box_cells hHeld1.2
    clear hHeld hHeld1
    go_wp2_with fail
    go_ret
    exact HM.out.did 0 (HM.out.on K3.out).st K3.out.up

set_option maxRecDepth 100000 in
set_option maxHeartbeats 1000000 in
theorem do_cond17 {w : World} {sp mp g zp mb : Nat} {lv : Value} {L : List ZR} {n : Nat} {r : List Int} {p : Int} {l : List Nat} (h : Mach w sp mp g zp mb lv L n r p l) (c : Int) {a b : Nat} (ha : a < 16) (hb : b < 16) (hp : 0 ≤ p ∧ p ≤ 100000) (hc : -131072 ≤ c ∧ c ≤ 131071) :
    Calls Try.prog 35 #[.pointer (some ⟨sp, 0, none⟩), .agg #[.int .i64 17, .int .i64 a, .int .i64 b, .int .i64 c], .pointer (some ⟨mp, 0, none⟩), .pointer (some ⟨zp, 0, none⟩)] w fun e w' => DidIns w w' e sp mp g ⟨0, r, if meetsOf 17 (r.getD a 0) (r.getD b 0) = true then p + 4 * c else p, l⟩ := by
  have HM := Lib.hid h
  have k0 : Kept No w (w.alloc (.cells #[.int .i64 17, .int .i64 a, .int .i64 b, .int .i64 c] 42)) := (Kept.refl _ _).alloc _
  have HK0 := Lib.hid k0
  have HH := Lib.hid (fun v k => h.held6 (o := 17) (c := c) (v := v) ha hb k)
  have HP := Lib.hid hp
  have HCc := Lib.hid hc
  have i1 : (a : Int) < 16 := by omega
  have i2 : (0 : Int) ≤ (a : Int) := by omega
  have i3 : (b : Int) < 16 := by omega
  have i4 : (0 : Int) ≤ (b : Int) := by omega
  obtain ⟨x, hx⟩ : ∃ x, r.getD a 0 = x := ⟨_, rfl⟩
  obtain ⟨y, hy⟩ : ∃ y, r.getD b 0 = y := ⟨_, rfl⟩
  rw [hx, hy] at HH
  rw [hx, hy]
  have HMe := Lib.hid (fun v => aluMeets_any 17 x y v (by omega) (by omega))
  clear h k0 hp hc hx hy
  cases hm : meetsOf 17 x y with
  | true =>
    rw [hm] at HMe
    simp only [if_true]
    clear hm
    go_enter Try.func35, Try.ntmps35
    go_wp2_with fail
    refine wp_region_held_drew (S := fun w' => (w'.cell? ⟨w.heap.size, 0, none⟩ = some (.int .i64 17) ∧ w'.cell? ⟨w.heap.size, 1, none⟩ = some (.int .i64 a) ∧ w'.cell? ⟨w.heap.size, 2, none⟩ = some (.int .i64 b) ∧ w'.cell? ⟨w.heap.size, 3, none⟩ = some (.int .i64 c) ∧ w'.cell? ⟨sp, a, none⟩ = some (.int .i32 x) ∧ w'.cell? ⟨sp, b, none⟩ = some (.int .i32 y)) ∧ Kept No (w.alloc (.cells #[.int .i64 17, .int .i64 a, .int .i64 b, .int .i64 c] 42)) w') (by kernel_rfl) ?_ (fun hHeld => ?_)
    · exact HH.out _ (Kept.refl _ _).drew
    refine wpAnyH_take (i := 0) (v := ?_) rfl (by kernel_rfl) (by kernel_rfl) (by kernel_rfl) (fun _ _ _ h => h) (Or.inl ⟨by rfl, ?_⟩) (by assumption) ?_
    rotate_left
    · intro w hSw
      (try dsimp only at hSw)
      go_simp
      (try with_reducible rfl)
    try simp only [Act.put, List.getElem_toArray, List.getElem_cons_zero, List.setIfInBounds_toArray, List.set_cons_zero, List.set_cons_succ]
    refine wpAnyH_take (i := 1) (v := ?_) rfl (by kernel_rfl) (by kernel_rfl) (by kernel_rfl) (fun _ _ _ h => h) (Or.inl ⟨by rfl, ?_⟩) (by assumption) ?_
    rotate_left
    · intro w hSw
      (try dsimp only at hSw)
      go_simp
      (try with_reducible rfl)
    try simp only [Act.put, List.getElem_toArray, List.getElem_cons_zero, List.getElem_cons_succ, List.setIfInBounds_toArray, List.set_cons_zero, List.set_cons_succ]
    refine wpAnyH_take (i := 2) (v := ?_) rfl (by kernel_rfl) (by kernel_rfl) (by kernel_rfl) (fun _ _ _ h => h) (Or.inl ⟨by rfl, ?_⟩) (by assumption) ?_
    rotate_left
    · intro w hSw
      (try dsimp only at hSw)
      go_simp
      (try with_reducible rfl)
    try simp only [Act.put, List.getElem_toArray, List.getElem_cons_zero, List.getElem_cons_succ, List.setIfInBounds_toArray, List.set_cons_zero, List.set_cons_succ]
    refine wpAnyH_take (i := 3) (v := ?_) rfl (by kernel_rfl) (by kernel_rfl) (by kernel_rfl) (fun _ _ _ h => h) (Or.inl ⟨by rfl, ?_⟩) (by assumption) ?_
    rotate_left
    · intro w hSw
      (try dsimp only at hSw)
      go_simp
      (try with_reducible rfl)
    try simp only [Act.put, List.getElem_toArray, List.getElem_cons_zero, List.getElem_cons_succ, List.setIfInBounds_toArray, List.set_cons_zero, List.set_cons_succ]
    refine wpAnyH_take (i := 4) (v := ?_) rfl (by kernel_rfl) (by kernel_rfl) (by kernel_rfl) (fun _ _ _ h => h) (Or.inl ⟨by rfl, ?_⟩) (by assumption) ?_
    rotate_left
    · intro w hSw
      (try dsimp only at hSw)
      go_simp
      (try with_reducible rfl)
    try simp only [Act.put, List.getElem_toArray, List.getElem_cons_zero, List.getElem_cons_succ, List.setIfInBounds_toArray, List.set_cons_zero, List.set_cons_succ]
    refine wpAnyH_take (i := 5) (v := ?_) rfl (by kernel_rfl) (by kernel_rfl) (by kernel_rfl) (fun _ _ _ h => h) (Or.inl ⟨by rfl, ?_⟩) (by assumption) ?_
    rotate_left
    · intro w hSw
      (try dsimp only at hSw)
      go_simp
      (try with_reducible rfl)
    try simp only [Act.put, List.getElem_toArray, List.getElem_cons_zero, List.getElem_cons_succ, List.setIfInBounds_toArray, List.set_cons_zero, List.set_cons_succ]
    refine wpAnyH_take (i := 6) (v := ?_) rfl (by kernel_rfl) (by kernel_rfl) (by kernel_rfl) (fun _ _ _ h => h) (Or.inl ⟨by rfl, ?_⟩) (by assumption) ?_
    rotate_left
    · intro w hSw
      (try dsimp only at hSw)
      go_simp
      (try with_reducible rfl)
    try simp only [Act.put, List.getElem_toArray, List.getElem_cons_zero, List.getElem_cons_succ, List.setIfInBounds_toArray, List.set_cons_zero, List.set_cons_succ]
    refine wpAnyH_take (i := 7) (v := ?_) rfl (by kernel_rfl) (by kernel_rfl) (by kernel_rfl) (fun _ _ _ h => h) (Or.inl ⟨by rfl, ?_⟩) (by assumption) ?_
    rotate_left
    · intro w hSw
      (try dsimp only at hSw)
      go_simp
      (try with_reducible rfl)
    try simp only [Act.put, List.getElem_toArray, List.getElem_cons_zero, List.getElem_cons_succ, List.setIfInBounds_toArray, List.set_cons_zero, List.set_cons_succ]
    refine wpAnyH_take (i := 8) (v := ?_) rfl (by kernel_rfl) (by kernel_rfl) (by kernel_rfl) (fun _ _ _ h => h) (Or.inl ⟨by rfl, ?_⟩) (by assumption) ?_
    rotate_left
    · intro w hSw
      (try dsimp only at hSw)
      go_simp
      (try with_reducible rfl)
    try simp only [Act.put, List.getElem_toArray, List.getElem_cons_zero, List.getElem_cons_succ, List.setIfInBounds_toArray, List.set_cons_zero, List.set_cons_succ]
    refine wpAnyH_take (i := 9) (v := ?_) rfl (by kernel_rfl) (by kernel_rfl) (by kernel_rfl) (fun _ _ _ h => h) (Or.inl ⟨by rfl, ?_⟩) (by assumption) ?_
    rotate_left
    · intro w hSw
      (try dsimp only at hSw)
      go_simp
      (try with_reducible rfl)
    try simp only [Act.put, List.getElem_toArray, List.getElem_cons_zero, List.getElem_cons_succ, List.setIfInBounds_toArray, List.set_cons_zero, List.set_cons_succ]
    refine wpAnyH_take (i := 10) (v := ?_) rfl (by kernel_rfl) (by kernel_rfl) (by kernel_rfl) (fun _ _ _ h => h) (Or.inl ⟨by rfl, ?_⟩) (by assumption) ?_
    rotate_left
    · intro w hSw
      (try dsimp only at hSw)
      go_simp
      (try with_reducible rfl)
    try simp only [Act.put, List.getElem_toArray, List.getElem_cons_zero, List.getElem_cons_succ, List.setIfInBounds_toArray, List.set_cons_zero, List.set_cons_succ]
    refine wpAnyH_take (i := 11) (v := ?_) rfl (by kernel_rfl) (by kernel_rfl) (by kernel_rfl) (fun _ _ _ h => h) (Or.inl ⟨by rfl, ?_⟩) (by assumption) ?_
    rotate_left
    · intro w hSw
      (try dsimp only at hSw)
      go_simp
      (try with_reducible rfl)
    try simp only [Act.put, List.getElem_toArray, List.getElem_cons_zero, List.getElem_cons_succ, List.setIfInBounds_toArray, List.set_cons_zero, List.set_cons_succ]
    refine wpAnyH_take (i := 12) (v := ?_) rfl (by kernel_rfl) (by kernel_rfl) (by kernel_rfl) (fun _ _ _ h => h) (Or.inl ⟨by rfl, ?_⟩) (by assumption) ?_
    rotate_left
    · intro w hSw
      (try dsimp only at hSw)
      go_simp
      (try with_reducible rfl)
    try simp only [Act.put, List.getElem_toArray, List.getElem_cons_zero, List.getElem_cons_succ, List.setIfInBounds_toArray, List.set_cons_zero, List.set_cons_succ]
    refine wpAnyH_take (i := 13) (v := ?_) rfl (by kernel_rfl) (by kernel_rfl) (by kernel_rfl) (fun _ _ _ h => h) (Or.inl ⟨by rfl, ?_⟩) (by assumption) ?_
    rotate_left
    · intro w hSw
      (try dsimp only at hSw)
      go_simp
      (try with_reducible rfl)
    try simp only [Act.put, List.getElem_toArray, List.getElem_cons_zero, List.getElem_cons_succ, List.setIfInBounds_toArray, List.set_cons_zero, List.set_cons_succ]
    refine wpAnyH_take (i := 14) (v := ?_) rfl (by kernel_rfl) (by kernel_rfl) (by kernel_rfl) (fun _ _ _ h => h) (Or.inl ⟨by rfl, ?_⟩) (by assumption) ?_
    rotate_left
    · intro w hSw
      (try dsimp only at hSw)
      go_simp
      (try with_reducible rfl)
    try simp only [Act.put, List.getElem_toArray, List.getElem_cons_zero, List.getElem_cons_succ, List.setIfInBounds_toArray, List.set_cons_zero, List.set_cons_succ]
    refine wpAnyH_take (i := 15) (v := ?_) rfl (by kernel_rfl) (by kernel_rfl) (by kernel_rfl) (fun _ _ _ h => h) (Or.inl ⟨by rfl, ?_⟩) (by assumption) ?_
    rotate_left
    · intro w hSw
      (try dsimp only at hSw)
      go_simp
      (try with_reducible rfl)
    try simp only [Act.put, List.getElem_toArray, List.getElem_cons_zero, List.getElem_cons_succ, List.setIfInBounds_toArray, List.set_cons_zero, List.set_cons_succ]
    refine wpAnyH_ready (rs := [16]) (by kernel_rfl) (by simp) ?_
    refine AllReadyH.cons rfl (fun K hK => ?_) AllReadyH.nil
    go_simp
    refine (HMe.out _).mono ?_
    rintro e v1 ⟨rfl, rfl⟩
    first | show K _ _ | go_wp2_with fail
    refine hK.out _ _ ?_ (fun hHeld1 => ?_)
    · exact hHeld
    clear hK K
    try simp only [Act.put, List.getElem_toArray, List.getElem_cons_zero, List.getElem_cons_succ, List.setIfInBounds_toArray, List.set_cons_zero, List.set_cons_succ]
    refine wpAnyH_done (by kernel_rfl) ?_ _
    have K3 := Lib.hid (HK0.out.trans hHeld1.2)
    obtain ⟨-, -, -, b3⟩ := box_cells hHeld1.2
    clear hHeld hHeld1
    go_wp2_with fail
    refine (jump_any sp r p c _ (HM.out.on K3.out).st HM.out.rl HP.out.1 HP.out.2 HCc.out.1 HCc.out.2).mono ?_
    rintro e v2 ⟨rfl, rfl⟩
    go_wp2_with fail
    go_ret
    exact HM.out.did 0 (HM.out.goTo K3.out _).1 (HM.out.goTo K3.out _).2
  | false =>
    rw [hm] at HMe
    simp only [Bool.false_eq_true, if_false]
    clear hm
    go_enter Try.func35, Try.ntmps35
    go_wp2_with fail
    refine wp_region_held_drew (S := fun w' => (w'.cell? ⟨w.heap.size, 0, none⟩ = some (.int .i64 17) ∧ w'.cell? ⟨w.heap.size, 1, none⟩ = some (.int .i64 a) ∧ w'.cell? ⟨w.heap.size, 2, none⟩ = some (.int .i64 b) ∧ w'.cell? ⟨w.heap.size, 3, none⟩ = some (.int .i64 c) ∧ w'.cell? ⟨sp, a, none⟩ = some (.int .i32 x) ∧ w'.cell? ⟨sp, b, none⟩ = some (.int .i32 y)) ∧ Kept No (w.alloc (.cells #[.int .i64 17, .int .i64 a, .int .i64 b, .int .i64 c] 42)) w') (by kernel_rfl) ?_ (fun hHeld => ?_)
    · exact HH.out _ (Kept.refl _ _).drew
    refine wpAnyH_take (i := 0) (v := ?_) rfl (by kernel_rfl) (by kernel_rfl) (by kernel_rfl) (fun _ _ _ h => h) (Or.inl ⟨by rfl, ?_⟩) (by assumption) ?_
    rotate_left
    · intro w hSw
      (try dsimp only at hSw)
      go_simp
      (try with_reducible rfl)
    try simp only [Act.put, List.getElem_toArray, List.getElem_cons_zero, List.setIfInBounds_toArray, List.set_cons_zero, List.set_cons_succ]
    refine wpAnyH_take (i := 1) (v := ?_) rfl (by kernel_rfl) (by kernel_rfl) (by kernel_rfl) (fun _ _ _ h => h) (Or.inl ⟨by rfl, ?_⟩) (by assumption) ?_
    rotate_left
    · intro w hSw
      (try dsimp only at hSw)
      go_simp
      (try with_reducible rfl)
    try simp only [Act.put, List.getElem_toArray, List.getElem_cons_zero, List.getElem_cons_succ, List.setIfInBounds_toArray, List.set_cons_zero, List.set_cons_succ]
    refine wpAnyH_take (i := 2) (v := ?_) rfl (by kernel_rfl) (by kernel_rfl) (by kernel_rfl) (fun _ _ _ h => h) (Or.inl ⟨by rfl, ?_⟩) (by assumption) ?_
    rotate_left
    · intro w hSw
      (try dsimp only at hSw)
      go_simp
      (try with_reducible rfl)
    try simp only [Act.put, List.getElem_toArray, List.getElem_cons_zero, List.getElem_cons_succ, List.setIfInBounds_toArray, List.set_cons_zero, List.set_cons_succ]
    refine wpAnyH_take (i := 3) (v := ?_) rfl (by kernel_rfl) (by kernel_rfl) (by kernel_rfl) (fun _ _ _ h => h) (Or.inl ⟨by rfl, ?_⟩) (by assumption) ?_
    rotate_left
    · intro w hSw
      (try dsimp only at hSw)
      go_simp
      (try with_reducible rfl)
    try simp only [Act.put, List.getElem_toArray, List.getElem_cons_zero, List.getElem_cons_succ, List.setIfInBounds_toArray, List.set_cons_zero, List.set_cons_succ]
    refine wpAnyH_take (i := 4) (v := ?_) rfl (by kernel_rfl) (by kernel_rfl) (by kernel_rfl) (fun _ _ _ h => h) (Or.inl ⟨by rfl, ?_⟩) (by assumption) ?_
    rotate_left
    · intro w hSw
      (try dsimp only at hSw)
      go_simp
      (try with_reducible rfl)
    try simp only [Act.put, List.getElem_toArray, List.getElem_cons_zero, List.getElem_cons_succ, List.setIfInBounds_toArray, List.set_cons_zero, List.set_cons_succ]
    refine wpAnyH_take (i := 5) (v := ?_) rfl (by kernel_rfl) (by kernel_rfl) (by kernel_rfl) (fun _ _ _ h => h) (Or.inl ⟨by rfl, ?_⟩) (by assumption) ?_
    rotate_left
    · intro w hSw
      (try dsimp only at hSw)
      go_simp
      (try with_reducible rfl)
    try simp only [Act.put, List.getElem_toArray, List.getElem_cons_zero, List.getElem_cons_succ, List.setIfInBounds_toArray, List.set_cons_zero, List.set_cons_succ]
    refine wpAnyH_take (i := 6) (v := ?_) rfl (by kernel_rfl) (by kernel_rfl) (by kernel_rfl) (fun _ _ _ h => h) (Or.inl ⟨by rfl, ?_⟩) (by assumption) ?_
    rotate_left
    · intro w hSw
      (try dsimp only at hSw)
      go_simp
      (try with_reducible rfl)
    try simp only [Act.put, List.getElem_toArray, List.getElem_cons_zero, List.getElem_cons_succ, List.setIfInBounds_toArray, List.set_cons_zero, List.set_cons_succ]
    refine wpAnyH_take (i := 7) (v := ?_) rfl (by kernel_rfl) (by kernel_rfl) (by kernel_rfl) (fun _ _ _ h => h) (Or.inl ⟨by rfl, ?_⟩) (by assumption) ?_
    rotate_left
    · intro w hSw
      (try dsimp only at hSw)
      go_simp
      (try with_reducible rfl)
    try simp only [Act.put, List.getElem_toArray, List.getElem_cons_zero, List.getElem_cons_succ, List.setIfInBounds_toArray, List.set_cons_zero, List.set_cons_succ]
    refine wpAnyH_take (i := 8) (v := ?_) rfl (by kernel_rfl) (by kernel_rfl) (by kernel_rfl) (fun _ _ _ h => h) (Or.inl ⟨by rfl, ?_⟩) (by assumption) ?_
    rotate_left
    · intro w hSw
      (try dsimp only at hSw)
      go_simp
      (try with_reducible rfl)
    try simp only [Act.put, List.getElem_toArray, List.getElem_cons_zero, List.getElem_cons_succ, List.setIfInBounds_toArray, List.set_cons_zero, List.set_cons_succ]
    refine wpAnyH_take (i := 9) (v := ?_) rfl (by kernel_rfl) (by kernel_rfl) (by kernel_rfl) (fun _ _ _ h => h) (Or.inl ⟨by rfl, ?_⟩) (by assumption) ?_
    rotate_left
    · intro w hSw
      (try dsimp only at hSw)
      go_simp
      (try with_reducible rfl)
    try simp only [Act.put, List.getElem_toArray, List.getElem_cons_zero, List.getElem_cons_succ, List.setIfInBounds_toArray, List.set_cons_zero, List.set_cons_succ]
    refine wpAnyH_take (i := 10) (v := ?_) rfl (by kernel_rfl) (by kernel_rfl) (by kernel_rfl) (fun _ _ _ h => h) (Or.inl ⟨by rfl, ?_⟩) (by assumption) ?_
    rotate_left
    · intro w hSw
      (try dsimp only at hSw)
      go_simp
      (try with_reducible rfl)
    try simp only [Act.put, List.getElem_toArray, List.getElem_cons_zero, List.getElem_cons_succ, List.setIfInBounds_toArray, List.set_cons_zero, List.set_cons_succ]
    refine wpAnyH_take (i := 11) (v := ?_) rfl (by kernel_rfl) (by kernel_rfl) (by kernel_rfl) (fun _ _ _ h => h) (Or.inl ⟨by rfl, ?_⟩) (by assumption) ?_
    rotate_left
    · intro w hSw
      (try dsimp only at hSw)
      go_simp
      (try with_reducible rfl)
    try simp only [Act.put, List.getElem_toArray, List.getElem_cons_zero, List.getElem_cons_succ, List.setIfInBounds_toArray, List.set_cons_zero, List.set_cons_succ]
    refine wpAnyH_take (i := 12) (v := ?_) rfl (by kernel_rfl) (by kernel_rfl) (by kernel_rfl) (fun _ _ _ h => h) (Or.inl ⟨by rfl, ?_⟩) (by assumption) ?_
    rotate_left
    · intro w hSw
      (try dsimp only at hSw)
      go_simp
      (try with_reducible rfl)
    try simp only [Act.put, List.getElem_toArray, List.getElem_cons_zero, List.getElem_cons_succ, List.setIfInBounds_toArray, List.set_cons_zero, List.set_cons_succ]
    refine wpAnyH_take (i := 13) (v := ?_) rfl (by kernel_rfl) (by kernel_rfl) (by kernel_rfl) (fun _ _ _ h => h) (Or.inl ⟨by rfl, ?_⟩) (by assumption) ?_
    rotate_left
    · intro w hSw
      (try dsimp only at hSw)
      go_simp
      (try with_reducible rfl)
    try simp only [Act.put, List.getElem_toArray, List.getElem_cons_zero, List.getElem_cons_succ, List.setIfInBounds_toArray, List.set_cons_zero, List.set_cons_succ]
    refine wpAnyH_take (i := 14) (v := ?_) rfl (by kernel_rfl) (by kernel_rfl) (by kernel_rfl) (fun _ _ _ h => h) (Or.inl ⟨by rfl, ?_⟩) (by assumption) ?_
    rotate_left
    · intro w hSw
      (try dsimp only at hSw)
      go_simp
      (try with_reducible rfl)
    try simp only [Act.put, List.getElem_toArray, List.getElem_cons_zero, List.getElem_cons_succ, List.setIfInBounds_toArray, List.set_cons_zero, List.set_cons_succ]
    refine wpAnyH_take (i := 15) (v := ?_) rfl (by kernel_rfl) (by kernel_rfl) (by kernel_rfl) (fun _ _ _ h => h) (Or.inl ⟨by rfl, ?_⟩) (by assumption) ?_
    rotate_left
    · intro w hSw
      (try dsimp only at hSw)
      go_simp
      (try with_reducible rfl)
    try simp only [Act.put, List.getElem_toArray, List.getElem_cons_zero, List.getElem_cons_succ, List.setIfInBounds_toArray, List.set_cons_zero, List.set_cons_succ]
    refine wpAnyH_ready (rs := [16]) (by kernel_rfl) (by simp) ?_
    refine AllReadyH.cons rfl (fun K hK => ?_) AllReadyH.nil
    go_simp
    refine (HMe.out _).mono ?_
    rintro e v1 ⟨rfl, rfl⟩
    first | show K _ _ | go_wp2_with fail
    refine hK.out _ _ ?_ (fun hHeld1 => ?_)
    · exact hHeld
    clear hK K
    try simp only [Act.put, List.getElem_toArray, List.getElem_cons_zero, List.getElem_cons_succ, List.setIfInBounds_toArray, List.set_cons_zero, List.set_cons_succ]
    refine wpAnyH_done (by kernel_rfl) ?_ _
    have K3 := Lib.hid (HK0.out.trans hHeld1.2)
    obtain ⟨-, -, -, b3⟩ := box_cells hHeld1.2
    clear hHeld hHeld1
    go_wp2_with fail
    go_ret
    exact HM.out.did 0 (HM.out.on K3.out).st K3.out.up

set_option maxRecDepth 100000 in
set_option maxHeartbeats 1000000 in
theorem do_cond18 {w : World} {sp mp g zp mb : Nat} {lv : Value} {L : List ZR} {n : Nat} {r : List Int} {p : Int} {l : List Nat} (h : Mach w sp mp g zp mb lv L n r p l) (c : Int) {a b : Nat} (ha : a < 16) (hb : b < 16) (hp : 0 ≤ p ∧ p ≤ 100000) (hc : -131072 ≤ c ∧ c ≤ 131071) :
    Calls Try.prog 35 #[.pointer (some ⟨sp, 0, none⟩), .agg #[.int .i64 18, .int .i64 a, .int .i64 b, .int .i64 c], .pointer (some ⟨mp, 0, none⟩), .pointer (some ⟨zp, 0, none⟩)] w fun e w' => DidIns w w' e sp mp g ⟨0, r, if meetsOf 18 (r.getD a 0) (r.getD b 0) = true then p + 4 * c else p, l⟩ := by
  have HM := Lib.hid h
  have k0 : Kept No w (w.alloc (.cells #[.int .i64 18, .int .i64 a, .int .i64 b, .int .i64 c] 42)) := (Kept.refl _ _).alloc _
  have HK0 := Lib.hid k0
  have HH := Lib.hid (fun v k => h.held6 (o := 18) (c := c) (v := v) ha hb k)
  have HP := Lib.hid hp
  have HCc := Lib.hid hc
  have i1 : (a : Int) < 16 := by omega
  have i2 : (0 : Int) ≤ (a : Int) := by omega
  have i3 : (b : Int) < 16 := by omega
  have i4 : (0 : Int) ≤ (b : Int) := by omega
  obtain ⟨x, hx⟩ : ∃ x, r.getD a 0 = x := ⟨_, rfl⟩
  obtain ⟨y, hy⟩ : ∃ y, r.getD b 0 = y := ⟨_, rfl⟩
  rw [hx, hy] at HH
  rw [hx, hy]
  have HMe := Lib.hid (fun v => aluMeets_any 18 x y v (by omega) (by omega))
  clear h k0 hp hc hx hy
  cases hm : meetsOf 18 x y with
  | true =>
    rw [hm] at HMe
    simp only [if_true]
    clear hm
    go_enter Try.func35, Try.ntmps35
    go_wp2_with fail
    refine wp_region_held_drew (S := fun w' => (w'.cell? ⟨w.heap.size, 0, none⟩ = some (.int .i64 18) ∧ w'.cell? ⟨w.heap.size, 1, none⟩ = some (.int .i64 a) ∧ w'.cell? ⟨w.heap.size, 2, none⟩ = some (.int .i64 b) ∧ w'.cell? ⟨w.heap.size, 3, none⟩ = some (.int .i64 c) ∧ w'.cell? ⟨sp, a, none⟩ = some (.int .i32 x) ∧ w'.cell? ⟨sp, b, none⟩ = some (.int .i32 y)) ∧ Kept No (w.alloc (.cells #[.int .i64 18, .int .i64 a, .int .i64 b, .int .i64 c] 42)) w') (by kernel_rfl) ?_ (fun hHeld => ?_)
    · exact HH.out _ (Kept.refl _ _).drew
    refine wpAnyH_take (i := 0) (v := ?_) rfl (by kernel_rfl) (by kernel_rfl) (by kernel_rfl) (fun _ _ _ h => h) (Or.inl ⟨by rfl, ?_⟩) (by assumption) ?_
    rotate_left
    · intro w hSw
      (try dsimp only at hSw)
      go_simp
      (try with_reducible rfl)
    try simp only [Act.put, List.getElem_toArray, List.getElem_cons_zero, List.setIfInBounds_toArray, List.set_cons_zero, List.set_cons_succ]
    refine wpAnyH_take (i := 1) (v := ?_) rfl (by kernel_rfl) (by kernel_rfl) (by kernel_rfl) (fun _ _ _ h => h) (Or.inl ⟨by rfl, ?_⟩) (by assumption) ?_
    rotate_left
    · intro w hSw
      (try dsimp only at hSw)
      go_simp
      (try with_reducible rfl)
    try simp only [Act.put, List.getElem_toArray, List.getElem_cons_zero, List.getElem_cons_succ, List.setIfInBounds_toArray, List.set_cons_zero, List.set_cons_succ]
    refine wpAnyH_take (i := 2) (v := ?_) rfl (by kernel_rfl) (by kernel_rfl) (by kernel_rfl) (fun _ _ _ h => h) (Or.inl ⟨by rfl, ?_⟩) (by assumption) ?_
    rotate_left
    · intro w hSw
      (try dsimp only at hSw)
      go_simp
      (try with_reducible rfl)
    try simp only [Act.put, List.getElem_toArray, List.getElem_cons_zero, List.getElem_cons_succ, List.setIfInBounds_toArray, List.set_cons_zero, List.set_cons_succ]
    refine wpAnyH_take (i := 3) (v := ?_) rfl (by kernel_rfl) (by kernel_rfl) (by kernel_rfl) (fun _ _ _ h => h) (Or.inl ⟨by rfl, ?_⟩) (by assumption) ?_
    rotate_left
    · intro w hSw
      (try dsimp only at hSw)
      go_simp
      (try with_reducible rfl)
    try simp only [Act.put, List.getElem_toArray, List.getElem_cons_zero, List.getElem_cons_succ, List.setIfInBounds_toArray, List.set_cons_zero, List.set_cons_succ]
    refine wpAnyH_take (i := 4) (v := ?_) rfl (by kernel_rfl) (by kernel_rfl) (by kernel_rfl) (fun _ _ _ h => h) (Or.inl ⟨by rfl, ?_⟩) (by assumption) ?_
    rotate_left
    · intro w hSw
      (try dsimp only at hSw)
      go_simp
      (try with_reducible rfl)
    try simp only [Act.put, List.getElem_toArray, List.getElem_cons_zero, List.getElem_cons_succ, List.setIfInBounds_toArray, List.set_cons_zero, List.set_cons_succ]
    refine wpAnyH_take (i := 5) (v := ?_) rfl (by kernel_rfl) (by kernel_rfl) (by kernel_rfl) (fun _ _ _ h => h) (Or.inl ⟨by rfl, ?_⟩) (by assumption) ?_
    rotate_left
    · intro w hSw
      (try dsimp only at hSw)
      go_simp
      (try with_reducible rfl)
    try simp only [Act.put, List.getElem_toArray, List.getElem_cons_zero, List.getElem_cons_succ, List.setIfInBounds_toArray, List.set_cons_zero, List.set_cons_succ]
    refine wpAnyH_take (i := 6) (v := ?_) rfl (by kernel_rfl) (by kernel_rfl) (by kernel_rfl) (fun _ _ _ h => h) (Or.inl ⟨by rfl, ?_⟩) (by assumption) ?_
    rotate_left
    · intro w hSw
      (try dsimp only at hSw)
      go_simp
      (try with_reducible rfl)
    try simp only [Act.put, List.getElem_toArray, List.getElem_cons_zero, List.getElem_cons_succ, List.setIfInBounds_toArray, List.set_cons_zero, List.set_cons_succ]
    refine wpAnyH_take (i := 7) (v := ?_) rfl (by kernel_rfl) (by kernel_rfl) (by kernel_rfl) (fun _ _ _ h => h) (Or.inl ⟨by rfl, ?_⟩) (by assumption) ?_
    rotate_left
    · intro w hSw
      (try dsimp only at hSw)
      go_simp
      (try with_reducible rfl)
    try simp only [Act.put, List.getElem_toArray, List.getElem_cons_zero, List.getElem_cons_succ, List.setIfInBounds_toArray, List.set_cons_zero, List.set_cons_succ]
    refine wpAnyH_take (i := 8) (v := ?_) rfl (by kernel_rfl) (by kernel_rfl) (by kernel_rfl) (fun _ _ _ h => h) (Or.inl ⟨by rfl, ?_⟩) (by assumption) ?_
    rotate_left
    · intro w hSw
      (try dsimp only at hSw)
      go_simp
      (try with_reducible rfl)
    try simp only [Act.put, List.getElem_toArray, List.getElem_cons_zero, List.getElem_cons_succ, List.setIfInBounds_toArray, List.set_cons_zero, List.set_cons_succ]
    refine wpAnyH_take (i := 9) (v := ?_) rfl (by kernel_rfl) (by kernel_rfl) (by kernel_rfl) (fun _ _ _ h => h) (Or.inl ⟨by rfl, ?_⟩) (by assumption) ?_
    rotate_left
    · intro w hSw
      (try dsimp only at hSw)
      go_simp
      (try with_reducible rfl)
    try simp only [Act.put, List.getElem_toArray, List.getElem_cons_zero, List.getElem_cons_succ, List.setIfInBounds_toArray, List.set_cons_zero, List.set_cons_succ]
    refine wpAnyH_take (i := 10) (v := ?_) rfl (by kernel_rfl) (by kernel_rfl) (by kernel_rfl) (fun _ _ _ h => h) (Or.inl ⟨by rfl, ?_⟩) (by assumption) ?_
    rotate_left
    · intro w hSw
      (try dsimp only at hSw)
      go_simp
      (try with_reducible rfl)
    try simp only [Act.put, List.getElem_toArray, List.getElem_cons_zero, List.getElem_cons_succ, List.setIfInBounds_toArray, List.set_cons_zero, List.set_cons_succ]
    refine wpAnyH_take (i := 11) (v := ?_) rfl (by kernel_rfl) (by kernel_rfl) (by kernel_rfl) (fun _ _ _ h => h) (Or.inl ⟨by rfl, ?_⟩) (by assumption) ?_
    rotate_left
    · intro w hSw
      (try dsimp only at hSw)
      go_simp
      (try with_reducible rfl)
    try simp only [Act.put, List.getElem_toArray, List.getElem_cons_zero, List.getElem_cons_succ, List.setIfInBounds_toArray, List.set_cons_zero, List.set_cons_succ]
    refine wpAnyH_take (i := 12) (v := ?_) rfl (by kernel_rfl) (by kernel_rfl) (by kernel_rfl) (fun _ _ _ h => h) (Or.inl ⟨by rfl, ?_⟩) (by assumption) ?_
    rotate_left
    · intro w hSw
      (try dsimp only at hSw)
      go_simp
      (try with_reducible rfl)
    try simp only [Act.put, List.getElem_toArray, List.getElem_cons_zero, List.getElem_cons_succ, List.setIfInBounds_toArray, List.set_cons_zero, List.set_cons_succ]
    refine wpAnyH_take (i := 13) (v := ?_) rfl (by kernel_rfl) (by kernel_rfl) (by kernel_rfl) (fun _ _ _ h => h) (Or.inl ⟨by rfl, ?_⟩) (by assumption) ?_
    rotate_left
    · intro w hSw
      (try dsimp only at hSw)
      go_simp
      (try with_reducible rfl)
    try simp only [Act.put, List.getElem_toArray, List.getElem_cons_zero, List.getElem_cons_succ, List.setIfInBounds_toArray, List.set_cons_zero, List.set_cons_succ]
    refine wpAnyH_take (i := 14) (v := ?_) rfl (by kernel_rfl) (by kernel_rfl) (by kernel_rfl) (fun _ _ _ h => h) (Or.inl ⟨by rfl, ?_⟩) (by assumption) ?_
    rotate_left
    · intro w hSw
      (try dsimp only at hSw)
      go_simp
      (try with_reducible rfl)
    try simp only [Act.put, List.getElem_toArray, List.getElem_cons_zero, List.getElem_cons_succ, List.setIfInBounds_toArray, List.set_cons_zero, List.set_cons_succ]
    refine wpAnyH_take (i := 15) (v := ?_) rfl (by kernel_rfl) (by kernel_rfl) (by kernel_rfl) (fun _ _ _ h => h) (Or.inl ⟨by rfl, ?_⟩) (by assumption) ?_
    rotate_left
    · intro w hSw
      (try dsimp only at hSw)
      go_simp
      (try with_reducible rfl)
    try simp only [Act.put, List.getElem_toArray, List.getElem_cons_zero, List.getElem_cons_succ, List.setIfInBounds_toArray, List.set_cons_zero, List.set_cons_succ]
    refine wpAnyH_ready (rs := [16]) (by kernel_rfl) (by simp) ?_
    refine AllReadyH.cons rfl (fun K hK => ?_) AllReadyH.nil
    go_simp
    refine (HMe.out _).mono ?_
    rintro e v1 ⟨rfl, rfl⟩
    first | show K _ _ | go_wp2_with fail
    refine hK.out _ _ ?_ (fun hHeld1 => ?_)
    · exact hHeld
    clear hK K
    try simp only [Act.put, List.getElem_toArray, List.getElem_cons_zero, List.getElem_cons_succ, List.setIfInBounds_toArray, List.set_cons_zero, List.set_cons_succ]
    refine wpAnyH_done (by kernel_rfl) ?_ _
    have K3 := Lib.hid (HK0.out.trans hHeld1.2)
    obtain ⟨-, -, -, b3⟩ := box_cells hHeld1.2
    clear hHeld hHeld1
    go_wp2_with fail
    refine (jump_any sp r p c _ (HM.out.on K3.out).st HM.out.rl HP.out.1 HP.out.2 HCc.out.1 HCc.out.2).mono ?_
    rintro e v2 ⟨rfl, rfl⟩
    go_wp2_with fail
    go_ret
    exact HM.out.did 0 (HM.out.goTo K3.out _).1 (HM.out.goTo K3.out _).2
  | false =>
    rw [hm] at HMe
    simp only [Bool.false_eq_true, if_false]
    clear hm
    go_enter Try.func35, Try.ntmps35
    go_wp2_with fail
    refine wp_region_held_drew (S := fun w' => (w'.cell? ⟨w.heap.size, 0, none⟩ = some (.int .i64 18) ∧ w'.cell? ⟨w.heap.size, 1, none⟩ = some (.int .i64 a) ∧ w'.cell? ⟨w.heap.size, 2, none⟩ = some (.int .i64 b) ∧ w'.cell? ⟨w.heap.size, 3, none⟩ = some (.int .i64 c) ∧ w'.cell? ⟨sp, a, none⟩ = some (.int .i32 x) ∧ w'.cell? ⟨sp, b, none⟩ = some (.int .i32 y)) ∧ Kept No (w.alloc (.cells #[.int .i64 18, .int .i64 a, .int .i64 b, .int .i64 c] 42)) w') (by kernel_rfl) ?_ (fun hHeld => ?_)
    · exact HH.out _ (Kept.refl _ _).drew
    refine wpAnyH_take (i := 0) (v := ?_) rfl (by kernel_rfl) (by kernel_rfl) (by kernel_rfl) (fun _ _ _ h => h) (Or.inl ⟨by rfl, ?_⟩) (by assumption) ?_
    rotate_left
    · intro w hSw
      (try dsimp only at hSw)
      go_simp
      (try with_reducible rfl)
    try simp only [Act.put, List.getElem_toArray, List.getElem_cons_zero, List.setIfInBounds_toArray, List.set_cons_zero, List.set_cons_succ]
    refine wpAnyH_take (i := 1) (v := ?_) rfl (by kernel_rfl) (by kernel_rfl) (by kernel_rfl) (fun _ _ _ h => h) (Or.inl ⟨by rfl, ?_⟩) (by assumption) ?_
    rotate_left
    · intro w hSw
      (try dsimp only at hSw)
      go_simp
      (try with_reducible rfl)
    try simp only [Act.put, List.getElem_toArray, List.getElem_cons_zero, List.getElem_cons_succ, List.setIfInBounds_toArray, List.set_cons_zero, List.set_cons_succ]
    refine wpAnyH_take (i := 2) (v := ?_) rfl (by kernel_rfl) (by kernel_rfl) (by kernel_rfl) (fun _ _ _ h => h) (Or.inl ⟨by rfl, ?_⟩) (by assumption) ?_
    rotate_left
    · intro w hSw
      (try dsimp only at hSw)
      go_simp
      (try with_reducible rfl)
    try simp only [Act.put, List.getElem_toArray, List.getElem_cons_zero, List.getElem_cons_succ, List.setIfInBounds_toArray, List.set_cons_zero, List.set_cons_succ]
    refine wpAnyH_take (i := 3) (v := ?_) rfl (by kernel_rfl) (by kernel_rfl) (by kernel_rfl) (fun _ _ _ h => h) (Or.inl ⟨by rfl, ?_⟩) (by assumption) ?_
    rotate_left
    · intro w hSw
      (try dsimp only at hSw)
      go_simp
      (try with_reducible rfl)
    try simp only [Act.put, List.getElem_toArray, List.getElem_cons_zero, List.getElem_cons_succ, List.setIfInBounds_toArray, List.set_cons_zero, List.set_cons_succ]
    refine wpAnyH_take (i := 4) (v := ?_) rfl (by kernel_rfl) (by kernel_rfl) (by kernel_rfl) (fun _ _ _ h => h) (Or.inl ⟨by rfl, ?_⟩) (by assumption) ?_
    rotate_left
    · intro w hSw
      (try dsimp only at hSw)
      go_simp
      (try with_reducible rfl)
    try simp only [Act.put, List.getElem_toArray, List.getElem_cons_zero, List.getElem_cons_succ, List.setIfInBounds_toArray, List.set_cons_zero, List.set_cons_succ]
    refine wpAnyH_take (i := 5) (v := ?_) rfl (by kernel_rfl) (by kernel_rfl) (by kernel_rfl) (fun _ _ _ h => h) (Or.inl ⟨by rfl, ?_⟩) (by assumption) ?_
    rotate_left
    · intro w hSw
      (try dsimp only at hSw)
      go_simp
      (try with_reducible rfl)
    try simp only [Act.put, List.getElem_toArray, List.getElem_cons_zero, List.getElem_cons_succ, List.setIfInBounds_toArray, List.set_cons_zero, List.set_cons_succ]
    refine wpAnyH_take (i := 6) (v := ?_) rfl (by kernel_rfl) (by kernel_rfl) (by kernel_rfl) (fun _ _ _ h => h) (Or.inl ⟨by rfl, ?_⟩) (by assumption) ?_
    rotate_left
    · intro w hSw
      (try dsimp only at hSw)
      go_simp
      (try with_reducible rfl)
    try simp only [Act.put, List.getElem_toArray, List.getElem_cons_zero, List.getElem_cons_succ, List.setIfInBounds_toArray, List.set_cons_zero, List.set_cons_succ]
    refine wpAnyH_take (i := 7) (v := ?_) rfl (by kernel_rfl) (by kernel_rfl) (by kernel_rfl) (fun _ _ _ h => h) (Or.inl ⟨by rfl, ?_⟩) (by assumption) ?_
    rotate_left
    · intro w hSw
      (try dsimp only at hSw)
      go_simp
      (try with_reducible rfl)
    try simp only [Act.put, List.getElem_toArray, List.getElem_cons_zero, List.getElem_cons_succ, List.setIfInBounds_toArray, List.set_cons_zero, List.set_cons_succ]
    refine wpAnyH_take (i := 8) (v := ?_) rfl (by kernel_rfl) (by kernel_rfl) (by kernel_rfl) (fun _ _ _ h => h) (Or.inl ⟨by rfl, ?_⟩) (by assumption) ?_
    rotate_left
    · intro w hSw
      (try dsimp only at hSw)
      go_simp
      (try with_reducible rfl)
    try simp only [Act.put, List.getElem_toArray, List.getElem_cons_zero, List.getElem_cons_succ, List.setIfInBounds_toArray, List.set_cons_zero, List.set_cons_succ]
    refine wpAnyH_take (i := 9) (v := ?_) rfl (by kernel_rfl) (by kernel_rfl) (by kernel_rfl) (fun _ _ _ h => h) (Or.inl ⟨by rfl, ?_⟩) (by assumption) ?_
    rotate_left
    · intro w hSw
      (try dsimp only at hSw)
      go_simp
      (try with_reducible rfl)
    try simp only [Act.put, List.getElem_toArray, List.getElem_cons_zero, List.getElem_cons_succ, List.setIfInBounds_toArray, List.set_cons_zero, List.set_cons_succ]
    refine wpAnyH_take (i := 10) (v := ?_) rfl (by kernel_rfl) (by kernel_rfl) (by kernel_rfl) (fun _ _ _ h => h) (Or.inl ⟨by rfl, ?_⟩) (by assumption) ?_
    rotate_left
    · intro w hSw
      (try dsimp only at hSw)
      go_simp
      (try with_reducible rfl)
    try simp only [Act.put, List.getElem_toArray, List.getElem_cons_zero, List.getElem_cons_succ, List.setIfInBounds_toArray, List.set_cons_zero, List.set_cons_succ]
    refine wpAnyH_take (i := 11) (v := ?_) rfl (by kernel_rfl) (by kernel_rfl) (by kernel_rfl) (fun _ _ _ h => h) (Or.inl ⟨by rfl, ?_⟩) (by assumption) ?_
    rotate_left
    · intro w hSw
      (try dsimp only at hSw)
      go_simp
      (try with_reducible rfl)
    try simp only [Act.put, List.getElem_toArray, List.getElem_cons_zero, List.getElem_cons_succ, List.setIfInBounds_toArray, List.set_cons_zero, List.set_cons_succ]
    refine wpAnyH_take (i := 12) (v := ?_) rfl (by kernel_rfl) (by kernel_rfl) (by kernel_rfl) (fun _ _ _ h => h) (Or.inl ⟨by rfl, ?_⟩) (by assumption) ?_
    rotate_left
    · intro w hSw
      (try dsimp only at hSw)
      go_simp
      (try with_reducible rfl)
    try simp only [Act.put, List.getElem_toArray, List.getElem_cons_zero, List.getElem_cons_succ, List.setIfInBounds_toArray, List.set_cons_zero, List.set_cons_succ]
    refine wpAnyH_take (i := 13) (v := ?_) rfl (by kernel_rfl) (by kernel_rfl) (by kernel_rfl) (fun _ _ _ h => h) (Or.inl ⟨by rfl, ?_⟩) (by assumption) ?_
    rotate_left
    · intro w hSw
      (try dsimp only at hSw)
      go_simp
      (try with_reducible rfl)
    try simp only [Act.put, List.getElem_toArray, List.getElem_cons_zero, List.getElem_cons_succ, List.setIfInBounds_toArray, List.set_cons_zero, List.set_cons_succ]
    refine wpAnyH_take (i := 14) (v := ?_) rfl (by kernel_rfl) (by kernel_rfl) (by kernel_rfl) (fun _ _ _ h => h) (Or.inl ⟨by rfl, ?_⟩) (by assumption) ?_
    rotate_left
    · intro w hSw
      (try dsimp only at hSw)
      go_simp
      (try with_reducible rfl)
    try simp only [Act.put, List.getElem_toArray, List.getElem_cons_zero, List.getElem_cons_succ, List.setIfInBounds_toArray, List.set_cons_zero, List.set_cons_succ]
    refine wpAnyH_take (i := 15) (v := ?_) rfl (by kernel_rfl) (by kernel_rfl) (by kernel_rfl) (fun _ _ _ h => h) (Or.inl ⟨by rfl, ?_⟩) (by assumption) ?_
    rotate_left
    · intro w hSw
      (try dsimp only at hSw)
      go_simp
      (try with_reducible rfl)
    try simp only [Act.put, List.getElem_toArray, List.getElem_cons_zero, List.getElem_cons_succ, List.setIfInBounds_toArray, List.set_cons_zero, List.set_cons_succ]
    refine wpAnyH_ready (rs := [16]) (by kernel_rfl) (by simp) ?_
    refine AllReadyH.cons rfl (fun K hK => ?_) AllReadyH.nil
    go_simp
    refine (HMe.out _).mono ?_
    rintro e v1 ⟨rfl, rfl⟩
    first | show K _ _ | go_wp2_with fail
    refine hK.out _ _ ?_ (fun hHeld1 => ?_)
    · exact hHeld
    clear hK K
    try simp only [Act.put, List.getElem_toArray, List.getElem_cons_zero, List.getElem_cons_succ, List.setIfInBounds_toArray, List.set_cons_zero, List.set_cons_succ]
    refine wpAnyH_done (by kernel_rfl) ?_ _
    have K3 := Lib.hid (HK0.out.trans hHeld1.2)
    obtain ⟨-, -, -, b3⟩ := box_cells hHeld1.2
    clear hHeld hHeld1
    go_wp2_with fail
    go_ret
    exact HM.out.did 0 (HM.out.on K3.out).st K3.out.up

set_option maxRecDepth 100000 in
set_option maxHeartbeats 1000000 in
theorem do_cond19 {w : World} {sp mp g zp mb : Nat} {lv : Value} {L : List ZR} {n : Nat} {r : List Int} {p : Int} {l : List Nat} (h : Mach w sp mp g zp mb lv L n r p l) (c : Int) {a b : Nat} (ha : a < 16) (hb : b < 16) (hp : 0 ≤ p ∧ p ≤ 100000) (hc : -131072 ≤ c ∧ c ≤ 131071) :
    Calls Try.prog 35 #[.pointer (some ⟨sp, 0, none⟩), .agg #[.int .i64 19, .int .i64 a, .int .i64 b, .int .i64 c], .pointer (some ⟨mp, 0, none⟩), .pointer (some ⟨zp, 0, none⟩)] w fun e w' => DidIns w w' e sp mp g ⟨0, r, if meetsOf 19 (r.getD a 0) (r.getD b 0) = true then p + 4 * c else p, l⟩ := by
  have HM := Lib.hid h
  have k0 : Kept No w (w.alloc (.cells #[.int .i64 19, .int .i64 a, .int .i64 b, .int .i64 c] 42)) := (Kept.refl _ _).alloc _
  have HK0 := Lib.hid k0
  have HH := Lib.hid (fun v k => h.held6 (o := 19) (c := c) (v := v) ha hb k)
  have HP := Lib.hid hp
  have HCc := Lib.hid hc
  have i1 : (a : Int) < 16 := by omega
  have i2 : (0 : Int) ≤ (a : Int) := by omega
  have i3 : (b : Int) < 16 := by omega
  have i4 : (0 : Int) ≤ (b : Int) := by omega
  obtain ⟨x, hx⟩ : ∃ x, r.getD a 0 = x := ⟨_, rfl⟩
  obtain ⟨y, hy⟩ : ∃ y, r.getD b 0 = y := ⟨_, rfl⟩
  rw [hx, hy] at HH
  rw [hx, hy]
  have HMe := Lib.hid (fun v => aluMeets_any 19 x y v (by omega) (by omega))
  clear h k0 hp hc hx hy
  cases hm : meetsOf 19 x y with
  | true =>
    rw [hm] at HMe
    simp only [if_true]
    clear hm
    go_enter Try.func35, Try.ntmps35
    go_wp2_with fail
    refine wp_region_held_drew (S := fun w' => (w'.cell? ⟨w.heap.size, 0, none⟩ = some (.int .i64 19) ∧ w'.cell? ⟨w.heap.size, 1, none⟩ = some (.int .i64 a) ∧ w'.cell? ⟨w.heap.size, 2, none⟩ = some (.int .i64 b) ∧ w'.cell? ⟨w.heap.size, 3, none⟩ = some (.int .i64 c) ∧ w'.cell? ⟨sp, a, none⟩ = some (.int .i32 x) ∧ w'.cell? ⟨sp, b, none⟩ = some (.int .i32 y)) ∧ Kept No (w.alloc (.cells #[.int .i64 19, .int .i64 a, .int .i64 b, .int .i64 c] 42)) w') (by kernel_rfl) ?_ (fun hHeld => ?_)
    · exact HH.out _ (Kept.refl _ _).drew
    refine wpAnyH_take (i := 0) (v := ?_) rfl (by kernel_rfl) (by kernel_rfl) (by kernel_rfl) (fun _ _ _ h => h) (Or.inl ⟨by rfl, ?_⟩) (by assumption) ?_
    rotate_left
    · intro w hSw
      (try dsimp only at hSw)
      go_simp
      (try with_reducible rfl)
    try simp only [Act.put, List.getElem_toArray, List.getElem_cons_zero, List.setIfInBounds_toArray, List.set_cons_zero, List.set_cons_succ]
    refine wpAnyH_take (i := 1) (v := ?_) rfl (by kernel_rfl) (by kernel_rfl) (by kernel_rfl) (fun _ _ _ h => h) (Or.inl ⟨by rfl, ?_⟩) (by assumption) ?_
    rotate_left
    · intro w hSw
      (try dsimp only at hSw)
      go_simp
      (try with_reducible rfl)
    try simp only [Act.put, List.getElem_toArray, List.getElem_cons_zero, List.getElem_cons_succ, List.setIfInBounds_toArray, List.set_cons_zero, List.set_cons_succ]
    refine wpAnyH_take (i := 2) (v := ?_) rfl (by kernel_rfl) (by kernel_rfl) (by kernel_rfl) (fun _ _ _ h => h) (Or.inl ⟨by rfl, ?_⟩) (by assumption) ?_
    rotate_left
    · intro w hSw
      (try dsimp only at hSw)
      go_simp
      (try with_reducible rfl)
    try simp only [Act.put, List.getElem_toArray, List.getElem_cons_zero, List.getElem_cons_succ, List.setIfInBounds_toArray, List.set_cons_zero, List.set_cons_succ]
    refine wpAnyH_take (i := 3) (v := ?_) rfl (by kernel_rfl) (by kernel_rfl) (by kernel_rfl) (fun _ _ _ h => h) (Or.inl ⟨by rfl, ?_⟩) (by assumption) ?_
    rotate_left
    · intro w hSw
      (try dsimp only at hSw)
      go_simp
      (try with_reducible rfl)
    try simp only [Act.put, List.getElem_toArray, List.getElem_cons_zero, List.getElem_cons_succ, List.setIfInBounds_toArray, List.set_cons_zero, List.set_cons_succ]
    refine wpAnyH_take (i := 4) (v := ?_) rfl (by kernel_rfl) (by kernel_rfl) (by kernel_rfl) (fun _ _ _ h => h) (Or.inl ⟨by rfl, ?_⟩) (by assumption) ?_
    rotate_left
    · intro w hSw
      (try dsimp only at hSw)
      go_simp
      (try with_reducible rfl)
    try simp only [Act.put, List.getElem_toArray, List.getElem_cons_zero, List.getElem_cons_succ, List.setIfInBounds_toArray, List.set_cons_zero, List.set_cons_succ]
    refine wpAnyH_take (i := 5) (v := ?_) rfl (by kernel_rfl) (by kernel_rfl) (by kernel_rfl) (fun _ _ _ h => h) (Or.inl ⟨by rfl, ?_⟩) (by assumption) ?_
    rotate_left
    · intro w hSw
      (try dsimp only at hSw)
      go_simp
      (try with_reducible rfl)
    try simp only [Act.put, List.getElem_toArray, List.getElem_cons_zero, List.getElem_cons_succ, List.setIfInBounds_toArray, List.set_cons_zero, List.set_cons_succ]
    refine wpAnyH_take (i := 6) (v := ?_) rfl (by kernel_rfl) (by kernel_rfl) (by kernel_rfl) (fun _ _ _ h => h) (Or.inl ⟨by rfl, ?_⟩) (by assumption) ?_
    rotate_left
    · intro w hSw
      (try dsimp only at hSw)
      go_simp
      (try with_reducible rfl)
    try simp only [Act.put, List.getElem_toArray, List.getElem_cons_zero, List.getElem_cons_succ, List.setIfInBounds_toArray, List.set_cons_zero, List.set_cons_succ]
    refine wpAnyH_take (i := 7) (v := ?_) rfl (by kernel_rfl) (by kernel_rfl) (by kernel_rfl) (fun _ _ _ h => h) (Or.inl ⟨by rfl, ?_⟩) (by assumption) ?_
    rotate_left
    · intro w hSw
      (try dsimp only at hSw)
      go_simp
      (try with_reducible rfl)
    try simp only [Act.put, List.getElem_toArray, List.getElem_cons_zero, List.getElem_cons_succ, List.setIfInBounds_toArray, List.set_cons_zero, List.set_cons_succ]
    refine wpAnyH_take (i := 8) (v := ?_) rfl (by kernel_rfl) (by kernel_rfl) (by kernel_rfl) (fun _ _ _ h => h) (Or.inl ⟨by rfl, ?_⟩) (by assumption) ?_
    rotate_left
    · intro w hSw
      (try dsimp only at hSw)
      go_simp
      (try with_reducible rfl)
    try simp only [Act.put, List.getElem_toArray, List.getElem_cons_zero, List.getElem_cons_succ, List.setIfInBounds_toArray, List.set_cons_zero, List.set_cons_succ]
    refine wpAnyH_take (i := 9) (v := ?_) rfl (by kernel_rfl) (by kernel_rfl) (by kernel_rfl) (fun _ _ _ h => h) (Or.inl ⟨by rfl, ?_⟩) (by assumption) ?_
    rotate_left
    · intro w hSw
      (try dsimp only at hSw)
      go_simp
      (try with_reducible rfl)
    try simp only [Act.put, List.getElem_toArray, List.getElem_cons_zero, List.getElem_cons_succ, List.setIfInBounds_toArray, List.set_cons_zero, List.set_cons_succ]
    refine wpAnyH_take (i := 10) (v := ?_) rfl (by kernel_rfl) (by kernel_rfl) (by kernel_rfl) (fun _ _ _ h => h) (Or.inl ⟨by rfl, ?_⟩) (by assumption) ?_
    rotate_left
    · intro w hSw
      (try dsimp only at hSw)
      go_simp
      (try with_reducible rfl)
    try simp only [Act.put, List.getElem_toArray, List.getElem_cons_zero, List.getElem_cons_succ, List.setIfInBounds_toArray, List.set_cons_zero, List.set_cons_succ]
    refine wpAnyH_take (i := 11) (v := ?_) rfl (by kernel_rfl) (by kernel_rfl) (by kernel_rfl) (fun _ _ _ h => h) (Or.inl ⟨by rfl, ?_⟩) (by assumption) ?_
    rotate_left
    · intro w hSw
      (try dsimp only at hSw)
      go_simp
      (try with_reducible rfl)
    try simp only [Act.put, List.getElem_toArray, List.getElem_cons_zero, List.getElem_cons_succ, List.setIfInBounds_toArray, List.set_cons_zero, List.set_cons_succ]
    refine wpAnyH_take (i := 12) (v := ?_) rfl (by kernel_rfl) (by kernel_rfl) (by kernel_rfl) (fun _ _ _ h => h) (Or.inl ⟨by rfl, ?_⟩) (by assumption) ?_
    rotate_left
    · intro w hSw
      (try dsimp only at hSw)
      go_simp
      (try with_reducible rfl)
    try simp only [Act.put, List.getElem_toArray, List.getElem_cons_zero, List.getElem_cons_succ, List.setIfInBounds_toArray, List.set_cons_zero, List.set_cons_succ]
    refine wpAnyH_take (i := 13) (v := ?_) rfl (by kernel_rfl) (by kernel_rfl) (by kernel_rfl) (fun _ _ _ h => h) (Or.inl ⟨by rfl, ?_⟩) (by assumption) ?_
    rotate_left
    · intro w hSw
      (try dsimp only at hSw)
      go_simp
      (try with_reducible rfl)
    try simp only [Act.put, List.getElem_toArray, List.getElem_cons_zero, List.getElem_cons_succ, List.setIfInBounds_toArray, List.set_cons_zero, List.set_cons_succ]
    refine wpAnyH_take (i := 14) (v := ?_) rfl (by kernel_rfl) (by kernel_rfl) (by kernel_rfl) (fun _ _ _ h => h) (Or.inl ⟨by rfl, ?_⟩) (by assumption) ?_
    rotate_left
    · intro w hSw
      (try dsimp only at hSw)
      go_simp
      (try with_reducible rfl)
    try simp only [Act.put, List.getElem_toArray, List.getElem_cons_zero, List.getElem_cons_succ, List.setIfInBounds_toArray, List.set_cons_zero, List.set_cons_succ]
    refine wpAnyH_take (i := 15) (v := ?_) rfl (by kernel_rfl) (by kernel_rfl) (by kernel_rfl) (fun _ _ _ h => h) (Or.inl ⟨by rfl, ?_⟩) (by assumption) ?_
    rotate_left
    · intro w hSw
      (try dsimp only at hSw)
      go_simp
      (try with_reducible rfl)
    try simp only [Act.put, List.getElem_toArray, List.getElem_cons_zero, List.getElem_cons_succ, List.setIfInBounds_toArray, List.set_cons_zero, List.set_cons_succ]
    refine wpAnyH_ready (rs := [16]) (by kernel_rfl) (by simp) ?_
    refine AllReadyH.cons rfl (fun K hK => ?_) AllReadyH.nil
    go_simp
    refine (HMe.out _).mono ?_
    rintro e v1 ⟨rfl, rfl⟩
    first | show K _ _ | go_wp2_with fail
    refine hK.out _ _ ?_ (fun hHeld1 => ?_)
    · exact hHeld
    clear hK K
    try simp only [Act.put, List.getElem_toArray, List.getElem_cons_zero, List.getElem_cons_succ, List.setIfInBounds_toArray, List.set_cons_zero, List.set_cons_succ]
    refine wpAnyH_done (by kernel_rfl) ?_ _
    have K3 := Lib.hid (HK0.out.trans hHeld1.2)
    obtain ⟨-, -, -, b3⟩ := box_cells hHeld1.2
    clear hHeld hHeld1
    go_wp2_with fail
    refine (jump_any sp r p c _ (HM.out.on K3.out).st HM.out.rl HP.out.1 HP.out.2 HCc.out.1 HCc.out.2).mono ?_
    rintro e v2 ⟨rfl, rfl⟩
    go_wp2_with fail
    go_ret
    exact HM.out.did 0 (HM.out.goTo K3.out _).1 (HM.out.goTo K3.out _).2
  | false =>
    rw [hm] at HMe
    simp only [Bool.false_eq_true, if_false]
    clear hm
    go_enter Try.func35, Try.ntmps35
    go_wp2_with fail
    refine wp_region_held_drew (S := fun w' => (w'.cell? ⟨w.heap.size, 0, none⟩ = some (.int .i64 19) ∧ w'.cell? ⟨w.heap.size, 1, none⟩ = some (.int .i64 a) ∧ w'.cell? ⟨w.heap.size, 2, none⟩ = some (.int .i64 b) ∧ w'.cell? ⟨w.heap.size, 3, none⟩ = some (.int .i64 c) ∧ w'.cell? ⟨sp, a, none⟩ = some (.int .i32 x) ∧ w'.cell? ⟨sp, b, none⟩ = some (.int .i32 y)) ∧ Kept No (w.alloc (.cells #[.int .i64 19, .int .i64 a, .int .i64 b, .int .i64 c] 42)) w') (by kernel_rfl) ?_ (fun hHeld => ?_)
    · exact HH.out _ (Kept.refl _ _).drew
    refine wpAnyH_take (i := 0) (v := ?_) rfl (by kernel_rfl) (by kernel_rfl) (by kernel_rfl) (fun _ _ _ h => h) (Or.inl ⟨by rfl, ?_⟩) (by assumption) ?_
    rotate_left
    · intro w hSw
      (try dsimp only at hSw)
      go_simp
      (try with_reducible rfl)
    try simp only [Act.put, List.getElem_toArray, List.getElem_cons_zero, List.setIfInBounds_toArray, List.set_cons_zero, List.set_cons_succ]
    refine wpAnyH_take (i := 1) (v := ?_) rfl (by kernel_rfl) (by kernel_rfl) (by kernel_rfl) (fun _ _ _ h => h) (Or.inl ⟨by rfl, ?_⟩) (by assumption) ?_
    rotate_left
    · intro w hSw
      (try dsimp only at hSw)
      go_simp
      (try with_reducible rfl)
    try simp only [Act.put, List.getElem_toArray, List.getElem_cons_zero, List.getElem_cons_succ, List.setIfInBounds_toArray, List.set_cons_zero, List.set_cons_succ]
    refine wpAnyH_take (i := 2) (v := ?_) rfl (by kernel_rfl) (by kernel_rfl) (by kernel_rfl) (fun _ _ _ h => h) (Or.inl ⟨by rfl, ?_⟩) (by assumption) ?_
    rotate_left
    · intro w hSw
      (try dsimp only at hSw)
      go_simp
      (try with_reducible rfl)
    try simp only [Act.put, List.getElem_toArray, List.getElem_cons_zero, List.getElem_cons_succ, List.setIfInBounds_toArray, List.set_cons_zero, List.set_cons_succ]
    refine wpAnyH_take (i := 3) (v := ?_) rfl (by kernel_rfl) (by kernel_rfl) (by kernel_rfl) (fun _ _ _ h => h) (Or.inl ⟨by rfl, ?_⟩) (by assumption) ?_
    rotate_left
    · intro w hSw
      (try dsimp only at hSw)
      go_simp
      (try with_reducible rfl)
    try simp only [Act.put, List.getElem_toArray, List.getElem_cons_zero, List.getElem_cons_succ, List.setIfInBounds_toArray, List.set_cons_zero, List.set_cons_succ]
    refine wpAnyH_take (i := 4) (v := ?_) rfl (by kernel_rfl) (by kernel_rfl) (by kernel_rfl) (fun _ _ _ h => h) (Or.inl ⟨by rfl, ?_⟩) (by assumption) ?_
    rotate_left
    · intro w hSw
      (try dsimp only at hSw)
      go_simp
      (try with_reducible rfl)
    try simp only [Act.put, List.getElem_toArray, List.getElem_cons_zero, List.getElem_cons_succ, List.setIfInBounds_toArray, List.set_cons_zero, List.set_cons_succ]
    refine wpAnyH_take (i := 5) (v := ?_) rfl (by kernel_rfl) (by kernel_rfl) (by kernel_rfl) (fun _ _ _ h => h) (Or.inl ⟨by rfl, ?_⟩) (by assumption) ?_
    rotate_left
    · intro w hSw
      (try dsimp only at hSw)
      go_simp
      (try with_reducible rfl)
    try simp only [Act.put, List.getElem_toArray, List.getElem_cons_zero, List.getElem_cons_succ, List.setIfInBounds_toArray, List.set_cons_zero, List.set_cons_succ]
    refine wpAnyH_take (i := 6) (v := ?_) rfl (by kernel_rfl) (by kernel_rfl) (by kernel_rfl) (fun _ _ _ h => h) (Or.inl ⟨by rfl, ?_⟩) (by assumption) ?_
    rotate_left
    · intro w hSw
      (try dsimp only at hSw)
      go_simp
      (try with_reducible rfl)
    try simp only [Act.put, List.getElem_toArray, List.getElem_cons_zero, List.getElem_cons_succ, List.setIfInBounds_toArray, List.set_cons_zero, List.set_cons_succ]
    refine wpAnyH_take (i := 7) (v := ?_) rfl (by kernel_rfl) (by kernel_rfl) (by kernel_rfl) (fun _ _ _ h => h) (Or.inl ⟨by rfl, ?_⟩) (by assumption) ?_
    rotate_left
    · intro w hSw
      (try dsimp only at hSw)
      go_simp
      (try with_reducible rfl)
    try simp only [Act.put, List.getElem_toArray, List.getElem_cons_zero, List.getElem_cons_succ, List.setIfInBounds_toArray, List.set_cons_zero, List.set_cons_succ]
    refine wpAnyH_take (i := 8) (v := ?_) rfl (by kernel_rfl) (by kernel_rfl) (by kernel_rfl) (fun _ _ _ h => h) (Or.inl ⟨by rfl, ?_⟩) (by assumption) ?_
    rotate_left
    · intro w hSw
      (try dsimp only at hSw)
      go_simp
      (try with_reducible rfl)
    try simp only [Act.put, List.getElem_toArray, List.getElem_cons_zero, List.getElem_cons_succ, List.setIfInBounds_toArray, List.set_cons_zero, List.set_cons_succ]
    refine wpAnyH_take (i := 9) (v := ?_) rfl (by kernel_rfl) (by kernel_rfl) (by kernel_rfl) (fun _ _ _ h => h) (Or.inl ⟨by rfl, ?_⟩) (by assumption) ?_
    rotate_left
    · intro w hSw
      (try dsimp only at hSw)
      go_simp
      (try with_reducible rfl)
    try simp only [Act.put, List.getElem_toArray, List.getElem_cons_zero, List.getElem_cons_succ, List.setIfInBounds_toArray, List.set_cons_zero, List.set_cons_succ]
    refine wpAnyH_take (i := 10) (v := ?_) rfl (by kernel_rfl) (by kernel_rfl) (by kernel_rfl) (fun _ _ _ h => h) (Or.inl ⟨by rfl, ?_⟩) (by assumption) ?_
    rotate_left
    · intro w hSw
      (try dsimp only at hSw)
      go_simp
      (try with_reducible rfl)
    try simp only [Act.put, List.getElem_toArray, List.getElem_cons_zero, List.getElem_cons_succ, List.setIfInBounds_toArray, List.set_cons_zero, List.set_cons_succ]
    refine wpAnyH_take (i := 11) (v := ?_) rfl (by kernel_rfl) (by kernel_rfl) (by kernel_rfl) (fun _ _ _ h => h) (Or.inl ⟨by rfl, ?_⟩) (by assumption) ?_
    rotate_left
    · intro w hSw
      (try dsimp only at hSw)
      go_simp
      (try with_reducible rfl)
    try simp only [Act.put, List.getElem_toArray, List.getElem_cons_zero, List.getElem_cons_succ, List.setIfInBounds_toArray, List.set_cons_zero, List.set_cons_succ]
    refine wpAnyH_take (i := 12) (v := ?_) rfl (by kernel_rfl) (by kernel_rfl) (by kernel_rfl) (fun _ _ _ h => h) (Or.inl ⟨by rfl, ?_⟩) (by assumption) ?_
    rotate_left
    · intro w hSw
      (try dsimp only at hSw)
      go_simp
      (try with_reducible rfl)
    try simp only [Act.put, List.getElem_toArray, List.getElem_cons_zero, List.getElem_cons_succ, List.setIfInBounds_toArray, List.set_cons_zero, List.set_cons_succ]
    refine wpAnyH_take (i := 13) (v := ?_) rfl (by kernel_rfl) (by kernel_rfl) (by kernel_rfl) (fun _ _ _ h => h) (Or.inl ⟨by rfl, ?_⟩) (by assumption) ?_
    rotate_left
    · intro w hSw
      (try dsimp only at hSw)
      go_simp
      (try with_reducible rfl)
    try simp only [Act.put, List.getElem_toArray, List.getElem_cons_zero, List.getElem_cons_succ, List.setIfInBounds_toArray, List.set_cons_zero, List.set_cons_succ]
    refine wpAnyH_take (i := 14) (v := ?_) rfl (by kernel_rfl) (by kernel_rfl) (by kernel_rfl) (fun _ _ _ h => h) (Or.inl ⟨by rfl, ?_⟩) (by assumption) ?_
    rotate_left
    · intro w hSw
      (try dsimp only at hSw)
      go_simp
      (try with_reducible rfl)
    try simp only [Act.put, List.getElem_toArray, List.getElem_cons_zero, List.getElem_cons_succ, List.setIfInBounds_toArray, List.set_cons_zero, List.set_cons_succ]
    refine wpAnyH_take (i := 15) (v := ?_) rfl (by kernel_rfl) (by kernel_rfl) (by kernel_rfl) (fun _ _ _ h => h) (Or.inl ⟨by rfl, ?_⟩) (by assumption) ?_
    rotate_left
    · intro w hSw
      (try dsimp only at hSw)
      go_simp
      (try with_reducible rfl)
    try simp only [Act.put, List.getElem_toArray, List.getElem_cons_zero, List.getElem_cons_succ, List.setIfInBounds_toArray, List.set_cons_zero, List.set_cons_succ]
    refine wpAnyH_ready (rs := [16]) (by kernel_rfl) (by simp) ?_
    refine AllReadyH.cons rfl (fun K hK => ?_) AllReadyH.nil
    go_simp
    refine (HMe.out _).mono ?_
    rintro e v1 ⟨rfl, rfl⟩
    first | show K _ _ | go_wp2_with fail
    refine hK.out _ _ ?_ (fun hHeld1 => ?_)
    · exact hHeld
    clear hK K
    try simp only [Act.put, List.getElem_toArray, List.getElem_cons_zero, List.getElem_cons_succ, List.setIfInBounds_toArray, List.set_cons_zero, List.set_cons_succ]
    refine wpAnyH_done (by kernel_rfl) ?_ _
    have K3 := Lib.hid (HK0.out.trans hHeld1.2)
    obtain ⟨-, -, -, b3⟩ := box_cells hHeld1.2
    clear hHeld hHeld1
    go_wp2_with fail
    go_ret
    exact HM.out.did 0 (HM.out.on K3.out).st K3.out.up

set_option maxRecDepth 100000 in
set_option maxHeartbeats 1000000 in
theorem do_call {w : World} {sp mp g zp mb : Nat} {lv : Value} {L : List ZR} {n : Nat} {r : List Int} {p : Int} {l : List Nat} (h : Mach w sp mp g zp mb lv L n r p l) (c : Int) {a b : Nat} (ha : a < 16) (_hb : b < 16) (hp : 0 ≤ p ∧ p ≤ 100000) (hc : -131072 ≤ c ∧ c ≤ 131071) :
    Calls Try.prog 35 #[.pointer (some ⟨sp, 0, none⟩), .agg #[.int .i64 20, .int .i64 a, .int .i64 b, .int .i64 c], .pointer (some ⟨mp, 0, none⟩), .pointer (some ⟨zp, 0, none⟩)] w fun e w' => DidIns w w' e sp mp g ⟨0, r.set a (wrap32 p), p + 4 * c, l⟩ := by
  have HM := Lib.hid h
  have s1 := h.st.reg h.rl ha
  have s2 := h.st.free a
  have s3 := h.st.spot h.rl
  have hlt := h.st.lt
  have HS := Lib.hid (fun ob => h.setA ha (wrap32 p) ob)
  have hx : ∀ (q : Int) (ob : Obj), RowAt (((w.setCell ⟨sp, a, none⟩ (.int .i32 (wrap32 p))).setCell ⟨sp, 16, none⟩ (.int .i64 q)).alloc ob) sp ST (cst (r.set a (wrap32 p)) q) ∧ Kept (· = sp) w (((w.setCell ⟨sp, a, none⟩ (.int .i32 (wrap32 p))).setCell ⟨sp, 16, none⟩ (.int .i64 q)).alloc ob) := fun q ob => by
    have q1 := h.set (Kept.refl _ _) ha (wrap32 p)
    have q2 := (h.state q1.2 q1.1 (by rw [List.length_set]; exact h.rl)).goA q ob
    exact ⟨q2.1, q1.2.trans q2.2⟩
  have HX := Lib.hid hx
  clear hx
  have HP := Lib.hid hp
  have HCc := Lib.hid hc
  have i1 : (a : Int) < 16 := by omega
  have i2 : (0 : Int) ≤ (a : Int) := by omega
  have i5 : sp ≠ w.heap.size := by omega
  generalize r.getD a 0 = x at *
  clear h hp hc
  go_enter Try.func35, Try.ntmps35
  go_wp2_with fail
  go_region_with fail
  all_goals
    have b3 : (w.alloc (.cells #[.int .i64 20, .int .i64 a, .int .i64 b, .int .i64 c] 42)).cell? ⟨w.heap.size, 3, none⟩ = some (.int .i64 c) := (box_cells (Kept.refl _ _)).2.2.2
    have HM1 := HM.out.state (HS.out (.cells #[.int .i64 20, .int .i64 a, .int .i64 b, .int .i64 c] 42)).2.drew (HS.out _).1.drew (by rw [List.length_set]; exact HM.out.rl)
    go_wp2_with fail
    refine (jump_any sp (r.set a (wrap32 p)) p c _ HM1.st HM1.rl HP.out.1 HP.out.2 HCc.out.1 HCc.out.2).mono ?_
    rintro e v2 ⟨rfl, rfl⟩
    go_wp2_with fail
    go_ret
    exact HM.out.did 0 (HX.out (p + 4 * c) _).1 (HX.out (p + 4 * c) _).2.drew

set_option maxRecDepth 100000 in
set_option maxHeartbeats 1000000 in
theorem do_go {w : World} {sp mp g zp mb : Nat} {lv : Value} {L : List ZR} {n : Nat} {r : List Int} {p : Int} {l : List Nat} (h : Mach w sp mp g zp mb lv L n r p l) (c : Int) {a b : Nat} (ha : a < 16) (_hb : b < 16) :
    Calls Try.prog 35 #[.pointer (some ⟨sp, 0, none⟩), .agg #[.int .i64 21, .int .i64 a, .int .i64 b, .int .i64 c], .pointer (some ⟨mp, 0, none⟩), .pointer (some ⟨zp, 0, none⟩)] w fun e w' => DidIns w w' e sp mp g ⟨0, r, r.getD a 0 % 4294967296, l⟩ := by
  have HM := Lib.hid h
  have s1 := h.st.reg h.rl ha
  have s2 := h.st.free 16
  have s3 := h.st.spot h.rl
  have hlt := h.st.lt
  have HS := Lib.hid (fun x ob => h.goA x ob)
  have i1 : (a : Int) < 16 := by omega
  have i2 : (0 : Int) ≤ (a : Int) := by omega
  obtain ⟨x, hx⟩ : ∃ x, r.getD a 0 = x := ⟨_, rfl⟩
  rw [hx] at s1 ⊢
  clear h hx
  go_enter Try.func35, Try.ntmps35
  go_wp2_with fail
  go_region_with ((go_at_call 56; refine (place_any _ _).mono ?_; rintro e w' ⟨rfl, rfl⟩))
  all_goals
    go_wp2_with fail
    go_ret
    exact HM.out.did 0 (HS.out _ _).1 (HS.out _ _).2.drew

set_option maxRecDepth 100000 in
set_option maxHeartbeats 1000000 in
theorem do_alu2 {w : World} {sp mp g zp mb : Nat} {lv : Value} {L : List ZR} {n : Nat} {r : List Int} {p : Int} {l : List Nat} (h : Mach w sp mp g zp mb lv L n r p l) (m : Nat) {a b : Nat} (ha : a < 16) (hb : b < 16) (hm : m < 16) :
    Calls Try.prog 35 #[.pointer (some ⟨sp, 0, none⟩), .agg #[.int .i64 2, .int .i64 a, .int .i64 b, .int .i64 m], .pointer (some ⟨mp, 0, none⟩), .pointer (some ⟨zp, 0, none⟩)] w fun e w' => DidIns w w' e sp mp g ⟨(reckonOf r 2 a b m).1, (reckonOf r 2 a b m).2, p, l⟩ := by
  have HM := Lib.hid h
  have k0 : Kept No w (w.alloc (.cells #[.int .i64 2, .int .i64 a, .int .i64 b, .int .i64 m] 42)) := (Kept.refl _ _).alloc _
  have HK0 := Lib.hid k0
  have HC := Lib.hid (reckon_any (h.on k0) 2 ha hb hm (by omega) (by omega))
  clear h k0
  generalize reckonOf r 2 a b m = d at *
  go_enter Try.func35, Try.ntmps35
  go_wp2_with fail
  refine HC.out.mono ?_
  rintro e w1 ⟨rfl, hr, k1⟩
  go_wp2_with fail
  go_ret
  exact HM.out.did _ hr ((HK0.out.up (S := (· = sp))).trans k1)

set_option maxRecDepth 100000 in
set_option maxHeartbeats 1000000 in
theorem do_alu3 {w : World} {sp mp g zp mb : Nat} {lv : Value} {L : List ZR} {n : Nat} {r : List Int} {p : Int} {l : List Nat} (h : Mach w sp mp g zp mb lv L n r p l) (m : Nat) {a b : Nat} (ha : a < 16) (hb : b < 16) (hm : m < 16) :
    Calls Try.prog 35 #[.pointer (some ⟨sp, 0, none⟩), .agg #[.int .i64 3, .int .i64 a, .int .i64 b, .int .i64 m], .pointer (some ⟨mp, 0, none⟩), .pointer (some ⟨zp, 0, none⟩)] w fun e w' => DidIns w w' e sp mp g ⟨(reckonOf r 3 a b m).1, (reckonOf r 3 a b m).2, p, l⟩ := by
  have HM := Lib.hid h
  have k0 : Kept No w (w.alloc (.cells #[.int .i64 3, .int .i64 a, .int .i64 b, .int .i64 m] 42)) := (Kept.refl _ _).alloc _
  have HK0 := Lib.hid k0
  have HC := Lib.hid (reckon_any (h.on k0) 3 ha hb hm (by omega) (by omega))
  clear h k0
  generalize reckonOf r 3 a b m = d at *
  go_enter Try.func35, Try.ntmps35
  go_wp2_with fail
  refine HC.out.mono ?_
  rintro e w1 ⟨rfl, hr, k1⟩
  go_wp2_with fail
  go_ret
  exact HM.out.did _ hr ((HK0.out.up (S := (· = sp))).trans k1)

set_option maxRecDepth 100000 in
set_option maxHeartbeats 1000000 in
theorem do_alu4 {w : World} {sp mp g zp mb : Nat} {lv : Value} {L : List ZR} {n : Nat} {r : List Int} {p : Int} {l : List Nat} (h : Mach w sp mp g zp mb lv L n r p l) (m : Nat) {a b : Nat} (ha : a < 16) (hb : b < 16) (hm : m < 16) :
    Calls Try.prog 35 #[.pointer (some ⟨sp, 0, none⟩), .agg #[.int .i64 4, .int .i64 a, .int .i64 b, .int .i64 m], .pointer (some ⟨mp, 0, none⟩), .pointer (some ⟨zp, 0, none⟩)] w fun e w' => DidIns w w' e sp mp g ⟨(reckonOf r 4 a b m).1, (reckonOf r 4 a b m).2, p, l⟩ := by
  have HM := Lib.hid h
  have k0 : Kept No w (w.alloc (.cells #[.int .i64 4, .int .i64 a, .int .i64 b, .int .i64 m] 42)) := (Kept.refl _ _).alloc _
  have HK0 := Lib.hid k0
  have HC := Lib.hid (reckon_any (h.on k0) 4 ha hb hm (by omega) (by omega))
  clear h k0
  generalize reckonOf r 4 a b m = d at *
  go_enter Try.func35, Try.ntmps35
  go_wp2_with fail
  refine HC.out.mono ?_
  rintro e w1 ⟨rfl, hr, k1⟩
  go_wp2_with fail
  go_ret
  exact HM.out.did _ hr ((HK0.out.up (S := (· = sp))).trans k1)

set_option maxRecDepth 100000 in
set_option maxHeartbeats 1000000 in
theorem do_alu5 {w : World} {sp mp g zp mb : Nat} {lv : Value} {L : List ZR} {n : Nat} {r : List Int} {p : Int} {l : List Nat} (h : Mach w sp mp g zp mb lv L n r p l) (m : Nat) {a b : Nat} (ha : a < 16) (hb : b < 16) (hm : m < 16) :
    Calls Try.prog 35 #[.pointer (some ⟨sp, 0, none⟩), .agg #[.int .i64 5, .int .i64 a, .int .i64 b, .int .i64 m], .pointer (some ⟨mp, 0, none⟩), .pointer (some ⟨zp, 0, none⟩)] w fun e w' => DidIns w w' e sp mp g ⟨(reckonOf r 5 a b m).1, (reckonOf r 5 a b m).2, p, l⟩ := by
  have HM := Lib.hid h
  have k0 : Kept No w (w.alloc (.cells #[.int .i64 5, .int .i64 a, .int .i64 b, .int .i64 m] 42)) := (Kept.refl _ _).alloc _
  have HK0 := Lib.hid k0
  have HC := Lib.hid (reckon_any (h.on k0) 5 ha hb hm (by omega) (by omega))
  clear h k0
  generalize reckonOf r 5 a b m = d at *
  go_enter Try.func35, Try.ntmps35
  go_wp2_with fail
  refine HC.out.mono ?_
  rintro e w1 ⟨rfl, hr, k1⟩
  go_wp2_with fail
  go_ret
  exact HM.out.did _ hr ((HK0.out.up (S := (· = sp))).trans k1)

set_option maxRecDepth 100000 in
set_option maxHeartbeats 1000000 in
theorem do_alu6 {w : World} {sp mp g zp mb : Nat} {lv : Value} {L : List ZR} {n : Nat} {r : List Int} {p : Int} {l : List Nat} (h : Mach w sp mp g zp mb lv L n r p l) (m : Nat) {a b : Nat} (ha : a < 16) (hb : b < 16) (hm : m < 16) :
    Calls Try.prog 35 #[.pointer (some ⟨sp, 0, none⟩), .agg #[.int .i64 6, .int .i64 a, .int .i64 b, .int .i64 m], .pointer (some ⟨mp, 0, none⟩), .pointer (some ⟨zp, 0, none⟩)] w fun e w' => DidIns w w' e sp mp g ⟨(reckonOf r 6 a b m).1, (reckonOf r 6 a b m).2, p, l⟩ := by
  have HM := Lib.hid h
  have k0 : Kept No w (w.alloc (.cells #[.int .i64 6, .int .i64 a, .int .i64 b, .int .i64 m] 42)) := (Kept.refl _ _).alloc _
  have HK0 := Lib.hid k0
  have HC := Lib.hid (reckon_any (h.on k0) 6 ha hb hm (by omega) (by omega))
  clear h k0
  generalize reckonOf r 6 a b m = d at *
  go_enter Try.func35, Try.ntmps35
  go_wp2_with fail
  refine HC.out.mono ?_
  rintro e w1 ⟨rfl, hr, k1⟩
  go_wp2_with fail
  go_ret
  exact HM.out.did _ hr ((HK0.out.up (S := (· = sp))).trans k1)

set_option maxRecDepth 100000 in
set_option maxHeartbeats 1000000 in
theorem do_alu7 {w : World} {sp mp g zp mb : Nat} {lv : Value} {L : List ZR} {n : Nat} {r : List Int} {p : Int} {l : List Nat} (h : Mach w sp mp g zp mb lv L n r p l) (m : Nat) {a b : Nat} (ha : a < 16) (hb : b < 16) (hm : m < 16) :
    Calls Try.prog 35 #[.pointer (some ⟨sp, 0, none⟩), .agg #[.int .i64 7, .int .i64 a, .int .i64 b, .int .i64 m], .pointer (some ⟨mp, 0, none⟩), .pointer (some ⟨zp, 0, none⟩)] w fun e w' => DidIns w w' e sp mp g ⟨(reckonOf r 7 a b m).1, (reckonOf r 7 a b m).2, p, l⟩ := by
  have HM := Lib.hid h
  have k0 : Kept No w (w.alloc (.cells #[.int .i64 7, .int .i64 a, .int .i64 b, .int .i64 m] 42)) := (Kept.refl _ _).alloc _
  have HK0 := Lib.hid k0
  have HC := Lib.hid (reckon_any (h.on k0) 7 ha hb hm (by omega) (by omega))
  clear h k0
  generalize reckonOf r 7 a b m = d at *
  go_enter Try.func35, Try.ntmps35
  go_wp2_with fail
  refine HC.out.mono ?_
  rintro e w1 ⟨rfl, hr, k1⟩
  go_wp2_with fail
  go_ret
  exact HM.out.did _ hr ((HK0.out.up (S := (· = sp))).trans k1)

set_option maxRecDepth 100000 in
set_option maxHeartbeats 1000000 in
theorem do_alu8 {w : World} {sp mp g zp mb : Nat} {lv : Value} {L : List ZR} {n : Nat} {r : List Int} {p : Int} {l : List Nat} (h : Mach w sp mp g zp mb lv L n r p l) (m : Nat) {a b : Nat} (ha : a < 16) (hb : b < 16) (hm : m < 16) :
    Calls Try.prog 35 #[.pointer (some ⟨sp, 0, none⟩), .agg #[.int .i64 8, .int .i64 a, .int .i64 b, .int .i64 m], .pointer (some ⟨mp, 0, none⟩), .pointer (some ⟨zp, 0, none⟩)] w fun e w' => DidIns w w' e sp mp g ⟨(reckonOf r 8 a b m).1, (reckonOf r 8 a b m).2, p, l⟩ := by
  have HM := Lib.hid h
  have k0 : Kept No w (w.alloc (.cells #[.int .i64 8, .int .i64 a, .int .i64 b, .int .i64 m] 42)) := (Kept.refl _ _).alloc _
  have HK0 := Lib.hid k0
  have HC := Lib.hid (reckon_any (h.on k0) 8 ha hb hm (by omega) (by omega))
  clear h k0
  generalize reckonOf r 8 a b m = d at *
  go_enter Try.func35, Try.ntmps35
  go_wp2_with fail
  refine HC.out.mono ?_
  rintro e w1 ⟨rfl, hr, k1⟩
  go_wp2_with fail
  go_ret
  exact HM.out.did _ hr ((HK0.out.up (S := (· = sp))).trans k1)

set_option maxRecDepth 100000 in
set_option maxHeartbeats 1000000 in
theorem do_alu9 {w : World} {sp mp g zp mb : Nat} {lv : Value} {L : List ZR} {n : Nat} {r : List Int} {p : Int} {l : List Nat} (h : Mach w sp mp g zp mb lv L n r p l) (m : Nat) {a b : Nat} (ha : a < 16) (hb : b < 16) (hm : m < 16) :
    Calls Try.prog 35 #[.pointer (some ⟨sp, 0, none⟩), .agg #[.int .i64 9, .int .i64 a, .int .i64 b, .int .i64 m], .pointer (some ⟨mp, 0, none⟩), .pointer (some ⟨zp, 0, none⟩)] w fun e w' => DidIns w w' e sp mp g ⟨(reckonOf r 9 a b m).1, (reckonOf r 9 a b m).2, p, l⟩ := by
  have HM := Lib.hid h
  have k0 : Kept No w (w.alloc (.cells #[.int .i64 9, .int .i64 a, .int .i64 b, .int .i64 m] 42)) := (Kept.refl _ _).alloc _
  have HK0 := Lib.hid k0
  have HC := Lib.hid (reckon_any (h.on k0) 9 ha hb hm (by omega) (by omega))
  clear h k0
  generalize reckonOf r 9 a b m = d at *
  go_enter Try.func35, Try.ntmps35
  go_wp2_with fail
  refine HC.out.mono ?_
  rintro e w1 ⟨rfl, hr, k1⟩
  go_wp2_with fail
  go_ret
  exact HM.out.did _ hr ((HK0.out.up (S := (· = sp))).trans k1)

set_option maxRecDepth 100000 in
set_option maxHeartbeats 1000000 in
theorem do_alu10 {w : World} {sp mp g zp mb : Nat} {lv : Value} {L : List ZR} {n : Nat} {r : List Int} {p : Int} {l : List Nat} (h : Mach w sp mp g zp mb lv L n r p l) (m : Nat) {a b : Nat} (ha : a < 16) (hb : b < 16) (hm : m < 16) :
    Calls Try.prog 35 #[.pointer (some ⟨sp, 0, none⟩), .agg #[.int .i64 10, .int .i64 a, .int .i64 b, .int .i64 m], .pointer (some ⟨mp, 0, none⟩), .pointer (some ⟨zp, 0, none⟩)] w fun e w' => DidIns w w' e sp mp g ⟨(reckonOf r 10 a b m).1, (reckonOf r 10 a b m).2, p, l⟩ := by
  have HM := Lib.hid h
  have k0 : Kept No w (w.alloc (.cells #[.int .i64 10, .int .i64 a, .int .i64 b, .int .i64 m] 42)) := (Kept.refl _ _).alloc _
  have HK0 := Lib.hid k0
  have HC := Lib.hid (reckon_any (h.on k0) 10 ha hb hm (by omega) (by omega))
  clear h k0
  generalize reckonOf r 10 a b m = d at *
  go_enter Try.func35, Try.ntmps35
  go_wp2_with fail
  refine HC.out.mono ?_
  rintro e w1 ⟨rfl, hr, k1⟩
  go_wp2_with fail
  go_ret
  exact HM.out.did _ hr ((HK0.out.up (S := (· = sp))).trans k1)

end Go.Proofs.Ytlnjcaicagcinaa

/-
  A machine of package cpu: the instruction at a place; a step (layer 7). No conditions beyond those that each theorem names.
-/
namespace Go.Proofs.Ytlnjcaicagcinaa
open Go.ChangeShapes Go.WideShapes Go.ChangeAt Go.RowKit

instance (o a b n : Int) : Decidable (MayP o a b n) := by
  unfold MayP isOpP isRegP isNumP
  exact inferInstance

set_option maxRecDepth 100000 in
theorem do_ins {w : World} {sp mp g zp mb : Nat} {lv : Value} {L : List ZR} {n : Nat} {r : List Int} {p : Int} {l : List Nat} (h : Mach w sp mp g zp mb lv L n r p l) {o c : Int} {a b : Nat} (hmay : MayP o a b c) (hp : 0 ≤ p ∧ p ≤ 100000) :
    Calls Try.prog 35 #[.pointer (some ⟨sp, 0, none⟩), .agg #[.int .i64 o, .int .i64 a, .int .i64 b, .int .i64 c], .pointer (some ⟨mp, 0, none⟩), .pointer (some ⟨zp, 0, none⟩)] w fun e w' => DidIns w w' e sp mp g (doOf (L.map ZR.z) r p l o a b c) := by
  obtain ⟨h1, h2, h3, h4⟩ := hmay
  unfold isOpP at h1
  unfold isRegP at h2 h3
  unfold isNumP at h4
  have ha : a < 16 := by omega
  have hb : b < 16 := by omega
  have hcs : o = 1 ∨ o = 11 ∨ o = 12 ∨ o = 13 ∨ o = 14 ∨ o = 15 ∨ (16 ≤ o ∧ o ≤ 19) ∨ o = 20 ∨ o = 21 ∨ (2 ≤ o ∧ o ≤ 10) := by omega
  rcases hcs with rfl | rfl | rfl | rfl | rfl | rfl | ho | rfl | rfl | ho
  · exact do_set h c ha hb
  · exact do_more h c ha hb
  · exact do_load h c ha hb
  · exact do_store h c ha hb
  · exact do_loadB h c ha hb
  · exact do_storB h c ha hb
  · have hc : -131072 ≤ c ∧ c ≤ 131071 := by omega
    have hq : o = 16 ∨ o = 17 ∨ o = 18 ∨ o = 19 := by omega
    rcases hq with rfl | rfl | rfl | rfl
    · exact do_cond16 h c ha hb hp hc
    · exact do_cond17 h c ha hb hp hc
    · exact do_cond18 h c ha hb hp hc
    · exact do_cond19 h c ha hb hp hc
  · exact do_call h c ha hb hp (by omega)
  · exact do_go h c ha hb
  · obtain ⟨m, rfl⟩ : ∃ m : Nat, c = m := ⟨c.toNat, by omega⟩
    have hm : m < 16 := by omega
    have hq : o = 2 ∨ o = 3 ∨ o = 4 ∨ o = 5 ∨ o = 6 ∨ o = 7 ∨ o = 8 ∨ o = 9 ∨ o = 10 := by omega
    rcases hq with rfl | rfl | rfl | rfl | rfl | rfl | rfl | rfl | rfl
    · exact do_alu2 h m ha hb hm
    · exact do_alu3 h m ha hb hm
    · exact do_alu4 h m ha hb hm
    · exact do_alu5 h m ha hb hm
    · exact do_alu6 h m ha hb hm
    · exact do_alu7 h m ha hb hm
    · exact do_alu8 h m ha hb hm
    · exact do_alu9 h m ha hb hm
    · exact do_alu10 h m ha hb hm

theorem canRun_bounds {Z : List ZV} (g : Good Z) {p : Int} (h : canRun Z p = true) : p % 4 = 0 ∧ 272 ≤ p ∧ p ≤ 65532 := by
  unfold canRun at h
  simp only [Bool.and_eq_true, List.any_eq_true] at h
  obtain ⟨h1, z, hz, h2⟩ := h
  have hb := (blockZ_iff z).1 (g.block z hz)
  simp [aligned] at h1
  simp [within] at h2
  omega
theorem wordAt_lt {w : World} {g : Nat} {l : List Nat} (h : ByteRow w g l) (q : Nat) : wordAt l q < 4294967296 := by
  have h1 := wordN_lt (piece l q (q + 4)) (piece_lt h.2 _ _)
  have h2 : (piece l q (q + 4)).length ≤ 4 := by simp [piece]; omega
  refine Nat.lt_of_lt_of_le h1 ?_
  exact Nat.le_trans (Nat.pow_le_pow_right (by decide) (by omega : 8 * (piece l q (q + 4)).length ≤ 32)) (by decide)

theorem kept_four {w v : World} (k : Kept No w v) (v0 v1 v2 v3 : Value) :
    Kept No w ((((v.setCell ⟨w.heap.size, 0, none⟩ v0).setCell ⟨w.heap.size, 1, none⟩ v1).setCell ⟨w.heap.size, 2, none⟩ v2).setCell ⟨w.heap.size, 3, none⟩ v3) :=
  (((k.setCell (p := ⟨w.heap.size, 0, none⟩) (fun h => (Nat.lt_irrefl _ h).elim) v0).setCell (p := ⟨w.heap.size, 1, none⟩) (fun h => (Nat.lt_irrefl _ h).elim) v1).setCell (p := ⟨w.heap.size, 2, none⟩) (fun h => (Nat.lt_irrefl _ h).elim) v2).setCell (p := ⟨w.heap.size, 3, none⟩) (fun h => (Nat.lt_irrefl _ h).elim) v3
theorem four_cells {v : World} {b : Nat} {t : TypeId} {u0 u1 u2 u3 : Value} (h : RowAt v b t [u0, u1, u2, u3]) (v0 v1 v2 v3 : Value) :
    RowAt ((((v.setCell ⟨b, 0, none⟩ v0).setCell ⟨b, 1, none⟩ v1).setCell ⟨b, 2, none⟩ v2).setCell ⟨b, 3, none⟩ v3) b t [v0, v1, v2, v3] :=
  (((h.setCell 0 v0).setCell 1 v1).setCell 2 v2).setCell 3 v3
theorem row4 {v : World} {b : Nat} {t : TypeId} {u0 u1 u2 u3 : Value} (h : RowAt v b t [u0, u1, u2, u3]) : v.cell? ⟨b, 0, none⟩ = some u0 ∧ v.cell? ⟨b, 1, none⟩ = some u1 ∧ v.cell? ⟨b, 2, none⟩ = some u2 ∧ v.cell? ⟨b, 3, none⟩ = some u3 := by
  refine ⟨?_, ?_, ?_, ?_⟩ <;> (rw [h.cell]; rfl)

/- no instruction can be there -/
set_option maxRecDepth 100000 in
set_option maxHeartbeats 1000000 in
theorem fetch_jump {w : World} {sp mp g zp mb : Nat} {lv : Value} {L : List ZR} {n : Nat} {r : List Int} {s : Int} {l : List Nat} (h : Mach w sp mp g zp mb lv L n r s l) (p : Int) (hj : canRun (L.map ZR.z) p = false ∨ l.length < p.toNat + 4) :
    Calls Try.prog 34 #[.int .i64 p, .pointer (some ⟨mp, 0, none⟩), .pointer (some ⟨zp, 0, none⟩)] w fun e w' => e = .returned (.tuple #[.agg #[.int .i64 0, .int .i64 0, .int .i64 0, .int .i64 0], .int .i64 5]) ∧ Kept No w w' := by
  have HM := Lib.hid h
  have k0 : Kept No w (w.alloc (.cells #[.int .i64 0, .int .i64 0, .int .i64 0, .int .i64 0] 42)) := (Kept.refl _ _).alloc _
  have HK0 := Lib.hid k0
  have hg := h.z.good
  by_cases hr : canRun (L.map ZR.z) p = true
  · have hfar : l.length < p.toNat + 4 := by rcases hj with hj | hj; (rw [hr] at hj; cases hj); exact hj
    have hb := canRun_bounds hg hr
    have HR := Lib.hid hr
    have HT4 : Hid (p.tmod 4 = 0) := by show _ = _; rw [Int.tmod_eq_emod_of_nonneg (by omega)]; omega
    have HL : Hid (p < 0 ∨ (l.length : Int) - 4 < p) := by show _ ∨ _; omega
    clear h k0 hg hj hr hfar hb
    go_enter Try.func34, Try.ntmps34
    go_wp2_with fail
    refine ((HM.out.on HK0.out).canRun p).mono ?_
    rintro e w1 ⟨rfl, k1⟩
    rw [HR.out]
    go_wp2_with fail
    refine (memWord_far mp g l p _ (HM.out.on (HK0.out.trans k1)).mem HT4.out HL.out).mono ?_
    rintro e w2 ⟨rfl, rfl⟩
    obtain ⟨c0, c1, c2, c3⟩ := box_cells k1
    have f := fun i => ((RowAt.new w 42 [.int .i64 0, .int .i64 0, .int .i64 0, .int .i64 0]).keep k1 (fun h => h)).free i
    have f0 := f 0
    have f1 := f 1
    have f2 := f 2
    have f3 := f 3
    have K := Lib.hid (HK0.out.trans k1)
    clear f k1
    go_wp2_with fail
    refine bodyPost_ret (v := .tuple #[.agg #[.int .i64 0, .int .i64 0, .int .i64 0, .int .i64 0], .int .i64 5]) (by simp [results, Try.results34, go_sem, c0, c1, c2, c3]) rfl ⟨rfl, ?_⟩
    exact kept_four K.out _ _ _ _
  · have HR : Hid (canRun (L.map ZR.z) p = false) := by show _ = _; simpa using hr
    clear h k0 hg hj hr
    go_enter Try.func34, Try.ntmps34
    go_wp2_with fail
    refine ((HM.out.on HK0.out).canRun p).mono ?_
    rintro e w1 ⟨rfl, k1⟩
    rw [HR.out]
    obtain ⟨c0, c1, c2, c3⟩ := box_cells k1
    have f := fun i => ((RowAt.new w 42 [.int .i64 0, .int .i64 0, .int .i64 0, .int .i64 0]).keep k1 (fun h => h)).free i
    have f0 := f 0
    have f1 := f 1
    have f2 := f 2
    have f3 := f 3
    have K := Lib.hid (HK0.out.trans k1)
    clear f k1
    go_wp2_with fail
    refine bodyPost_ret (v := .tuple #[.agg #[.int .i64 0, .int .i64 0, .int .i64 0, .int .i64 0], .int .i64 5]) (by simp [results, Try.results34, go_sem, c0, c1, c2, c3]) rfl ⟨rfl, ?_⟩
    exact kept_four K.out _ _ _ _

/- what is there is no instruction -/
set_option maxRecDepth 100000 in
set_option maxHeartbeats 1000000 in
theorem fetch_code {w : World} {sp mp g zp mb : Nat} {lv : Value} {L : List ZR} {n : Nat} {r : List Int} {s : Int} {l : List Nat} (h : Mach w sp mp g zp mb lv L n r s l) (q : Nat) (hr : canRun (L.map ZR.z) q = true) (hl : q + 4 ≤ l.length)
    (hno : ¬ MayP (getN (wordAt l q) 26 6 : Nat) (getN (wordAt l q) 22 4 : Nat) (getN (wordAt l q) 18 4 : Nat) (signI (getN (wordAt l q) 0 18) 18)) :
    Calls Try.prog 34 #[.int .i64 q, .pointer (some ⟨mp, 0, none⟩), .pointer (some ⟨zp, 0, none⟩)] w fun e w' => e = .returned (.tuple #[.agg #[.int .i64 0, .int .i64 0, .int .i64 0, .int .i64 0], .int .i64 1]) ∧ Kept No w w' := by
  have HM := Lib.hid h
  have k0 : Kept No w (w.alloc (.cells #[.int .i64 0, .int .i64 0, .int .i64 0, .int .i64 0] 42)) := (Kept.refl _ _).alloc _
  have HK0 := Lib.hid k0
  have hb := canRun_bounds h.z.good hr
  have HR := Lib.hid hr
  have H4 : Hid (q % 4 = 0) := by show _ = _; omega
  have HL := Lib.hid hl
  have HNo := Lib.hid (fun v => insGet_no (wordAt l q) v (wordAt_lt h.mem.row q) hno)
  clear h k0 hr hl hb hno
  go_enter Try.func34, Try.ntmps34
  go_wp2_with fail
  refine ((HM.out.on HK0.out).canRun q).mono ?_
  rintro e w1 ⟨rfl, k1⟩
  rw [HR.out]
  go_wp2_with fail
  refine (memWord_yes mp g l q _ (HM.out.on (HK0.out.trans k1)).mem H4.out HL.out).mono ?_
  rintro e w2 ⟨rfl, rfl⟩
  go_wp2_with fail
  refine (HNo.out _).mono ?_
  rintro e w3 ⟨rfl, k3⟩
  have K3 := k1.trans (Kept.of_below k3)
  clear k3
  obtain ⟨c0, c1, c2, c3⟩ := box_cells K3
  have f := fun i => ((RowAt.new w 42 [.int .i64 0, .int .i64 0, .int .i64 0, .int .i64 0]).keep K3 (fun h => h)).free i
  have f0 := f 0
  have f1 := f 1
  have f2 := f 2
  have f3 := f 3
  have hlt : w.heap.size < w3.heap.size := cell_lt c0
  have HRow := Lib.hid ((RowAt.new w 42 [.int .i64 0, .int .i64 0, .int .i64 0, .int .i64 0]).keep K3 (fun h => h))
  have K := Lib.hid (HK0.out.trans K3)
  clear f k1 K3
  go_wp2_with fail
  obtain ⟨g0, g1, g2, g3⟩ := row4 ((four_cells HRow.out (.int .i64 0) (.int .i64 0) (.int .i64 0) (.int .i64 0)).keep ((Kept.refl No _).alloc (.cells #[.int .i64 0, .int .i64 0, .int .i64 0, .int .i64 0] 42)) (fun h => h))
  refine bodyPost_ret (v := .tuple #[.agg #[.int .i64 0, .int .i64 0, .int .i64 0, .int .i64 0], .int .i64 1]) (by simp [results, Try.results34, go_sem, g0, g1, g2, g3]) rfl ⟨rfl, ?_⟩
  exact (kept_four K.out _ _ _ _).alloc _

/- the instruction that is there -/
set_option maxRecDepth 100000 in
set_option maxHeartbeats 1000000 in
theorem fetch_yes {w : World} {sp mp g zp mb : Nat} {lv : Value} {L : List ZR} {n : Nat} {r : List Int} {s : Int} {l : List Nat} (h : Mach w sp mp g zp mb lv L n r s l) (q : Nat) (hr : canRun (L.map ZR.z) q = true) (hl : q + 4 ≤ l.length)
    (hno : MayP (getN (wordAt l q) 26 6 : Nat) (getN (wordAt l q) 22 4 : Nat) (getN (wordAt l q) 18 4 : Nat) (signI (getN (wordAt l q) 0 18) 18)) :
    Calls Try.prog 34 #[.int .i64 q, .pointer (some ⟨mp, 0, none⟩), .pointer (some ⟨zp, 0, none⟩)] w fun e w' =>
      e = .returned (.tuple #[.agg #[.int .i64 (getN (wordAt l q) 26 6 : Nat), .int .i64 (getN (wordAt l q) 22 4 : Nat), .int .i64 (getN (wordAt l q) 18 4 : Nat), .int .i64 (signI (getN (wordAt l q) 0 18) 18)], .int .i64 0]) ∧ Kept No w w' := by
  have HM := Lib.hid h
  have k0 : Kept No w (w.alloc (.cells #[.int .i64 0, .int .i64 0, .int .i64 0, .int .i64 0] 42)) := (Kept.refl _ _).alloc _
  have HK0 := Lib.hid k0
  have hb := canRun_bounds h.z.good hr
  have HR := Lib.hid hr
  have H4 : Hid (q % 4 = 0) := by show _ = _; omega
  have HL := Lib.hid hl
  have HNo := Lib.hid (fun v => insGet_yes (wordAt l q) v (wordAt_lt h.mem.row q) hno)
  have HW : Hid (∀ v, Kept No w v → _) := fun v k => memWord_yes mp g l q v (h.on k).mem H4.out hl
  clear h k0 hr hl hb hno
  generalize getN (wordAt l q) 26 6 = o at *
  generalize getN (wordAt l q) 22 4 = a at *
  generalize getN (wordAt l q) 18 4 = b at *
  generalize signI (getN (wordAt l q) 0 18) 18 = c at *
  generalize wordAt l q = x at *
  go_enter Try.func34, Try.ntmps34
  go_wp2_with fail
  refine ((HM.out.on HK0.out).canRun q).mono ?_
  rintro e w1 ⟨rfl, k1⟩
  rw [HR.out]
  go_wp2_with fail
  refine (HW.out _ (HK0.out.trans k1)).mono ?_
  rintro e w2 ⟨rfl, rfl⟩
  go_wp2_with fail
  refine (HNo.out _).mono ?_
  rintro e w3 ⟨rfl, k3⟩
  have K3 := k1.trans (Kept.of_below k3)
  clear k3
  obtain ⟨c0, c1, c2, c3⟩ := box_cells K3
  have f := fun i => ((RowAt.new w 42 [.int .i64 0, .int .i64 0, .int .i64 0, .int .i64 0]).keep K3 (fun h => h)).free i
  have f0 := f 0
  have f1 := f 1
  have f2 := f 2
  have f3 := f 3
  have hlt : w.heap.size < w3.heap.size := cell_lt c0
  have HRow := Lib.hid ((RowAt.new w 42 [.int .i64 0, .int .i64 0, .int .i64 0, .int .i64 0]).keep K3 (fun h => h))
  have K := Lib.hid (HK0.out.trans K3)
  clear f k1 K3
  go_wp2_with fail
  obtain ⟨g0, g1, g2, g3⟩ := row4 ((four_cells HRow.out (.int .i64 o) (.int .i64 a) (.int .i64 b) (.int .i64 c)).keep ((Kept.refl No _).alloc (.cells #[.int .i64 o, .int .i64 a, .int .i64 b, .int .i64 c] 42)) (fun h => h))
  refine bodyPost_ret (v := .tuple #[.agg #[.int .i64 o, .int .i64 a, .int .i64 b, .int .i64 c], .int .i64 0]) (by simp [results, Try.results34, go_sem, g0, g1, g2, g3]) rfl ⟨rfl, ?_⟩
  exact (kept_four K.out _ _ _ _).alloc _
end Go.Proofs.Ytlnjcaicagcinaa

/-
  A machine of package cpu: a step (layer 7). No conditions beyond those that each theorem names.
-/
namespace Go.Proofs.Ytlnjcaicagcinaa
open Go.ChangeShapes Go.WideShapes Go.ChangeAt Go.RowKit

/- the instruction that a word is -/
abbrev insO (x : Nat) : Nat := getN x 26 6
abbrev insA (x : Nat) : Nat := getN x 22 4
abbrev insB (x : Nat) : Nat := getN x 18 4
abbrev insC (x : Nat) : Int := signI (getN x 0 18) 18
/- behind a step -/
def stepOf (Z : List ZV) (r : List Int) (p : Int) (l : List Nat) : Out :=
  if canRun Z p = false ∨ l.length < p.toNat + 4 then ⟨5, r, p, l⟩
  else if MayP (insO (wordAt l p.toNat)) (insA (wordAt l p.toNat)) (insB (wordAt l p.toNat)) (insC (wordAt l p.toNat)) then
    let d := doOf Z r (p + 4) l (insO (wordAt l p.toNat)) (insA (wordAt l p.toNat)) (insB (wordAt l p.toNat)) (insC (wordAt l p.toNat))
    if d.t = 0 then d else ⟨d.t, r, p, d.l⟩
  else ⟨1, r, p, l⟩

theorem loadW_len (Z : List ZV) (r : List Int) (l : List Nat) (a b : Nat) (c : Int) : (loadW Z r l a b c).2.length = r.length := by
  simp only [loadW]
  split
  · rfl
  · split <;> simp
theorem loadB_len (Z : List ZV) (r : List Int) (l : List Nat) (a b : Nat) (c : Int) : (loadB Z r l a b c).2.length = r.length := by
  simp only [loadB]
  split <;> simp
theorem reckonOf_len (r : List Int) (o : Int) (a b m : Nat) : (reckonOf r o a b m).2.length = r.length := by
  simp only [reckonOf]
  split <;> simp
theorem doOf_len (Z : List ZV) (r : List Int) (p : Int) (l : List Nat) (o : Int) (a b : Nat) (c : Int) : (doOf Z r p l o a b c).r.length = r.length := by
  unfold doOf
  repeat' split
  all_goals first | rfl | simp [loadW_len, loadB_len, reckonOf_len]

theorem size_st : (Try.prog.info? ST).map (·.size) = some 17 := by kernel_rfl
def elS (r : List Int) (p : Int) (hr : r.length = 16) : El 17 := ⟨cst r p, cst_length r p hr, cst_ones r p⟩
def zst : List Value := cst (List.replicate 16 0) 0

theorem step_nil (mp zp : Nat) (w : World) : Calls Try.prog 19 #[.pointer none, .pointer (some ⟨mp, 0, none⟩), .pointer (some ⟨zp, 0, none⟩)] w fun e w' => e = .returned (.int .i64 1) ∧ w = w' := by
  go_enter Try.func19, Try.ntmps19
  go_wp2_with fail
  go_ret
  exact ⟨rfl, rfl⟩

set_option maxRecDepth 100000 in
set_option maxHeartbeats 1000000 in
theorem step_any {w : World} {sp mp g zp mb : Nat} {lv : Value} {L : List ZR} {n : Nat} {r : List Int} {p : Int} {l : List Nat} (h : Mach w sp mp g zp mb lv L n r p l) :
    Calls Try.prog 19 #[.pointer (some ⟨sp, 0, none⟩), .pointer (some ⟨mp, 0, none⟩), .pointer (some ⟨zp, 0, none⟩)] w fun e w' => DidIns w w' e sp mp g (stepOf (L.map ZR.z) r p l) := by
  have HM := Lib.hid h
  have hp := h.st.spot h.rl
  have hlt := h.st.lt
  unfold stepOf
  by_cases hj : canRun (L.map ZR.z) p = false ∨ l.length < p.toNat + 4
  · rw [if_pos hj]
    have HF := Lib.hid (fetch_jump h p hj)
    clear h hj
    go_enter Try.func19, Try.ntmps19
    go_wp2_with fail
    refine HF.out.mono ?_
    rintro e w1 ⟨rfl, k1⟩
    go_wp2_with fail
    go_ret
    exact HM.out.did 5 (HM.out.on (k1.alloc _)).st (k1.alloc _).up
  · rw [if_neg hj]
    have hr : canRun (L.map ZR.z) p = true := by
      cases hc : canRun (L.map ZR.z) p with
      | true => rfl
      | false => exact absurd (.inl hc) hj
    have hb := canRun_bounds h.z.good hr
    obtain ⟨q, rfl⟩ : ∃ q : Nat, p = q := ⟨p.toNat, by omega⟩
    have hl : q + 4 ≤ l.length := by
      rcases Nat.lt_or_ge l.length (q + 4) with h1 | h1
      · exact absurd (.inr h1) hj
      · exact h1
    rw [Int.toNat_natCast]
    by_cases hm : MayP (insO (wordAt l q)) (insA (wordAt l q)) (insB (wordAt l q)) (insC (wordAt l q))
    · rw [if_pos hm]
      have HF := Lib.hid (fetch_yes h q hr hl hm)
      have HMay := Lib.hid hm
      clear hj hr hl hm
      simp only [insO, insA, insB, insC] at *
      generalize getN (wordAt l q) 26 6 = o at *
      generalize getN (wordAt l q) 22 4 = a at *
      generalize getN (wordAt l q) 18 4 = b at *
      generalize signI (getN (wordAt l q) 0 18) 18 = c at *
      have HB : Hid (272 ≤ (q : Int) ∧ (q : Int) ≤ 65532) := ⟨hb.2.1, hb.2.2⟩
      have hlen := doOf_len (L.map ZR.z) r (q + 4) l o a b c
      rw [h.rl] at hlen
      have HLen := Lib.hid hlen
      have HDo : Hid (∀ v sp2, Mach v sp2 mp g zp mb lv L n r (q + 4) l → Calls Try.prog 35 #[.pointer (some ⟨sp2, 0, none⟩), .agg #[.int .i64 o, .int .i64 a, .int .i64 b, .int .i64 c], .pointer (some ⟨mp, 0, none⟩), .pointer (some ⟨zp, 0, none⟩)] v fun e w' => DidIns v w' e sp2 mp g (doOf (L.map ZR.z) r (q + 4) l o a b c)) :=
        fun v sp2 hv => do_ins hv HMay.out ⟨by have := HB.out; omega, by have := HB.out; omega⟩
      clear h hb hlen
      generalize doOf (L.map ZR.z) r (q + 4) l o a b c = d at *
      obtain ⟨dt, dr, dp, dl⟩ := d
      simp only at HLen
      have hq0 : (0 : Int) ≤ q := by omega
      have hq1 : (q : Int) ≤ 65532 := HB.out.2
      go_enter Try.func19, Try.ntmps19
      go_wp2_with fail
      refine HF.out.mono ?_
      rintro e w1 ⟨rfl, k1⟩
      have HK1 := Lib.hid k1
      have hsz := k1.more
      obtain ⟨w2, hw2⟩ : ∃ w2, w2 = (w1.alloc (.cells #[.int .i64 o, .int .i64 a, .int .i64 b, .int .i64 c] 42)).alloc (.cells (cst r q).toArray ST) := ⟨_, rfl⟩
      have e0 : (w1.alloc (.cells #[.int .i64 o, .int .i64 a, .int .i64 b, .int .i64 c] 42)).heap.size = w1.heap.size + 1 := by simp
      have HST : Hid ((Instr.storeAt ST (.pointer (some ⟨w1.heap.size + 1, 0, none⟩)) (.agg (cst r q).toArray)).run Try.prog ((w1.alloc (.cells #[.int .i64 o, .int .i64 a, .int .i64 b, .int .i64 c] 42)).alloc (.cells #[.int .i32 0, .int .i32 0, .int .i32 0, .int .i32 0, .int .i32 0, .int .i32 0, .int .i32 0, .int .i32 0, .int .i32 0, .int .i32 0, .int .i32 0, .int .i32 0, .int .i32 0, .int .i32 0, .int .i32 0, .int .i32 0, .int .i64 0] ST)) = .ok () w2) := by
        have hz := RowAt.new (w1.alloc (.cells #[.int .i64 o, .int .i64 a, .int .i64 b, .int .i64 c] 42)) ST zst
        rw [e0] at hz
        have hs := store_el (P := Try.prog) hz 0 (elS r q HM.out.rl) ST size_st (.agg (cst r q).toArray) rfl (by simp [zst, cst])
        rw [splice_all _ _ (by rw [(elS r q HM.out.rl).len]; rfl)] at hs
        rw [hw2]
        refine Eq.trans hs ?_
        have hsr := setRow_alloc (w1.alloc (.cells #[.int .i64 o, .int .i64 a, .int .i64 b, .int .i64 c] 42)) zst.toArray (cst r q).toArray ST
        rw [e0] at hsr
        exact congrArg _ hsr
      have HROW := Lib.hid ((HM.out.on k1).st.keep ((Kept.refl No w1).alloc (.cells #[.int .i64 o, .int .i64 a, .int .i64 b, .int .i64 c] 42)) (fun h => h))
      have kb : Kept No (w1.alloc (.cells #[.int .i64 o, .int .i64 a, .int .i64 b, .int .i64 c] 42)) w2 := by rw [hw2]; exact (Kept.refl _ _).alloc _
      obtain ⟨d0, d1, d2, d3⟩ := box_cells kb
      have r2 : RowAt w2 (w1.heap.size + 1) ST (cst r q) := by
        have := RowAt.new (w1.alloc (.cells #[.int .i64 o, .int .i64 a, .int .i64 b, .int .i64 c] 42)) ST (cst r q)
        rw [e0] at this
        rw [hw2]
        exact this
      have K2 : Hid (Kept No w w2) := by show Kept No w w2; rw [hw2]; exact (k1.alloc _).alloc _
      have c16 := r2.spot HM.out.rl
      have f16 := r2.free 16
      have hlt2 : w1.heap.size + 1 < w2.heap.size := r2.lt
      have m2 : Mach w2 (w1.heap.size + 1) mp g zp mb lv L n r q l := ⟨r2, (HM.out.on K2.out).mem, (HM.out.on K2.out).z, HM.out.rl⟩
      have M3 := Lib.hid (m2.state (m2.goTo (Kept.refl _ _) (q + 4)).2 (m2.goTo (Kept.refl _ _) (q + 4)).1 HM.out.rl)
      have G3 := Lib.hid (m2.goTo (Kept.refl _ _) (q + 4)).2
      clear hw2 e0 kb r2 m2 k1
      go_wp2_with (first
        | (refine wpList_load_row rfl _ _ rfl sp rfl ST (cst r q).toArray (0, 0) _ HROW.out Try.underlying64 rfl (by rw [size_st]; simp [cst, HM.out.rl]) ?_)
        | (refine wpList_store_run _ rfl _ _ _ rfl _ _ rfl rfl (by exact HST.out) ?_))
      refine (HDo.out _ _ M3.out).mono ?_
      rintro e w4 ⟨rfl, hr4, hm4, k4⟩
      have K24 : Hid (Kept (Mine (w1.heap.size + 1) g) w2 w4) := (G3.out.wide2 fun _ e => .inl e).trans k4
      have hmine : ∀ k, k < w.heap.size → Mine (w1.heap.size + 1) g k → Mine sp g k := fun k hk h => by
        rcases h with h | h
        · omega
        · exact .inr h
      have KW : Hid (Kept (Mine sp g) w w4) := (K2.out.up (S := Mine sp g)).then K24.out hmine
      have hsp : RowAt w4 sp ST (cst r q) := (HM.out.on K2.out).st.keep K24.out (fun h => by
        rcases h with h | h
        · omega
        · exact HM.out.ne.1 h)
      have HM4 := Lib.hid hm4
      have HR4 := Lib.hid hr4
      have HSP := Lib.hid hsp
      simp only at HR4 HM4
      clear hm4 hr4 hsp hmine k4 d0 d1 d2 d3 c16 f16 M3 G3
      by_cases ht : dt = 0
      · have htn : (dt != 0) = false := by simp [ht]
        have HT := Lib.hid ht
        clear ht
        have HST2 : Hid ((Instr.storeAt ST (.pointer (some ⟨sp, 0, none⟩)) (.agg (cst dr dp).toArray)).run Try.prog w4 = .ok () (w4.setRow sp (cst dr dp).toArray)) := by
          have hs := store_el (P := Try.prog) HSP.out 0 (elS dr dp HLen.out) ST size_st (.agg (cst dr dp).toArray) rfl (by have := cst_length r q HM.out.rl; omega)
          rw [splice_all _ _ (by rw [(elS dr dp HLen.out).len, cst_length r q HM.out.rl])] at hs
          exact hs
        go_wp2_with (first
          | (refine wpList_load_row rfl _ _ rfl (w1.heap.size + 1) rfl ST (cst dr dp).toArray (0, 0) _ HR4.out Try.underlying64 rfl (by rw [size_st]; simp [cst, HLen.out]) ?_)
          | (refine wpList_store_run _ rfl _ _ _ rfl _ _ rfl rfl (by exact HST2.out) ?_))
        go_ret
        have ks := kept_row w4 sp (cst dr dp).toArray
        exact ⟨rfl, HSP.out.set _, HM4.out.keep ks (fun e => HM.out.ne.2 e.symm) (fun e => HM.out.ne.1 e.symm), KW.out.trans (ks.wide2 fun _ e => .inl e)⟩
      · have htn : (dt != 0) = true := by simp [ht]
        have HT := Lib.hid ht
        clear ht
        go_wp2_with fail
        go_ret
        exact ⟨rfl, HSP.out, HM4.out, KW.out⟩
    · rw [if_neg hm]
      have HF := Lib.hid (fetch_code h q hr hl hm)
      clear h hj hr hl hm hb
      go_enter Try.func19, Try.ntmps19
      go_wp2_with fail
      refine HF.out.mono ?_
      rintro e w1 ⟨rfl, k1⟩
      go_wp2_with fail
      go_ret
      exact HM.out.did 1 (HM.out.on (k1.alloc _)).st (k1.alloc _).up
end Go.Proofs.Ytlnjcaicagcinaa
