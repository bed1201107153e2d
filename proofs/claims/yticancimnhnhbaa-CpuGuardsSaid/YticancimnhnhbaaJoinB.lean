/-
  A machine of package cpu as plain data: a state, a memory, zones; what each of Step's ways does to it: load, store, of words and bytes (layer 7). No conditions beyond those that each theorem names.
-/
import Derived.Test.YticancimnhnhbaaJoinA
import Derived.Test.YticancimnhnhbaaJoinM
import Derived.Test.YticancimnhnhbaaZoneH
import Derived.Deep.RegionHeld3
namespace Go.Proofs.Yticancimnhnhbaa
open Go.ChangeShapes Go.WideShapes Go.ChangeAt Go.RowKit

theorem byteRow_row {w : World} {g : Nat} {l : List Nat} (h : ByteRow w g l) : RowAt w g 5 (byteVals l) := h.1
theorem MemAt.row_head {w : World} {p g : Nat} {l : List Nat} (h : MemAt w p g l) : RowAt w p 99 [.slice (some ⟨g, 0, none⟩) l.length l.length] := h.head

/- zones stay where the block of a row of another type changes -/
def OtherType (t : TypeId) : Prop := t ≠ 72 ∧ t ≠ ZT ∧ t ≠ 3
theorem ZAt.keep_row {w w' : World} {zp mb : Nat} {lv : Value} {L : List ZR} {n : Nat} (h : ZAt w zp mb lv L n) {S : Nat → Prop} (k : Kept S w w') (hS : ∀ j, S j → ∃ t cs, RowAt w j t cs ∧ OtherType t) : ZAt w' zp mb lv L n := by
  have ne : ∀ {b : Nat} {t : TypeId} {cs : List Value}, RowAt w b t cs → (t = 72 ∨ t = ZT ∨ t = 3) → ¬ S b := by
    intro b t cs hr ht hs
    obtain ⟨t', cs', hr', h1, h2, h3⟩ := hS b hs
    refine RowAt.ne_type hr' hr ?_ rfl
    rcases ht with rfl | rfl | rfl <;> assumption
  refine ⟨h.head.keep k (ne h.head (.inl rfl)), h.list.keep k fun j hj => ?_, h.cells.keep k fun hs => ?_, h.good, fun x hx => (h.read x hx).keep k fun b cs hr => ne hr (.inr (.inr rfl)), h.small⟩
  · obtain ⟨ds, hr⟩ := h.list.own_row j hj
    exact ne hr (.inr (.inl rfl))
  · obtain ⟨t', cs', hr', _⟩ := hS mb hs
    exact hr'.ne_map h.cells rfl

/- a machine -/
structure Mach (w : World) (sp mp g zp mb : Nat) (lv : Value) (L : List ZR) (n : Nat) (r : List Int) (p : Int) (l : List Nat) : Prop where
  st : RowAt w sp ST (cst r p)
  mem : MemAt w mp g l
  z : ZAt w zp mb lv L n
  rl : r.length = 16
theorem Mach.on {w w' : World} {sp mp g zp mb : Nat} {lv : Value} {L : List ZR} {n : Nat} {r : List Int} {p : Int} {l : List Nat} (h : Mach w sp mp g zp mb lv L n r p l) (k : Kept No w w') : Mach w' sp mp g zp mb lv L n r p l :=
  ⟨h.st.keep k (fun h => h), h.mem.keep k (fun h => h) (fun h => h), h.z.keep_row k fun _ h => h.elim, h.rl⟩
theorem Mach.ne {w : World} {sp mp g zp mb : Nat} {lv : Value} {L : List ZR} {n : Nat} {r : List Int} {p : Int} {l : List Nat} (h : Mach w sp mp g zp mb lv L n r p l) : sp ≠ g ∧ sp ≠ mp :=
  ⟨RowAt.ne_type h.st (byteRow_row h.mem.row) (by decide), RowAt.ne_type h.st h.mem.row_head (by decide)⟩
/- the state is another one -/
theorem Mach.state {w w' : World} {sp mp g zp mb : Nat} {lv : Value} {L : List ZR} {n : Nat} {r r' : List Int} {p p' : Int} {l : List Nat} (h : Mach w sp mp g zp mb lv L n r p l) (k : Kept (· = sp) w w') (h' : RowAt w' sp ST (cst r' p')) (hr : r'.length = 16) : Mach w' sp mp g zp mb lv L n r' p' l :=
  ⟨h', h.mem.keep k (fun e => h.ne.2 e.symm) (fun e => h.ne.1 e.symm), h.z.keep_row k fun j hj => by subst hj; exact ⟨ST, _, h.st, by decide, by decide, by decide⟩, hr⟩
/- its bytes are others -/
theorem Mach.bytes {w w' : World} {sp mp g zp mb : Nat} {lv : Value} {L : List ZR} {n : Nat} {r : List Int} {p : Int} {l l' : List Nat} (h : Mach w sp mp g zp mb lv L n r p l) (k : Kept (· = g) w w') (h' : MemAt w' mp g l') : Mach w' sp mp g zp mb lv L n r p l' :=
  ⟨h.st.keep k (fun e => h.ne.1 e), h', h.z.keep_row k fun j hj => by subst hj; exact ⟨5, _, byteRow_row h.mem.row, by decide, by decide, by decide⟩, h.rl⟩

theorem Mach.reach {w : World} {sp mp g zp mb : Nat} {lv : Value} {L : List ZR} {n : Nat} {r : List Int} {p : Int} {l : List Nat} (h : Mach w sp mp g zp mb lv L n r p l) (o a c : Int) {b : Nat} (hb : b < 16) :
    Calls Try.prog 93 #[.pointer (some ⟨sp, 0, none⟩), .agg #[.int .i64 o, .int .i64 a, .int .i64 b, .int .i64 c]] w fun e w' => e = .returned (.int .i64 ((r.getD b 0 + c) % 4294967296)) ∧ Kept No w w' :=
  (reach_any sp r p o a c b w h.st h.rl hb).mono fun _ _ ⟨he, hk⟩ => ⟨he, .of_below hk⟩
theorem Mach.canLoad {w : World} {sp mp g zp mb : Nat} {lv : Value} {L : List ZR} {n : Nat} {r : List Int} {p : Int} {l : List Nat} (h : Mach w sp mp g zp mb lv L n r p l) (a k : Int) :
    Calls Try.prog 14 #[.pointer (some ⟨zp, 0, none⟩), .int .i64 a, .int .i64 k] w fun e w' => e = .returned (.bool (Proofs.Yticancimnhnhbaa.canLoad (L.map ZR.z) a k)) ∧ Kept No w w' :=
  (canload_any zp mb lv L n a k w h.z).mono fun _ _ ⟨he, hk⟩ => ⟨he, .of_below hk⟩
theorem Mach.canStore {w : World} {sp mp g zp mb : Nat} {lv : Value} {L : List ZR} {n : Nat} {r : List Int} {p : Int} {l : List Nat} (h : Mach w sp mp g zp mb lv L n r p l) (a k : Int) :
    Calls Try.prog 16 #[.pointer (some ⟨zp, 0, none⟩), .int .i64 a, .int .i64 k] w fun e w' => e = .returned (.bool (Proofs.Yticancimnhnhbaa.canStore (L.map ZR.z) a k)) ∧ Kept No w w' :=
  (canstore_any zp mb lv L n a k w h.z).mono fun _ _ ⟨he, hk⟩ => ⟨he, .of_below hk⟩
theorem Mach.canRun {w : World} {sp mp g zp mb : Nat} {lv : Value} {L : List ZR} {n : Nat} {r : List Int} {p : Int} {l : List Nat} (h : Mach w sp mp g zp mb lv L n r p l) (a : Int) :
    Calls Try.prog 18 #[.pointer (some ⟨zp, 0, none⟩), .int .i64 a] w fun e w' => e = .returned (.bool (Proofs.Yticancimnhnhbaa.canRun (L.map ZR.z) a)) ∧ Kept No w w' :=
  (canrun_any zp mb lv L n a w h.z).mono fun _ _ ⟨he, hk⟩ => ⟨he, .of_below hk⟩
theorem Mach.fits {w : World} {sp mp g zp mb : Nat} {lv : Value} {L : List ZR} {n : Nat} {r : List Int} {p : Int} {l : List Nat} (h : Mach w sp mp g zp mb lv L n r p l) (k v : Int) :
    Calls Try.prog 22 #[.pointer (some ⟨zp, 0, none⟩), .int .i64 k, .int .i64 v] w fun e w' => e = .returned (.bool (fitsZ (L.map ZR.z) k v)) ∧ Kept No w w' :=
  (zfits_any zp mb lv L n k v w h.z).mono fun _ _ ⟨he, hk⟩ => ⟨he, .of_below hk⟩
theorem Mach.cell {w : World} {sp mp g zp mb : Nat} {lv : Value} {L : List ZR} {n : Nat} {r : List Int} {p : Int} {l : List Nat} (h : Mach w sp mp g zp mb lv L n r p l) (a : Int) (ha : (Lit.int .i64 a).wf = true) :
    Calls Try.prog 20 #[.pointer (some ⟨zp, 0, none⟩), .int .i64 a] w fun e w' => e = .returned (.int .i64 (kindOf (L.map ZR.z) (a - a % 4))) ∧ Kept No w w' :=
  (zcell_any zp mb lv L n a w h.z ha).mono fun _ _ ⟨he, hk⟩ => ⟨he, hk ▸ .refl _ _⟩

theorem Kept.up {S : Nat → Prop} {a b : World} (h : Kept No a b) : Kept S a b := ⟨h.still, h.more, fun k hk _ => h.rest k hk fun h => h⟩
/- a register of the state is another one -/
theorem Mach.set {w v : World} {sp mp g zp mb : Nat} {lv : Value} {L : List ZR} {n : Nat} {r : List Int} {p : Int} {l : List Nat} (h : Mach w sp mp g zp mb lv L n r p l) (k : Kept No w v) {a : Nat} (ha : a < 16) (x : Int) :
    RowAt (v.setCell ⟨sp, a, none⟩ (.int .i32 x)) sp ST (cst (r.set a x) p) ∧ Kept (· = sp) w (v.setCell ⟨sp, a, none⟩ (.int .i32 x)) :=
  ⟨by rw [← cst_set r p h.rl a ha]; exact (h.on k).st.setCell a _, (k.up (S := (· = sp))).setCell (p := ⟨sp, a, none⟩) (fun _ => rfl) _⟩
theorem tmod4 (q : Nat) : (((q : Int).tmod 4) == 0) = decide (q % 4 = 0) := by
  rw [Int.tmod_eq_emod_of_nonneg (by omega)]
  by_cases h : q % 4 = 0
  · simp [h]; omega
  · simp [h]; omega

/- the four cells of an instruction's box -/
theorem box_cells {w v : World} {o a b c : Int} (k : Kept No (w.alloc (.cells #[.int .i64 o, .int .i64 a, .int .i64 b, .int .i64 c] 86)) v) :
    v.cell? ⟨w.heap.size, 0, none⟩ = some (.int .i64 o) ∧ v.cell? ⟨w.heap.size, 1, none⟩ = some (.int .i64 a) ∧ v.cell? ⟨w.heap.size, 2, none⟩ = some (.int .i64 b) ∧ v.cell? ⟨w.heap.size, 3, none⟩ = some (.int .i64 c) := by
  have hr : RowAt v w.heap.size 86 [.int .i64 o, .int .i64 a, .int .i64 b, .int .i64 c] := (RowAt.new w _ _).keep k (fun h => h)
  refine ⟨?_, ?_, ?_, ?_⟩ <;> (rw [hr.cell]; rfl)

/- what a load of a word comes to: a trap, registers -/
def wordI (l : List Nat) (q : Nat) : Int := IntKind.i32.wrap (wordAt l q : Nat)
def loadW (Z : List ZV) (r : List Int) (l : List Nat) (a b : Nat) (c : Int) : Int × List Int :=
  let q := ((r.getD b 0 + c) % 4294967296).toNat
  if q % 4 ≠ 0 then (3, r) else if canLoad Z q 4 = false ∨ l.length < q + 4 then (2, r) else (0, r.set a (wordI l q))

set_option maxRecDepth 100000 in
set_option maxHeartbeats 1000000 in
theorem load_any {w : World} {sp mp g zp mb : Nat} {lv : Value} {L : List ZR} {n : Nat} {r : List Int} {p : Int} {l : List Nat} (h : Mach w sp mp g zp mb lv L n r p l) (o c : Int) {a b : Nat} (ha : a < 16) (hb : b < 16) :
    Calls Try.prog 76 #[.pointer (some ⟨sp, 0, none⟩), .agg #[.int .i64 o, .int .i64 a, .int .i64 b, .int .i64 c], .pointer (some ⟨mp, 0, none⟩), .pointer (some ⟨zp, 0, none⟩)] w fun e w' =>
      e = .returned (.int .i64 (loadW (L.map ZR.z) r l a b c).1) ∧ RowAt w' sp ST (cst (loadW (L.map ZR.z) r l a b c).2 p) ∧ Kept (· = sp) w w' := by
  have HM := Lib.hid h
  have k0 : Kept No w (w.alloc (.cells #[.int .i64 o, .int .i64 a, .int .i64 b, .int .i64 c] 86)) := (Kept.refl _ _).alloc _
  have hreach := (h.on k0).reach o a c hb
  obtain ⟨q, hq⟩ : ∃ q : Nat, ((r.getD b 0 + c) % 4294967296).toNat = q := ⟨_, rfl⟩
  have hq2 : (r.getD b 0 + c) % 4294967296 = (q : Int) := by omega
  have hlw : q < 4294967296 := by omega
  rw [hq2] at hreach
  have HR := Lib.hid hreach
  have HK0 := Lib.hid k0
  have HA := Lib.hid ha
  by_cases h4 : q % 4 = 0
  · have e4 : ((q : Int).tmod 4 == 0) = true := by rw [tmod4]; simp [h4]
    have HC4 := Lib.hid h4
    by_cases hc : canLoad (L.map ZR.z) q 4 = true
    · have HC := Lib.hid hc
      by_cases hl : q + 4 ≤ l.length
      · rw [show loadW (L.map ZR.z) r l a b c = (0, r.set a (wordI l q)) by simp only [loadW, hq]; rw [if_neg (by omega), if_neg (by rw [hc]; simp; omega)]]
        have HL := Lib.hid hl
        have i1 : (a : Int) < 16 := by omega
        have i2 : (0 : Int) ≤ (a : Int) := by omega
        clear h hreach hq hq2 k0 h4 hc hl ha
        go_enter Try.func76, Try.ntmps76
        go_wp2_with fail
        refine HR.out.mono ?_
        rintro e w1 ⟨rfl, k1⟩
        have K1 := HK0.out.trans k1
        go_wp2_with fail
        refine (cpuAligned_any _ _).mono ?_
        rintro e w2 ⟨rfl, rfl⟩
        rw [e4]
        go_wp2_with fail
        refine ((HM.out.on K1).canLoad q 4).mono ?_
        rintro e w3 ⟨rfl, k3⟩
        rw [HC.out]
        have K3 := Lib.hid (K1.trans k3)
        obtain ⟨-, b1, -, -⟩ := box_cells (k1.trans k3)
        have s1 := (HM.out.on K3.out).st.reg HM.out.rl HA.out
        have s2 := (HM.out.on K3.out).st.free a
        clear k1 K1 k3
        go_wp2_with fail
        refine (memWord_yes mp g l q _ (HM.out.on K3.out).mem HC4.out HL.out).mono ?_
        rintro e w4 ⟨rfl, rfl⟩
        go_wp2_with fail
        go_region_with fail
        all_goals
          go_wp2_with fail
          go_ret
          exact ⟨rfl, (HM.out.set K3.out HA.out (wordI l q)).1, (HM.out.set K3.out HA.out (wordI l q)).2.drew⟩
      · rw [show loadW (L.map ZR.z) r l a b c = (2, r) by simp only [loadW, hq]; rw [if_neg (by omega), if_pos (by right; omega)]]
        have HL : Hid ((q : Int) < 0 ∨ (l.length : Int) - 4 < q) := by show _ ∨ _; omega
        have HT4 : Hid ((q : Int).tmod 4 = 0) := by show _ = _; rw [Int.tmod_eq_emod_of_nonneg (by omega)]; omega
        clear h hreach hq hq2 k0 h4 hc hl ha
        go_enter Try.func76, Try.ntmps76
        go_wp2_with fail
        refine HR.out.mono ?_
        rintro e w1 ⟨rfl, k1⟩
        have K1 := HK0.out.trans k1
        go_wp2_with fail
        refine (cpuAligned_any _ _).mono ?_
        rintro e w2 ⟨rfl, rfl⟩
        rw [e4]
        go_wp2_with fail
        refine ((HM.out.on K1).canLoad q 4).mono ?_
        rintro e w3 ⟨rfl, k3⟩
        rw [HC.out]
        have K3 := Lib.hid (K1.trans k3)
        clear k1 K1 k3
        go_wp2_with fail
        refine (memWord_far mp g l q _ (HM.out.on K3.out).mem HT4.out HL.out).mono ?_
        rintro e w4 ⟨rfl, rfl⟩
        go_wp2_with fail
        go_ret
        exact ⟨rfl, (HM.out.on K3.out).st, K3.out.up⟩
    · have hc' : canLoad (L.map ZR.z) q 4 = false := by simpa using hc
      rw [show loadW (L.map ZR.z) r l a b c = (2, r) by simp only [loadW, hq]; rw [if_neg (by omega), if_pos (.inl hc')]]
      have HC := Lib.hid hc'
      clear h hreach hq hq2 k0 h4 hc hc' ha
      go_enter Try.func76, Try.ntmps76
      go_wp2_with fail
      refine HR.out.mono ?_
      rintro e w1 ⟨rfl, k1⟩
      have K1 := HK0.out.trans k1
      go_wp2_with fail
      refine (cpuAligned_any _ _).mono ?_
      rintro e w2 ⟨rfl, rfl⟩
      rw [e4]
      go_wp2_with fail
      refine ((HM.out.on K1).canLoad q 4).mono ?_
      rintro e w3 ⟨rfl, k3⟩
      rw [HC.out]
      have K3 := Lib.hid (K1.trans k3)
      clear k1 K1 k3
      go_wp2_with fail
      go_ret
      exact ⟨rfl, (HM.out.on K3.out).st, K3.out.up⟩
  · rw [show loadW (L.map ZR.z) r l a b c = (3, r) by simp only [loadW, hq]; rw [if_pos (by omega)]]
    have e4 : ((q : Int).tmod 4 == 0) = false := by rw [tmod4]; simp [h4]
    clear h hreach hq hq2 k0 h4 ha
    go_enter Try.func76, Try.ntmps76
    go_wp2_with fail
    refine HR.out.mono ?_
    rintro e w1 ⟨rfl, k1⟩
    go_wp2_with fail
    refine (cpuAligned_any _ _).mono ?_
    rintro e w2 ⟨rfl, rfl⟩
    rw [e4]
    go_wp2_with fail
    go_ret
    have k2 := HK0.out.trans k1
    exact ⟨rfl, (HM.out.on k2).st, k2.up⟩
end Go.Proofs.Yticancimnhnhbaa

/-
  A machine of package cpu: what LoadB, Store, StorB do to it (layer 7). No conditions beyond those that each theorem names.
-/
namespace Go.Proofs.Yticancimnhnhbaa
open Go.ChangeShapes Go.WideShapes Go.ChangeAt Go.RowKit

def loadB (Z : List ZV) (r : List Int) (l : List Nat) (a b : Nat) (c : Int) : Int × List Int :=
  let q := ((r.getD b 0 + c) % 4294967296).toNat
  if canLoad Z q 1 = false ∨ l.length < q + 1 then (2, r) else (0, r.set a (IntKind.i32.wrap ((l.getD q 0 : Nat) : Int)))
def storeW (Z : List ZV) (r : List Int) (l : List Nat) (a b : Nat) (c : Int) : Int × List Nat :=
  let q := ((r.getD b 0 + c) % 4294967296).toNat
  if q % 4 ≠ 0 then (3, l) else if canStore Z q 4 = false then (2, l) else if fitsZ Z (kindOf Z q) (r.getD a 0 % 4294967296) = false then (6, l)
  else if l.length < q + 4 then (2, l) else (0, splice l q (bytes4 (r.getD a 0 % 4294967296).toNat))
def storeB (Z : List ZV) (r : List Int) (l : List Nat) (a b : Nat) (c : Int) : Int × List Nat :=
  let q := ((r.getD b 0 + c) % 4294967296).toNat
  if canStore Z q 1 = false then (2, l) else if kindOf Z (q - q % 4 : Int) ≠ 0 then (6, l)
  else if l.length < q + 1 then (2, l) else (0, l.set q (r.getD a 0 % 256).toNat)

set_option maxRecDepth 100000 in
set_option maxHeartbeats 1000000 in
theorem loadByte_any {w : World} {sp mp g zp mb : Nat} {lv : Value} {L : List ZR} {n : Nat} {r : List Int} {p : Int} {l : List Nat} (h : Mach w sp mp g zp mb lv L n r p l) (o c : Int) {a b : Nat} (ha : a < 16) (hb : b < 16) :
    Calls Try.prog 78 #[.pointer (some ⟨sp, 0, none⟩), .agg #[.int .i64 o, .int .i64 a, .int .i64 b, .int .i64 c], .pointer (some ⟨mp, 0, none⟩), .pointer (some ⟨zp, 0, none⟩)] w fun e w' =>
      e = .returned (.int .i64 (loadB (L.map ZR.z) r l a b c).1) ∧ RowAt w' sp ST (cst (loadB (L.map ZR.z) r l a b c).2 p) ∧ Kept (· = sp) w w' := by
  have HM := Lib.hid h
  have k0 : Kept No w (w.alloc (.cells #[.int .i64 o, .int .i64 a, .int .i64 b, .int .i64 c] 86)) := (Kept.refl _ _).alloc _
  have hreach := (h.on k0).reach o a c hb
  obtain ⟨q, hq⟩ : ∃ q : Nat, ((r.getD b 0 + c) % 4294967296).toNat = q := ⟨_, rfl⟩
  have hq2 : (r.getD b 0 + c) % 4294967296 = (q : Int) := by omega
  have hlw : q < 4294967296 := by omega
  rw [hq2] at hreach
  have HR := Lib.hid hreach
  have HK0 := Lib.hid k0
  have HA := Lib.hid ha
  by_cases hc : canLoad (L.map ZR.z) q 1 = true
  · have HC := Lib.hid hc
    by_cases hl : q < l.length
    · obtain ⟨y, hy⟩ : ∃ y, l.getD q 0 = y := ⟨_, rfl⟩
      rw [show loadB (L.map ZR.z) r l a b c = (0, r.set a (IntKind.i32.wrap (y : Int))) by simp only [loadB, hq, hy]; rw [if_neg (by rw [hc]; simp; omega)]]
      have HL := Lib.hid hl
      have HW : Hid (∀ v, Kept No w v → Calls Try.prog 95 #[.pointer (some ⟨mp, 0, none⟩), .int .i64 q] v fun e v' => e = .returned (.tuple #[.int .u8 (y : Nat), .int .i64 0]) ∧ v = v') := fun v k => by
        rw [← hy]
        exact memByte_yes mp g l q _ (h.on k).mem hl
      clear hy
      have i1 : (a : Int) < 16 := by omega
      have i2 : (0 : Int) ≤ (a : Int) := by omega
      clear h hreach hq hq2 k0 hc hl ha
      go_enter Try.func78, Try.ntmps78
      go_wp2_with fail
      refine HR.out.mono ?_
      rintro e w1 ⟨rfl, k1⟩
      have K1 := HK0.out.trans k1
      go_wp2_with fail
      refine ((HM.out.on K1).canLoad q 1).mono ?_
      rintro e w3 ⟨rfl, k3⟩
      rw [HC.out]
      have K3 := Lib.hid (K1.trans k3)
      obtain ⟨-, b1, -, -⟩ := box_cells (k1.trans k3)
      have s1 := (HM.out.on K3.out).st.reg HM.out.rl HA.out
      have s2 := (HM.out.on K3.out).st.free a
      have RES := Lib.hid (HM.out.set K3.out HA.out (IntKind.i32.wrap (y : Int)))
      clear k1 K1 k3
      go_wp2_with fail
      refine (HW.out _ K3.out).mono ?_
      rintro e w4 ⟨rfl, rfl⟩
      go_wp2_with fail
      go_region_with fail
      all_goals
        go_wp2_with fail
        go_ret
        exact ⟨rfl, RES.out.1, RES.out.2.drew⟩
    · rw [show loadB (L.map ZR.z) r l a b c = (2, r) by simp only [loadB, hq]; rw [if_pos (by right; omega)]]
      have HL : Hid ((q : Int) < 0 ∨ (l.length : Int) ≤ q) := by show _ ∨ _; omega
      clear h hreach hq hq2 k0 hc hl ha
      go_enter Try.func78, Try.ntmps78
      go_wp2_with fail
      refine HR.out.mono ?_
      rintro e w1 ⟨rfl, k1⟩
      have K1 := HK0.out.trans k1
      go_wp2_with fail
      refine ((HM.out.on K1).canLoad q 1).mono ?_
      rintro e w3 ⟨rfl, k3⟩
      rw [HC.out]
      have K3 := Lib.hid (K1.trans k3)
      clear k1 K1 k3
      go_wp2_with fail
      refine (memByte_no mp g l q _ (HM.out.on K3.out).mem HL.out).mono ?_
      rintro e w4 ⟨rfl, rfl⟩
      go_wp2_with fail
      go_ret
      exact ⟨rfl, (HM.out.on K3.out).st, K3.out.up⟩
  · have hc' : canLoad (L.map ZR.z) q 1 = false := by simpa using hc
    rw [show loadB (L.map ZR.z) r l a b c = (2, r) by simp only [loadB, hq]; rw [if_pos (.inl hc')]]
    have HC := Lib.hid hc'
    clear h hreach hq hq2 k0 hc hc' ha
    go_enter Try.func78, Try.ntmps78
    go_wp2_with fail
    refine HR.out.mono ?_
    rintro e w1 ⟨rfl, k1⟩
    have K1 := HK0.out.trans k1
    go_wp2_with fail
    refine ((HM.out.on K1).canLoad q 1).mono ?_
    rintro e w3 ⟨rfl, k3⟩
    rw [HC.out]
    have K3 := Lib.hid (K1.trans k3)
    clear k1 K1 k3
    go_wp2_with fail
    go_ret
    exact ⟨rfl, (HM.out.on K3.out).st, K3.out.up⟩

/- the box's cell of A and the register that it names, in every world that is kept -/
theorem Mach.held {w v : World} {sp mp g zp mb : Nat} {lv : Value} {L : List ZR} {n : Nat} {r : List Int} {p : Int} {l : List Nat} (h : Mach w sp mp g zp mb lv L n r p l) {o c : Int} {a : Nat} {b : Int} (ha : a < 16)
    (k : Kept No (w.alloc (.cells #[.int .i64 o, .int .i64 a, .int .i64 b, .int .i64 c] 86)) v) :
    (v.cell? ⟨w.heap.size, 1, none⟩ = some (.int .i64 a) ∧ v.cell? ⟨sp, a, none⟩ = some (.int .i32 (r.getD a 0))) ∧ Kept No (w.alloc (.cells #[.int .i64 o, .int .i64 a, .int .i64 b, .int .i64 c] 86)) v :=
  ⟨⟨(box_cells k).2.1, (h.on (((Kept.refl _ _).alloc _).trans k)).st.reg h.rl ha⟩, k⟩

set_option maxRecDepth 100000 in
set_option maxHeartbeats 1000000 in
theorem store_any {w : World} {sp mp g zp mb : Nat} {lv : Value} {L : List ZR} {n : Nat} {r : List Int} {p : Int} {l : List Nat} (h : Mach w sp mp g zp mb lv L n r p l) (o c : Int) {a b : Nat} (ha : a < 16) (hb : b < 16) :
    Calls Try.prog 77 #[.pointer (some ⟨sp, 0, none⟩), .agg #[.int .i64 o, .int .i64 a, .int .i64 b, .int .i64 c], .pointer (some ⟨mp, 0, none⟩), .pointer (some ⟨zp, 0, none⟩)] w fun e w' =>
      e = .returned (.int .i64 (storeW (L.map ZR.z) r l a b c).1) ∧ MemAt w' mp g (storeW (L.map ZR.z) r l a b c).2 ∧ Kept (· = g) w w' := by
  have HM := Lib.hid h
  have HG := Lib.hid h.ne.1
  have hmg : mp < w.heap.size := h.mem.lt
  have k0 : Kept No w (w.alloc (.cells #[.int .i64 o, .int .i64 a, .int .i64 b, .int .i64 c] 86)) := (Kept.refl _ _).alloc _
  have hreach := (h.on k0).reach o a c hb
  obtain ⟨q, hq⟩ : ∃ q : Nat, ((r.getD b 0 + c) % 4294967296).toNat = q := ⟨_, rfl⟩
  have hq2 : (r.getD b 0 + c) % 4294967296 = (q : Int) := by omega
  have hlw : q < 4294967296 := by omega
  rw [hq2] at hreach
  have HR := Lib.hid hreach
  have HK0 := Lib.hid k0
  have HA := Lib.hid ha
  have HH := Lib.hid (fun v k => h.held (o := o) (c := c) (b := (b : Int)) (v := v) ha k)
  have hwf : (Lit.int .i64 (q : Int)).wf = true := WalkArith.wf_i64 (by omega)
  have HWf := Lib.hid hwf
  have i1 : (a : Int) < 16 := by omega
  have i2 : (0 : Int) ≤ (a : Int) := by omega
  obtain ⟨x, hx⟩ : ∃ x, r.getD a 0 = x := ⟨_, rfl⟩
  rw [hx] at HH
  unfold storeW
  simp only [hq, hx]
  clear hq hx
  by_cases h4 : q % 4 = 0
  · have e4 : ((q : Int).tmod 4 == 0) = true := by rw [tmod4]; simp [h4]
    have HC4 := Lib.hid h4
    have hkind : ((q : Int) - (q : Int) % 4) = q := by omega
    have HKi := Lib.hid hkind
    by_cases hc : canStore (L.map ZR.z) q 4 = true
    · have HC := Lib.hid hc
      by_cases hf : fitsZ (L.map ZR.z) (kindOf (L.map ZR.z) q) (x % 4294967296) = true
      · have HF := Lib.hid hf
        by_cases hl : q + 4 ≤ l.length
        · rw [if_neg (by omega), if_neg (by rw [hc]; simp), if_neg (by rw [hf]; simp), if_neg (by omega)]
          have HS : Hid (∀ v, Kept No w v → Calls Try.prog 52 #[.pointer (some ⟨mp, 0, none⟩), .int .i64 q, .int .u32 (x % 4294967296)] v fun e w' => e = .returned (.int .i64 0) ∧ MemAt w' mp g (splice l q (bytes4 (x % 4294967296).toNat)) ∧ Kept (· = g) v w') := fun v k => by
            have := memSetWord_yes mp g l q (x % 4294967296).toNat v (h.on k).mem (by omega) h4 hl
            rw [show (((x % 4294967296).toNat : Nat) : Int) = x % 4294967296 by omega] at this
            exact this
          clear h hreach hq2 k0 h4 hc hl ha hf hkind hwf
          go_enter Try.func77, Try.ntmps77
          go_wp2_with fail
          refine HR.out.mono ?_
          rintro e w1 ⟨rfl, k1⟩
          have K1 := HK0.out.trans k1
          go_wp2_with fail
          refine (cpuAligned_any _ _).mono ?_
          rintro e w2 ⟨rfl, rfl⟩
          rw [e4]
          go_wp2_with fail
          refine ((HM.out.on K1).canStore q 4).mono ?_
          rintro e w3 ⟨rfl, k3⟩
          rw [HC.out]
          have K3 := Lib.hid (k1.trans k3)
          clear k1 K1 k3
          go_wp2_with fail
          refine wp_region_held_drew (S := fun w' => (w'.cell? ⟨w.heap.size, 1, none⟩ = some (.int .i64 a) ∧ w'.cell? ⟨sp, a, none⟩ = some (.int .i32 (x))) ∧ Kept No (w.alloc (.cells #[.int .i64 o, .int .i64 a, .int .i64 b, .int .i64 c] 86)) w') (by kernel_rfl) ?_ (fun hHeld => ?_)
          · exact HH.out _ K3.out.drew
          refine wpAnyH_take (i := 0) (v := ?_) rfl (by kernel_rfl) (by kernel_rfl) (by kernel_rfl) (fun _ _ _ h => h) (Or.inl ⟨by rfl, ?_⟩) (by assumption) ?_
          rotate_left
          · intro w hSw
            (try dsimp only at hSw)
            go_simp
            (try with_reducible rfl)
          try simp only [Act.put, List.getElem_toArray, List.getElem_cons_zero, List.setIfInBounds_toArray, List.set_cons_zero, List.set_cons_succ]
          refine wpAnyH_take (i := 1) (v := ?_) rfl (by kernel_rfl) (by kernel_rfl) (by kernel_rfl) (fun _ _ _ h => h) (Or.inl ⟨by rfl, ?_⟩) (by assumption) ?_
          rotate_left
          · intro w hSw
            (try dsimp only at hSw)
            go_simp
            (try with_reducible rfl)
          try simp only [Act.put, List.getElem_toArray, List.getElem_cons_zero, List.getElem_cons_succ, List.setIfInBounds_toArray, List.set_cons_zero, List.set_cons_succ]
          refine wpAnyH_take (i := 2) (v := ?_) rfl (by kernel_rfl) (by kernel_rfl) (by kernel_rfl) (fun _ _ _ h => h) (Or.inl ⟨by rfl, ?_⟩) (by assumption) ?_
          rotate_left
          · intro w hSw
            (try dsimp only at hSw)
            go_simp
            (try with_reducible rfl)
          try simp only [Act.put, List.getElem_toArray, List.getElem_cons_zero, List.getElem_cons_succ, List.setIfInBounds_toArray, List.set_cons_zero, List.set_cons_succ]
          refine wpAnyH_take (i := 4) (v := ?_) rfl (by kernel_rfl) (by kernel_rfl) (by kernel_rfl) (fun _ _ _ h => h) (Or.inl ⟨by rfl, ?_⟩) (by assumption) ?_
          rotate_left
          · intro w hSw
            (try dsimp only at hSw)
            go_simp
            (try with_reducible rfl)
          try simp only [Act.put, List.getElem_toArray, List.getElem_cons_zero, List.getElem_cons_succ, List.setIfInBounds_toArray, List.set_cons_zero, List.set_cons_succ]
          refine wpAnyH_take (i := 5) (v := ?_) rfl (by kernel_rfl) (by kernel_rfl) (by kernel_rfl) (fun _ _ _ h => h) (Or.inl ⟨by rfl, ?_⟩) (by assumption) ?_
          rotate_left
          · intro w hSw
            (try dsimp only at hSw)
            go_simp
            (try with_reducible rfl)
          try simp only [Act.put, List.getElem_toArray, List.getElem_cons_zero, List.getElem_cons_succ, List.setIfInBounds_toArray, List.set_cons_zero, List.set_cons_succ]
          refine wpAnyH_take (i := 6) (v := ?_) rfl (by kernel_rfl) (by kernel_rfl) (by kernel_rfl) (fun _ _ _ h => h) (Or.inl ⟨by rfl, ?_⟩) (by assumption) ?_
          rotate_left
          · intro w hSw
            (try dsimp only at hSw)
            go_simp
            (try with_reducible rfl)
          try simp only [Act.put, List.getElem_toArray, List.getElem_cons_zero, List.getElem_cons_succ, List.setIfInBounds_toArray, List.set_cons_zero, List.set_cons_succ]
          refine wpAnyH_take (i := 7) (v := ?_) rfl (by kernel_rfl) (by kernel_rfl) (by kernel_rfl) (fun _ _ _ h => h) (Or.inl ⟨by rfl, ?_⟩) (by assumption) ?_
          rotate_left
          · intro w hSw
            (try dsimp only at hSw)
            go_simp
            (try with_reducible rfl)
          try simp only [Act.put, List.getElem_toArray, List.getElem_cons_zero, List.getElem_cons_succ, List.setIfInBounds_toArray, List.set_cons_zero, List.set_cons_succ]
          refine wpAnyH_take (i := 8) (v := ?_) rfl (by kernel_rfl) (by kernel_rfl) (by kernel_rfl) (fun _ _ _ h => h) (Or.inl ⟨by rfl, ?_⟩) (by assumption) ?_
          rotate_left
          · intro w hSw
            (try dsimp only at hSw)
            go_simp
            (try with_reducible rfl)
          try simp only [Act.put, List.getElem_toArray, List.getElem_cons_zero, List.getElem_cons_succ, List.setIfInBounds_toArray, List.set_cons_zero, List.set_cons_succ]
          refine wpAnyH_take (i := 9) (v := ?_) rfl (by kernel_rfl) (by kernel_rfl) (by kernel_rfl) (fun _ _ _ h => h) (Or.inl ⟨by rfl, ?_⟩) (by assumption) ?_
          rotate_left
          · intro w hSw
            (try dsimp only at hSw)
            go_simp
            (try with_reducible rfl)
          try simp only [Act.put, List.getElem_toArray, List.getElem_cons_zero, List.getElem_cons_succ, List.setIfInBounds_toArray, List.set_cons_zero, List.set_cons_succ]
          refine wpAnyH_take (i := 10) (v := ?_) rfl (by kernel_rfl) (by kernel_rfl) (by kernel_rfl) (fun _ _ _ h => h) (Or.inl ⟨by rfl, ?_⟩) (by assumption) ?_
          rotate_left
          · intro w hSw
            (try dsimp only at hSw)
            go_simp
            (try with_reducible rfl)
          try simp only [Act.put, List.getElem_toArray, List.getElem_cons_zero, List.getElem_cons_succ, List.setIfInBounds_toArray, List.set_cons_zero, List.set_cons_succ]
          refine wpAnyH_ready (rs := [3]) (by kernel_rfl) (by simp) ?_
          refine AllReadyH.cons rfl (fun K hK => ?_) AllReadyH.nil
          go_simp
          refine ((HM.out.on (HK0.out.trans hHeld.2)).cell q HWf.out).mono ?_
          rintro e v1 ⟨rfl, j1⟩
          rw [HKi.out]
          first | show K _ _ | go_wp2_with fail
          refine hK.out _ _ ?_ (fun hHeld1 => ?_)
          · exact HH.out _ (hHeld.2.trans j1)
          clear hK K
          try simp only [Act.put, List.getElem_toArray, List.getElem_cons_zero, List.getElem_cons_succ, List.setIfInBounds_toArray, List.set_cons_zero, List.set_cons_succ]
          refine wpAnyH_ready (rs := [11]) (by kernel_rfl) (by simp) ?_
          refine AllReadyH.cons rfl (fun K hK => ?_) AllReadyH.nil
          go_simp
          refine (place_any _ _).mono ?_
          rintro e v2 ⟨rfl, rfl⟩
          first | show K _ _ | go_wp2_with fail
          refine hK.out _ _ ?_ (fun hHeld2 => ?_)
          · exact hHeld1
          clear hK K
          try simp only [Act.put, List.getElem_toArray, List.getElem_cons_zero, List.getElem_cons_succ, List.setIfInBounds_toArray, List.set_cons_zero, List.set_cons_succ]
          refine wpAnyH_ready (rs := [12]) (by kernel_rfl) (by simp) ?_
          refine AllReadyH.cons rfl (fun K hK => ?_) AllReadyH.nil
          go_simp
          refine ((HM.out.on (HK0.out.trans hHeld2.2)).fits _ _).mono ?_
          rintro e v3 ⟨rfl, j3⟩
          rw [HF.out]
          first | show K _ _ | go_wp2_with fail
          refine hK.out _ _ ?_ (fun hHeld3 => ?_)
          · exact HH.out _ (hHeld2.2.trans j3)
          clear hK K
          try simp only [Act.put, List.getElem_toArray, List.getElem_cons_zero, List.getElem_cons_succ, List.setIfInBounds_toArray, List.set_cons_zero, List.set_cons_succ]
          refine wpAnyH_take (i := 13) (v := ?_) rfl (by kernel_rfl) (by kernel_rfl) (by kernel_rfl) (fun _ _ _ h => h) (Or.inl ⟨by rfl, ?_⟩) (by assumption) ?_
          rotate_left
          · intro w hSw
            (try dsimp only at hSw)
            go_simp
            (try with_reducible rfl)
          try simp only [Act.put, List.getElem_toArray, List.getElem_cons_zero, List.getElem_cons_succ, List.setIfInBounds_toArray, List.set_cons_zero, List.set_cons_succ]
          refine wpAnyH_done (by kernel_rfl) ?_ _
          have K4 := Lib.hid hHeld3.2
          clear hHeld hHeld1 hHeld2 hHeld3
          go_wp2_with fail
          refine wp_region_held_drew (S := fun w' => w'.cell? ⟨w.heap.size, 1, none⟩ = some (.int .i64 a) ∧ w'.cell? ⟨sp, a, none⟩ = some (.int .i32 (x))) (by kernel_rfl) ?_ (fun hHeld => ?_)
          · exact (HH.out _ K4.out.drew).1
          refine wpAnyH_take (i := 0) (v := ?_) rfl (by kernel_rfl) (by kernel_rfl) (by kernel_rfl) (fun _ _ _ h => h) (Or.inl ⟨by rfl, ?_⟩) (by assumption) ?_
          rotate_left
          · intro w hSw
            (try dsimp only at hSw)
            go_simp
            (try with_reducible rfl)
          try simp only [Act.put, List.getElem_toArray, List.getElem_cons_zero, List.setIfInBounds_toArray, List.set_cons_zero, List.set_cons_succ]
          refine wpAnyH_take (i := 1) (v := ?_) rfl (by kernel_rfl) (by kernel_rfl) (by kernel_rfl) (fun _ _ _ h => h) (Or.inl ⟨by rfl, ?_⟩) (by assumption) ?_
          rotate_left
          · intro w hSw
            (try dsimp only at hSw)
            go_simp
            (try with_reducible rfl)
          try simp only [Act.put, List.getElem_toArray, List.getElem_cons_zero, List.getElem_cons_succ, List.setIfInBounds_toArray, List.set_cons_zero, List.set_cons_succ]
          refine wpAnyH_take (i := 2) (v := ?_) rfl (by kernel_rfl) (by kernel_rfl) (by kernel_rfl) (fun _ _ _ h => h) (Or.inl ⟨by rfl, ?_⟩) (by assumption) ?_
          rotate_left
          · intro w hSw
            (try dsimp only at hSw)
            go_simp
            (try with_reducible rfl)
          try simp only [Act.put, List.getElem_toArray, List.getElem_cons_zero, List.getElem_cons_succ, List.setIfInBounds_toArray, List.set_cons_zero, List.set_cons_succ]
          refine wpAnyH_take (i := 3) (v := ?_) rfl (by kernel_rfl) (by kernel_rfl) (by kernel_rfl) (fun _ _ _ h => h) (Or.inl ⟨by rfl, ?_⟩) (by assumption) ?_
          rotate_left
          · intro w hSw
            (try dsimp only at hSw)
            go_simp
            (try with_reducible rfl)
          try simp only [Act.put, List.getElem_toArray, List.getElem_cons_zero, List.getElem_cons_succ, List.setIfInBounds_toArray, List.set_cons_zero, List.set_cons_succ]
          refine wpAnyH_take (i := 4) (v := ?_) rfl (by kernel_rfl) (by kernel_rfl) (by kernel_rfl) (fun _ _ _ h => h) (Or.inl ⟨by rfl, ?_⟩) (by assumption) ?_
          rotate_left
          · intro w hSw
            (try dsimp only at hSw)
            go_simp
            (try with_reducible rfl)
          try simp only [Act.put, List.getElem_toArray, List.getElem_cons_zero, List.getElem_cons_succ, List.setIfInBounds_toArray, List.set_cons_zero, List.set_cons_succ]
          refine wpAnyH_take (i := 5) (v := ?_) rfl (by kernel_rfl) (by kernel_rfl) (by kernel_rfl) (fun _ _ _ h => h) (Or.inl ⟨by rfl, ?_⟩) (by assumption) ?_
          rotate_left
          · intro w hSw
            (try dsimp only at hSw)
            go_simp
            (try with_reducible rfl)
          try simp only [Act.put, List.getElem_toArray, List.getElem_cons_zero, List.getElem_cons_succ, List.setIfInBounds_toArray, List.set_cons_zero, List.set_cons_succ]
          refine wpAnyH_take (i := 6) (v := ?_) rfl (by kernel_rfl) (by kernel_rfl) (by kernel_rfl) (fun _ _ _ h => h) (Or.inl ⟨by rfl, ?_⟩) (by assumption) ?_
          rotate_left
          · intro w hSw
            (try dsimp only at hSw)
            go_simp
            (try with_reducible rfl)
          try simp only [Act.put, List.getElem_toArray, List.getElem_cons_zero, List.getElem_cons_succ, List.setIfInBounds_toArray, List.set_cons_zero, List.set_cons_succ]
          refine wpAnyH_take (i := 7) (v := ?_) rfl (by kernel_rfl) (by kernel_rfl) (by kernel_rfl) (fun _ _ _ h => h) (Or.inl ⟨by rfl, ?_⟩) (by assumption) ?_
          rotate_left
          · intro w hSw
            (try dsimp only at hSw)
            go_simp
            (try with_reducible rfl)
          try simp only [Act.put, List.getElem_toArray, List.getElem_cons_zero, List.getElem_cons_succ, List.setIfInBounds_toArray, List.set_cons_zero, List.set_cons_succ]
          refine wpAnyH_take (i := 8) (v := ?_) rfl (by kernel_rfl) (by kernel_rfl) (by kernel_rfl) (fun _ _ _ h => h) (Or.inl ⟨by rfl, ?_⟩) (by assumption) ?_
          rotate_left
          · intro w hSw
            (try dsimp only at hSw)
            go_simp
            (try with_reducible rfl)
          try simp only [Act.put, List.getElem_toArray, List.getElem_cons_zero, List.getElem_cons_succ, List.setIfInBounds_toArray, List.set_cons_zero, List.set_cons_succ]
          refine wpAnyH_take (i := 9) (v := ?_) rfl (by kernel_rfl) (by kernel_rfl) (by kernel_rfl) (fun _ _ _ h => h) (Or.inl ⟨by rfl, ?_⟩) (by assumption) ?_
          rotate_left
          · intro w hSw
            (try dsimp only at hSw)
            go_simp
            (try with_reducible rfl)
          try simp only [Act.put, List.getElem_toArray, List.getElem_cons_zero, List.getElem_cons_succ, List.setIfInBounds_toArray, List.set_cons_zero, List.set_cons_succ]
          refine wpAnyH_ready (rs := [10]) (by kernel_rfl) (by simp) ?_
          refine AllReadyH.cons rfl (fun K hK => ?_) AllReadyH.nil
          go_simp
          refine (HS.out _ (HK0.out.trans K4.out.drew)).mono ?_
          rintro e v5 ⟨rfl, m5, j5⟩
          first | show K _ _ | go_wp2_with fail
          refine hK.out _ _ ?_ (fun hHeld1 => ?_)
          · exact ⟨(j5.cell (p := ⟨_, _, none⟩) (cell_lt hHeld.1) (fun e => by have := m5.row.lt; have := HM.out.mem.row.lt; simp only at e; omega)).trans hHeld.1, (j5.cell (p := ⟨_, _, none⟩) (cell_lt hHeld.2) (fun e => HG.out e)).trans hHeld.2⟩
          clear hK K
          try simp only [Act.put, List.getElem_toArray, List.getElem_cons_zero, List.getElem_cons_succ, List.setIfInBounds_toArray, List.set_cons_zero, List.set_cons_succ]
          refine wpAnyH_take (i := 11) (v := ?_) rfl (by kernel_rfl) (by kernel_rfl) (by kernel_rfl) (fun _ _ _ h => h) (Or.inl ⟨by rfl, ?_⟩) (by assumption) ?_
          rotate_left
          · intro w hSw
            (try dsimp only at hSw)
            go_simp
            (try with_reducible rfl)
          try simp only [Act.put, List.getElem_toArray, List.getElem_cons_zero, List.getElem_cons_succ, List.setIfInBounds_toArray, List.set_cons_zero, List.set_cons_succ]
          refine wpAnyH_done (by kernel_rfl) ?_ _
          go_wp2_with fail
          go_ret
          exact ⟨rfl, m5, ((HK0.out.trans K4.out.drew).up (S := (· = g))).trans j5⟩
        · rw [if_neg (by omega), if_neg (by rw [hc]; simp), if_neg (by rw [hf]; simp), if_pos (by omega)]
          have HL : Hid ((q : Int) < 0 ∨ (l.length : Int) - 4 < q) := by show _ ∨ _; omega
          have HT4 : Hid ((q : Int).tmod 4 = 0) := by show _ = _; rw [Int.tmod_eq_emod_of_nonneg (by omega)]; omega
          clear h hreach hq2 k0 h4 hc hl ha hf hkind hwf
          go_enter Try.func77, Try.ntmps77
          go_wp2_with fail
          refine HR.out.mono ?_
          rintro e w1 ⟨rfl, k1⟩
          have K1 := HK0.out.trans k1
          go_wp2_with fail
          refine (cpuAligned_any _ _).mono ?_
          rintro e w2 ⟨rfl, rfl⟩
          rw [e4]
          go_wp2_with fail
          refine ((HM.out.on K1).canStore q 4).mono ?_
          rintro e w3 ⟨rfl, k3⟩
          rw [HC.out]
          have K3 := Lib.hid (k1.trans k3)
          clear k1 K1 k3
          go_wp2_with fail
          refine wp_region_held_drew (S := fun w' => (w'.cell? ⟨w.heap.size, 1, none⟩ = some (.int .i64 a) ∧ w'.cell? ⟨sp, a, none⟩ = some (.int .i32 (x))) ∧ Kept No (w.alloc (.cells #[.int .i64 o, .int .i64 a, .int .i64 b, .int .i64 c] 86)) w') (by kernel_rfl) ?_ (fun hHeld => ?_)
          · exact HH.out _ K3.out.drew
          refine wpAnyH_take (i := 0) (v := ?_) rfl (by kernel_rfl) (by kernel_rfl) (by kernel_rfl) (fun _ _ _ h => h) (Or.inl ⟨by rfl, ?_⟩) (by assumption) ?_
          rotate_left
          · intro w hSw
            (try dsimp only at hSw)
            go_simp
            (try with_reducible rfl)
          try simp only [Act.put, List.getElem_toArray, List.getElem_cons_zero, List.setIfInBounds_toArray, List.set_cons_zero, List.set_cons_succ]
          refine wpAnyH_take (i := 1) (v := ?_) rfl (by kernel_rfl) (by kernel_rfl) (by kernel_rfl) (fun _ _ _ h => h) (Or.inl ⟨by rfl, ?_⟩) (by assumption) ?_
          rotate_left
          · intro w hSw
            (try dsimp only at hSw)
            go_simp
            (try with_reducible rfl)
          try simp only [Act.put, List.getElem_toArray, List.getElem_cons_zero, List.getElem_cons_succ, List.setIfInBounds_toArray, List.set_cons_zero, List.set_cons_succ]
          refine wpAnyH_take (i := 2) (v := ?_) rfl (by kernel_rfl) (by kernel_rfl) (by kernel_rfl) (fun _ _ _ h => h) (Or.inl ⟨by rfl, ?_⟩) (by assumption) ?_
          rotate_left
          · intro w hSw
            (try dsimp only at hSw)
            go_simp
            (try with_reducible rfl)
          try simp only [Act.put, List.getElem_toArray, List.getElem_cons_zero, List.getElem_cons_succ, List.setIfInBounds_toArray, List.set_cons_zero, List.set_cons_succ]
          refine wpAnyH_take (i := 4) (v := ?_) rfl (by kernel_rfl) (by kernel_rfl) (by kernel_rfl) (fun _ _ _ h => h) (Or.inl ⟨by rfl, ?_⟩) (by assumption) ?_
          rotate_left
          · intro w hSw
            (try dsimp only at hSw)
            go_simp
            (try with_reducible rfl)
          try simp only [Act.put, List.getElem_toArray, List.getElem_cons_zero, List.getElem_cons_succ, List.setIfInBounds_toArray, List.set_cons_zero, List.set_cons_succ]
          refine wpAnyH_take (i := 5) (v := ?_) rfl (by kernel_rfl) (by kernel_rfl) (by kernel_rfl) (fun _ _ _ h => h) (Or.inl ⟨by rfl, ?_⟩) (by assumption) ?_
          rotate_left
          · intro w hSw
            (try dsimp only at hSw)
            go_simp
            (try with_reducible rfl)
          try simp only [Act.put, List.getElem_toArray, List.getElem_cons_zero, List.getElem_cons_succ, List.setIfInBounds_toArray, List.set_cons_zero, List.set_cons_succ]
          refine wpAnyH_take (i := 6) (v := ?_) rfl (by kernel_rfl) (by kernel_rfl) (by kernel_rfl) (fun _ _ _ h => h) (Or.inl ⟨by rfl, ?_⟩) (by assumption) ?_
          rotate_left
          · intro w hSw
            (try dsimp only at hSw)
            go_simp
            (try with_reducible rfl)
          try simp only [Act.put, List.getElem_toArray, List.getElem_cons_zero, List.getElem_cons_succ, List.setIfInBounds_toArray, List.set_cons_zero, List.set_cons_succ]
          refine wpAnyH_take (i := 7) (v := ?_) rfl (by kernel_rfl) (by kernel_rfl) (by kernel_rfl) (fun _ _ _ h => h) (Or.inl ⟨by rfl, ?_⟩) (by assumption) ?_
          rotate_left
          · intro w hSw
            (try dsimp only at hSw)
            go_simp
            (try with_reducible rfl)
          try simp only [Act.put, List.getElem_toArray, List.getElem_cons_zero, List.getElem_cons_succ, List.setIfInBounds_toArray, List.set_cons_zero, List.set_cons_succ]
          refine wpAnyH_take (i := 8) (v := ?_) rfl (by kernel_rfl) (by kernel_rfl) (by kernel_rfl) (fun _ _ _ h => h) (Or.inl ⟨by rfl, ?_⟩) (by assumption) ?_
          rotate_left
          · intro w hSw
            (try dsimp only at hSw)
            go_simp
            (try with_reducible rfl)
          try simp only [Act.put, List.getElem_toArray, List.getElem_cons_zero, List.getElem_cons_succ, List.setIfInBounds_toArray, List.set_cons_zero, List.set_cons_succ]
          refine wpAnyH_take (i := 9) (v := ?_) rfl (by kernel_rfl) (by kernel_rfl) (by kernel_rfl) (fun _ _ _ h => h) (Or.inl ⟨by rfl, ?_⟩) (by assumption) ?_
          rotate_left
          · intro w hSw
            (try dsimp only at hSw)
            go_simp
            (try with_reducible rfl)
          try simp only [Act.put, List.getElem_toArray, List.getElem_cons_zero, List.getElem_cons_succ, List.setIfInBounds_toArray, List.set_cons_zero, List.set_cons_succ]
          refine wpAnyH_take (i := 10) (v := ?_) rfl (by kernel_rfl) (by kernel_rfl) (by kernel_rfl) (fun _ _ _ h => h) (Or.inl ⟨by rfl, ?_⟩) (by assumption) ?_
          rotate_left
          · intro w hSw
            (try dsimp only at hSw)
            go_simp
            (try with_reducible rfl)
          try simp only [Act.put, List.getElem_toArray, List.getElem_cons_zero, List.getElem_cons_succ, List.setIfInBounds_toArray, List.set_cons_zero, List.set_cons_succ]
          refine wpAnyH_ready (rs := [3]) (by kernel_rfl) (by simp) ?_
          refine AllReadyH.cons rfl (fun K hK => ?_) AllReadyH.nil
          go_simp
          refine ((HM.out.on (HK0.out.trans hHeld.2)).cell q HWf.out).mono ?_
          rintro e v1 ⟨rfl, j1⟩
          rw [HKi.out]
          first | show K _ _ | go_wp2_with fail
          refine hK.out _ _ ?_ (fun hHeld1 => ?_)
          · exact HH.out _ (hHeld.2.trans j1)
          clear hK K
          try simp only [Act.put, List.getElem_toArray, List.getElem_cons_zero, List.getElem_cons_succ, List.setIfInBounds_toArray, List.set_cons_zero, List.set_cons_succ]
          refine wpAnyH_ready (rs := [11]) (by kernel_rfl) (by simp) ?_
          refine AllReadyH.cons rfl (fun K hK => ?_) AllReadyH.nil
          go_simp
          refine (place_any _ _).mono ?_
          rintro e v2 ⟨rfl, rfl⟩
          first | show K _ _ | go_wp2_with fail
          refine hK.out _ _ ?_ (fun hHeld2 => ?_)
          · exact hHeld1
          clear hK K
          try simp only [Act.put, List.getElem_toArray, List.getElem_cons_zero, List.getElem_cons_succ, List.setIfInBounds_toArray, List.set_cons_zero, List.set_cons_succ]
          refine wpAnyH_ready (rs := [12]) (by kernel_rfl) (by simp) ?_
          refine AllReadyH.cons rfl (fun K hK => ?_) AllReadyH.nil
          go_simp
          refine ((HM.out.on (HK0.out.trans hHeld2.2)).fits _ _).mono ?_
          rintro e v3 ⟨rfl, j3⟩
          rw [HF.out]
          first | show K _ _ | go_wp2_with fail
          refine hK.out _ _ ?_ (fun hHeld3 => ?_)
          · exact HH.out _ (hHeld2.2.trans j3)
          clear hK K
          try simp only [Act.put, List.getElem_toArray, List.getElem_cons_zero, List.getElem_cons_succ, List.setIfInBounds_toArray, List.set_cons_zero, List.set_cons_succ]
          refine wpAnyH_take (i := 13) (v := ?_) rfl (by kernel_rfl) (by kernel_rfl) (by kernel_rfl) (fun _ _ _ h => h) (Or.inl ⟨by rfl, ?_⟩) (by assumption) ?_
          rotate_left
          · intro w hSw
            (try dsimp only at hSw)
            go_simp
            (try with_reducible rfl)
          try simp only [Act.put, List.getElem_toArray, List.getElem_cons_zero, List.getElem_cons_succ, List.setIfInBounds_toArray, List.set_cons_zero, List.set_cons_succ]
          refine wpAnyH_done (by kernel_rfl) ?_ _
          have K4 := Lib.hid hHeld3.2
          clear hHeld hHeld1 hHeld2 hHeld3
          go_wp2_with fail
          refine wp_region_held_drew (S := fun w' => (w'.cell? ⟨w.heap.size, 1, none⟩ = some (.int .i64 a) ∧ w'.cell? ⟨sp, a, none⟩ = some (.int .i32 (x))) ∧ Kept No (w.alloc (.cells #[.int .i64 o, .int .i64 a, .int .i64 b, .int .i64 c] 86)) w') (by kernel_rfl) ?_ (fun hHeld => ?_)
          · exact HH.out _ K4.out.drew
          refine wpAnyH_take (i := 0) (v := ?_) rfl (by kernel_rfl) (by kernel_rfl) (by kernel_rfl) (fun _ _ _ h => h) (Or.inl ⟨by rfl, ?_⟩) (by assumption) ?_
          rotate_left
          · intro w hSw
            (try dsimp only at hSw)
            go_simp
            (try with_reducible rfl)
          try simp only [Act.put, List.getElem_toArray, List.getElem_cons_zero, List.setIfInBounds_toArray, List.set_cons_zero, List.set_cons_succ]
          refine wpAnyH_take (i := 1) (v := ?_) rfl (by kernel_rfl) (by kernel_rfl) (by kernel_rfl) (fun _ _ _ h => h) (Or.inl ⟨by rfl, ?_⟩) (by assumption) ?_
          rotate_left
          · intro w hSw
            (try dsimp only at hSw)
            go_simp
            (try with_reducible rfl)
          try simp only [Act.put, List.getElem_toArray, List.getElem_cons_zero, List.getElem_cons_succ, List.setIfInBounds_toArray, List.set_cons_zero, List.set_cons_succ]
          refine wpAnyH_take (i := 2) (v := ?_) rfl (by kernel_rfl) (by kernel_rfl) (by kernel_rfl) (fun _ _ _ h => h) (Or.inl ⟨by rfl, ?_⟩) (by assumption) ?_
          rotate_left
          · intro w hSw
            (try dsimp only at hSw)
            go_simp
            (try with_reducible rfl)
          try simp only [Act.put, List.getElem_toArray, List.getElem_cons_zero, List.getElem_cons_succ, List.setIfInBounds_toArray, List.set_cons_zero, List.set_cons_succ]
          refine wpAnyH_take (i := 3) (v := ?_) rfl (by kernel_rfl) (by kernel_rfl) (by kernel_rfl) (fun _ _ _ h => h) (Or.inl ⟨by rfl, ?_⟩) (by assumption) ?_
          rotate_left
          · intro w hSw
            (try dsimp only at hSw)
            go_simp
            (try with_reducible rfl)
          try simp only [Act.put, List.getElem_toArray, List.getElem_cons_zero, List.getElem_cons_succ, List.setIfInBounds_toArray, List.set_cons_zero, List.set_cons_succ]
          refine wpAnyH_take (i := 4) (v := ?_) rfl (by kernel_rfl) (by kernel_rfl) (by kernel_rfl) (fun _ _ _ h => h) (Or.inl ⟨by rfl, ?_⟩) (by assumption) ?_
          rotate_left
          · intro w hSw
            (try dsimp only at hSw)
            go_simp
            (try with_reducible rfl)
          try simp only [Act.put, List.getElem_toArray, List.getElem_cons_zero, List.getElem_cons_succ, List.setIfInBounds_toArray, List.set_cons_zero, List.set_cons_succ]
          refine wpAnyH_take (i := 5) (v := ?_) rfl (by kernel_rfl) (by kernel_rfl) (by kernel_rfl) (fun _ _ _ h => h) (Or.inl ⟨by rfl, ?_⟩) (by assumption) ?_
          rotate_left
          · intro w hSw
            (try dsimp only at hSw)
            go_simp
            (try with_reducible rfl)
          try simp only [Act.put, List.getElem_toArray, List.getElem_cons_zero, List.getElem_cons_succ, List.setIfInBounds_toArray, List.set_cons_zero, List.set_cons_succ]
          refine wpAnyH_take (i := 6) (v := ?_) rfl (by kernel_rfl) (by kernel_rfl) (by kernel_rfl) (fun _ _ _ h => h) (Or.inl ⟨by rfl, ?_⟩) (by assumption) ?_
          rotate_left
          · intro w hSw
            (try dsimp only at hSw)
            go_simp
            (try with_reducible rfl)
          try simp only [Act.put, List.getElem_toArray, List.getElem_cons_zero, List.getElem_cons_succ, List.setIfInBounds_toArray, List.set_cons_zero, List.set_cons_succ]
          refine wpAnyH_take (i := 7) (v := ?_) rfl (by kernel_rfl) (by kernel_rfl) (by kernel_rfl) (fun _ _ _ h => h) (Or.inl ⟨by rfl, ?_⟩) (by assumption) ?_
          rotate_left
          · intro w hSw
            (try dsimp only at hSw)
            go_simp
            (try with_reducible rfl)
          try simp only [Act.put, List.getElem_toArray, List.getElem_cons_zero, List.getElem_cons_succ, List.setIfInBounds_toArray, List.set_cons_zero, List.set_cons_succ]
          refine wpAnyH_take (i := 8) (v := ?_) rfl (by kernel_rfl) (by kernel_rfl) (by kernel_rfl) (fun _ _ _ h => h) (Or.inl ⟨by rfl, ?_⟩) (by assumption) ?_
          rotate_left
          · intro w hSw
            (try dsimp only at hSw)
            go_simp
            (try with_reducible rfl)
          try simp only [Act.put, List.getElem_toArray, List.getElem_cons_zero, List.getElem_cons_succ, List.setIfInBounds_toArray, List.set_cons_zero, List.set_cons_succ]
          refine wpAnyH_take (i := 9) (v := ?_) rfl (by kernel_rfl) (by kernel_rfl) (by kernel_rfl) (fun _ _ _ h => h) (Or.inl ⟨by rfl, ?_⟩) (by assumption) ?_
          rotate_left
          · intro w hSw
            (try dsimp only at hSw)
            go_simp
            (try with_reducible rfl)
          try simp only [Act.put, List.getElem_toArray, List.getElem_cons_zero, List.getElem_cons_succ, List.setIfInBounds_toArray, List.set_cons_zero, List.set_cons_succ]
          refine wpAnyH_ready (rs := [10]) (by kernel_rfl) (by simp) ?_
          refine AllReadyH.cons rfl (fun K hK => ?_) AllReadyH.nil
          go_simp
          refine (memSetWord_far mp g l q _ _ (HM.out.on (HK0.out.trans hHeld.2)).mem HT4.out HL.out).mono ?_
          rintro e v5 ⟨rfl, rfl⟩
          first | show K _ _ | go_wp2_with fail
          refine hK.out _ _ ?_ (fun hHeld1 => ?_)
          · exact hHeld
          clear hK K
          try simp only [Act.put, List.getElem_toArray, List.getElem_cons_zero, List.getElem_cons_succ, List.setIfInBounds_toArray, List.set_cons_zero, List.set_cons_succ]
          refine wpAnyH_take (i := 11) (v := ?_) rfl (by kernel_rfl) (by kernel_rfl) (by kernel_rfl) (fun _ _ _ h => h) (Or.inl ⟨by rfl, ?_⟩) (by assumption) ?_
          rotate_left
          · intro w hSw
            (try dsimp only at hSw)
            go_simp
            (try with_reducible rfl)
          try simp only [Act.put, List.getElem_toArray, List.getElem_cons_zero, List.getElem_cons_succ, List.setIfInBounds_toArray, List.set_cons_zero, List.set_cons_succ]
          refine wpAnyH_done (by kernel_rfl) ?_ _
          have K5 := HK0.out.trans hHeld1.2
          go_wp2_with fail
          go_ret
          exact ⟨rfl, (HM.out.on K5).mem, K5.up⟩
      · have hf' : fitsZ (L.map ZR.z) (kindOf (L.map ZR.z) q) (x % 4294967296) = false := by simpa using hf
        rw [if_neg (by omega), if_neg (by rw [hc]; simp), if_pos hf']
        have HF := Lib.hid hf'
        clear h hreach hq2 k0 h4 hc ha hf hf' hkind hwf
        go_enter Try.func77, Try.ntmps77
        go_wp2_with fail
        refine HR.out.mono ?_
        rintro e w1 ⟨rfl, k1⟩
        have K1 := HK0.out.trans k1
        go_wp2_with fail
        refine (cpuAligned_any _ _).mono ?_
        rintro e w2 ⟨rfl, rfl⟩
        rw [e4]
        go_wp2_with fail
        refine ((HM.out.on K1).canStore q 4).mono ?_
        rintro e w3 ⟨rfl, k3⟩
        rw [HC.out]
        have K3 := Lib.hid (k1.trans k3)
        clear k1 K1 k3
        go_wp2_with fail
        refine wp_region_held_drew (S := fun w' => (w'.cell? ⟨w.heap.size, 1, none⟩ = some (.int .i64 a) ∧ w'.cell? ⟨sp, a, none⟩ = some (.int .i32 (x))) ∧ Kept No (w.alloc (.cells #[.int .i64 o, .int .i64 a, .int .i64 b, .int .i64 c] 86)) w') (by kernel_rfl) ?_ (fun hHeld => ?_)
        · exact HH.out _ K3.out.drew
        refine wpAnyH_take (i := 0) (v := ?_) rfl (by kernel_rfl) (by kernel_rfl) (by kernel_rfl) (fun _ _ _ h => h) (Or.inl ⟨by rfl, ?_⟩) (by assumption) ?_
        rotate_left
        · intro w hSw
          (try dsimp only at hSw)
          go_simp
          (try with_reducible rfl)
        try simp only [Act.put, List.getElem_toArray, List.getElem_cons_zero, List.setIfInBounds_toArray, List.set_cons_zero, List.set_cons_succ]
        refine wpAnyH_take (i := 1) (v := ?_) rfl (by kernel_rfl) (by kernel_rfl) (by kernel_rfl) (fun _ _ _ h => h) (Or.inl ⟨by rfl, ?_⟩) (by assumption) ?_
        rotate_left
        · intro w hSw
          (try dsimp only at hSw)
          go_simp
          (try with_reducible rfl)
        try simp only [Act.put, List.getElem_toArray, List.getElem_cons_zero, List.getElem_cons_succ, List.setIfInBounds_toArray, List.set_cons_zero, List.set_cons_succ]
        refine wpAnyH_take (i := 2) (v := ?_) rfl (by kernel_rfl) (by kernel_rfl) (by kernel_rfl) (fun _ _ _ h => h) (Or.inl ⟨by rfl, ?_⟩) (by assumption) ?_
        rotate_left
        · intro w hSw
          (try dsimp only at hSw)
          go_simp
          (try with_reducible rfl)
        try simp only [Act.put, List.getElem_toArray, List.getElem_cons_zero, List.getElem_cons_succ, List.setIfInBounds_toArray, List.set_cons_zero, List.set_cons_succ]
        refine wpAnyH_take (i := 4) (v := ?_) rfl (by kernel_rfl) (by kernel_rfl) (by kernel_rfl) (fun _ _ _ h => h) (Or.inl ⟨by rfl, ?_⟩) (by assumption) ?_
        rotate_left
        · intro w hSw
          (try dsimp only at hSw)
          go_simp
          (try with_reducible rfl)
        try simp only [Act.put, List.getElem_toArray, List.getElem_cons_zero, List.getElem_cons_succ, List.setIfInBounds_toArray, List.set_cons_zero, List.set_cons_succ]
        refine wpAnyH_take (i := 5) (v := ?_) rfl (by kernel_rfl) (by kernel_rfl) (by kernel_rfl) (fun _ _ _ h => h) (Or.inl ⟨by rfl, ?_⟩) (by assumption) ?_
        rotate_left
        · intro w hSw
          (try dsimp only at hSw)
          go_simp
          (try with_reducible rfl)
        try simp only [Act.put, List.getElem_toArray, List.getElem_cons_zero, List.getElem_cons_succ, List.setIfInBounds_toArray, List.set_cons_zero, List.set_cons_succ]
        refine wpAnyH_take (i := 6) (v := ?_) rfl (by kernel_rfl) (by kernel_rfl) (by kernel_rfl) (fun _ _ _ h => h) (Or.inl ⟨by rfl, ?_⟩) (by assumption) ?_
        rotate_left
        · intro w hSw
          (try dsimp only at hSw)
          go_simp
          (try with_reducible rfl)
        try simp only [Act.put, List.getElem_toArray, List.getElem_cons_zero, List.getElem_cons_succ, List.setIfInBounds_toArray, List.set_cons_zero, List.set_cons_succ]
        refine wpAnyH_take (i := 7) (v := ?_) rfl (by kernel_rfl) (by kernel_rfl) (by kernel_rfl) (fun _ _ _ h => h) (Or.inl ⟨by rfl, ?_⟩) (by assumption) ?_
        rotate_left
        · intro w hSw
          (try dsimp only at hSw)
          go_simp
          (try with_reducible rfl)
        try simp only [Act.put, List.getElem_toArray, List.getElem_cons_zero, List.getElem_cons_succ, List.setIfInBounds_toArray, List.set_cons_zero, List.set_cons_succ]
        refine wpAnyH_take (i := 8) (v := ?_) rfl (by kernel_rfl) (by kernel_rfl) (by kernel_rfl) (fun _ _ _ h => h) (Or.inl ⟨by rfl, ?_⟩) (by assumption) ?_
        rotate_left
        · intro w hSw
          (try dsimp only at hSw)
          go_simp
          (try with_reducible rfl)
        try simp only [Act.put, List.getElem_toArray, List.getElem_cons_zero, List.getElem_cons_succ, List.setIfInBounds_toArray, List.set_cons_zero, List.set_cons_succ]
        refine wpAnyH_take (i := 9) (v := ?_) rfl (by kernel_rfl) (by kernel_rfl) (by kernel_rfl) (fun _ _ _ h => h) (Or.inl ⟨by rfl, ?_⟩) (by assumption) ?_
        rotate_left
        · intro w hSw
          (try dsimp only at hSw)
          go_simp
          (try with_reducible rfl)
        try simp only [Act.put, List.getElem_toArray, List.getElem_cons_zero, List.getElem_cons_succ, List.setIfInBounds_toArray, List.set_cons_zero, List.set_cons_succ]
        refine wpAnyH_take (i := 10) (v := ?_) rfl (by kernel_rfl) (by kernel_rfl) (by kernel_rfl) (fun _ _ _ h => h) (Or.inl ⟨by rfl, ?_⟩) (by assumption) ?_
        rotate_left
        · intro w hSw
          (try dsimp only at hSw)
          go_simp
          (try with_reducible rfl)
        try simp only [Act.put, List.getElem_toArray, List.getElem_cons_zero, List.getElem_cons_succ, List.setIfInBounds_toArray, List.set_cons_zero, List.set_cons_succ]
        refine wpAnyH_ready (rs := [3]) (by kernel_rfl) (by simp) ?_
        refine AllReadyH.cons rfl (fun K hK => ?_) AllReadyH.nil
        go_simp
        refine ((HM.out.on (HK0.out.trans hHeld.2)).cell q HWf.out).mono ?_
        rintro e v1 ⟨rfl, j1⟩
        rw [HKi.out]
        first | show K _ _ | go_wp2_with fail
        refine hK.out _ _ ?_ (fun hHeld1 => ?_)
        · exact HH.out _ (hHeld.2.trans j1)
        clear hK K
        try simp only [Act.put, List.getElem_toArray, List.getElem_cons_zero, List.getElem_cons_succ, List.setIfInBounds_toArray, List.set_cons_zero, List.set_cons_succ]
        refine wpAnyH_ready (rs := [11]) (by kernel_rfl) (by simp) ?_
        refine AllReadyH.cons rfl (fun K hK => ?_) AllReadyH.nil
        go_simp
        refine (place_any _ _).mono ?_
        rintro e v2 ⟨rfl, rfl⟩
        first | show K _ _ | go_wp2_with fail
        refine hK.out _ _ ?_ (fun hHeld2 => ?_)
        · exact hHeld1
        clear hK K
        try simp only [Act.put, List.getElem_toArray, List.getElem_cons_zero, List.getElem_cons_succ, List.setIfInBounds_toArray, List.set_cons_zero, List.set_cons_succ]
        refine wpAnyH_ready (rs := [12]) (by kernel_rfl) (by simp) ?_
        refine AllReadyH.cons rfl (fun K hK => ?_) AllReadyH.nil
        go_simp
        refine ((HM.out.on (HK0.out.trans hHeld2.2)).fits _ _).mono ?_
        rintro e v3 ⟨rfl, j3⟩
        rw [HF.out]
        first | show K _ _ | go_wp2_with fail
        refine hK.out _ _ ?_ (fun hHeld3 => ?_)
        · exact HH.out _ (hHeld2.2.trans j3)
        clear hK K
        try simp only [Act.put, List.getElem_toArray, List.getElem_cons_zero, List.getElem_cons_succ, List.setIfInBounds_toArray, List.set_cons_zero, List.set_cons_succ]
        refine wpAnyH_take (i := 13) (v := ?_) rfl (by kernel_rfl) (by kernel_rfl) (by kernel_rfl) (fun _ _ _ h => h) (Or.inl ⟨by rfl, ?_⟩) (by assumption) ?_
        rotate_left
        · intro w hSw
          (try dsimp only at hSw)
          go_simp
          (try with_reducible rfl)
        try simp only [Act.put, List.getElem_toArray, List.getElem_cons_zero, List.getElem_cons_succ, List.setIfInBounds_toArray, List.set_cons_zero, List.set_cons_succ]
        refine wpAnyH_done (by kernel_rfl) ?_ _
        have K4 := HK0.out.trans hHeld3.2
        clear hHeld hHeld1 hHeld2 hHeld3
        go_wp2_with fail
        go_ret
        exact ⟨rfl, (HM.out.on K4).mem, K4.up⟩
    · have hc' : canStore (L.map ZR.z) q 4 = false := by simpa using hc
      rw [if_neg (by omega), if_pos hc']
      have HC := Lib.hid hc'
      clear h hreach hq2 k0 h4 hc hc' ha hkind hwf
      go_enter Try.func77, Try.ntmps77
      go_wp2_with fail
      refine HR.out.mono ?_
      rintro e w1 ⟨rfl, k1⟩
      have K1 := HK0.out.trans k1
      go_wp2_with fail
      refine (cpuAligned_any _ _).mono ?_
      rintro e w2 ⟨rfl, rfl⟩
      rw [e4]
      go_wp2_with fail
      refine ((HM.out.on K1).canStore q 4).mono ?_
      rintro e w3 ⟨rfl, k3⟩
      rw [HC.out]
      have K3 := Lib.hid (K1.trans k3)
      clear k1 K1 k3
      go_wp2_with fail
      go_ret
      exact ⟨rfl, (HM.out.on K3.out).mem, K3.out.up⟩
  · rw [if_pos (by omega)]
    have e4 : ((q : Int).tmod 4 == 0) = false := by rw [tmod4]; simp [h4]
    clear h hreach hq2 k0 h4 ha hwf
    go_enter Try.func77, Try.ntmps77
    go_wp2_with fail
    refine HR.out.mono ?_
    rintro e w1 ⟨rfl, k1⟩
    have K1 := HK0.out.trans k1
    go_wp2_with fail
    refine (cpuAligned_any _ _).mono ?_
    rintro e w2 ⟨rfl, rfl⟩
    rw [e4]
    go_wp2_with fail
    go_ret
    exact ⟨rfl, (HM.out.on K1).mem, K1.up⟩
end Go.Proofs.Yticancimnhnhbaa

/-
  A machine of package cpu: what StorB, and the operations of package alu, do to it (layer 7). No conditions beyond those that each theorem names.
-/
namespace Go.Proofs.Yticancimnhnhbaa
open Go.ChangeShapes Go.WideShapes Go.ChangeAt Go.RowKit

theorem MemAt.setB {w : World} {p g : Nat} {l : List Nat} (h : MemAt w p g l) (q y : Nat) (hy : y < 256) : MemAt (w.setCell ⟨g, q, none⟩ (.int .u8 (y : Int))) p g (l.set q y) := by
  have k : Kept (· = g) w (w.setCell ⟨g, q, none⟩ (.int .u8 (y : Int))) := kept_set w g q _
  refine ⟨?_, h.row.setCell q y hy, h.apart, by rw [List.length_set]; exact h.small⟩
  rw [List.length_set]
  exact k.block h.head h.apart

set_option maxRecDepth 100000 in
set_option maxHeartbeats 1000000 in
theorem storeByte_any {w : World} {sp mp g zp mb : Nat} {lv : Value} {L : List ZR} {n : Nat} {r : List Int} {p : Int} {l : List Nat} (h : Mach w sp mp g zp mb lv L n r p l) (o c : Int) {a b : Nat} (ha : a < 16) (hb : b < 16) :
    Calls Try.prog 79 #[.pointer (some ⟨sp, 0, none⟩), .agg #[.int .i64 o, .int .i64 a, .int .i64 b, .int .i64 c], .pointer (some ⟨mp, 0, none⟩), .pointer (some ⟨zp, 0, none⟩)] w fun e w' =>
      e = .returned (.int .i64 (storeB (L.map ZR.z) r l a b c).1) ∧ MemAt w' mp g (storeB (L.map ZR.z) r l a b c).2 ∧ Kept (· = g) w w' := by
  have HM := Lib.hid h
  have HG := Lib.hid h.ne.1
  have k0 : Kept No w (w.alloc (.cells #[.int .i64 o, .int .i64 a, .int .i64 b, .int .i64 c] 86)) := (Kept.refl _ _).alloc _
  have hreach := (h.on k0).reach o a c hb
  obtain ⟨q, hq⟩ : ∃ q : Nat, ((r.getD b 0 + c) % 4294967296).toNat = q := ⟨_, rfl⟩
  have hq2 : (r.getD b 0 + c) % 4294967296 = (q : Int) := by omega
  have hlw : q < 4294967296 := by omega
  rw [hq2] at hreach
  have HR := Lib.hid hreach
  have HK0 := Lib.hid k0
  have HA := Lib.hid ha
  have HH := Lib.hid (fun v k => h.held (o := o) (c := c) (b := (b : Int)) (v := v) ha k)
  have hwf : (Lit.int .i64 (q : Int)).wf = true := WalkArith.wf_i64 (by omega)
  have HWf := Lib.hid hwf
  have i1 : (a : Int) < 16 := by omega
  have i2 : (0 : Int) ≤ (a : Int) := by omega
  obtain ⟨x, hx⟩ : ∃ x, r.getD a 0 = x := ⟨_, rfl⟩
  rw [hx] at HH
  unfold storeB
  simp only [hq, hx]
  clear hq hx
  obtain ⟨kd, hkd⟩ : ∃ kd, kindOf (L.map ZR.z) ((q : Int) - (q : Int) % 4) = kd := ⟨_, rfl⟩
  rw [hkd]
  by_cases hc : canStore (L.map ZR.z) q 1 = true
  · have HC := Lib.hid hc
    have HKD := Lib.hid hkd
    by_cases hk : kd = 0
    · have hkn : (kd != 0) = false := by simp [hk]
      have HKN := Lib.hid hkn
      have HKE := Lib.hid hk
      by_cases hl : q + 1 ≤ l.length
      · rw [if_neg (by rw [hc]; simp), if_neg (by simp [hk]), if_neg (by omega)]
        have HS : Hid (∀ v, Kept No w v → Calls Try.prog 96 #[.pointer (some ⟨mp, 0, none⟩), .int .i64 q, .int .u8 (x % 256)] v fun e w' => e = .returned (.int .i64 0) ∧ MemAt w' mp g (l.set q (x % 256).toNat) ∧ Kept (· = g) v w') := fun v k => by
          have := memSetByte_yes mp g l q (x % 256).toNat v (h.on k).mem (by omega)
          have e : (((x % 256).toNat : Nat) : Int) = x % 256 := by omega
          rw [e] at this
          refine this.mono ?_
          rintro _ _ ⟨rfl, rfl⟩
          have hs := (h.on k).mem.setB q (x % 256).toNat (by omega)
          rw [e] at hs
          exact ⟨rfl, hs, kept_set _ _ _ _⟩
        clear h hreach hq2 k0 hc hl ha hwf hkd hkn hk
        go_enter Try.func79, Try.ntmps79
        go_wp2_with fail
        refine HR.out.mono ?_
        rintro e w1 ⟨rfl, k1⟩
        have K1 := HK0.out.trans k1
        go_wp2_with fail
        refine ((HM.out.on K1).canStore q 1).mono ?_
        rintro e w3 ⟨rfl, k3⟩
        rw [HC.out]
        have K3 := Lib.hid (k1.trans k3)
        clear k1 K1 k3
        go_wp2_with fail
        refine ((HM.out.on (HK0.out.trans K3.out)).cell q HWf.out).mono ?_
        rintro e w4 ⟨rfl, k4⟩
        rw [HKD.out]
        have K4 := Lib.hid (K3.out.trans k4)
        have hkn := HKN.out
        clear k4
        go_wp2_with fail
        refine wp_region_held_drew (S := fun w' => w'.cell? ⟨w.heap.size, 1, none⟩ = some (.int .i64 a) ∧ w'.cell? ⟨sp, a, none⟩ = some (.int .i32 x)) (by kernel_rfl) ?_ (fun hHeld => ?_)
        · exact (HH.out _ K4.out.drew).1
        refine wpAnyH_take (i := 0) (v := ?_) rfl (by kernel_rfl) (by kernel_rfl) (by kernel_rfl) (fun _ _ _ h => h) (Or.inl ⟨by rfl, ?_⟩) (by assumption) ?_
        rotate_left
        · intro w hSw
          (try dsimp only at hSw)
          go_simp
          (try with_reducible rfl)
        try simp only [Act.put, List.getElem_toArray, List.getElem_cons_zero, List.setIfInBounds_toArray, List.set_cons_zero, List.set_cons_succ]
        refine wpAnyH_take (i := 1) (v := ?_) rfl (by kernel_rfl) (by kernel_rfl) (by kernel_rfl) (fun _ _ _ h => h) (Or.inl ⟨by rfl, ?_⟩) (by assumption) ?_
        rotate_left
        · intro w hSw
          (try dsimp only at hSw)
          go_simp
          (try with_reducible rfl)
        try simp only [Act.put, List.getElem_toArray, List.getElem_cons_zero, List.getElem_cons_succ, List.setIfInBounds_toArray, List.set_cons_zero, List.set_cons_succ]
        refine wpAnyH_take (i := 2) (v := ?_) rfl (by kernel_rfl) (by kernel_rfl) (by kernel_rfl) (fun _ _ _ h => h) (Or.inl ⟨by rfl, ?_⟩) (by assumption) ?_
        rotate_left
        · intro w hSw
          (try dsimp only at hSw)
          go_simp
          (try with_reducible rfl)
        try simp only [Act.put, List.getElem_toArray, List.getElem_cons_zero, List.getElem_cons_succ, List.setIfInBounds_toArray, List.set_cons_zero, List.set_cons_succ]
        refine wpAnyH_take (i := 3) (v := ?_) rfl (by kernel_rfl) (by kernel_rfl) (by kernel_rfl) (fun _ _ _ h => h) (Or.inl ⟨by rfl, ?_⟩) (by assumption) ?_
        rotate_left
        · intro w hSw
          (try dsimp only at hSw)
          go_simp
          (try with_reducible rfl)
        try simp only [Act.put, List.getElem_toArray, List.getElem_cons_zero, List.getElem_cons_succ, List.setIfInBounds_toArray, List.set_cons_zero, List.set_cons_succ]
        refine wpAnyH_take (i := 4) (v := ?_) rfl (by kernel_rfl) (by kernel_rfl) (by kernel_rfl) (fun _ _ _ h => h) (Or.inl ⟨by rfl, ?_⟩) (by assumption) ?_
        rotate_left
        · intro w hSw
          (try dsimp only at hSw)
          go_simp
          (try with_reducible rfl)
        try simp only [Act.put, List.getElem_toArray, List.getElem_cons_zero, List.getElem_cons_succ, List.setIfInBounds_toArray, List.set_cons_zero, List.set_cons_succ]
        refine wpAnyH_take (i := 5) (v := ?_) rfl (by kernel_rfl) (by kernel_rfl) (by kernel_rfl) (fun _ _ _ h => h) (Or.inl ⟨by rfl, ?_⟩) (by assumption) ?_
        rotate_left
        · intro w hSw
          (try dsimp only at hSw)
          go_simp
          (try with_reducible rfl)
        try simp only [Act.put, List.getElem_toArray, List.getElem_cons_zero, List.getElem_cons_succ, List.setIfInBounds_toArray, List.set_cons_zero, List.set_cons_succ]
        refine wpAnyH_take (i := 6) (v := ?_) rfl (by kernel_rfl) (by kernel_rfl) (by kernel_rfl) (fun _ _ _ h => h) (Or.inl ⟨by rfl, ?_⟩) (by assumption) ?_
        rotate_left
        · intro w hSw
          (try dsimp only at hSw)
          go_simp
          (try with_reducible rfl)
        try simp only [Act.put, List.getElem_toArray, List.getElem_cons_zero, List.getElem_cons_succ, List.setIfInBounds_toArray, List.set_cons_zero, List.set_cons_succ]
        refine wpAnyH_take (i := 7) (v := ?_) rfl (by kernel_rfl) (by kernel_rfl) (by kernel_rfl) (fun _ _ _ h => h) (Or.inl ⟨by rfl, ?_⟩) (by assumption) ?_
        rotate_left
        · intro w hSw
          (try dsimp only at hSw)
          go_simp
          (try with_reducible rfl)
        try simp only [Act.put, List.getElem_toArray, List.getElem_cons_zero, List.getElem_cons_succ, List.setIfInBounds_toArray, List.set_cons_zero, List.set_cons_succ]
        refine wpAnyH_take (i := 8) (v := ?_) rfl (by kernel_rfl) (by kernel_rfl) (by kernel_rfl) (fun _ _ _ h => h) (Or.inl ⟨by rfl, ?_⟩) (by assumption) ?_
        rotate_left
        · intro w hSw
          (try dsimp only at hSw)
          go_simp
          (try with_reducible rfl)
        try simp only [Act.put, List.getElem_toArray, List.getElem_cons_zero, List.getElem_cons_succ, List.setIfInBounds_toArray, List.set_cons_zero, List.set_cons_succ]
        refine wpAnyH_take (i := 9) (v := ?_) rfl (by kernel_rfl) (by kernel_rfl) (by kernel_rfl) (fun _ _ _ h => h) (Or.inl ⟨by rfl, ?_⟩) (by assumption) ?_
        rotate_left
        · intro w hSw
          (try dsimp only at hSw)
          go_simp
          (try with_reducible rfl)
        try simp only [Act.put, List.getElem_toArray, List.getElem_cons_zero, List.getElem_cons_succ, List.setIfInBounds_toArray, List.set_cons_zero, List.set_cons_succ]
        refine wpAnyH_ready (rs := [10]) (by kernel_rfl) (by simp) ?_
        refine AllReadyH.cons rfl (fun K hK => ?_) AllReadyH.nil
        go_simp
        refine (HS.out _ (HK0.out.trans K4.out.drew)).mono ?_
        rintro e v5 ⟨rfl, m5, j5⟩
        first | show K _ _ | go_wp2_with fail
        refine hK.out _ _ ?_ (fun hHeld1 => ?_)
        · exact ⟨(j5.cell (p := ⟨_, _, none⟩) (cell_lt hHeld.1) (fun e => by have := m5.row.lt; have := HM.out.mem.row.lt; simp only at e; omega)).trans hHeld.1, (j5.cell (p := ⟨_, _, none⟩) (cell_lt hHeld.2) (fun e => HG.out e)).trans hHeld.2⟩
        clear hK K
        try simp only [Act.put, List.getElem_toArray, List.getElem_cons_zero, List.getElem_cons_succ, List.setIfInBounds_toArray, List.set_cons_zero, List.set_cons_succ]
        refine wpAnyH_take (i := 11) (v := ?_) rfl (by kernel_rfl) (by kernel_rfl) (by kernel_rfl) (fun _ _ _ h => h) (Or.inl ⟨by rfl, ?_⟩) (by assumption) ?_
        rotate_left
        · intro w hSw
          (try dsimp only at hSw)
          go_simp
          (try with_reducible rfl)
        try simp only [Act.put, List.getElem_toArray, List.getElem_cons_zero, List.getElem_cons_succ, List.setIfInBounds_toArray, List.set_cons_zero, List.set_cons_succ]
        refine wpAnyH_done (by kernel_rfl) ?_ _
        go_wp2_with fail
        go_ret
        exact ⟨rfl, m5, ((HK0.out.trans K4.out.drew).up (S := (· = g))).trans j5⟩
      · rw [if_neg (by rw [hc]; simp), if_neg (by simp [hk]), if_pos (by omega)]
        have HL : Hid ((q : Int) < 0 ∨ (l.length : Int) ≤ q) := by show _ ∨ _; omega
        clear h hreach hq2 k0 hc hl ha hwf hkd hkn hk
        go_enter Try.func79, Try.ntmps79
        go_wp2_with fail
        refine HR.out.mono ?_
        rintro e w1 ⟨rfl, k1⟩
        have K1 := HK0.out.trans k1
        go_wp2_with fail
        refine ((HM.out.on K1).canStore q 1).mono ?_
        rintro e w3 ⟨rfl, k3⟩
        rw [HC.out]
        have K3 := Lib.hid (k1.trans k3)
        clear k1 K1 k3
        go_wp2_with fail
        refine ((HM.out.on (HK0.out.trans K3.out)).cell q HWf.out).mono ?_
        rintro e w4 ⟨rfl, k4⟩
        rw [HKD.out]
        have K4 := Lib.hid (K3.out.trans k4)
        have hkn := HKN.out
        clear k4
        go_wp2_with fail
        refine wp_region_held_drew (S := fun w' => (w'.cell? ⟨w.heap.size, 1, none⟩ = some (.int .i64 a) ∧ w'.cell? ⟨sp, a, none⟩ = some (.int .i32 (x))) ∧ Kept No (w.alloc (.cells #[.int .i64 o, .int .i64 a, .int .i64 b, .int .i64 c] 86)) w') (by kernel_rfl) ?_ (fun hHeld => ?_)
        · exact HH.out _ K4.out.drew
        refine wpAnyH_take (i := 0) (v := ?_) rfl (by kernel_rfl) (by kernel_rfl) (by kernel_rfl) (fun _ _ _ h => h) (Or.inl ⟨by rfl, ?_⟩) (by assumption) ?_
        rotate_left
        · intro w hSw
          (try dsimp only at hSw)
          go_simp
          (try with_reducible rfl)
        try simp only [Act.put, List.getElem_toArray, List.getElem_cons_zero, List.setIfInBounds_toArray, List.set_cons_zero, List.set_cons_succ]
        refine wpAnyH_take (i := 1) (v := ?_) rfl (by kernel_rfl) (by kernel_rfl) (by kernel_rfl) (fun _ _ _ h => h) (Or.inl ⟨by rfl, ?_⟩) (by assumption) ?_
        rotate_left
        · intro w hSw
          (try dsimp only at hSw)
          go_simp
          (try with_reducible rfl)
        try simp only [Act.put, List.getElem_toArray, List.getElem_cons_zero, List.getElem_cons_succ, List.setIfInBounds_toArray, List.set_cons_zero, List.set_cons_succ]
        refine wpAnyH_take (i := 2) (v := ?_) rfl (by kernel_rfl) (by kernel_rfl) (by kernel_rfl) (fun _ _ _ h => h) (Or.inl ⟨by rfl, ?_⟩) (by assumption) ?_
        rotate_left
        · intro w hSw
          (try dsimp only at hSw)
          go_simp
          (try with_reducible rfl)
        try simp only [Act.put, List.getElem_toArray, List.getElem_cons_zero, List.getElem_cons_succ, List.setIfInBounds_toArray, List.set_cons_zero, List.set_cons_succ]
        refine wpAnyH_take (i := 3) (v := ?_) rfl (by kernel_rfl) (by kernel_rfl) (by kernel_rfl) (fun _ _ _ h => h) (Or.inl ⟨by rfl, ?_⟩) (by assumption) ?_
        rotate_left
        · intro w hSw
          (try dsimp only at hSw)
          go_simp
          (try with_reducible rfl)
        try simp only [Act.put, List.getElem_toArray, List.getElem_cons_zero, List.getElem_cons_succ, List.setIfInBounds_toArray, List.set_cons_zero, List.set_cons_succ]
        refine wpAnyH_take (i := 4) (v := ?_) rfl (by kernel_rfl) (by kernel_rfl) (by kernel_rfl) (fun _ _ _ h => h) (Or.inl ⟨by rfl, ?_⟩) (by assumption) ?_
        rotate_left
        · intro w hSw
          (try dsimp only at hSw)
          go_simp
          (try with_reducible rfl)
        try simp only [Act.put, List.getElem_toArray, List.getElem_cons_zero, List.getElem_cons_succ, List.setIfInBounds_toArray, List.set_cons_zero, List.set_cons_succ]
        refine wpAnyH_take (i := 5) (v := ?_) rfl (by kernel_rfl) (by kernel_rfl) (by kernel_rfl) (fun _ _ _ h => h) (Or.inl ⟨by rfl, ?_⟩) (by assumption) ?_
        rotate_left
        · intro w hSw
          (try dsimp only at hSw)
          go_simp
          (try with_reducible rfl)
        try simp only [Act.put, List.getElem_toArray, List.getElem_cons_zero, List.getElem_cons_succ, List.setIfInBounds_toArray, List.set_cons_zero, List.set_cons_succ]
        refine wpAnyH_take (i := 6) (v := ?_) rfl (by kernel_rfl) (by kernel_rfl) (by kernel_rfl) (fun _ _ _ h => h) (Or.inl ⟨by rfl, ?_⟩) (by assumption) ?_
        rotate_left
        · intro w hSw
          (try dsimp only at hSw)
          go_simp
          (try with_reducible rfl)
        try simp only [Act.put, List.getElem_toArray, List.getElem_cons_zero, List.getElem_cons_succ, List.setIfInBounds_toArray, List.set_cons_zero, List.set_cons_succ]
        refine wpAnyH_take (i := 7) (v := ?_) rfl (by kernel_rfl) (by kernel_rfl) (by kernel_rfl) (fun _ _ _ h => h) (Or.inl ⟨by rfl, ?_⟩) (by assumption) ?_
        rotate_left
        · intro w hSw
          (try dsimp only at hSw)
          go_simp
          (try with_reducible rfl)
        try simp only [Act.put, List.getElem_toArray, List.getElem_cons_zero, List.getElem_cons_succ, List.setIfInBounds_toArray, List.set_cons_zero, List.set_cons_succ]
        refine wpAnyH_take (i := 8) (v := ?_) rfl (by kernel_rfl) (by kernel_rfl) (by kernel_rfl) (fun _ _ _ h => h) (Or.inl ⟨by rfl, ?_⟩) (by assumption) ?_
        rotate_left
        · intro w hSw
          (try dsimp only at hSw)
          go_simp
          (try with_reducible rfl)
        try simp only [Act.put, List.getElem_toArray, List.getElem_cons_zero, List.getElem_cons_succ, List.setIfInBounds_toArray, List.set_cons_zero, List.set_cons_succ]
        refine wpAnyH_take (i := 9) (v := ?_) rfl (by kernel_rfl) (by kernel_rfl) (by kernel_rfl) (fun _ _ _ h => h) (Or.inl ⟨by rfl, ?_⟩) (by assumption) ?_
        rotate_left
        · intro w hSw
          (try dsimp only at hSw)
          go_simp
          (try with_reducible rfl)
        try simp only [Act.put, List.getElem_toArray, List.getElem_cons_zero, List.getElem_cons_succ, List.setIfInBounds_toArray, List.set_cons_zero, List.set_cons_succ]
        refine wpAnyH_ready (rs := [10]) (by kernel_rfl) (by simp) ?_
        refine AllReadyH.cons rfl (fun K hK => ?_) AllReadyH.nil
        go_simp
        refine (memSetByte_no mp g l q _ _ (HM.out.on (HK0.out.trans hHeld.2)).mem HL.out).mono ?_
        rintro e v5 ⟨rfl, rfl⟩
        first | show K _ _ | go_wp2_with fail
        refine hK.out _ _ ?_ (fun hHeld1 => ?_)
        · exact hHeld
        clear hK K
        try simp only [Act.put, List.getElem_toArray, List.getElem_cons_zero, List.getElem_cons_succ, List.setIfInBounds_toArray, List.set_cons_zero, List.set_cons_succ]
        refine wpAnyH_take (i := 11) (v := ?_) rfl (by kernel_rfl) (by kernel_rfl) (by kernel_rfl) (fun _ _ _ h => h) (Or.inl ⟨by rfl, ?_⟩) (by assumption) ?_
        rotate_left
        · intro w hSw
          (try dsimp only at hSw)
          go_simp
          (try with_reducible rfl)
        try simp only [Act.put, List.getElem_toArray, List.getElem_cons_zero, List.getElem_cons_succ, List.setIfInBounds_toArray, List.set_cons_zero, List.set_cons_succ]
        refine wpAnyH_done (by kernel_rfl) ?_ _
        have K5 := HK0.out.trans hHeld1.2
        go_wp2_with fail
        go_ret
        exact ⟨rfl, (HM.out.on K5).mem, K5.up⟩
    · have hkn : (kd != 0) = true := by simp [hk]
      have HKN := Lib.hid hkn
      rw [if_neg (by rw [hc]; simp), if_pos (by simp [hk])]
      clear h hreach hq2 k0 hc ha hwf hkd hkn hk
      go_enter Try.func79, Try.ntmps79
      go_wp2_with fail
      refine HR.out.mono ?_
      rintro e w1 ⟨rfl, k1⟩
      have K1 := HK0.out.trans k1
      go_wp2_with fail
      refine ((HM.out.on K1).canStore q 1).mono ?_
      rintro e w3 ⟨rfl, k3⟩
      rw [HC.out]
      have K3 := Lib.hid (k1.trans k3)
      clear k1 K1 k3
      go_wp2_with fail
      refine ((HM.out.on (HK0.out.trans K3.out)).cell q HWf.out).mono ?_
      rintro e w4 ⟨rfl, k4⟩
      rw [HKD.out]
      have K4 := Lib.hid (K3.out.trans k4)
      have hkn := HKN.out
      clear k4
      go_wp2_with fail
      go_ret
      exact ⟨rfl, (HM.out.on (HK0.out.trans K4.out)).mem, (HK0.out.trans K4.out).up⟩
  · have hc' : canStore (L.map ZR.z) q 1 = false := by simpa using hc
    rw [if_pos hc']
    have HC := Lib.hid hc'
    clear h hreach hq2 k0 hc hc' ha hwf hkd
    go_enter Try.func79, Try.ntmps79
    go_wp2_with fail
    refine HR.out.mono ?_
    rintro e w1 ⟨rfl, k1⟩
    have K1 := HK0.out.trans k1
    go_wp2_with fail
    refine ((HM.out.on K1).canStore q 1).mono ?_
    rintro e w3 ⟨rfl, k3⟩
    rw [HC.out]
    have K3 := Lib.hid (K1.trans k3)
    clear k1 K1 k3
    go_wp2_with fail
    go_ret
    exact ⟨rfl, (HM.out.on K3.out).mem, K3.out.up⟩

/- what an operation of package alu comes to: a trap, registers -/
def reckonOf (r : List Int) (o : Int) (a b m : Nat) : Int × List Int :=
  if aluT o (r.getD m 0) = 0 then (0, r.set a (aluV o (r.getD b 0) (r.getD m 0))) else (aluT o (r.getD m 0), r)

theorem Mach.held4 {w v : World} {sp mp g zp mb : Nat} {lv : Value} {L : List ZR} {n : Nat} {r : List Int} {p : Int} {l : List Nat} (h : Mach w sp mp g zp mb lv L n r p l) {o : Int} {a b m : Nat} (hb : b < 16) (hm : m < 16)
    (k : Kept No (w.alloc (.cells #[.int .i64 o, .int .i64 a, .int .i64 b, .int .i64 m] 86)) v) :
    (v.cell? ⟨w.heap.size, 0, none⟩ = some (.int .i64 o) ∧ v.cell? ⟨w.heap.size, 1, none⟩ = some (.int .i64 a) ∧ v.cell? ⟨w.heap.size, 2, none⟩ = some (.int .i64 b) ∧ v.cell? ⟨w.heap.size, 3, none⟩ = some (.int .i64 m) ∧ v.cell? ⟨sp, b, none⟩ = some (.int .i32 (r.getD b 0)) ∧ v.cell? ⟨sp, m, none⟩ = some (.int .i32 (r.getD m 0))) ∧ Kept No (w.alloc (.cells #[.int .i64 o, .int .i64 a, .int .i64 b, .int .i64 m] 86)) v :=
  have q := box_cells k
  ⟨⟨q.1, q.2.1, q.2.2.1, q.2.2.2, (h.on (((Kept.refl _ _).alloc _).trans k)).st.reg h.rl hb, (h.on (((Kept.refl _ _).alloc _).trans k)).st.reg h.rl hm⟩, k⟩

set_option maxRecDepth 100000 in
set_option maxHeartbeats 1000000 in
theorem reckon_any {w : World} {sp mp g zp mb : Nat} {lv : Value} {L : List ZR} {n : Nat} {r : List Int} {p : Int} {l : List Nat} (h : Mach w sp mp g zp mb lv L n r p l) (o : Int) {a b m : Nat} (ha : a < 16) (hb : b < 16) (hm : m < 16) (h1 : 2 ≤ o) (h2 : o ≤ 10) :
    Calls Try.prog 83 #[.pointer (some ⟨sp, 0, none⟩), .agg #[.int .i64 o, .int .i64 a, .int .i64 b, .int .i64 m]] w fun e w' =>
      e = .returned (.int .i64 (reckonOf r o a b m).1) ∧ RowAt w' sp ST (cst (reckonOf r o a b m).2 p) ∧ Kept (· = sp) w w' := by
  have HM := Lib.hid h
  have k0 : Kept No w (w.alloc (.cells #[.int .i64 o, .int .i64 a, .int .i64 b, .int .i64 m] 86)) := (Kept.refl _ _).alloc _
  have HK0 := Lib.hid k0
  have HA := Lib.hid ha
  have HH := Lib.hid (fun v k => h.held4 (o := o) (a := a) (v := v) hb hm k)
  obtain ⟨x, hx⟩ : ∃ x, r.getD b 0 = x := ⟨_, rfl⟩
  obtain ⟨y, hy⟩ : ∃ y, r.getD m 0 = y := ⟨_, rfl⟩
  rw [hx, hy] at HH
  unfold reckonOf
  rw [hx, hy]
  have HDo := Lib.hid (fun v => do_any o x y v h1 h2)
  have i1 : (a : Int) < 16 := by omega
  have i2 : (0 : Int) ≤ (a : Int) := by omega
  have i3 : (b : Int) < 16 := by omega
  have i4 : (0 : Int) ≤ (b : Int) := by omega
  have i5 : (m : Int) < 16 := by omega
  have i6 : (0 : Int) ≤ (m : Int) := by omega
  generalize aluV o x y = z at *
  by_cases ht : aluT o y = 0
  · rw [if_pos ht]
    rw [ht] at HDo
    clear h k0 ha hb hm ht h1 h2 hx hy
    go_enter Try.func83, Try.ntmps83
    go_wp2_with fail
    refine wp_region_held_drew (S := fun w' => (w'.cell? ⟨w.heap.size, 0, none⟩ = some (.int .i64 o) ∧ w'.cell? ⟨w.heap.size, 1, none⟩ = some (.int .i64 a) ∧ w'.cell? ⟨w.heap.size, 2, none⟩ = some (.int .i64 b) ∧ w'.cell? ⟨w.heap.size, 3, none⟩ = some (.int .i64 m) ∧ w'.cell? ⟨sp, b, none⟩ = some (.int .i32 x) ∧ w'.cell? ⟨sp, m, none⟩ = some (.int .i32 y)) ∧ Kept No (w.alloc (.cells #[.int .i64 o, .int .i64 a, .int .i64 b, .int .i64 m] 86)) w') (by kernel_rfl) ?_ (fun hHeld => ?_)
    · exact HH.out _ (Kept.refl _ _).drew
    refine wpAnyH_take (i := 0) (v := ?_) rfl (by kernel_rfl) (by kernel_rfl) (by kernel_rfl) (fun _ _ _ h => h) (Or.inl ⟨by rfl, ?_⟩) (by assumption) ?_
    rotate_left
    · intro w hSw
      (try dsimp only at hSw)
      go_simp
      (try with_reducible rfl)
    try simp only [Act.put, List.getElem_toArray, List.getElem_cons_zero, List.setIfInBounds_toArray, List.set_cons_zero, List.set_cons_succ]
    refine wpAnyH_take (i := 1) (v := ?_) rfl (by kernel_rfl) (by kernel_rfl) (by kernel_rfl) (fun _ _ _ h => h) (Or.inl ⟨by rfl, ?_⟩) (by assumption) ?_
    rotate_left
    · intro w hSw
      (try dsimp only at hSw)
      go_simp
      (try with_reducible rfl)
    try simp only [Act.put, List.getElem_toArray, List.getElem_cons_zero, List.getElem_cons_succ, List.setIfInBounds_toArray, List.set_cons_zero, List.set_cons_succ]
    refine wpAnyH_take (i := 2) (v := ?_) rfl (by kernel_rfl) (by kernel_rfl) (by kernel_rfl) (fun _ _ _ h => h) (Or.inl ⟨by rfl, ?_⟩) (by assumption) ?_
    rotate_left
    · intro w hSw
      (try dsimp only at hSw)
      go_simp
      (try with_reducible rfl)
    try simp only [Act.put, List.getElem_toArray, List.getElem_cons_zero, List.getElem_cons_succ, List.setIfInBounds_toArray, List.set_cons_zero, List.set_cons_succ]
    refine wpAnyH_take (i := 3) (v := ?_) rfl (by kernel_rfl) (by kernel_rfl) (by kernel_rfl) (fun _ _ _ h => h) (Or.inl ⟨by rfl, ?_⟩) (by assumption) ?_
    rotate_left
    · intro w hSw
      (try dsimp only at hSw)
      go_simp
      (try with_reducible rfl)
    try simp only [Act.put, List.getElem_toArray, List.getElem_cons_zero, List.getElem_cons_succ, List.setIfInBounds_toArray, List.set_cons_zero, List.set_cons_succ]
    refine wpAnyH_take (i := 4) (v := ?_) rfl (by kernel_rfl) (by kernel_rfl) (by kernel_rfl) (fun _ _ _ h => h) (Or.inl ⟨by rfl, ?_⟩) (by assumption) ?_
    rotate_left
    · intro w hSw
      (try dsimp only at hSw)
      go_simp
      (try with_reducible rfl)
    try simp only [Act.put, List.getElem_toArray, List.getElem_cons_zero, List.getElem_cons_succ, List.setIfInBounds_toArray, List.set_cons_zero, List.set_cons_succ]
    refine wpAnyH_take (i := 5) (v := ?_) rfl (by kernel_rfl) (by kernel_rfl) (by kernel_rfl) (fun _ _ _ h => h) (Or.inl ⟨by rfl, ?_⟩) (by assumption) ?_
    rotate_left
    · intro w hSw
      (try dsimp only at hSw)
      go_simp
      (try with_reducible rfl)
    try simp only [Act.put, List.getElem_toArray, List.getElem_cons_zero, List.getElem_cons_succ, List.setIfInBounds_toArray, List.set_cons_zero, List.set_cons_succ]
    refine wpAnyH_take (i := 6) (v := ?_) rfl (by kernel_rfl) (by kernel_rfl) (by kernel_rfl) (fun _ _ _ h => h) (Or.inl ⟨by rfl, ?_⟩) (by assumption) ?_
    rotate_left
    · intro w hSw
      (try dsimp only at hSw)
      go_simp
      (try with_reducible rfl)
    try simp only [Act.put, List.getElem_toArray, List.getElem_cons_zero, List.getElem_cons_succ, List.setIfInBounds_toArray, List.set_cons_zero, List.set_cons_succ]
    refine wpAnyH_take (i := 7) (v := ?_) rfl (by kernel_rfl) (by kernel_rfl) (by kernel_rfl) (fun _ _ _ h => h) (Or.inl ⟨by rfl, ?_⟩) (by assumption) ?_
    rotate_left
    · intro w hSw
      (try dsimp only at hSw)
      go_simp
      (try with_reducible rfl)
    try simp only [Act.put, List.getElem_toArray, List.getElem_cons_zero, List.getElem_cons_succ, List.setIfInBounds_toArray, List.set_cons_zero, List.set_cons_succ]
    refine wpAnyH_take (i := 8) (v := ?_) rfl (by kernel_rfl) (by kernel_rfl) (by kernel_rfl) (fun _ _ _ h => h) (Or.inl ⟨by rfl, ?_⟩) (by assumption) ?_
    rotate_left
    · intro w hSw
      (try dsimp only at hSw)
      go_simp
      (try with_reducible rfl)
    try simp only [Act.put, List.getElem_toArray, List.getElem_cons_zero, List.getElem_cons_succ, List.setIfInBounds_toArray, List.set_cons_zero, List.set_cons_succ]
    refine wpAnyH_take (i := 9) (v := ?_) rfl (by kernel_rfl) (by kernel_rfl) (by kernel_rfl) (fun _ _ _ h => h) (Or.inl ⟨by rfl, ?_⟩) (by assumption) ?_
    rotate_left
    · intro w hSw
      (try dsimp only at hSw)
      go_simp
      (try with_reducible rfl)
    try simp only [Act.put, List.getElem_toArray, List.getElem_cons_zero, List.getElem_cons_succ, List.setIfInBounds_toArray, List.set_cons_zero, List.set_cons_succ]
    refine wpAnyH_take (i := 10) (v := ?_) rfl (by kernel_rfl) (by kernel_rfl) (by kernel_rfl) (fun _ _ _ h => h) (Or.inl ⟨by rfl, ?_⟩) (by assumption) ?_
    rotate_left
    · intro w hSw
      (try dsimp only at hSw)
      go_simp
      (try with_reducible rfl)
    try simp only [Act.put, List.getElem_toArray, List.getElem_cons_zero, List.getElem_cons_succ, List.setIfInBounds_toArray, List.set_cons_zero, List.set_cons_succ]
    refine wpAnyH_take (i := 11) (v := ?_) rfl (by kernel_rfl) (by kernel_rfl) (by kernel_rfl) (fun _ _ _ h => h) (Or.inl ⟨by rfl, ?_⟩) (by assumption) ?_
    rotate_left
    · intro w hSw
      (try dsimp only at hSw)
      go_simp
      (try with_reducible rfl)
    try simp only [Act.put, List.getElem_toArray, List.getElem_cons_zero, List.getElem_cons_succ, List.setIfInBounds_toArray, List.set_cons_zero, List.set_cons_succ]
    refine wpAnyH_take (i := 12) (v := ?_) rfl (by kernel_rfl) (by kernel_rfl) (by kernel_rfl) (fun _ _ _ h => h) (Or.inl ⟨by rfl, ?_⟩) (by assumption) ?_
    rotate_left
    · intro w hSw
      (try dsimp only at hSw)
      go_simp
      (try with_reducible rfl)
    try simp only [Act.put, List.getElem_toArray, List.getElem_cons_zero, List.getElem_cons_succ, List.setIfInBounds_toArray, List.set_cons_zero, List.set_cons_succ]
    refine wpAnyH_take (i := 13) (v := ?_) rfl (by kernel_rfl) (by kernel_rfl) (by kernel_rfl) (fun _ _ _ h => h) (Or.inl ⟨by rfl, ?_⟩) (by assumption) ?_
    rotate_left
    · intro w hSw
      (try dsimp only at hSw)
      go_simp
      (try with_reducible rfl)
    try simp only [Act.put, List.getElem_toArray, List.getElem_cons_zero, List.getElem_cons_succ, List.setIfInBounds_toArray, List.set_cons_zero, List.set_cons_succ]
    refine wpAnyH_take (i := 14) (v := ?_) rfl (by kernel_rfl) (by kernel_rfl) (by kernel_rfl) (fun _ _ _ h => h) (Or.inl ⟨by rfl, ?_⟩) (by assumption) ?_
    rotate_left
    · intro w hSw
      (try dsimp only at hSw)
      go_simp
      (try with_reducible rfl)
    try simp only [Act.put, List.getElem_toArray, List.getElem_cons_zero, List.getElem_cons_succ, List.setIfInBounds_toArray, List.set_cons_zero, List.set_cons_succ]
    refine wpAnyH_take (i := 15) (v := ?_) rfl (by kernel_rfl) (by kernel_rfl) (by kernel_rfl) (fun _ _ _ h => h) (Or.inl ⟨by rfl, ?_⟩) (by assumption) ?_
    rotate_left
    · intro w hSw
      (try dsimp only at hSw)
      go_simp
      (try with_reducible rfl)
    try simp only [Act.put, List.getElem_toArray, List.getElem_cons_zero, List.getElem_cons_succ, List.setIfInBounds_toArray, List.set_cons_zero, List.set_cons_succ]
    refine wpAnyH_ready (rs := [16]) (by kernel_rfl) (by simp) ?_
    refine AllReadyH.cons rfl (fun K hK => ?_) AllReadyH.nil
    go_simp
    refine (HDo.out _).mono ?_
    rintro e v1 ⟨rfl, rfl⟩
    first | show K _ _ | go_wp2_with fail
    refine hK.out _ _ ?_ (fun hHeld1 => ?_)
    · exact hHeld
    clear hK K
    try simp only [Act.put, List.getElem_toArray, List.getElem_cons_zero, List.getElem_cons_succ, List.setIfInBounds_toArray, List.set_cons_zero, List.set_cons_succ]
    refine wpAnyH_take (i := 17) (v := ?_) rfl (by kernel_rfl) (by kernel_rfl) (by kernel_rfl) (fun _ _ _ h => h) (Or.inl ⟨by rfl, ?_⟩) (by assumption) ?_
    rotate_left
    · intro w hSw
      (try dsimp only at hSw)
      go_simp
      (try with_reducible rfl)
    try simp only [Act.put, List.getElem_toArray, List.getElem_cons_zero, List.getElem_cons_succ, List.setIfInBounds_toArray, List.set_cons_zero, List.set_cons_succ]
    refine wpAnyH_take (i := 18) (v := ?_) rfl (by kernel_rfl) (by kernel_rfl) (by kernel_rfl) (fun _ _ _ h => h) (Or.inl ⟨by rfl, ?_⟩) (by assumption) ?_
    rotate_left
    · intro w hSw
      (try dsimp only at hSw)
      go_simp
      (try with_reducible rfl)
    try simp only [Act.put, List.getElem_toArray, List.getElem_cons_zero, List.getElem_cons_succ, List.setIfInBounds_toArray, List.set_cons_zero, List.set_cons_succ]
    refine wpAnyH_take (i := 19) (v := ?_) rfl (by kernel_rfl) (by kernel_rfl) (by kernel_rfl) (fun _ _ _ h => h) (Or.inl ⟨by rfl, ?_⟩) (by assumption) ?_
    rotate_left
    · intro w hSw
      (try dsimp only at hSw)
      go_simp
      (try with_reducible rfl)
    try simp only [Act.put, List.getElem_toArray, List.getElem_cons_zero, List.getElem_cons_succ, List.setIfInBounds_toArray, List.set_cons_zero, List.set_cons_succ]
    refine wpAnyH_take (i := 20) (v := ?_) rfl (by kernel_rfl) (by kernel_rfl) (by kernel_rfl) (fun _ _ _ h => h) (Or.inl ⟨by rfl, ?_⟩) (by assumption) ?_
    rotate_left
    · intro w hSw
      (try dsimp only at hSw)
      go_simp
      (try with_reducible rfl)
    try simp only [Act.put, List.getElem_toArray, List.getElem_cons_zero, List.getElem_cons_succ, List.setIfInBounds_toArray, List.set_cons_zero, List.set_cons_succ]
    refine wpAnyH_take (i := 21) (v := ?_) rfl (by kernel_rfl) (by kernel_rfl) (by kernel_rfl) (fun _ _ _ h => h) (Or.inl ⟨by rfl, ?_⟩) (by assumption) ?_
    rotate_left
    · intro w hSw
      (try dsimp only at hSw)
      go_simp
      (try with_reducible rfl)
    try simp only [Act.put, List.getElem_toArray, List.getElem_cons_zero, List.getElem_cons_succ, List.setIfInBounds_toArray, List.set_cons_zero, List.set_cons_succ]
    refine wpAnyH_done (by kernel_rfl) ?_ _
    have K3 := Lib.hid (HK0.out.trans hHeld1.2)
    obtain ⟨-, b1, -, -⟩ := box_cells hHeld1.2
    clear hHeld hHeld1
    have HRG := Lib.hid (HM.out.set K3.out HA.out z)
    have s2 := (HM.out.on K3.out).st.free a
    have s1 := (HM.out.on K3.out).st.reg HM.out.rl HA.out
    go_wp2_with fail
    go_region_with fail
    all_goals
      go_wp2_with fail
      go_ret
      exact ⟨rfl, HRG.out.1, HRG.out.2.drew⟩
  · have htn : (aluT o y != 0) = true := by simp [ht]
    rw [if_neg ht]
    generalize aluT o y = t at *
    clear h k0 ha hb hm ht h1 h2 hx hy
    go_enter Try.func83, Try.ntmps83
    go_wp2_with fail
    refine wp_region_held_drew (S := fun w' => (w'.cell? ⟨w.heap.size, 0, none⟩ = some (.int .i64 o) ∧ w'.cell? ⟨w.heap.size, 1, none⟩ = some (.int .i64 a) ∧ w'.cell? ⟨w.heap.size, 2, none⟩ = some (.int .i64 b) ∧ w'.cell? ⟨w.heap.size, 3, none⟩ = some (.int .i64 m) ∧ w'.cell? ⟨sp, b, none⟩ = some (.int .i32 x) ∧ w'.cell? ⟨sp, m, none⟩ = some (.int .i32 y)) ∧ Kept No (w.alloc (.cells #[.int .i64 o, .int .i64 a, .int .i64 b, .int .i64 m] 86)) w') (by kernel_rfl) ?_ (fun hHeld => ?_)
    · exact HH.out _ (Kept.refl _ _).drew
    refine wpAnyH_take (i := 0) (v := ?_) rfl (by kernel_rfl) (by kernel_rfl) (by kernel_rfl) (fun _ _ _ h => h) (Or.inl ⟨by rfl, ?_⟩) (by assumption) ?_
    rotate_left
    · intro w hSw
      (try dsimp only at hSw)
      go_simp
      (try with_reducible rfl)
    try simp only [Act.put, List.getElem_toArray, List.getElem_cons_zero, List.setIfInBounds_toArray, List.set_cons_zero, List.set_cons_succ]
    refine wpAnyH_take (i := 1) (v := ?_) rfl (by kernel_rfl) (by kernel_rfl) (by kernel_rfl) (fun _ _ _ h => h) (Or.inl ⟨by rfl, ?_⟩) (by assumption) ?_
    rotate_left
    · intro w hSw
      (try dsimp only at hSw)
      go_simp
      (try with_reducible rfl)
    try simp only [Act.put, List.getElem_toArray, List.getElem_cons_zero, List.getElem_cons_succ, List.setIfInBounds_toArray, List.set_cons_zero, List.set_cons_succ]
    refine wpAnyH_take (i := 2) (v := ?_) rfl (by kernel_rfl) (by kernel_rfl) (by kernel_rfl) (fun _ _ _ h => h) (Or.inl ⟨by rfl, ?_⟩) (by assumption) ?_
    rotate_left
    · intro w hSw
      (try dsimp only at hSw)
      go_simp
      (try with_reducible rfl)
    try simp only [Act.put, List.getElem_toArray, List.getElem_cons_zero, List.getElem_cons_succ, List.setIfInBounds_toArray, List.set_cons_zero, List.set_cons_succ]
    refine wpAnyH_take (i := 3) (v := ?_) rfl (by kernel_rfl) (by kernel_rfl) (by kernel_rfl) (fun _ _ _ h => h) (Or.inl ⟨by rfl, ?_⟩) (by assumption) ?_
    rotate_left
    · intro w hSw
      (try dsimp only at hSw)
      go_simp
      (try with_reducible rfl)
    try simp only [Act.put, List.getElem_toArray, List.getElem_cons_zero, List.getElem_cons_succ, List.setIfInBounds_toArray, List.set_cons_zero, List.set_cons_succ]
    refine wpAnyH_take (i := 4) (v := ?_) rfl (by kernel_rfl) (by kernel_rfl) (by kernel_rfl) (fun _ _ _ h => h) (Or.inl ⟨by rfl, ?_⟩) (by assumption) ?_
    rotate_left
    · intro w hSw
      (try dsimp only at hSw)
      go_simp
      (try with_reducible rfl)
    try simp only [Act.put, List.getElem_toArray, List.getElem_cons_zero, List.getElem_cons_succ, List.setIfInBounds_toArray, List.set_cons_zero, List.set_cons_succ]
    refine wpAnyH_take (i := 5) (v := ?_) rfl (by kernel_rfl) (by kernel_rfl) (by kernel_rfl) (fun _ _ _ h => h) (Or.inl ⟨by rfl, ?_⟩) (by assumption) ?_
    rotate_left
    · intro w hSw
      (try dsimp only at hSw)
      go_simp
      (try with_reducible rfl)
    try simp only [Act.put, List.getElem_toArray, List.getElem_cons_zero, List.getElem_cons_succ, List.setIfInBounds_toArray, List.set_cons_zero, List.set_cons_succ]
    refine wpAnyH_take (i := 6) (v := ?_) rfl (by kernel_rfl) (by kernel_rfl) (by kernel_rfl) (fun _ _ _ h => h) (Or.inl ⟨by rfl, ?_⟩) (by assumption) ?_
    rotate_left
    · intro w hSw
      (try dsimp only at hSw)
      go_simp
      (try with_reducible rfl)
    try simp only [Act.put, List.getElem_toArray, List.getElem_cons_zero, List.getElem_cons_succ, List.setIfInBounds_toArray, List.set_cons_zero, List.set_cons_succ]
    refine wpAnyH_take (i := 7) (v := ?_) rfl (by kernel_rfl) (by kernel_rfl) (by kernel_rfl) (fun _ _ _ h => h) (Or.inl ⟨by rfl, ?_⟩) (by assumption) ?_
    rotate_left
    · intro w hSw
      (try dsimp only at hSw)
      go_simp
      (try with_reducible rfl)
    try simp only [Act.put, List.getElem_toArray, List.getElem_cons_zero, List.getElem_cons_succ, List.setIfInBounds_toArray, List.set_cons_zero, List.set_cons_succ]
    refine wpAnyH_take (i := 8) (v := ?_) rfl (by kernel_rfl) (by kernel_rfl) (by kernel_rfl) (fun _ _ _ h => h) (Or.inl ⟨by rfl, ?_⟩) (by assumption) ?_
    rotate_left
    · intro w hSw
      (try dsimp only at hSw)
      go_simp
      (try with_reducible rfl)
    try simp only [Act.put, List.getElem_toArray, List.getElem_cons_zero, List.getElem_cons_succ, List.setIfInBounds_toArray, List.set_cons_zero, List.set_cons_succ]
    refine wpAnyH_take (i := 9) (v := ?_) rfl (by kernel_rfl) (by kernel_rfl) (by kernel_rfl) (fun _ _ _ h => h) (Or.inl ⟨by rfl, ?_⟩) (by assumption) ?_
    rotate_left
    · intro w hSw
      (try dsimp only at hSw)
      go_simp
      (try with_reducible rfl)
    try simp only [Act.put, List.getElem_toArray, List.getElem_cons_zero, List.getElem_cons_succ, List.setIfInBounds_toArray, List.set_cons_zero, List.set_cons_succ]
    refine wpAnyH_take (i := 10) (v := ?_) rfl (by kernel_rfl) (by kernel_rfl) (by kernel_rfl) (fun _ _ _ h => h) (Or.inl ⟨by rfl, ?_⟩) (by assumption) ?_
    rotate_left
    · intro w hSw
      (try dsimp only at hSw)
      go_simp
      (try with_reducible rfl)
    try simp only [Act.put, List.getElem_toArray, List.getElem_cons_zero, List.getElem_cons_succ, List.setIfInBounds_toArray, List.set_cons_zero, List.set_cons_succ]
    refine wpAnyH_take (i := 11) (v := ?_) rfl (by kernel_rfl) (by kernel_rfl) (by kernel_rfl) (fun _ _ _ h => h) (Or.inl ⟨by rfl, ?_⟩) (by assumption) ?_
    rotate_left
    · intro w hSw
      (try dsimp only at hSw)
      go_simp
      (try with_reducible rfl)
    try simp only [Act.put, List.getElem_toArray, List.getElem_cons_zero, List.getElem_cons_succ, List.setIfInBounds_toArray, List.set_cons_zero, List.set_cons_succ]
    refine wpAnyH_take (i := 12) (v := ?_) rfl (by kernel_rfl) (by kernel_rfl) (by kernel_rfl) (fun _ _ _ h => h) (Or.inl ⟨by rfl, ?_⟩) (by assumption) ?_
    rotate_left
    · intro w hSw
      (try dsimp only at hSw)
      go_simp
      (try with_reducible rfl)
    try simp only [Act.put, List.getElem_toArray, List.getElem_cons_zero, List.getElem_cons_succ, List.setIfInBounds_toArray, List.set_cons_zero, List.set_cons_succ]
    refine wpAnyH_take (i := 13) (v := ?_) rfl (by kernel_rfl) (by kernel_rfl) (by kernel_rfl) (fun _ _ _ h => h) (Or.inl ⟨by rfl, ?_⟩) (by assumption) ?_
    rotate_left
    · intro w hSw
      (try dsimp only at hSw)
      go_simp
      (try with_reducible rfl)
    try simp only [Act.put, List.getElem_toArray, List.getElem_cons_zero, List.getElem_cons_succ, List.setIfInBounds_toArray, List.set_cons_zero, List.set_cons_succ]
    refine wpAnyH_take (i := 14) (v := ?_) rfl (by kernel_rfl) (by kernel_rfl) (by kernel_rfl) (fun _ _ _ h => h) (Or.inl ⟨by rfl, ?_⟩) (by assumption) ?_
    rotate_left
    · intro w hSw
      (try dsimp only at hSw)
      go_simp
      (try with_reducible rfl)
    try simp only [Act.put, List.getElem_toArray, List.getElem_cons_zero, List.getElem_cons_succ, List.setIfInBounds_toArray, List.set_cons_zero, List.set_cons_succ]
    refine wpAnyH_take (i := 15) (v := ?_) rfl (by kernel_rfl) (by kernel_rfl) (by kernel_rfl) (fun _ _ _ h => h) (Or.inl ⟨by rfl, ?_⟩) (by assumption) ?_
    rotate_left
    · intro w hSw
      (try dsimp only at hSw)
      go_simp
      (try with_reducible rfl)
    try simp only [Act.put, List.getElem_toArray, List.getElem_cons_zero, List.getElem_cons_succ, List.setIfInBounds_toArray, List.set_cons_zero, List.set_cons_succ]
    refine wpAnyH_ready (rs := [16]) (by kernel_rfl) (by simp) ?_
    refine AllReadyH.cons rfl (fun K hK => ?_) AllReadyH.nil
    go_simp
    refine (HDo.out _).mono ?_
    rintro e v1 ⟨rfl, rfl⟩
    first | show K _ _ | go_wp2_with fail
    refine hK.out _ _ ?_ (fun hHeld1 => ?_)
    · exact hHeld
    clear hK K
    try simp only [Act.put, List.getElem_toArray, List.getElem_cons_zero, List.getElem_cons_succ, List.setIfInBounds_toArray, List.set_cons_zero, List.set_cons_succ]
    refine wpAnyH_take (i := 17) (v := ?_) rfl (by kernel_rfl) (by kernel_rfl) (by kernel_rfl) (fun _ _ _ h => h) (Or.inl ⟨by rfl, ?_⟩) (by assumption) ?_
    rotate_left
    · intro w hSw
      (try dsimp only at hSw)
      go_simp
      (try with_reducible rfl)
    try simp only [Act.put, List.getElem_toArray, List.getElem_cons_zero, List.getElem_cons_succ, List.setIfInBounds_toArray, List.set_cons_zero, List.set_cons_succ]
    refine wpAnyH_take (i := 18) (v := ?_) rfl (by kernel_rfl) (by kernel_rfl) (by kernel_rfl) (fun _ _ _ h => h) (Or.inl ⟨by rfl, ?_⟩) (by assumption) ?_
    rotate_left
    · intro w hSw
      (try dsimp only at hSw)
      go_simp
      (try with_reducible rfl)
    try simp only [Act.put, List.getElem_toArray, List.getElem_cons_zero, List.getElem_cons_succ, List.setIfInBounds_toArray, List.set_cons_zero, List.set_cons_succ]
    refine wpAnyH_take (i := 19) (v := ?_) rfl (by kernel_rfl) (by kernel_rfl) (by kernel_rfl) (fun _ _ _ h => h) (Or.inl ⟨by rfl, ?_⟩) (by assumption) ?_
    rotate_left
    · intro w hSw
      (try dsimp only at hSw)
      go_simp
      (try with_reducible rfl)
    try simp only [Act.put, List.getElem_toArray, List.getElem_cons_zero, List.getElem_cons_succ, List.setIfInBounds_toArray, List.set_cons_zero, List.set_cons_succ]
    refine wpAnyH_take (i := 20) (v := ?_) rfl (by kernel_rfl) (by kernel_rfl) (by kernel_rfl) (fun _ _ _ h => h) (Or.inl ⟨by rfl, ?_⟩) (by assumption) ?_
    rotate_left
    · intro w hSw
      (try dsimp only at hSw)
      go_simp
      (try with_reducible rfl)
    try simp only [Act.put, List.getElem_toArray, List.getElem_cons_zero, List.getElem_cons_succ, List.setIfInBounds_toArray, List.set_cons_zero, List.set_cons_succ]
    refine wpAnyH_take (i := 21) (v := ?_) rfl (by kernel_rfl) (by kernel_rfl) (by kernel_rfl) (fun _ _ _ h => h) (Or.inl ⟨by rfl, ?_⟩) (by assumption) ?_
    rotate_left
    · intro w hSw
      (try dsimp only at hSw)
      go_simp
      (try with_reducible rfl)
    try simp only [Act.put, List.getElem_toArray, List.getElem_cons_zero, List.getElem_cons_succ, List.setIfInBounds_toArray, List.set_cons_zero, List.set_cons_succ]
    refine wpAnyH_done (by kernel_rfl) ?_ _
    have K3 := HK0.out.trans hHeld1.2
    clear hHeld hHeld1
    go_wp2_with fail
    go_ret
    exact ⟨rfl, (HM.out.on K3).st, K3.up⟩
end Go.Proofs.Yticancimnhnhbaa
