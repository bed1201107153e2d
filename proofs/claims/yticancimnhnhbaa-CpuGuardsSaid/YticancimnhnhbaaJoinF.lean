/-
  The walk of CpuGuards (layer 7): it returns true and changes nothing that was there. No conditions.
-/
import Derived.Test.YticancimnhnhbaaJoinE
namespace Go.Proofs.Yticancimnhnhbaa
open Go.ChangeShapes Go.WideShapes Go.ChangeAt Go.RowKit

/- a machine within a law's walk: what was there is as it was -/
structure Run (w wr : World) (sp mp g zp mb : Nat) (lv : Value) (L : List ZR) (r : List Int) (p : Int) (l : List Nat) : Prop where
  mach : Mach wr sp mp g zp mb lv L 2000 r p l
  len : l.length = 2048
  below : Below w.heap.size w wr
  low : w.heap.size ≤ sp ∧ w.heap.size ≤ g
theorem Run.size {w wr : World} {sp mp g zp mb : Nat} {lv : Value} {L : List ZR} {r : List Int} {p : Int} {l : List Nat} (h : Run w wr sp mp g zp mb lv L r p l) : w.heap.size ≤ wr.heap.size := h.below.size
theorem Run.on {w wr w' : World} {sp mp g zp mb : Nat} {lv : Value} {L : List ZR} {r : List Int} {p : Int} {l : List Nat} (h : Run w wr sp mp g zp mb lv L r p l) (k : Kept No wr w') : Run w w' sp mp g zp mb lv L r p l :=
  ⟨h.mach.on k, h.len, h.below.trans (k.none.mono h.size), h.low⟩
theorem Run.state {w wr w' : World} {sp mp g zp mb : Nat} {lv : Value} {L : List ZR} {r r' : List Int} {p p' : Int} {l : List Nat} (h : Run w wr sp mp g zp mb lv L r p l) (k : Kept (· = sp) wr w') (h' : RowAt w' sp ST (cst r' p')) (hr : r'.length = 16) : Run w w' sp mp g zp mb lv L r' p' l :=
  ⟨h.mach.state k h' hr, h.len, k.below h.below h.size fun j _ hj => by have := h.low.1; omega, h.low⟩
theorem Run.step {w wr w' : World} {e : Ending} {sp mp g zp mb : Nat} {lv : Value} {L : List ZR} {r : List Int} {p : Int} {l : List Nat} (h : Run w wr sp mp g zp mb lv L r p l) (hd : DidIns wr w' e sp mp g (stepOf (L.map ZR.z) r p l)) :
    Run w w' sp mp g zp mb lv L (stepOf (L.map ZR.z) r p l).r (stepOf (L.map ZR.z) r p l).p (stepOf (L.map ZR.z) r p l).l :=
  ⟨h.mach.after hd (by rw [stepOf_len]; exact h.mach.rl), by rw [(stepOf_wrote _ r p l).1.len]; exact h.len, hd.2.2.2.below h.below h.size fun j _ hj => by
    have h1 := h.low.1
    have h2 := h.low.2
    rcases hj with hj | hj <;> omega, h.low⟩
def InRegs (w wr : World) (sp mp g zp mb : Nat) (lv : Value) (L : List ZR) (p : Int) (l : List Nat) (n2 : Nat) (i : Value) : Prop :=
  ∃ j : Nat, j ≤ n2 ∧ i = .int .i64 j ∧ ∃ r, Run w wr sp mp g zp mb lv L r p l
def InSteps (w wr : World) (sp mp g zp mb : Nat) (lv : Value) (L : List ZR) (st : Int) (i : Value) : Prop :=
  ∃ j : Nat, (j : Int) ≤ st ∧ i = .int .i64 j ∧ ∃ r p l, Run w wr sp mp g zp mb lv L r p l

theorem RowAt.range {w : World} {b : Nat} {t : TypeId} {cs : List Value} (h : RowAt w b t cs) : w.rangeAt b 0 cs := fun j v hv => by rw [Nat.zero_add, h.cell]; exact hv
theorem exec_bin {P : Program} {w : World} {o : Oper} {ρ : Operand → Value} (op : BinOp) (xt : TypeId) (x y : Operand) (yt : TypeId) (ho : o.op = Op.binOp op xt x y yt) (vx vy : Value) (hx : ρ x = vx) (hy : ρ y = vy) {r : Value} (hg : (eqGuard op xt x y vx vy).run P w = .ok () w) (hr : (binOp op xt vx vy).run P w = .ok r w) : (execOp ρ o).run P w = .ok (.value r) w := by
  unfold execOp
  simp [ho, hx, hy, hg, hr, Result.andThen]
def InKept (wD wr : World) (i : Value) : Prop := ∃ m : Nat, m ≤ 2048 ∧ i = .int .i64 m ∧ Kept No wD wr
def InKept4 (wD wr : World) (i : Value) : Prop := ∃ m : Nat, m ≤ 2048 ∧ m % 4 = 0 ∧ i = .int .i64 m ∧ Kept No wD wr

set_option maxRecDepth 100000 in
set_option maxHeartbeats 8000000 in
theorem cpuGuards_main (a a2 : Option Addr) (n cap n2 cap2 : Nat) (at_ st : Int) (B : List Blk) (R : List Int) (w : World) (h : Blks w a n B) (hR : RegsAt w a2 n2 R) (hf : FewB B) (h0 : 0 ≤ st) (h40 : st ≤ 40) (h16 : n2 ≤ 16) :
    Calls Try.prog 5 #[.slice a n cap, .slice a2 n2 cap2, .int .i64 at_, .int .i64 st] w fun e w' => e = .returned (.bool true) ∧ Below w.heap.size w w' := by
  have HB := Lib.hid h
  have HRg := Lib.hid hR
  have HF := Lib.hid hf
  have e1 : (if FewB B then (1 : Int) else 0) = 1 := if_pos hf
  have i1 : ¬ st < 0 := by omega
  have i2 : ¬ 40 < st := by omega
  have i3 : ¬ (16 : Int) < (n2 : Int) := by omega
  clear h hR hf
  go_enter Try.func5, Try.ntmps5
  go_wp2_with fail
  refine (up07 _).mono ?_
  rintro e w1 ⟨rfl, hb1⟩
  go_wp2_with fail
  refine (few7_any a n cap B _ (HB.out.on hb1)).mono ?_
  rintro e w2 ⟨rfl, rfl⟩
  rw [e1]
  clear e1
  have HBg := Lib.hid (begun_any a n cap B w1 (HB.out.on hb1) HF.out)
  have B1 := Lib.hid hb1
  clear hb1
  go_wp2_with fail
  refine HBg.out.mono ?_
  rintro e w3 ⟨mp, g, zp, mb, xp, xb, L, M, mv, l, rfl, hduo, -, -⟩
  obtain ⟨lv, hz, -⟩ := hduo.both.zoo.is
  obtain ⟨w4, hw4⟩ : ∃ w4, w4 = w3.alloc (.cells #[.int .i32 0, .int .i32 0, .int .i32 0, .int .i32 0, .int .i32 0, .int .i32 0, .int .i32 0, .int .i32 0, .int .i32 0, .int .i32 0, .int .i32 0, .int .i32 0, .int .i32 0, .int .i32 0, .int .i32 0, .int .i32 0, .int .i64 at_] ST) := ⟨_, rfl⟩
  have k4 : Kept No w3 w4 := by rw [hw4]; exact (Kept.refl _ _).alloc _
  have hs1 := B1.out.size
  have hs3 : w1.heap.size ≤ w3.heap.size := hduo.both.zoo.size
  have hlow := hduo.low
  have b3 : Below w.heap.size w w3 := B1.out.trans (hduo.both.zoo.below.mono hs1)
  have r4 : Run w w4 w3.heap.size mp g zp mb lv L (List.replicate 16 0) at_ l :=
    ⟨⟨by rw [hw4]; exact RowAt.new w3 ST (cst (List.replicate 16 0) at_), hduo.mem.keep k4 (fun h => h) (fun h => h), hz.keep_row k4 fun _ h => h.elim, by simp⟩, hduo.len, b3.trans (k4.none.mono (by omega)), by omega, by omega⟩
  have R4 := Lib.hid r4
  clear hz k4 hs1 hs3 hlow b3 r4 hduo HBg
  go_wp2_with fail
  rw [← hw4]
  clear hw4
  generalize w3.heap.size = sp at *
  go_loopw [14] (fun i wr => InRegs w wr sp mp g zp mb lv L at_ l n2 i) (fun i _ => n2 - (intOf i).toNat)
  case atStart => exact ⟨0, Nat.zero_le _, rfl, _, R4.out⟩
  case round =>
    clear R4
    obtain ⟨j, hj, rfl, r, hi⟩ := hrel
    have HI := Lib.hid hi
    clear hi
    by_cases hjl : j < n2
    · rcases HRg.out.cells with hh | ⟨rb, ro, rfl, hrb, hrc⟩
      · omega
      · obtain ⟨x, hx⟩ : ∃ x, R[j]? = some x := ⟨_, List.getElem?_eq_getElem (by rw [HRg.out.len]; exact hjl)⟩
        have c0 := (HI.out.below.cell (p := ⟨rb, ro + j, none⟩) hrb).trans (hrc j x hx)
        have hja : j < 16 := by omega
        have s1 := HI.out.mach.st.reg HI.out.mach.rl hja
        have s2 := HI.out.mach.st.free j
        have hlt := HI.out.mach.st.lt
        have HS := Lib.hid (HI.out.mach.set (Kept.refl _ _) hja x)
        have i4 : (j : Int) < (n2 : Int) := by omega
        have i5 : (0 : Int) ≤ (j : Int) := by omega
        have i6 : (j : Int) < 16 := by omega
        generalize r.getD j 0 = y at *
        clear hrc hx hrb
        go_wp2_with fail
        go_region_with fail
        all_goals
          go_wp2_with fail
          go_roundw
          case rel => exact ⟨j + 1, by omega, by go_num, r.set j x, HI.out.state HS.out.2.drew HS.out.1 (by rw [List.length_set]; exact HI.out.mach.rl)⟩
          case measure => simp [intOf]; omega
    · have i4 : ¬ (j : Int) < (n2 : Int) := by omega
      go_wp2_with fail
      go_loopw [15] (fun i wr => InSteps w wr sp mp g zp mb lv L st i) (fun i _ => st.toNat - (intOf i).toNat)
      case atStart => exact ⟨0, by omega, rfl, r, at_, l, HI.out⟩
      case round =>
        clear HI
        obtain ⟨j, hj, rfl, r, p, l, hi⟩ := hrel
        by_cases hjs : (j : Int) < st
        · have HI := Lib.hid hi
          clear hi
          have HBs := Lib.hid (bytes_all HI.out.mach.mem HI.out.len)
          have hspl := HI.out.mach.st.lt
          have hgl := HI.out.mach.mem.row.lt
          go_wp2_with fail
          refine HBs.out.mono ?_
          rintro e wA ⟨rfl, hbA, kA⟩
          have hszA : wr.heap.size < wA.heap.size := hbA.lt
          have hro := (HI.out.mach.on kA).st
          obtain ⟨wB, hwB⟩ : ∃ wB, wB = wA.alloc (.cells (cst r p).toArray ST) := ⟨_, rfl⟩
          have HST : Hid ((Instr.storeAt ST (.pointer (some ⟨wA.heap.size, 0, none⟩)) (.agg (cst r p).toArray)).run Try.prog (wA.alloc (.cells #[.int .i32 0, .int .i32 0, .int .i32 0, .int .i32 0, .int .i32 0, .int .i32 0, .int .i32 0, .int .i32 0, .int .i32 0, .int .i32 0, .int .i32 0, .int .i32 0, .int .i32 0, .int .i32 0, .int .i32 0, .int .i32 0, .int .i64 0] ST)) = .ok () wB) := by
            have hz := RowAt.new wA ST zst
            have hs := store_el (P := Try.prog) hz 0 (elS r p HI.out.mach.rl) ST size_st (.agg (cst r p).toArray) rfl (by simp [zst, cst])
            rw [splice_all _ _ (by rw [(elS r p HI.out.mach.rl).len]; rfl)] at hs
            rw [hwB]
            exact Eq.trans hs (congrArg _ (setRow_alloc wA zst.toArray (cst r p).toArray ST))
          have kB : Kept No wA wB := by rw [hwB]; exact (Kept.refl _ _).alloc _
          have rB : RowAt wB wA.heap.size ST (cst r p) := by rw [hwB]; exact RowAt.new wA ST (cst r p)
          have RB := Lib.hid (HI.out.on (kA.trans kB))
          have HROW := Lib.hid hro
          have HRl := Lib.hid HI.out.mach.rl
          have ROB := Lib.hid rB
          have HBB := Lib.hid (hbA.keep kB (fun h => h))
          have hbl := hbA.lt
          clear hbA kA kB rB hwB hro
          go_wp2_with (first
            | (refine wpList_load_row rfl _ _ rfl sp rfl ST (cst r p).toArray (0, 0) _ HROW.out Try.underlying63 rfl (by rw [size_st]; simp [cst, HRl.out]) ?_)
            | (refine wpList_store_run _ rfl _ _ _ rfl _ _ rfl rfl (by exact HST.out) ?_))
          clear HST HROW
          refine (step_any RB.out.mach).mono ?_
          rintro e wC hdC
          obtain rfl := hdC.1
          have RC := Lib.hid (RB.out.step hdC)
          have hkC := hdC.2.2.2
          have OC : Hid (RowAt wC wA.heap.size ST (cst r p)) := ROB.out.keep hkC (fun h => by rcases h with h | h <;> omega)
          have HBC : Hid (ByteRow wC wr.heap.size l) := HBB.out.keep hkC (fun h => by rcases h with h | h <;> omega)
          have HW := Lib.hid (stepOf_wrote (L.map ZR.z) r p l).1
          have HTr := Lib.hid (stepOf_wrote (L.map ZR.z) r p l).2
          have HLl := Lib.hid RB.out.len
          clear hdC hkC ROB HBB RB
          generalize stepOf (L.map ZR.z) r p l = d at *
          obtain ⟨dt, dr, dp, dl⟩ := d
          simp only at HW HTr RC
          have HBs2 := Lib.hid (bytes_all RC.out.mach.mem RC.out.len)
          go_wp2_with fail
          refine HBs2.out.mono ?_
          rintro e wD ⟨rfl, hbD, kD⟩
          have RD := Lib.hid (RC.out.on kD)
          have OD := Lib.hid (OC.out.keep kD (fun h => h))
          have HHb := Lib.hid (HBC.out.keep kD (fun h => h))
          have HNb := Lib.hid hbD
          have HLn := Lib.hid RC.out.len
          clear hbD kD OC HBC RC HBs2 HBs HI hszA hspl hgl hbl
          generalize wC.heap.size = nb at *
          generalize wr.heap.size = hb at *
          generalize wA.heap.size = ob at *
          by_cases ht : dt = 0
          · as_aux_lemma =>
            have htn : (dt != 0) = false := by simp [ht]
            clear HTr
            go_wp2_with fail
            refine wp_region_held_drew (S := fun w' => Kept No wD w') (by kernel_rfl) ?_ (fun hHeld => ?_)
            · exact (Kept.refl _ _).drew
            refine wpAnyH_take (i := 0) (v := ?_) rfl (by kernel_rfl) (by kernel_rfl) (by kernel_rfl) (fun _ _ _ h => h) (Or.inl ⟨by rfl, ?_⟩) (by assumption) ?_
            rotate_left
            · intro w hSw
              (try dsimp only at hSw)
              go_simp
              (try with_reducible rfl)
            try simp only [Act.put, List.getElem_toArray, List.getElem_cons_zero, List.setIfInBounds_toArray, List.set_cons_zero, List.set_cons_succ]
            refine wpAnyH_take (i := 1) (v := ?_) rfl (by kernel_rfl) (by kernel_rfl) (by kernel_rfl) (fun _ _ _ h => h) (Or.inl ⟨by rfl, ?_⟩) (by assumption) ?_
            rotate_left
            · intro w hSw
              (try dsimp only at hSw)
              go_simp
              (try with_reducible rfl)
            try simp only [Act.put, List.getElem_toArray, List.getElem_cons_zero, List.getElem_cons_succ, List.setIfInBounds_toArray, List.set_cons_zero, List.set_cons_succ]
            refine wpAnyH_take (i := 2) (v := ?_) rfl (by kernel_rfl) (by kernel_rfl) (by kernel_rfl) (fun _ _ _ h => h) (Or.inl ⟨by rfl, ?_⟩) (by assumption) ?_
            rotate_left
            · intro w hSw
              (try dsimp only at hSw)
              go_simp
              (try with_reducible rfl)
            try simp only [Act.put, List.getElem_toArray, List.getElem_cons_zero, List.getElem_cons_succ, List.setIfInBounds_toArray, List.set_cons_zero, List.set_cons_succ]
            refine wpAnyH_take (i := 3) (v := undef) rfl (by kernel_rfl) (by kernel_rfl) (by kernel_rfl) (fun _ _ _ h => h) (Or.inr ⟨by rfl, rfl⟩) (by assumption) ?_
            try simp only [Act.put, List.getElem_toArray, List.getElem_cons_zero, List.getElem_cons_succ, List.setIfInBounds_toArray, List.set_cons_zero, List.set_cons_succ]
            refine wpAnyH_take (i := 4) (v := undef) rfl (by kernel_rfl) (by kernel_rfl) (by kernel_rfl) (fun _ _ _ h => h) (Or.inr ⟨by rfl, rfl⟩) (by assumption) ?_
            try simp only [Act.put, List.getElem_toArray, List.getElem_cons_zero, List.getElem_cons_succ, List.setIfInBounds_toArray, List.set_cons_zero, List.set_cons_succ]
            refine wpAnyH_take (i := 5) (v := undef) rfl (by kernel_rfl) (by kernel_rfl) (by kernel_rfl) (fun _ _ _ h => h) (Or.inr ⟨by rfl, rfl⟩) (by assumption) ?_
            try simp only [Act.put, List.getElem_toArray, List.getElem_cons_zero, List.getElem_cons_succ, List.setIfInBounds_toArray, List.set_cons_zero, List.set_cons_succ]
            refine wpAnyH_take (i := 6) (v := undef) rfl (by kernel_rfl) (by kernel_rfl) (by kernel_rfl) (fun _ _ _ h => h) (Or.inr ⟨by rfl, rfl⟩) (by assumption) ?_
            try simp only [Act.put, List.getElem_toArray, List.getElem_cons_zero, List.getElem_cons_succ, List.setIfInBounds_toArray, List.set_cons_zero, List.set_cons_succ]
            refine wpAnyH_take (i := 7) (v := undef) rfl (by kernel_rfl) (by kernel_rfl) (by kernel_rfl) (fun _ _ _ h => h) (Or.inr ⟨by rfl, rfl⟩) (by assumption) ?_
            try simp only [Act.put, List.getElem_toArray, List.getElem_cons_zero, List.getElem_cons_succ, List.setIfInBounds_toArray, List.set_cons_zero, List.set_cons_succ]
            refine wpAnyH_take (i := 8) (v := undef) rfl (by kernel_rfl) (by kernel_rfl) (by kernel_rfl) (fun _ _ _ h => h) (Or.inr ⟨by rfl, rfl⟩) (by assumption) ?_
            try simp only [Act.put, List.getElem_toArray, List.getElem_cons_zero, List.getElem_cons_succ, List.setIfInBounds_toArray, List.set_cons_zero, List.set_cons_succ]
            refine wpAnyH_take (i := 9) (v := undef) rfl (by kernel_rfl) (by kernel_rfl) (by kernel_rfl) (fun _ _ _ h => h) (Or.inr ⟨by rfl, rfl⟩) (by assumption) ?_
            try simp only [Act.put, List.getElem_toArray, List.getElem_cons_zero, List.getElem_cons_succ, List.setIfInBounds_toArray, List.set_cons_zero, List.set_cons_succ]
            refine wpAnyH_take (i := 10) (v := undef) rfl (by kernel_rfl) (by kernel_rfl) (by kernel_rfl) (fun _ _ _ h => h) (Or.inr ⟨by rfl, rfl⟩) (by assumption) ?_
            try simp only [Act.put, List.getElem_toArray, List.getElem_cons_zero, List.getElem_cons_succ, List.setIfInBounds_toArray, List.set_cons_zero, List.set_cons_succ]
            refine wpAnyH_take (i := 11) (v := undef) rfl (by kernel_rfl) (by kernel_rfl) (by kernel_rfl) (fun _ _ _ h => h) (Or.inr ⟨by rfl, rfl⟩) (by assumption) ?_
            try simp only [Act.put, List.getElem_toArray, List.getElem_cons_zero, List.getElem_cons_succ, List.setIfInBounds_toArray, List.set_cons_zero, List.set_cons_succ]
            refine wpAnyH_take (i := 12) (v := undef) rfl (by kernel_rfl) (by kernel_rfl) (by kernel_rfl) (fun _ _ _ h => h) (Or.inr ⟨by rfl, rfl⟩) (by assumption) ?_
            try simp only [Act.put, List.getElem_toArray, List.getElem_cons_zero, List.getElem_cons_succ, List.setIfInBounds_toArray, List.set_cons_zero, List.set_cons_succ]
            refine wpAnyH_take (i := 13) (v := undef) rfl (by kernel_rfl) (by kernel_rfl) (by kernel_rfl) (fun _ _ _ h => h) (Or.inr ⟨by rfl, rfl⟩) (by assumption) ?_
            try simp only [Act.put, List.getElem_toArray, List.getElem_cons_zero, List.getElem_cons_succ, List.setIfInBounds_toArray, List.set_cons_zero, List.set_cons_succ]
            refine wpAnyH_take (i := 14) (v := undef) rfl (by kernel_rfl) (by kernel_rfl) (by kernel_rfl) (fun _ _ _ h => h) (Or.inr ⟨by rfl, rfl⟩) (by assumption) ?_
            try simp only [Act.put, List.getElem_toArray, List.getElem_cons_zero, List.getElem_cons_succ, List.setIfInBounds_toArray, List.set_cons_zero, List.set_cons_succ]
            refine wpAnyH_take (i := 15) (v := ?_) rfl (by kernel_rfl) (by kernel_rfl) (by kernel_rfl) (fun _ _ _ h => h) (Or.inl ⟨by rfl, ?_⟩) (by assumption) ?_
            rotate_left
            · intro w hSw
              (try dsimp only at hSw)
              go_simp
              (try with_reducible rfl)
            try simp only [Act.put, List.getElem_toArray, List.getElem_cons_zero, List.getElem_cons_succ, List.setIfInBounds_toArray, List.set_cons_zero, List.set_cons_succ]
            refine wpAnyH_done (by kernel_rfl) ?_ _
            have hE := hHeld
            clear hHeld htn ht
            have K21 := Lib.hid hE
            clear hE
            go_wp2_with fail
            go_loopw [20] (fun i wx => InKept wD wx i) (fun i _ => 2048 - (intOf i).toNat)
            case atStart => first | exact ⟨0, by omega, rfl, K21.out⟩ | exact ⟨0, by omega, rfl, K21.out _⟩
            case round =>
              clear K21
              obtain ⟨k, hk, rfl, hk0⟩ := hrel
              have HK := Lib.hid hk0
              clear hk0
              by_cases hkl : k < 2048
              · have HBy := Lib.hid (HW.out.byte k)
                have hc1 := (HNb.out.keep HK.out (fun h => h)).at_ k (by rw [HLn.out]; exact hkl)
                have hc2 := (HHb.out.keep HK.out (fun h => h)).at_ k (by rw [HLl.out]; exact hkl)
                obtain ⟨y1, hy1⟩ : ∃ y, dl.getD k 0 = y := ⟨_, rfl⟩
                obtain ⟨y2, hy2⟩ : ∃ y, l.getD k 0 = y := ⟨_, rfl⟩
                rw [hy1] at hc1 HBy
                rw [hy2] at hc2 HBy
                have i4 : (k : Int) < 2048 := by omega
                have i5 : (0 : Int) ≤ (k : Int) := by omega
                have HC : Hid (∀ v, Kept No wr v → (v.cell? ⟨nb, k, none⟩ = some (.int .u8 (y1 : Nat)) ∧ v.cell? ⟨hb, k, none⟩ = some (.int .u8 (y2 : Nat))) ∧ Kept No wr v) := fun v kv =>
                  ⟨⟨(kv.cell (p := ⟨nb, k, none⟩) (cell_lt hc1) (fun h => h)).trans hc1, (kv.cell (p := ⟨hb, k, none⟩) (cell_lt hc2) (fun h => h)).trans hc2⟩, kv⟩
                clear hc1 hc2 hy1 hy2
                by_cases hne : y1 = y2
                · as_aux_lemma =>
                  subst hne
                  have q1 : ((y1 : Int) != (y1 : Int)) = false := by simp
                  go_wp2_with fail
                  refine wp_region_held_drew (S := fun w' => (w'.cell? ⟨nb, k, none⟩ = some (.int .u8 (y1 : Nat)) ∧ w'.cell? ⟨hb, k, none⟩ = some (.int .u8 (y1 : Nat))) ∧ Kept No wr w') (by kernel_rfl) ?_ (fun hHeld => ?_)
                  · exact HC.out _ (Kept.refl _ _).drew
                  refine wpAnyH_take (i := 0) (v := ?_) rfl (by kernel_rfl) (by kernel_rfl) (by kernel_rfl) (fun _ _ _ h => h) (Or.inl ⟨by rfl, ?_⟩) (by assumption) ?_
                  rotate_left
                  · intro w hSw
                    (try dsimp only at hSw)
                    go_simp
                    (try with_reducible rfl)
                  try simp only [Act.put, List.getElem_toArray, List.getElem_cons_zero, List.setIfInBounds_toArray, List.set_cons_zero, List.set_cons_succ]
                  refine wpAnyH_take (i := 1) (v := ?_) rfl (by kernel_rfl) (by kernel_rfl) (by kernel_rfl) (fun _ _ _ h => h) (Or.inl ⟨by rfl, ?_⟩) (by assumption) ?_
                  rotate_left
                  · intro w hSw
                    (try dsimp only at hSw)
                    go_simp
                    (try with_reducible rfl)
                  try simp only [Act.put, List.getElem_toArray, List.getElem_cons_zero, List.getElem_cons_succ, List.setIfInBounds_toArray, List.set_cons_zero, List.set_cons_succ]
                  refine wpAnyH_take (i := 2) (v := ?_) rfl (by kernel_rfl) (by kernel_rfl) (by kernel_rfl) (fun _ _ _ h => h) (Or.inl ⟨by rfl, ?_⟩) (by assumption) ?_
                  rotate_left
                  · intro w hSw
                    (try dsimp only at hSw)
                    go_simp
                    (try with_reducible rfl)
                  try simp only [Act.put, List.getElem_toArray, List.getElem_cons_zero, List.getElem_cons_succ, List.setIfInBounds_toArray, List.set_cons_zero, List.set_cons_succ]
                  refine wpAnyH_take (i := 3) (v := ?_) rfl (by kernel_rfl) (by kernel_rfl) (by kernel_rfl) (fun _ _ _ h => h) (Or.inl ⟨by rfl, ?_⟩) (by assumption) ?_
                  rotate_left
                  · intro w hSw
                    (try dsimp only at hSw)
                    go_simp
                    (try with_reducible rfl)
                  try simp only [Act.put, List.getElem_toArray, List.getElem_cons_zero, List.getElem_cons_succ, List.setIfInBounds_toArray, List.set_cons_zero, List.set_cons_succ]
                  refine wpAnyH_take (i := 4) (v := ?_) rfl (by kernel_rfl) (by kernel_rfl) (by kernel_rfl) (fun _ _ _ h => h) (Or.inl ⟨by rfl, ?_⟩) (by assumption) ?_
                  rotate_left
                  · intro w hSw
                    (try dsimp only at hSw)
                    go_simp
                    (try with_reducible rfl)
                  try simp only [Act.put, List.getElem_toArray, List.getElem_cons_zero, List.getElem_cons_succ, List.setIfInBounds_toArray, List.set_cons_zero, List.set_cons_succ]
                  refine wpAnyH_take (i := 5) (v := ?_) rfl (by kernel_rfl) (by kernel_rfl) (by kernel_rfl) (fun _ _ _ h => h) (Or.inl ⟨by rfl, ?_⟩) (by assumption) ?_
                  rotate_left
                  · intro w hSw
                    (try dsimp only at hSw)
                    go_simp
                    (try with_reducible rfl)
                  try simp only [Act.put, List.getElem_toArray, List.getElem_cons_zero, List.getElem_cons_succ, List.setIfInBounds_toArray, List.set_cons_zero, List.set_cons_succ]
                  refine wpAnyH_take (i := 6) (v := ?_) rfl (by kernel_rfl) (by kernel_rfl) (by kernel_rfl) (fun _ _ _ h => h) (Or.inl ⟨by rfl, ?_⟩) (by assumption) ?_
                  rotate_left
                  · intro w hSw
                    (try dsimp only at hSw)
                    go_simp
                    (try with_reducible rfl)
                  try simp only [Act.put, List.getElem_toArray, List.getElem_cons_zero, List.getElem_cons_succ, List.setIfInBounds_toArray, List.set_cons_zero, List.set_cons_succ]
                  refine wpAnyH_take (i := 7) (v := ?_) rfl (by kernel_rfl) (by kernel_rfl) (by kernel_rfl) (fun _ _ _ h => h) (Or.inl ⟨by rfl, ?_⟩) (by assumption) ?_
                  rotate_left
                  · intro w hSw
                    (try dsimp only at hSw)
                    go_simp
                    (try with_reducible rfl)
                  try simp only [Act.put, List.getElem_toArray, List.getElem_cons_zero, List.getElem_cons_succ, List.setIfInBounds_toArray, List.set_cons_zero, List.set_cons_succ]
                  refine wpAnyH_take (i := 8) (v := ?_) rfl (by kernel_rfl) (by kernel_rfl) (by kernel_rfl) (fun _ _ _ h => h) (Or.inl ⟨by rfl, ?_⟩) (by assumption) ?_
                  rotate_left
                  · intro w hSw
                    (try dsimp only at hSw)
                    go_simp
                    (try with_reducible rfl)
                  try simp only [Act.put, List.getElem_toArray, List.getElem_cons_zero, List.getElem_cons_succ, List.setIfInBounds_toArray, List.set_cons_zero, List.set_cons_succ]
                  refine wpAnyH_take (i := 9) (v := ?_) rfl (by kernel_rfl) (by kernel_rfl) (by kernel_rfl) (fun _ _ _ h => h) (Or.inl ⟨by rfl, ?_⟩) (by assumption) ?_
                  rotate_left
                  · intro w hSw
                    (try dsimp only at hSw)
                    go_simp
                    (try with_reducible rfl)
                  try simp only [Act.put, List.getElem_toArray, List.getElem_cons_zero, List.getElem_cons_succ, List.setIfInBounds_toArray, List.set_cons_zero, List.set_cons_succ]
                  refine wpAnyH_take (i := 10) (v := undef) rfl (by kernel_rfl) (by kernel_rfl) (by kernel_rfl) (fun _ _ _ h => h) (Or.inr ⟨by rfl, rfl⟩) (by assumption) ?_
                  try simp only [Act.put, List.getElem_toArray, List.getElem_cons_zero, List.getElem_cons_succ, List.setIfInBounds_toArray, List.set_cons_zero, List.set_cons_succ]
                  refine wpAnyH_take (i := 11) (v := undef) rfl (by kernel_rfl) (by kernel_rfl) (by kernel_rfl) (fun _ _ _ h => h) (Or.inr ⟨by rfl, rfl⟩) (by assumption) ?_
                  try simp only [Act.put, List.getElem_toArray, List.getElem_cons_zero, List.getElem_cons_succ, List.setIfInBounds_toArray, List.set_cons_zero, List.set_cons_succ]
                  refine wpAnyH_take (i := 12) (v := undef) rfl (by kernel_rfl) (by kernel_rfl) (by kernel_rfl) (fun _ _ _ h => h) (Or.inr ⟨by rfl, rfl⟩) (by assumption) ?_
                  try simp only [Act.put, List.getElem_toArray, List.getElem_cons_zero, List.getElem_cons_succ, List.setIfInBounds_toArray, List.set_cons_zero, List.set_cons_succ]
                  refine wpAnyH_take (i := 13) (v := undef) rfl (by kernel_rfl) (by kernel_rfl) (by kernel_rfl) (fun _ _ _ h => h) (Or.inr ⟨by rfl, rfl⟩) (by assumption) ?_
                  try simp only [Act.put, List.getElem_toArray, List.getElem_cons_zero, List.getElem_cons_succ, List.setIfInBounds_toArray, List.set_cons_zero, List.set_cons_succ]
                  refine wpAnyH_take (i := 14) (v := ?_) rfl (by kernel_rfl) (by kernel_rfl) (by kernel_rfl) (fun _ _ _ h => h) (Or.inl ⟨by rfl, ?_⟩) (by assumption) ?_
                  rotate_left
                  · intro w hSw
                    (try dsimp only at hSw)
                    go_simp
                    (try with_reducible rfl)
                  try simp only [Act.put, List.getElem_toArray, List.getElem_cons_zero, List.getElem_cons_succ, List.setIfInBounds_toArray, List.set_cons_zero, List.set_cons_succ]
                  refine wpAnyH_done (by kernel_rfl) ?_ _
                  have KE := Lib.hid (HK.out.trans hHeld.2)
                  clear hHeld
                  go_wp2_with fail
                  go_roundw
                  case rel => exact ⟨k + 1, by omega, by go_num, KE.out⟩
                  case measure => simp [intOf]; omega
                · as_aux_lemma =>
                  have q1 : ((y1 : Int) != (y2 : Int)) = true := by simp; omega
                  have hcs := HBy.out hne
                  have HCs := Lib.hid hcs
                  clear hcs
                  go_wp2_with fail
                  refine wp_region_held_drew (S := fun w' => (w'.cell? ⟨nb, k, none⟩ = some (.int .u8 (y1 : Nat)) ∧ w'.cell? ⟨hb, k, none⟩ = some (.int .u8 (y2 : Nat))) ∧ Kept No wr w') (by kernel_rfl) ?_ (fun hHeld => ?_)
                  · exact HC.out _ (Kept.refl _ _).drew
                  refine wpAnyH_take (i := 0) (v := ?_) rfl (by kernel_rfl) (by kernel_rfl) (by kernel_rfl) (fun _ _ _ h => h) (Or.inl ⟨by rfl, ?_⟩) (by assumption) ?_
                  rotate_left
                  · intro w hSw
                    (try dsimp only at hSw)
                    go_simp
                    (try with_reducible rfl)
                  try simp only [Act.put, List.getElem_toArray, List.getElem_cons_zero, List.setIfInBounds_toArray, List.set_cons_zero, List.set_cons_succ]
                  refine wpAnyH_take (i := 1) (v := ?_) rfl (by kernel_rfl) (by kernel_rfl) (by kernel_rfl) (fun _ _ _ h => h) (Or.inl ⟨by rfl, ?_⟩) (by assumption) ?_
                  rotate_left
                  · intro w hSw
                    (try dsimp only at hSw)
                    go_simp
                    (try with_reducible rfl)
                  try simp only [Act.put, List.getElem_toArray, List.getElem_cons_zero, List.getElem_cons_succ, List.setIfInBounds_toArray, List.set_cons_zero, List.set_cons_succ]
                  refine wpAnyH_take (i := 2) (v := ?_) rfl (by kernel_rfl) (by kernel_rfl) (by kernel_rfl) (fun _ _ _ h => h) (Or.inl ⟨by rfl, ?_⟩) (by assumption) ?_
                  rotate_left
                  · intro w hSw
                    (try dsimp only at hSw)
                    go_simp
                    (try with_reducible rfl)
                  try simp only [Act.put, List.getElem_toArray, List.getElem_cons_zero, List.getElem_cons_succ, List.setIfInBounds_toArray, List.set_cons_zero, List.set_cons_succ]
                  refine wpAnyH_take (i := 3) (v := ?_) rfl (by kernel_rfl) (by kernel_rfl) (by kernel_rfl) (fun _ _ _ h => h) (Or.inl ⟨by rfl, ?_⟩) (by assumption) ?_
                  rotate_left
                  · intro w hSw
                    (try dsimp only at hSw)
                    go_simp
                    (try with_reducible rfl)
                  try simp only [Act.put, List.getElem_toArray, List.getElem_cons_zero, List.getElem_cons_succ, List.setIfInBounds_toArray, List.set_cons_zero, List.set_cons_succ]
                  refine wpAnyH_take (i := 4) (v := ?_) rfl (by kernel_rfl) (by kernel_rfl) (by kernel_rfl) (fun _ _ _ h => h) (Or.inl ⟨by rfl, ?_⟩) (by assumption) ?_
                  rotate_left
                  · intro w hSw
                    (try dsimp only at hSw)
                    go_simp
                    (try with_reducible rfl)
                  try simp only [Act.put, List.getElem_toArray, List.getElem_cons_zero, List.getElem_cons_succ, List.setIfInBounds_toArray, List.set_cons_zero, List.set_cons_succ]
                  refine wpAnyH_take (i := 5) (v := ?_) rfl (by kernel_rfl) (by kernel_rfl) (by kernel_rfl) (fun _ _ _ h => h) (Or.inl ⟨by rfl, ?_⟩) (by assumption) ?_
                  rotate_left
                  · intro w hSw
                    (try dsimp only at hSw)
                    go_simp
                    (try with_reducible rfl)
                  try simp only [Act.put, List.getElem_toArray, List.getElem_cons_zero, List.getElem_cons_succ, List.setIfInBounds_toArray, List.set_cons_zero, List.set_cons_succ]
                  refine wpAnyH_take (i := 6) (v := ?_) rfl (by kernel_rfl) (by kernel_rfl) (by kernel_rfl) (fun _ _ _ h => h) (Or.inl ⟨by rfl, ?_⟩) (by assumption) ?_
                  rotate_left
                  · intro w hSw
                    (try dsimp only at hSw)
                    go_simp
                    (try with_reducible rfl)
                  try simp only [Act.put, List.getElem_toArray, List.getElem_cons_zero, List.getElem_cons_succ, List.setIfInBounds_toArray, List.set_cons_zero, List.set_cons_succ]
                  refine wpAnyH_take (i := 7) (v := ?_) rfl (by kernel_rfl) (by kernel_rfl) (by kernel_rfl) (fun _ _ _ h => h) (Or.inl ⟨by rfl, ?_⟩) (by assumption) ?_
                  rotate_left
                  · intro w hSw
                    (try dsimp only at hSw)
                    go_simp
                    (try with_reducible rfl)
                  try simp only [Act.put, List.getElem_toArray, List.getElem_cons_zero, List.getElem_cons_succ, List.setIfInBounds_toArray, List.set_cons_zero, List.set_cons_succ]
                  refine wpAnyH_take (i := 8) (v := ?_) rfl (by kernel_rfl) (by kernel_rfl) (by kernel_rfl) (fun _ _ _ h => h) (Or.inl ⟨by rfl, ?_⟩) (by assumption) ?_
                  rotate_left
                  · intro w hSw
                    (try dsimp only at hSw)
                    go_simp
                    (try with_reducible rfl)
                  try simp only [Act.put, List.getElem_toArray, List.getElem_cons_zero, List.getElem_cons_succ, List.setIfInBounds_toArray, List.set_cons_zero, List.set_cons_succ]
                  refine wpAnyH_take (i := 9) (v := ?_) rfl (by kernel_rfl) (by kernel_rfl) (by kernel_rfl) (fun _ _ _ h => h) (Or.inl ⟨by rfl, ?_⟩) (by assumption) ?_
                  rotate_left
                  · intro w hSw
                    (try dsimp only at hSw)
                    go_simp
                    (try with_reducible rfl)
                  try simp only [Act.put, List.getElem_toArray, List.getElem_cons_zero, List.getElem_cons_succ, List.setIfInBounds_toArray, List.set_cons_zero, List.set_cons_succ]
                  refine wpAnyH_take (i := 10) (v := ?_) rfl (by kernel_rfl) (by kernel_rfl) (by kernel_rfl) (fun _ _ _ h => h) (Or.inl ⟨by rfl, ?_⟩) (by assumption) ?_
                  rotate_left
                  · intro w hSw
                    (try dsimp only at hSw)
                    go_simp
                    (try with_reducible rfl)
                  try simp only [Act.put, List.getElem_toArray, List.getElem_cons_zero, List.getElem_cons_succ, List.setIfInBounds_toArray, List.set_cons_zero, List.set_cons_succ]
                  refine wpAnyH_take (i := 11) (v := ?_) rfl (by kernel_rfl) (by kernel_rfl) (by kernel_rfl) (fun _ _ _ h => h) (Or.inl ⟨by rfl, ?_⟩) (by assumption) ?_
                  rotate_left
                  · intro w hSw
                    (try dsimp only at hSw)
                    go_simp
                    (try with_reducible rfl)
                  try simp only [Act.put, List.getElem_toArray, List.getElem_cons_zero, List.getElem_cons_succ, List.setIfInBounds_toArray, List.set_cons_zero, List.set_cons_succ]
                  refine wpAnyH_ready (rs := [12]) (by kernel_rfl) (by simp) ?_
                  refine AllReadyH.cons rfl (fun K hK => ?_) AllReadyH.nil
                  go_simp
                  refine ((RD.out.mach.on (HK.out.trans hHeld.2)).canStore k 1).mono ?_
                  rintro e v1 ⟨rfl, j1⟩
                  rw [HCs.out]
                  first | show K _ _ | go_wp2_with fail
                  refine hK.out _ _ ?_ (fun hHeld1 => ?_)
                  · exact HC.out _ (hHeld.2.trans j1)
                  clear hK K
                  try simp only [Act.put, List.getElem_toArray, List.getElem_cons_zero, List.getElem_cons_succ, List.setIfInBounds_toArray, List.set_cons_zero, List.set_cons_succ]
                  refine wpAnyH_take (i := 13) (v := ?_) rfl (by kernel_rfl) (by kernel_rfl) (by kernel_rfl) (fun _ _ _ h => h) (Or.inl ⟨by rfl, ?_⟩) (by assumption) ?_
                  rotate_left
                  · intro w hSw
                    (try dsimp only at hSw)
                    go_simp
                    (try with_reducible rfl)
                  try simp only [Act.put, List.getElem_toArray, List.getElem_cons_zero, List.getElem_cons_succ, List.setIfInBounds_toArray, List.set_cons_zero, List.set_cons_succ]
                  refine wpAnyH_take (i := 14) (v := ?_) rfl (by kernel_rfl) (by kernel_rfl) (by kernel_rfl) (fun _ _ _ h => h) (Or.inl ⟨by rfl, ?_⟩) (by assumption) ?_
                  rotate_left
                  · intro w hSw
                    (try dsimp only at hSw)
                    go_simp
                    (try with_reducible rfl)
                  try simp only [Act.put, List.getElem_toArray, List.getElem_cons_zero, List.getElem_cons_succ, List.setIfInBounds_toArray, List.set_cons_zero, List.set_cons_succ]
                  refine wpAnyH_done (by kernel_rfl) ?_ _
                  have KE := Lib.hid (HK.out.trans hHeld1.2)
                  clear hHeld hHeld1
                  go_wp2_with fail
                  go_roundw
                  case rel => exact ⟨k + 1, by omega, by go_num, KE.out⟩
                  case measure => simp [intOf]; omega
              · have i4 : ¬ (k : Int) < 2048 := by omega
                clear hk hkl
                go_wp2_with fail
                go_loopw [21] (fun i wx => InKept4 wD wx i) (fun i _ => 2048 - (intOf i).toNat)
                case atStart => exact ⟨0, by omega, rfl, rfl, HK.out⟩
                case round =>
                  clear HK
                  obtain ⟨m, hm, hm4, rfl, hk0⟩ := hrel
                  have HK := Lib.hid hk0
                  clear hk0
                  by_cases hml : m < 2048
                  · have hmk : ((m : Int) - (m : Int) % 4) = (m : Int) := by omega
                    have HMk := Lib.hid hmk
                    have HWd := Lib.hid (HW.out.word m hm4 (by rw [HLl.out]; omega))
                    have hm8 : m + 4 ≤ 2048 := by omega
                    obtain ⟨kd, hkd⟩ : ∃ kd, kindOf (L.map ZR.z) (m : Int) = kd := ⟨_, rfl⟩
                    rw [hkd] at HWd
                    have HKd := Lib.hid hkd
                    have HC := Lib.hid (fun v (kv : Kept No wD v) => (RD.out.mach.on kv).cell (m : Int) (WalkArith.wf_i64 (by omega)))
                    rw [hmk, hkd] at HC
                    have i4 : (m : Int) < 2048 := by omega
                    have i5 : (0 : Int) ≤ (m : Int) := by omega
                    clear hmk hkd
                    by_cases hk0 : kd = 0
                    · as_aux_lemma =>
                      subst hk0
                      go_wp2_with fail
                      refine (HC.out _ HK.out).mono ?_
                      rintro e wF ⟨rfl, kF⟩
                      have KF := Lib.hid (HK.out.trans kF)
                      clear kF
                      go_wp2_with fail
                      go_roundw
                      case rel => exact ⟨m + 4, by omega, by omega, by go_num, KF.out⟩
                      case measure => simp [intOf]; omega
                    · as_aux_lemma =>
                      have q1 : (kd == 0) = false := by simpa using hk0
                      have a1 : IntKind.i64.wrap ((m : Int) + 4) = (m : Int) + 4 := IntWalk.i64_in _ (by omega)
                      have a3 : ((m : Int) + 4).toNat = m + 4 := by omega
                      have a6 : (0 : Int) ≤ (m : Int) + 4 := by omega
                      have a7 : (m : Int) + 4 ≤ 2048 := by omega
                      have a8 : ¬ 2048 = m := by omega
                      have HW1 := Lib.hid (fun v (kv : Kept No wD v) cap (hc : 4 ≤ cap) (hm : cap ≤ 9223372036854775807) => word4 (HHb.out.keep kv (fun h => h)) HLl.out m cap hm8 hc hm)
                      have HW2 := Lib.hid (fun v (kv : Kept No wD v) cap (hc : 4 ≤ cap) (hm : cap ≤ 9223372036854775807) => word4 (HNb.out.keep kv (fun h => h)) HLn.out m cap hm8 hc hm)
                      have HFt := Lib.hid (fun v (kv : Kept No wD v) x => (RD.out.mach.on kv).fits kd x)
                      have u1 := wordAt_lt (HHb.out) m
                      have u2 := wordAt_lt (HNb.out) m
                      generalize wordAt l m = x1 at *
                      generalize wordAt dl m = x2 at *
                      have HK0 := Lib.hid hk0
                      clear hk0
                      go_wp2_with fail
                      refine (HC.out _ HK.out).mono ?_
                      rintro e wF ⟨rfl, kF⟩
                      have KF := Lib.hid (HK.out.trans kF)
                      clear kF
                      go_wp2_with fail
                      refine (HW1.out _ KF.out _ (by omega) (by omega)).mono ?_
                      rintro e wG ⟨rfl, rfl⟩
                      go_wp2_with fail
                      refine (HFt.out _ KF.out _).mono ?_
                      rintro e wG ⟨rfl, kG⟩
                      have KG := Lib.hid (KF.out.trans kG)
                      clear kG
                      go_wp2_with fail
                      refine (HW2.out _ KG.out _ (by omega) (by omega)).mono ?_
                      rintro e wH ⟨rfl, rfl⟩
                      go_wp2_with fail
                      refine (HFt.out _ KG.out _).mono ?_
                      rintro e wH ⟨rfl, kH⟩
                      have KH := Lib.hid (KG.out.trans kH)
                      clear kH
                      cases hf1 : fitsZ (L.map ZR.z) kd (x1 : Int) with
                      | false =>
                        go_wp2_with fail
                        go_roundw
                        case rel => exact ⟨m + 4, by omega, by omega, by go_num, KH.out⟩
                        case measure => simp [intOf]; omega
                      | true =>
                        rw [HWd.out HK0.out hf1]
                        go_wp2_with fail
                        go_roundw
                        case rel => exact ⟨m + 4, by omega, by omega, by go_num, KH.out⟩
                        case measure => simp [intOf]; omega
                  · have i5 : ¬ (m : Int) < 2048 := by omega
                    go_wp2_with fail
                    go_roundw
                    case rel => exact ⟨j + 1, by omega, by go_num, dr, dp, dl, RD.out.on HK.out⟩
                    case measure => simp [intOf]; omega
          · as_aux_lemma =>
            have htn : (dt != 0) = true := by simp [ht]
            obtain ⟨g1, g2, g3⟩ := HTr.out ht
            have rs := RD.out.mach.st
            rw [g1, g2] at rs
            have hnb := HNb.out
            rw [g3] at hnb
            clear HTr ht g1 g2 g3
            have HS21 : Hid (∀ v, Kept No wD v → (RowAt v sp ST (cst r p) ∧ RowAt v ob ST (cst r p) ∧ ByteRow v nb l ∧ ByteRow v hb l) ∧ Kept No wD v) := fun v kv =>
              ⟨⟨rs.keep kv (fun h => h), OD.out.keep kv (fun h => h), hnb.keep kv (fun h => h), HHb.out.keep kv (fun h => h)⟩, kv⟩
            clear rs hnb
            go_wp2_with fail
            refine wp_region_held_drew (S := fun w' => (RowAt w' sp ST (cst r p) ∧ RowAt w' ob ST (cst r p) ∧ ByteRow w' nb l ∧ ByteRow w' hb l) ∧ Kept No wD w') (by kernel_rfl) ?_ (fun hHeld => ?_)
            · exact HS21.out _ (Kept.refl _ _).drew
            refine wpAnyH_take (i := 0) (v := ?_) rfl (by kernel_rfl) (by kernel_rfl) (by kernel_rfl) (fun _ _ _ h => h) (Or.inl ⟨by rfl, ?_⟩) (by assumption) ?_
            rotate_left
            · intro w hSw
              (try dsimp only at hSw)
              go_simp
              (try with_reducible rfl)
            try simp only [Act.put, List.getElem_toArray, List.getElem_cons_zero, List.setIfInBounds_toArray, List.set_cons_zero, List.set_cons_succ]
            refine wpAnyH_take (i := 1) (v := ?_) rfl (by kernel_rfl) (by kernel_rfl) (by kernel_rfl) (fun _ _ _ h => h) (Or.inl ⟨by rfl, ?_⟩) (by assumption) ?_
            rotate_left
            · intro w hSw
              (try dsimp only at hSw)
              go_simp
              (try with_reducible rfl)
            try simp only [Act.put, List.getElem_toArray, List.getElem_cons_zero, List.getElem_cons_succ, List.setIfInBounds_toArray, List.set_cons_zero, List.set_cons_succ]
            refine wpAnyH_take (i := 2) (v := ?_) rfl (by kernel_rfl) (by kernel_rfl) (by kernel_rfl) (fun _ _ _ h => h) (Or.inl ⟨by rfl, ?_⟩) (by assumption) ?_
            rotate_left
            · intro w hSw
              (try dsimp only at hSw)
              go_simp
              (try with_reducible rfl)
            try simp only [Act.put, List.getElem_toArray, List.getElem_cons_zero, List.getElem_cons_succ, List.setIfInBounds_toArray, List.set_cons_zero, List.set_cons_succ]
            refine wpAnyH_take (i := 3) (v := ?_) rfl (by kernel_rfl) (by kernel_rfl) (by kernel_rfl) (fun _ _ _ h => h) (Or.inl ⟨by rfl, ?_⟩) (by assumption) ?_
            rotate_left
            · intro w hSw
              (try dsimp only at hSw)
              go_simp
              (try with_reducible rfl)
            try simp only [Act.put, List.getElem_toArray, List.getElem_cons_zero, List.getElem_cons_succ, List.setIfInBounds_toArray, List.set_cons_zero, List.set_cons_succ]
            refine wpAnyH_take (i := 4) (v := ?_) rfl (by kernel_rfl) (by kernel_rfl) (by kernel_rfl) (fun _ _ _ h => h) (Or.inl ⟨by rfl, ?_⟩) (by assumption) ?_
            rotate_left
            · intro w hSw
              (try dsimp only at hSw)
              go_simp
              (try with_reducible rfl)
            try simp only [Act.put, List.getElem_toArray, List.getElem_cons_zero, List.getElem_cons_succ, List.setIfInBounds_toArray, List.set_cons_zero, List.set_cons_succ]
            refine wpAnyH_take (i := 5) (v := _) rfl (by kernel_rfl) (by kernel_rfl) (by kernel_rfl) (fun _ _ _ h => h) (yieldsIf_load_mid (by rfl) _ _ rfl _ _ rfl _ _ (fun w hSw => hSw.1.1.range) (Try.underlying63) rfl (by rw [size_st, cst_length r p HRl.out])) (by assumption) ?_
            try simp only [Act.put, List.getElem_toArray, List.getElem_cons_zero, List.getElem_cons_succ, List.setIfInBounds_toArray, List.set_cons_zero, List.set_cons_succ]
            refine wpAnyH_take (i := 6) (v := _) rfl (by kernel_rfl) (by kernel_rfl) (by kernel_rfl) (fun _ _ _ h => h) (yieldsIf_load_mid (by rfl) _ _ rfl _ _ rfl _ _ (fun w hSw => hSw.1.2.1.range) (Try.underlying63) rfl (by rw [size_st, cst_length r p HRl.out])) (by assumption) ?_
            try simp only [Act.put, List.getElem_toArray, List.getElem_cons_zero, List.getElem_cons_succ, List.setIfInBounds_toArray, List.set_cons_zero, List.set_cons_succ]
            refine wpAnyH_take (i := 7) (v := _) rfl (by kernel_rfl) (by kernel_rfl) (by kernel_rfl) (fun _ _ _ h => h) (Or.inl ⟨by rfl, fun w hSw => exec_bin .neq _ _ _ _ rfl _ _ rfl rfl (by kernel_rfl) (state_same r p HRl.out w)⟩) (by assumption) ?_
            try simp only [Act.put, List.getElem_toArray, List.getElem_cons_zero, List.getElem_cons_succ, List.setIfInBounds_toArray, List.set_cons_zero, List.set_cons_succ]
            refine wpAnyH_take (i := 8) (v := ?_) rfl (by kernel_rfl) (by kernel_rfl) (by kernel_rfl) (fun _ _ _ h => h) (Or.inl ⟨by rfl, ?_⟩) (by assumption) ?_
            rotate_left
            · intro w hSw
              (try dsimp only at hSw)
              go_simp
              (try with_reducible rfl)
            try simp only [Act.put, List.getElem_toArray, List.getElem_cons_zero, List.getElem_cons_succ, List.setIfInBounds_toArray, List.set_cons_zero, List.set_cons_succ]
            refine wpAnyH_take (i := 9) (v := ?_) rfl (by kernel_rfl) (by kernel_rfl) (by kernel_rfl) (fun _ _ _ h => h) (Or.inl ⟨by rfl, ?_⟩) (by assumption) ?_
            rotate_left
            · intro w hSw
              (try dsimp only at hSw)
              go_simp
              (try with_reducible rfl)
            try simp only [Act.put, List.getElem_toArray, List.getElem_cons_zero, List.getElem_cons_succ, List.setIfInBounds_toArray, List.set_cons_zero, List.set_cons_succ]
            refine wpAnyH_take (i := 10) (v := ?_) rfl (by kernel_rfl) (by kernel_rfl) (by kernel_rfl) (fun _ _ _ h => h) (Or.inl ⟨by rfl, ?_⟩) (by assumption) ?_
            rotate_left
            · intro w hSw
              have hcv := row_string hSw.1.2.2.1 0 2048 2048 (by rw [HLl.out]; omega) 2048 rfl
              (try dsimp only at hSw)
              go_simp
              (try with_reducible rfl)
            try simp only [Act.put, List.getElem_toArray, List.getElem_cons_zero, List.getElem_cons_succ, List.setIfInBounds_toArray, List.set_cons_zero, List.set_cons_succ]
            refine wpAnyH_take (i := 11) (v := ?_) rfl (by kernel_rfl) (by kernel_rfl) (by kernel_rfl) (fun _ _ _ h => h) (Or.inl ⟨by rfl, ?_⟩) (by assumption) ?_
            rotate_left
            · intro w hSw
              (try dsimp only at hSw)
              go_simp
              (try with_reducible rfl)
            try simp only [Act.put, List.getElem_toArray, List.getElem_cons_zero, List.getElem_cons_succ, List.setIfInBounds_toArray, List.set_cons_zero, List.set_cons_succ]
            refine wpAnyH_take (i := 12) (v := ?_) rfl (by kernel_rfl) (by kernel_rfl) (by kernel_rfl) (fun _ _ _ h => h) (Or.inl ⟨by rfl, ?_⟩) (by assumption) ?_
            rotate_left
            · intro w hSw
              have hcv := row_string hSw.1.2.2.2 0 2048 2048 (by rw [HLl.out]; omega) 2048 rfl
              (try dsimp only at hSw)
              go_simp
              (try with_reducible rfl)
            try simp only [Act.put, List.getElem_toArray, List.getElem_cons_zero, List.getElem_cons_succ, List.setIfInBounds_toArray, List.set_cons_zero, List.set_cons_succ]
            refine wpAnyH_take (i := 13) (v := ?_) rfl (by kernel_rfl) (by kernel_rfl) (by kernel_rfl) (fun _ _ _ h => h) (Or.inl ⟨by rfl, ?_⟩) (by assumption) ?_
            rotate_left
            · intro w hSw
              (try dsimp only at hSw)
              go_simp
              (try with_reducible rfl)
            try simp only [Act.put, List.getElem_toArray, List.getElem_cons_zero, List.getElem_cons_succ, List.setIfInBounds_toArray, List.set_cons_zero, List.set_cons_succ]
            refine wpAnyH_take (i := 14) (v := ?_) rfl (by kernel_rfl) (by kernel_rfl) (by kernel_rfl) (fun _ _ _ h => h) (Or.inl ⟨by rfl, ?_⟩) (by assumption) ?_
            rotate_left
            · intro w hSw
              (try dsimp only at hSw)
              go_simp
              (try with_reducible rfl)
            try simp only [Act.put, List.getElem_toArray, List.getElem_cons_zero, List.getElem_cons_succ, List.setIfInBounds_toArray, List.set_cons_zero, List.set_cons_succ]
            refine wpAnyH_take (i := 15) (v := ?_) rfl (by kernel_rfl) (by kernel_rfl) (by kernel_rfl) (fun _ _ _ h => h) (Or.inl ⟨by rfl, ?_⟩) (by assumption) ?_
            rotate_left
            · intro w hSw
              (try dsimp only at hSw)
              go_simp
              (try with_reducible rfl)
            try simp only [Act.put, List.getElem_toArray, List.getElem_cons_zero, List.getElem_cons_succ, List.setIfInBounds_toArray, List.set_cons_zero, List.set_cons_succ]
            refine wpAnyH_done (by kernel_rfl) ?_ _
            have hE := hHeld.2
            clear hHeld HS21 htn
            have K21 := Lib.hid hE
            clear hE
            go_wp2_with fail
            go_loopw [20] (fun i wx => InKept wD wx i) (fun i _ => 2048 - (intOf i).toNat)
            case atStart => first | exact ⟨0, by omega, rfl, K21.out⟩ | exact ⟨0, by omega, rfl, K21.out _⟩
            case round =>
              clear K21
              obtain ⟨k, hk, rfl, hk0⟩ := hrel
              have HK := Lib.hid hk0
              clear hk0
              by_cases hkl : k < 2048
              · have HBy := Lib.hid (HW.out.byte k)
                have hc1 := (HNb.out.keep HK.out (fun h => h)).at_ k (by rw [HLn.out]; exact hkl)
                have hc2 := (HHb.out.keep HK.out (fun h => h)).at_ k (by rw [HLl.out]; exact hkl)
                obtain ⟨y1, hy1⟩ : ∃ y, dl.getD k 0 = y := ⟨_, rfl⟩
                obtain ⟨y2, hy2⟩ : ∃ y, l.getD k 0 = y := ⟨_, rfl⟩
                rw [hy1] at hc1 HBy
                rw [hy2] at hc2 HBy
                have i4 : (k : Int) < 2048 := by omega
                have i5 : (0 : Int) ≤ (k : Int) := by omega
                have HC : Hid (∀ v, Kept No wr v → (v.cell? ⟨nb, k, none⟩ = some (.int .u8 (y1 : Nat)) ∧ v.cell? ⟨hb, k, none⟩ = some (.int .u8 (y2 : Nat))) ∧ Kept No wr v) := fun v kv =>
                  ⟨⟨(kv.cell (p := ⟨nb, k, none⟩) (cell_lt hc1) (fun h => h)).trans hc1, (kv.cell (p := ⟨hb, k, none⟩) (cell_lt hc2) (fun h => h)).trans hc2⟩, kv⟩
                clear hc1 hc2 hy1 hy2
                by_cases hne : y1 = y2
                · as_aux_lemma =>
                  subst hne
                  have q1 : ((y1 : Int) != (y1 : Int)) = false := by simp
                  go_wp2_with fail
                  refine wp_region_held_drew (S := fun w' => (w'.cell? ⟨nb, k, none⟩ = some (.int .u8 (y1 : Nat)) ∧ w'.cell? ⟨hb, k, none⟩ = some (.int .u8 (y1 : Nat))) ∧ Kept No wr w') (by kernel_rfl) ?_ (fun hHeld => ?_)
                  · exact HC.out _ (Kept.refl _ _).drew
                  refine wpAnyH_take (i := 0) (v := ?_) rfl (by kernel_rfl) (by kernel_rfl) (by kernel_rfl) (fun _ _ _ h => h) (Or.inl ⟨by rfl, ?_⟩) (by assumption) ?_
                  rotate_left
                  · intro w hSw
                    (try dsimp only at hSw)
                    go_simp
                    (try with_reducible rfl)
                  try simp only [Act.put, List.getElem_toArray, List.getElem_cons_zero, List.setIfInBounds_toArray, List.set_cons_zero, List.set_cons_succ]
                  refine wpAnyH_take (i := 1) (v := ?_) rfl (by kernel_rfl) (by kernel_rfl) (by kernel_rfl) (fun _ _ _ h => h) (Or.inl ⟨by rfl, ?_⟩) (by assumption) ?_
                  rotate_left
                  · intro w hSw
                    (try dsimp only at hSw)
                    go_simp
                    (try with_reducible rfl)
                  try simp only [Act.put, List.getElem_toArray, List.getElem_cons_zero, List.getElem_cons_succ, List.setIfInBounds_toArray, List.set_cons_zero, List.set_cons_succ]
                  refine wpAnyH_take (i := 2) (v := ?_) rfl (by kernel_rfl) (by kernel_rfl) (by kernel_rfl) (fun _ _ _ h => h) (Or.inl ⟨by rfl, ?_⟩) (by assumption) ?_
                  rotate_left
                  · intro w hSw
                    (try dsimp only at hSw)
                    go_simp
                    (try with_reducible rfl)
                  try simp only [Act.put, List.getElem_toArray, List.getElem_cons_zero, List.getElem_cons_succ, List.setIfInBounds_toArray, List.set_cons_zero, List.set_cons_succ]
                  refine wpAnyH_take (i := 3) (v := ?_) rfl (by kernel_rfl) (by kernel_rfl) (by kernel_rfl) (fun _ _ _ h => h) (Or.inl ⟨by rfl, ?_⟩) (by assumption) ?_
                  rotate_left
                  · intro w hSw
                    (try dsimp only at hSw)
                    go_simp
                    (try with_reducible rfl)
                  try simp only [Act.put, List.getElem_toArray, List.getElem_cons_zero, List.getElem_cons_succ, List.setIfInBounds_toArray, List.set_cons_zero, List.set_cons_succ]
                  refine wpAnyH_take (i := 4) (v := ?_) rfl (by kernel_rfl) (by kernel_rfl) (by kernel_rfl) (fun _ _ _ h => h) (Or.inl ⟨by rfl, ?_⟩) (by assumption) ?_
                  rotate_left
                  · intro w hSw
                    (try dsimp only at hSw)
                    go_simp
                    (try with_reducible rfl)
                  try simp only [Act.put, List.getElem_toArray, List.getElem_cons_zero, List.getElem_cons_succ, List.setIfInBounds_toArray, List.set_cons_zero, List.set_cons_succ]
                  refine wpAnyH_take (i := 5) (v := ?_) rfl (by kernel_rfl) (by kernel_rfl) (by kernel_rfl) (fun _ _ _ h => h) (Or.inl ⟨by rfl, ?_⟩) (by assumption) ?_
                  rotate_left
                  · intro w hSw
                    (try dsimp only at hSw)
                    go_simp
                    (try with_reducible rfl)
                  try simp only [Act.put, List.getElem_toArray, List.getElem_cons_zero, List.getElem_cons_succ, List.setIfInBounds_toArray, List.set_cons_zero, List.set_cons_succ]
                  refine wpAnyH_take (i := 6) (v := ?_) rfl (by kernel_rfl) (by kernel_rfl) (by kernel_rfl) (fun _ _ _ h => h) (Or.inl ⟨by rfl, ?_⟩) (by assumption) ?_
                  rotate_left
                  · intro w hSw
                    (try dsimp only at hSw)
                    go_simp
                    (try with_reducible rfl)
                  try simp only [Act.put, List.getElem_toArray, List.getElem_cons_zero, List.getElem_cons_succ, List.setIfInBounds_toArray, List.set_cons_zero, List.set_cons_succ]
                  refine wpAnyH_take (i := 7) (v := ?_) rfl (by kernel_rfl) (by kernel_rfl) (by kernel_rfl) (fun _ _ _ h => h) (Or.inl ⟨by rfl, ?_⟩) (by assumption) ?_
                  rotate_left
                  · intro w hSw
                    (try dsimp only at hSw)
                    go_simp
                    (try with_reducible rfl)
                  try simp only [Act.put, List.getElem_toArray, List.getElem_cons_zero, List.getElem_cons_succ, List.setIfInBounds_toArray, List.set_cons_zero, List.set_cons_succ]
                  refine wpAnyH_take (i := 8) (v := ?_) rfl (by kernel_rfl) (by kernel_rfl) (by kernel_rfl) (fun _ _ _ h => h) (Or.inl ⟨by rfl, ?_⟩) (by assumption) ?_
                  rotate_left
                  · intro w hSw
                    (try dsimp only at hSw)
                    go_simp
                    (try with_reducible rfl)
                  try simp only [Act.put, List.getElem_toArray, List.getElem_cons_zero, List.getElem_cons_succ, List.setIfInBounds_toArray, List.set_cons_zero, List.set_cons_succ]
                  refine wpAnyH_take (i := 9) (v := ?_) rfl (by kernel_rfl) (by kernel_rfl) (by kernel_rfl) (fun _ _ _ h => h) (Or.inl ⟨by rfl, ?_⟩) (by assumption) ?_
                  rotate_left
                  · intro w hSw
                    (try dsimp only at hSw)
                    go_simp
                    (try with_reducible rfl)
                  try simp only [Act.put, List.getElem_toArray, List.getElem_cons_zero, List.getElem_cons_succ, List.setIfInBounds_toArray, List.set_cons_zero, List.set_cons_succ]
                  refine wpAnyH_take (i := 10) (v := undef) rfl (by kernel_rfl) (by kernel_rfl) (by kernel_rfl) (fun _ _ _ h => h) (Or.inr ⟨by rfl, rfl⟩) (by assumption) ?_
                  try simp only [Act.put, List.getElem_toArray, List.getElem_cons_zero, List.getElem_cons_succ, List.setIfInBounds_toArray, List.set_cons_zero, List.set_cons_succ]
                  refine wpAnyH_take (i := 11) (v := undef) rfl (by kernel_rfl) (by kernel_rfl) (by kernel_rfl) (fun _ _ _ h => h) (Or.inr ⟨by rfl, rfl⟩) (by assumption) ?_
                  try simp only [Act.put, List.getElem_toArray, List.getElem_cons_zero, List.getElem_cons_succ, List.setIfInBounds_toArray, List.set_cons_zero, List.set_cons_succ]
                  refine wpAnyH_take (i := 12) (v := undef) rfl (by kernel_rfl) (by kernel_rfl) (by kernel_rfl) (fun _ _ _ h => h) (Or.inr ⟨by rfl, rfl⟩) (by assumption) ?_
                  try simp only [Act.put, List.getElem_toArray, List.getElem_cons_zero, List.getElem_cons_succ, List.setIfInBounds_toArray, List.set_cons_zero, List.set_cons_succ]
                  refine wpAnyH_take (i := 13) (v := undef) rfl (by kernel_rfl) (by kernel_rfl) (by kernel_rfl) (fun _ _ _ h => h) (Or.inr ⟨by rfl, rfl⟩) (by assumption) ?_
                  try simp only [Act.put, List.getElem_toArray, List.getElem_cons_zero, List.getElem_cons_succ, List.setIfInBounds_toArray, List.set_cons_zero, List.set_cons_succ]
                  refine wpAnyH_take (i := 14) (v := ?_) rfl (by kernel_rfl) (by kernel_rfl) (by kernel_rfl) (fun _ _ _ h => h) (Or.inl ⟨by rfl, ?_⟩) (by assumption) ?_
                  rotate_left
                  · intro w hSw
                    (try dsimp only at hSw)
                    go_simp
                    (try with_reducible rfl)
                  try simp only [Act.put, List.getElem_toArray, List.getElem_cons_zero, List.getElem_cons_succ, List.setIfInBounds_toArray, List.set_cons_zero, List.set_cons_succ]
                  refine wpAnyH_done (by kernel_rfl) ?_ _
                  have KE := Lib.hid (HK.out.trans hHeld.2)
                  clear hHeld
                  go_wp2_with fail
                  go_roundw
                  case rel => exact ⟨k + 1, by omega, by go_num, KE.out⟩
                  case measure => simp [intOf]; omega
                · as_aux_lemma =>
                  have q1 : ((y1 : Int) != (y2 : Int)) = true := by simp; omega
                  have hcs := HBy.out hne
                  have HCs := Lib.hid hcs
                  clear hcs
                  go_wp2_with fail
                  refine wp_region_held_drew (S := fun w' => (w'.cell? ⟨nb, k, none⟩ = some (.int .u8 (y1 : Nat)) ∧ w'.cell? ⟨hb, k, none⟩ = some (.int .u8 (y2 : Nat))) ∧ Kept No wr w') (by kernel_rfl) ?_ (fun hHeld => ?_)
                  · exact HC.out _ (Kept.refl _ _).drew
                  refine wpAnyH_take (i := 0) (v := ?_) rfl (by kernel_rfl) (by kernel_rfl) (by kernel_rfl) (fun _ _ _ h => h) (Or.inl ⟨by rfl, ?_⟩) (by assumption) ?_
                  rotate_left
                  · intro w hSw
                    (try dsimp only at hSw)
                    go_simp
                    (try with_reducible rfl)
                  try simp only [Act.put, List.getElem_toArray, List.getElem_cons_zero, List.setIfInBounds_toArray, List.set_cons_zero, List.set_cons_succ]
                  refine wpAnyH_take (i := 1) (v := ?_) rfl (by kernel_rfl) (by kernel_rfl) (by kernel_rfl) (fun _ _ _ h => h) (Or.inl ⟨by rfl, ?_⟩) (by assumption) ?_
                  rotate_left
                  · intro w hSw
                    (try dsimp only at hSw)
                    go_simp
                    (try with_reducible rfl)
                  try simp only [Act.put, List.getElem_toArray, List.getElem_cons_zero, List.getElem_cons_succ, List.setIfInBounds_toArray, List.set_cons_zero, List.set_cons_succ]
                  refine wpAnyH_take (i := 2) (v := ?_) rfl (by kernel_rfl) (by kernel_rfl) (by kernel_rfl) (fun _ _ _ h => h) (Or.inl ⟨by rfl, ?_⟩) (by assumption) ?_
                  rotate_left
                  · intro w hSw
                    (try dsimp only at hSw)
                    go_simp
                    (try with_reducible rfl)
                  try simp only [Act.put, List.getElem_toArray, List.getElem_cons_zero, List.getElem_cons_succ, List.setIfInBounds_toArray, List.set_cons_zero, List.set_cons_succ]
                  refine wpAnyH_take (i := 3) (v := ?_) rfl (by kernel_rfl) (by kernel_rfl) (by kernel_rfl) (fun _ _ _ h => h) (Or.inl ⟨by rfl, ?_⟩) (by assumption) ?_
                  rotate_left
                  · intro w hSw
                    (try dsimp only at hSw)
                    go_simp
                    (try with_reducible rfl)
                  try simp only [Act.put, List.getElem_toArray, List.getElem_cons_zero, List.getElem_cons_succ, List.setIfInBounds_toArray, List.set_cons_zero, List.set_cons_succ]
                  refine wpAnyH_take (i := 4) (v := ?_) rfl (by kernel_rfl) (by kernel_rfl) (by kernel_rfl) (fun _ _ _ h => h) (Or.inl ⟨by rfl, ?_⟩) (by assumption) ?_
                  rotate_left
                  · intro w hSw
                    (try dsimp only at hSw)
                    go_simp
                    (try with_reducible rfl)
                  try simp only [Act.put, List.getElem_toArray, List.getElem_cons_zero, List.getElem_cons_succ, List.setIfInBounds_toArray, List.set_cons_zero, List.set_cons_succ]
                  refine wpAnyH_take (i := 5) (v := ?_) rfl (by kernel_rfl) (by kernel_rfl) (by kernel_rfl) (fun _ _ _ h => h) (Or.inl ⟨by rfl, ?_⟩) (by assumption) ?_
                  rotate_left
                  · intro w hSw
                    (try dsimp only at hSw)
                    go_simp
                    (try with_reducible rfl)
                  try simp only [Act.put, List.getElem_toArray, List.getElem_cons_zero, List.getElem_cons_succ, List.setIfInBounds_toArray, List.set_cons_zero, List.set_cons_succ]
                  refine wpAnyH_take (i := 6) (v := ?_) rfl (by kernel_rfl) (by kernel_rfl) (by kernel_rfl) (fun _ _ _ h => h) (Or.inl ⟨by rfl, ?_⟩) (by assumption) ?_
                  rotate_left
                  · intro w hSw
                    (try dsimp only at hSw)
                    go_simp
                    (try with_reducible rfl)
                  try simp only [Act.put, List.getElem_toArray, List.getElem_cons_zero, List.getElem_cons_succ, List.setIfInBounds_toArray, List.set_cons_zero, List.set_cons_succ]
                  refine wpAnyH_take (i := 7) (v := ?_) rfl (by kernel_rfl) (by kernel_rfl) (by kernel_rfl) (fun _ _ _ h => h) (Or.inl ⟨by rfl, ?_⟩) (by assumption) ?_
                  rotate_left
                  · intro w hSw
                    (try dsimp only at hSw)
                    go_simp
                    (try with_reducible rfl)
                  try simp only [Act.put, List.getElem_toArray, List.getElem_cons_zero, List.getElem_cons_succ, List.setIfInBounds_toArray, List.set_cons_zero, List.set_cons_succ]
                  refine wpAnyH_take (i := 8) (v := ?_) rfl (by kernel_rfl) (by kernel_rfl) (by kernel_rfl) (fun _ _ _ h => h) (Or.inl ⟨by rfl, ?_⟩) (by assumption) ?_
                  rotate_left
                  · intro w hSw
                    (try dsimp only at hSw)
                    go_simp
                    (try with_reducible rfl)
                  try simp only [Act.put, List.getElem_toArray, List.getElem_cons_zero, List.getElem_cons_succ, List.setIfInBounds_toArray, List.set_cons_zero, List.set_cons_succ]
                  refine wpAnyH_take (i := 9) (v := ?_) rfl (by kernel_rfl) (by kernel_rfl) (by kernel_rfl) (fun _ _ _ h => h) (Or.inl ⟨by rfl, ?_⟩) (by assumption) ?_
                  rotate_left
                  · intro w hSw
                    (try dsimp only at hSw)
                    go_simp
                    (try with_reducible rfl)
                  try simp only [Act.put, List.getElem_toArray, List.getElem_cons_zero, List.getElem_cons_succ, List.setIfInBounds_toArray, List.set_cons_zero, List.set_cons_succ]
                  refine wpAnyH_take (i := 10) (v := ?_) rfl (by kernel_rfl) (by kernel_rfl) (by kernel_rfl) (fun _ _ _ h => h) (Or.inl ⟨by rfl, ?_⟩) (by assumption) ?_
                  rotate_left
                  · intro w hSw
                    (try dsimp only at hSw)
                    go_simp
                    (try with_reducible rfl)
                  try simp only [Act.put, List.getElem_toArray, List.getElem_cons_zero, List.getElem_cons_succ, List.setIfInBounds_toArray, List.set_cons_zero, List.set_cons_succ]
                  refine wpAnyH_take (i := 11) (v := ?_) rfl (by kernel_rfl) (by kernel_rfl) (by kernel_rfl) (fun _ _ _ h => h) (Or.inl ⟨by rfl, ?_⟩) (by assumption) ?_
                  rotate_left
                  · intro w hSw
                    (try dsimp only at hSw)
                    go_simp
                    (try with_reducible rfl)
                  try simp only [Act.put, List.getElem_toArray, List.getElem_cons_zero, List.getElem_cons_succ, List.setIfInBounds_toArray, List.set_cons_zero, List.set_cons_succ]
                  refine wpAnyH_ready (rs := [12]) (by kernel_rfl) (by simp) ?_
                  refine AllReadyH.cons rfl (fun K hK => ?_) AllReadyH.nil
                  go_simp
                  refine ((RD.out.mach.on (HK.out.trans hHeld.2)).canStore k 1).mono ?_
                  rintro e v1 ⟨rfl, j1⟩
                  rw [HCs.out]
                  first | show K _ _ | go_wp2_with fail
                  refine hK.out _ _ ?_ (fun hHeld1 => ?_)
                  · exact HC.out _ (hHeld.2.trans j1)
                  clear hK K
                  try simp only [Act.put, List.getElem_toArray, List.getElem_cons_zero, List.getElem_cons_succ, List.setIfInBounds_toArray, List.set_cons_zero, List.set_cons_succ]
                  refine wpAnyH_take (i := 13) (v := ?_) rfl (by kernel_rfl) (by kernel_rfl) (by kernel_rfl) (fun _ _ _ h => h) (Or.inl ⟨by rfl, ?_⟩) (by assumption) ?_
                  rotate_left
                  · intro w hSw
                    (try dsimp only at hSw)
                    go_simp
                    (try with_reducible rfl)
                  try simp only [Act.put, List.getElem_toArray, List.getElem_cons_zero, List.getElem_cons_succ, List.setIfInBounds_toArray, List.set_cons_zero, List.set_cons_succ]
                  refine wpAnyH_take (i := 14) (v := ?_) rfl (by kernel_rfl) (by kernel_rfl) (by kernel_rfl) (fun _ _ _ h => h) (Or.inl ⟨by rfl, ?_⟩) (by assumption) ?_
                  rotate_left
                  · intro w hSw
                    (try dsimp only at hSw)
                    go_simp
                    (try with_reducible rfl)
                  try simp only [Act.put, List.getElem_toArray, List.getElem_cons_zero, List.getElem_cons_succ, List.setIfInBounds_toArray, List.set_cons_zero, List.set_cons_succ]
                  refine wpAnyH_done (by kernel_rfl) ?_ _
                  have KE := Lib.hid (HK.out.trans hHeld1.2)
                  clear hHeld hHeld1
                  go_wp2_with fail
                  go_roundw
                  case rel => exact ⟨k + 1, by omega, by go_num, KE.out⟩
                  case measure => simp [intOf]; omega
              · have i4 : ¬ (k : Int) < 2048 := by omega
                clear hk hkl
                go_wp2_with fail
                go_loopw [21] (fun i wx => InKept4 wD wx i) (fun i _ => 2048 - (intOf i).toNat)
                case atStart => exact ⟨0, by omega, rfl, rfl, HK.out⟩
                case round =>
                  clear HK
                  obtain ⟨m, hm, hm4, rfl, hk0⟩ := hrel
                  have HK := Lib.hid hk0
                  clear hk0
                  by_cases hml : m < 2048
                  · have hmk : ((m : Int) - (m : Int) % 4) = (m : Int) := by omega
                    have HMk := Lib.hid hmk
                    have HWd := Lib.hid (HW.out.word m hm4 (by rw [HLl.out]; omega))
                    have hm8 : m + 4 ≤ 2048 := by omega
                    obtain ⟨kd, hkd⟩ : ∃ kd, kindOf (L.map ZR.z) (m : Int) = kd := ⟨_, rfl⟩
                    rw [hkd] at HWd
                    have HKd := Lib.hid hkd
                    have HC := Lib.hid (fun v (kv : Kept No wD v) => (RD.out.mach.on kv).cell (m : Int) (WalkArith.wf_i64 (by omega)))
                    rw [hmk, hkd] at HC
                    have i4 : (m : Int) < 2048 := by omega
                    have i5 : (0 : Int) ≤ (m : Int) := by omega
                    clear hmk hkd
                    by_cases hk0 : kd = 0
                    · as_aux_lemma =>
                      subst hk0
                      go_wp2_with fail
                      refine (HC.out _ HK.out).mono ?_
                      rintro e wF ⟨rfl, kF⟩
                      have KF := Lib.hid (HK.out.trans kF)
                      clear kF
                      go_wp2_with fail
                      go_roundw
                      case rel => exact ⟨m + 4, by omega, by omega, by go_num, KF.out⟩
                      case measure => simp [intOf]; omega
                    · as_aux_lemma =>
                      have q1 : (kd == 0) = false := by simpa using hk0
                      have a1 : IntKind.i64.wrap ((m : Int) + 4) = (m : Int) + 4 := IntWalk.i64_in _ (by omega)
                      have a3 : ((m : Int) + 4).toNat = m + 4 := by omega
                      have a6 : (0 : Int) ≤ (m : Int) + 4 := by omega
                      have a7 : (m : Int) + 4 ≤ 2048 := by omega
                      have a8 : ¬ 2048 = m := by omega
                      have HW1 := Lib.hid (fun v (kv : Kept No wD v) cap (hc : 4 ≤ cap) (hm : cap ≤ 9223372036854775807) => word4 (HHb.out.keep kv (fun h => h)) HLl.out m cap hm8 hc hm)
                      have HW2 := Lib.hid (fun v (kv : Kept No wD v) cap (hc : 4 ≤ cap) (hm : cap ≤ 9223372036854775807) => word4 (HNb.out.keep kv (fun h => h)) HLn.out m cap hm8 hc hm)
                      have HFt := Lib.hid (fun v (kv : Kept No wD v) x => (RD.out.mach.on kv).fits kd x)
                      have u1 := wordAt_lt (HHb.out) m
                      have u2 := wordAt_lt (HNb.out) m
                      generalize wordAt l m = x1 at *
                      generalize wordAt dl m = x2 at *
                      have HK0 := Lib.hid hk0
                      clear hk0
                      go_wp2_with fail
                      refine (HC.out _ HK.out).mono ?_
                      rintro e wF ⟨rfl, kF⟩
                      have KF := Lib.hid (HK.out.trans kF)
                      clear kF
                      go_wp2_with fail
                      refine (HW1.out _ KF.out _ (by omega) (by omega)).mono ?_
                      rintro e wG ⟨rfl, rfl⟩
                      go_wp2_with fail
                      refine (HFt.out _ KF.out _).mono ?_
                      rintro e wG ⟨rfl, kG⟩
                      have KG := Lib.hid (KF.out.trans kG)
                      clear kG
                      go_wp2_with fail
                      refine (HW2.out _ KG.out _ (by omega) (by omega)).mono ?_
                      rintro e wH ⟨rfl, rfl⟩
                      go_wp2_with fail
                      refine (HFt.out _ KG.out _).mono ?_
                      rintro e wH ⟨rfl, kH⟩
                      have KH := Lib.hid (KG.out.trans kH)
                      clear kH
                      cases hf1 : fitsZ (L.map ZR.z) kd (x1 : Int) with
                      | false =>
                        go_wp2_with fail
                        go_roundw
                        case rel => exact ⟨m + 4, by omega, by omega, by go_num, KH.out⟩
                        case measure => simp [intOf]; omega
                      | true =>
                        rw [HWd.out HK0.out hf1]
                        go_wp2_with fail
                        go_roundw
                        case rel => exact ⟨m + 4, by omega, by omega, by go_num, KH.out⟩
                        case measure => simp [intOf]; omega
                  · have i5 : ¬ (m : Int) < 2048 := by omega
                    go_wp2_with fail
                    go_roundw
                    case rel => exact ⟨j + 1, by omega, by go_num, dr, dp, dl, RD.out.on HK.out⟩
                    case measure => simp [intOf]; omega
        · have hjs2 : (j : Int) = st := by omega
          have HI := Lib.hid hi
          clear hi
          go_wp2_with fail
          go_ret
          exact ⟨rfl, HI.out.below⟩
end Go.Proofs.Yticancimnhnhbaa

/-
  The walk of CpuGuards (layer 7), for all its inputs: it returns true and changes nothing that was there. No conditions.
-/
namespace Go.Proofs.Yticancimnhnhbaa
open Go.ChangeShapes Go.WideShapes Go.ChangeAt Go.RowKit

theorem cpuGuards_walk (a : Option Addr) (n cap : Nat) (a2 : Option Addr) (n2 cap2 : Nat) (at_ st : Int) (w : World) (hB : ∃ B, Blks w a n B) (hR : ∃ R, RegsAt w a2 n2 R) (_hat : (Lit.int .i64 at_).wf = true) (_hst : (Lit.int .i64 st).wf = true) :
    Calls Try.prog 5 #[.slice a n cap, .slice a2 n2 cap2, .int .i64 at_, .int .i64 st] w fun e w' => e = .returned (.bool true) ∧ Below w.heap.size w w' := by
  obtain ⟨B, hB⟩ := hB
  obtain ⟨R, hR⟩ := hR
  by_cases hc : FewB B ∧ 0 ≤ st ∧ st ≤ 40 ∧ n2 ≤ 16
  · exact cpuGuards_main a a2 n cap n2 cap2 at_ st B R w hB hR hc.1 hc.2.1 hc.2.2.1 hc.2.2.2
  · refine cpuGuards_not a a2 n cap n2 cap2 at_ st B w hB ?_
    by_cases h1 : FewB B
    · have : ¬ (0 ≤ st ∧ st ≤ 40 ∧ n2 ≤ 16) := fun h => hc ⟨h1, h⟩
      omega
    · exact .inl h1
end Go.Proofs.Yticancimnhnhbaa
