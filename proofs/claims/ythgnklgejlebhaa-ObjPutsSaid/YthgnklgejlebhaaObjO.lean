/-
  The program's Get (layer 12): the object of bytes. Conditions: at most 100,000 bytes.
-/
import Derived.Test.YthgnklgejlebhaaObjN
import Derived.Test.YthgnklgejlebhaaErrV
import Derived.Deep.RegionHeld3
namespace Go.Proofs.Ythgnklgejlebhaa
open Go.ChangeShapes Go.WideShapes Go.ChangeAt Go.RowKit

/- what is read fits -/
structure Okay (s : Ps) : Prop where
  byte : ∀ b ∈ s.1, b < 256
  small : s.1.length ≤ 100000
theorem PrB.okay {w : World} {pb B : Nat} {s : Ps} (h : PrS w pb B s) : Okay s := ⟨h.at_.fit, h.small⟩
theorem okay_takeL {s : Ps} (h : Okay s) (k : Nat) (b : Bool) : Okay (takeL s.1 k, b) := by
  constructor
  · intro c hc
    simp only [takeL] at hc
    split at hc
    · exact h.byte c (List.mem_of_mem_drop hc)
    · cases hc
  · have := h.small
    simp only [takeL]
    split
    · rw [List.length_drop]; omega
    · simp
theorem okay_pn {s : Ps} (h : Okay s) (k : Int) : Okay (pn s k).2 := by
  simp only [pn, pnumL]
  split
  · exact okay_takeL h _ _
  · exact ⟨h.byte, h.small⟩
theorem okay_pt {s : Ps} (h : Okay s) : Okay (pt s).2 := okay_takeL (s := (pnumL s.1 1, pnumS s.1 s.2 1)) (okay_pn h 1) _ _
theorem takeV_okay {s : Ps} (h : Okay s) (k : Nat) : (∀ b ∈ takeV s.1 k, b < 256) ∧ (takeV s.1 k).length ≤ 100000 := by
  refine ⟨takeV_lt h.byte k, ?_⟩
  have := h.small
  unfold takeV
  split
  · rw [List.length_take]; omega
  · simp
theorem strOf_size {l : List Nat} (h : ∀ b ∈ l, b < 256) : (strOf l).size = l.length := by rw [← sb_length, sb_strOf h]
theorem pt_size {s : Ps} (h : Okay s) : (pt s).1.size ≤ maxLen := by
  have := takeV_okay (s := (pnumL s.1 1, pnumS s.1 s.2 1)) (okay_pn h 1) (pnumV s.1 1)
  show (strOf (ptxtV s.1)).size ≤ maxLen
  rw [ptxtV, strOf_size this.1]
  exact Nat.le_trans this.2 (by decide)
theorem pn_u32 {s : Ps} (h : Okay s) : (pn s 4).1 < 4294967296 := pnum_lt h.byte 4
theorem pbyte_i64 {s : Ps} (h : Okay s) : I64 (pByte s).1 ∧ Okay (pByte s).2 := by
  have h1 : (pn s 1).1 < 256 := pnum_lt h.byte 1
  refine ⟨?_, okay_pn h 1⟩
  show -9223372036854775808 ≤ (((pn s 1).1 : Nat) : Int) ∧ (((pn s 1).1 : Nat) : Int) ≤ 9223372036854775807
  omega
theorem pplace_i64 {s : Ps} (h : Okay s) : I64 (pPlace s).1 ∧ Okay (pPlace s).2 := by
  have h1 : (pn s 2).1 < 65536 := pnum_lt h.byte 2
  refine ⟨?_, okay_pn h 2⟩
  show -9223372036854775808 ≤ (((pn s 2).1 : Nat) : Int) ∧ (((pn s 2).1 : Nat) : Int) ≤ 9223372036854775807
  omega
theorem pbase_i64 {s : Ps} (h : Okay s) : I64 (pBase s).1 ∧ Okay (pBase s).2 := by
  have h1 : (pn s 1).1 < 256 := pnum_lt h.byte 1
  refine ⟨?_, okay_pn h 1⟩
  show -9223372036854775808 ≤ base255 (pn s 1).1 ∧ base255 (pn s 1).1 ≤ 9223372036854775807
  unfold base255
  split <;> omega
theorem pword_fit {s : Ps} (h : Okay s) : (pWord s).1 < 4294967296 ∧ Okay (pWord s).2 := ⟨pn_u32 h, okay_pn h 4⟩
theorem pimp_fit {s : Ps} (h : Okay s) : ((pImp s).1.1.size ≤ maxLen ∧ (pImp s).1.2 < 4294967296) ∧ Okay (pImp s).2 := ⟨⟨pt_size h, pn_u32 (okay_pt h)⟩, okay_pn (okay_pt h) 4⟩
theorem pcmd_fit {s : Ps} (h : Okay s) : ((pCmd s).1.1.size ≤ maxLen ∧ I64 (pCmd s).1.2) ∧ Okay (pCmd s).2 := ⟨⟨pt_size h, (pplace_i64 (okay_pt h)).1⟩, (pplace_i64 (okay_pt h)).2⟩
theorem pexp_fit {s : Ps} (h : Okay s) : (I64 (pExp s).1.1 ∧ I64 (pExp s).1.2) ∧ Okay (pExp s).2 := ⟨⟨(pbyte_i64 h).1, (pplace_i64 (pbyte_i64 h).2).1⟩, (pplace_i64 (pbyte_i64 h).2).2⟩
theorem ptype_fit {s : Ps} (h : Okay s) : (I64 (pType s).1.1 ∧ I64 (pType s).1.2.1 ∧ I64 (pType s).1.2.2) ∧ Okay (pType s).2 :=
  have h1 := pplace_i64 h
  have h2 := pbyte_i64 h1.2
  have h3 := pbase_i64 h2.2
  ⟨⟨h1.1, h2.1, h3.1⟩, h3.2⟩
theorem plist_all {α : Type} {f : Ps → α × Ps} {Q : α → Prop} (hf : ∀ s, Okay s → Q (f s).1 ∧ Okay (f s).2) : ∀ n acc s, Okay s → (∀ x ∈ acc, Q x) → (∀ x ∈ (plist f n acc s).1, Q x) ∧ Okay (plist f n acc s).2
  | 0, acc, s, h, ha => ⟨ha, h⟩
  | n + 1, acc, s, h, ha => by
    rw [plist]
    split
    · exact ⟨fun x hx => (by cases hx), (hf s h).2⟩
    · exact plist_all hf n _ _ (hf s h).2 (fun x hx => by
        rcases List.mem_append.1 hx with hx | hx
        · exact ha x hx
        · rw [List.mem_singleton.1 hx]; exact (hf s h).1)
theorem plot_all {α : Type} {f : Ps → α × Ps} {Q : α → Prop} (hf : ∀ s, Okay s → Q (f s).1 ∧ Okay (f s).2) (k : Int) {s : Ps} (h : Okay s) : (∀ x ∈ (plot f k s).1, Q x) ∧ Okay (plot f k s).2 := plist_all hf _ _ _ (okay_pn h k) (fun x hx => by cases hx)
theorem gotP_fit {s : Ps} (h : Okay s) : ObjFit (gotP s).1 := by
  simp only [gotP]
  have a0 := pt_size h
  have b0 := okay_pt h
  generalize pt s = nm at *
  have a1 := pn_u32 b0
  have b1 := okay_pn b0 4
  generalize pn nm.2 4 = ky at *
  obtain ⟨a2, b2⟩ := plot_all (Q := fun x : ByteArray × Nat => x.1.size ≤ maxLen ∧ x.2 < 4294967296) (fun s h => pimp_fit h) 1 b1
  generalize plot pImp 1 ky.2 = im at *
  obtain ⟨a3, b3⟩ := plot_all (Q := fun x : Int × Int × Int => I64 x.1 ∧ I64 x.2.1 ∧ I64 x.2.2) (fun s h => ptype_fit h) 1 b2
  generalize plot pType 1 im.2 = ty at *
  obtain ⟨a4, b4⟩ := pbyte_i64 b3
  generalize pByte ty.2 = da at *
  have a5 := pt_size b4
  have b5 := okay_pt b4
  generalize pt da.2 = tx at *
  obtain ⟨a6, b6⟩ := plot_all (Q := fun x : Nat => x < 4294967296) (fun s h => pword_fit h) 2 b5
  generalize plot pWord 2 tx.2 = co at *
  obtain ⟨a7, b7⟩ := plot_all (Q := fun x : ByteArray × Int => x.1.size ≤ maxLen ∧ I64 x.2) (fun s h => pcmd_fit h) 1 b6
  generalize plot pCmd 1 co.2 = cm at *
  obtain ⟨a8, b8⟩ := plot_all (Q := fun x : Int × Int => I64 x.1 ∧ I64 x.2) (fun s h => pexp_fit h) 1 b7
  generalize plot pExp 1 cm.2 = ex at *
  obtain ⟨a9, b9⟩ := plot_all (Q := fun x : Int => I64 x) (fun s h => pbyte_i64 h) 1 b8
  generalize plot pByte 1 ex.2 = pp at *
  obtain ⟨a10, b10⟩ := plot_all (Q := fun x : Int => I64 x) (fun s h => pbyte_i64 h) 1 b9
  generalize plot pByte 1 pp.2 = pq at *
  obtain ⟨a11, b11⟩ := pplace_i64 b10
  generalize pPlace pq.2 = f0 at *
  obtain ⟨a12, b12⟩ := pplace_i64 b11
  generalize pPlace f0.2 = f1 at *
  obtain ⟨a13, b13⟩ := pplace_i64 b12
  generalize pPlace f1.2 = f2 at *
  obtain ⟨a14, b14⟩ := pplace_i64 b13
  exact ⟨a0, a1, a2, a3, a4, a5, a6, a7, a8, a9, a10, a11, a12, a13, a14⟩
theorem Readed.obj {pb B : Nat} {w w' : World} {s : Ps} {V : ObjV} (h : Readed pb B w (gotP s) V w') (ho : Okay s) : ObjAt w' V (gotP s).1 :=
  ⟨h.imps.els fun _ => rfl, h.types.els fun _ => rfl, h.code.els fun _ => rfl, h.cmds.els fun _ => rfl, h.exps.els fun _ => rfl, h.ptrs.els fun _ => rfl, h.procs.els fun _ => rfl, gotP_fit ho⟩

/- the mark ahead -/
theorem mark_0 (h : 0 < (ByteArray.mk #[68, 87]).size) : IntKind.u32.wrap ((((ByteArray.mk #[68, 87])[0]'h).toNat : Nat) : Int) = 68 := by kernel_rfl
theorem mark_1 (h : 1 < (ByteArray.mk #[68, 87]).size) : IntKind.u32.wrap ((((ByteArray.mk #[68, 87])[1]'h).toNat : Nat) : Int) = 87 := by kernel_rfl
def pMark (s : Ps) : Bool × Ps := if (pn s 1).1 = 68 then (decide ((pn (pn s 1).2 1).1 = 87), (pn (pn s 1).2 1).2) else (false, (pn s 1).2)
set_option maxRecDepth 100000 in
set_option maxHeartbeats 1000000 in
theorem mark_any (pb B : Nat) (s : Ps) (w : World) (h : PrS w pb B s) :
    Calls Try.prog 31 #[.pointer (some ⟨pb, 0, none⟩)] w fun e w' => e = .returned (.bool (pMark s).1) ∧ PrS w' pb B (pMark s).2 ∧ Kept (· = pb) w w' := by
  have C1 : ∀ w, PrS w pb B s → Calls Try.prog 50 #[.pointer (some ⟨pb, 0, none⟩), .int .i64 1] w fun e w' => e = .returned (.int .u32 (((pn s 1).1 : Nat) : Int)) ∧ PrS w' pb B (pn s 1).2 ∧ Kept (· = pb) w w' := fun w h => pn_any pb B s 1 w h
  have C2 : ∀ w, PrS w pb B (pn s 1).2 → Calls Try.prog 50 #[.pointer (some ⟨pb, 0, none⟩), .int .i64 1] w fun e w' => e = .returned (.int .u32 (((pn (pn s 1).2 1).1 : Nat) : Int)) ∧ PrS w' pb B (pn (pn s 1).2 1).2 ∧ Kept (· = pb) w w' := fun w h => pn_any pb B _ 1 w h
  unfold pMark
  generalize pn (pn s 1).2 1 = b at *
  obtain ⟨y, s2⟩ := b
  generalize pn s 1 = a at *
  obtain ⟨x, s1⟩ := a
  simp only at C1 C2
  show Calls _ _ _ _ fun e w' => e = .returned (.bool (if x = 68 then (decide (y = 87), s2) else (false, s1)).1) ∧ PrS w' pb B (if x = 68 then (decide (y = 87), s2) else (false, s1)).2 ∧ Kept (· = pb) w w'
  generalize hr : (if x = 68 then (decide (y = 87), s2) else (false, s1)) = r
  have HR := Lib.hid hr
  have H1 := Lib.hid C1
  have H2 := Lib.hid C2
  have H := Lib.hid h
  clear C1 C2 h hr
  have dro : ∀ (w : World) (s : Ps), PrS w pb B s → PrS w.drew pb B s := fun w s h => h.keep (Kept.refl (fun _ => False) w).drew (fun h => h) (fun _ h => h.elim)
  have DRO := Lib.hid dro
  have m0 := mark_0
  have m1 := mark_1
  clear dro
  go_enter Try.func31, Try.ntmps31
  go_wp2_with fail
  go_loopw [4] (fun i wr => ((i = .int .i64 0 ∧ PrS wr pb B s) ∨ (i = .int .i64 1 ∧ x = 68 ∧ PrS wr pb B s1) ∨ (i = .int .i64 2 ∧ x = 68 ∧ y = 87 ∧ PrS wr pb B s2)) ∧ Kept (· = pb) w wr) (fun i _ => 2 - (intOf i).toNat)
  case atStart => exact ⟨.inl ⟨rfl, H.out⟩, Kept.refl _ _⟩
  case round =>
    clear H
    obtain ⟨hrel, hk⟩ := hrel
    have HK := Lib.hid hk
    clear hk
    rcases hrel with ⟨rfl, hp⟩ | ⟨rfl, hx, hp⟩ | ⟨rfl, hx, hy, hp⟩
    · as_aux_lemma =>
      have HP := Lib.hid hp
      clear hp
      by_cases hx : x = 68
      · have t0 : ((x : Int) != 68) = false := by simp [hx]
        have HX := Lib.hid hx
        clear hx
        go_wp2_with fail
        refine wp_region_held_drew (S := fun _ => True) (by kernel_rfl) ?_ (fun hHeld => ?_)
        · trivial
        refine wpAnyH_take (i := 0) (v := ?_) rfl (by kernel_rfl) (by kernel_rfl) (by kernel_rfl) (fun _ _ _ h => h) (Or.inl ⟨by rfl, ?_⟩) (by assumption) ?_
        rotate_left
        · intro w hSw
          (try dsimp only at hSw)
          go_simp
          (try with_reducible rfl)
        try simp only [Act.put, List.getElem_toArray, List.getElem_cons_zero, List.setIfInBounds_toArray, List.set_cons_zero, List.set_cons_succ]
        refine wpAnyH_take (i := 2) (v := ?_) rfl (by kernel_rfl) (by kernel_rfl) (by kernel_rfl) (fun _ _ _ h => h) (Or.inl ⟨by rfl, ?_⟩) (by assumption) ?_
        rotate_left
        · intro w hSw
          (try dsimp only at hSw)
          go_simp
          (try with_reducible rfl)
        try simp only [Act.put, List.getElem_toArray, List.getElem_cons_zero, List.getElem_cons_succ, List.setIfInBounds_toArray, List.set_cons_zero, List.set_cons_succ]
        refine wpAnyH_take (i := 3) (v := ?_) rfl (by kernel_rfl) (by kernel_rfl) (by kernel_rfl) (fun _ _ _ h => h) (Or.inl ⟨by rfl, ?_⟩) (by assumption) ?_
        rotate_left
        · intro w hSw
          (try dsimp only at hSw)
          go_simp
          (try with_reducible rfl)
        try simp only [Act.put, List.getElem_toArray, List.getElem_cons_zero, List.getElem_cons_succ, List.setIfInBounds_toArray, List.set_cons_zero, List.set_cons_succ]
        refine wpAnyH_take (i := 4) (v := ?_) rfl (by kernel_rfl) (by kernel_rfl) (by kernel_rfl) (fun _ _ _ h => h) (Or.inl ⟨by rfl, ?_⟩) (by assumption) ?_
        rotate_left
        · intro w hSw
          (try dsimp only at hSw)
          go_simp
          (try with_reducible rfl)
        try simp only [Act.put, List.getElem_toArray, List.getElem_cons_zero, List.getElem_cons_succ, List.setIfInBounds_toArray, List.set_cons_zero, List.set_cons_succ]
        refine wpAnyH_ready (rs := [1]) (by kernel_rfl) (by simp) ?_
        refine AllReadyH.cons rfl (fun K hK => ?_) AllReadyH.nil
        go_simp
        refine (H1.out _ (DRO.out _ _ HP.out)).mono ?_
        rintro e w1 ⟨rfl, hp⟩
        have HP1 := Lib.hid hp
        clear hp
        first | show K _ _ | go_wp2_with fail
        refine hK.out _ _ ?_ (fun hHeld1 => ?_)
        · trivial
        clear hK K
        try simp only [Act.put, List.getElem_toArray, List.getElem_cons_zero, List.getElem_cons_succ, List.setIfInBounds_toArray, List.set_cons_zero, List.set_cons_succ]
        refine wpAnyH_take (i := 5) (v := ?_) rfl (by kernel_rfl) (by kernel_rfl) (by kernel_rfl) (fun _ _ _ h => h) (Or.inl ⟨by rfl, ?_⟩) (by assumption) ?_
        rotate_left
        · intro w hSw
          (try dsimp only at hSw)
          go_simp
          (try with_reducible rfl)
        try simp only [Act.put, List.getElem_toArray, List.getElem_cons_zero, List.getElem_cons_succ, List.setIfInBounds_toArray, List.set_cons_zero, List.set_cons_succ]
        refine wpAnyH_done (by kernel_rfl) ?_ _
        have HK1 := Lib.hid (HK.out.drew.trans HP1.out.2)
        clear hHeld hHeld1
        go_wp2_with fail
        go_roundw
        case rel => exact ⟨.inr (.inl ⟨rfl, HX.out, HP1.out.1⟩), HK1.out⟩
        case measure => simp [intOf]
      · have t0 : ((x : Int) != 68) = true := by simp; omega
        have hr := HR.out
        rw [if_neg hx] at hr
        have HRR := Lib.hid hr
        clear hx hr
        go_wp2_with fail
        refine wp_region_held_drew (S := fun _ => True) (by kernel_rfl) ?_ (fun hHeld => ?_)
        · trivial
        refine wpAnyH_take (i := 0) (v := ?_) rfl (by kernel_rfl) (by kernel_rfl) (by kernel_rfl) (fun _ _ _ h => h) (Or.inl ⟨by rfl, ?_⟩) (by assumption) ?_
        rotate_left
        · intro w hSw
          (try dsimp only at hSw)
          go_simp
          (try with_reducible rfl)
        try simp only [Act.put, List.getElem_toArray, List.getElem_cons_zero, List.setIfInBounds_toArray, List.set_cons_zero, List.set_cons_succ]
        refine wpAnyH_take (i := 2) (v := ?_) rfl (by kernel_rfl) (by kernel_rfl) (by kernel_rfl) (fun _ _ _ h => h) (Or.inl ⟨by rfl, ?_⟩) (by assumption) ?_
        rotate_left
        · intro w hSw
          (try dsimp only at hSw)
          go_simp
          (try with_reducible rfl)
        try simp only [Act.put, List.getElem_toArray, List.getElem_cons_zero, List.getElem_cons_succ, List.setIfInBounds_toArray, List.set_cons_zero, List.set_cons_succ]
        refine wpAnyH_take (i := 3) (v := ?_) rfl (by kernel_rfl) (by kernel_rfl) (by kernel_rfl) (fun _ _ _ h => h) (Or.inl ⟨by rfl, ?_⟩) (by assumption) ?_
        rotate_left
        · intro w hSw
          (try dsimp only at hSw)
          go_simp
          (try with_reducible rfl)
        try simp only [Act.put, List.getElem_toArray, List.getElem_cons_zero, List.getElem_cons_succ, List.setIfInBounds_toArray, List.set_cons_zero, List.set_cons_succ]
        refine wpAnyH_take (i := 4) (v := ?_) rfl (by kernel_rfl) (by kernel_rfl) (by kernel_rfl) (fun _ _ _ h => h) (Or.inl ⟨by rfl, ?_⟩) (by assumption) ?_
        rotate_left
        · intro w hSw
          (try dsimp only at hSw)
          go_simp
          (try with_reducible rfl)
        try simp only [Act.put, List.getElem_toArray, List.getElem_cons_zero, List.getElem_cons_succ, List.setIfInBounds_toArray, List.set_cons_zero, List.set_cons_succ]
        refine wpAnyH_ready (rs := [1]) (by kernel_rfl) (by simp) ?_
        refine AllReadyH.cons rfl (fun K hK => ?_) AllReadyH.nil
        go_simp
        refine (H1.out _ (DRO.out _ _ HP.out)).mono ?_
        rintro e w1 ⟨rfl, hp⟩
        have HP1 := Lib.hid hp
        clear hp
        first | show K _ _ | go_wp2_with fail
        refine hK.out _ _ ?_ (fun hHeld1 => ?_)
        · trivial
        clear hK K
        try simp only [Act.put, List.getElem_toArray, List.getElem_cons_zero, List.getElem_cons_succ, List.setIfInBounds_toArray, List.set_cons_zero, List.set_cons_succ]
        refine wpAnyH_take (i := 5) (v := ?_) rfl (by kernel_rfl) (by kernel_rfl) (by kernel_rfl) (fun _ _ _ h => h) (Or.inl ⟨by rfl, ?_⟩) (by assumption) ?_
        rotate_left
        · intro w hSw
          (try dsimp only at hSw)
          go_simp
          (try with_reducible rfl)
        try simp only [Act.put, List.getElem_toArray, List.getElem_cons_zero, List.getElem_cons_succ, List.setIfInBounds_toArray, List.set_cons_zero, List.set_cons_succ]
        refine wpAnyH_done (by kernel_rfl) ?_ _
        have HK1 := Lib.hid (HK.out.drew.trans HP1.out.2)
        clear hHeld hHeld1
        go_wp2_with fail
        go_ret
        exact ⟨end_bool (by rw [← HRR.out]), by rw [← HRR.out]; exact HP1.out.1, HK1.out⟩
    · as_aux_lemma =>
      have HP := Lib.hid hp
      have hr := HR.out
      rw [if_pos hx] at hr
      have HRR := Lib.hid hr
      have HX := Lib.hid hx
      clear hp hx hr
      by_cases hy : y = 87
      · have t0 : ((y : Int) != 87) = false := by simp [hy]
        have HY := Lib.hid hy
        clear hy
        go_wp2_with fail
        refine wp_region_held_drew (S := fun _ => True) (by kernel_rfl) ?_ (fun hHeld => ?_)
        · trivial
        refine wpAnyH_take (i := 0) (v := ?_) rfl (by kernel_rfl) (by kernel_rfl) (by kernel_rfl) (fun _ _ _ h => h) (Or.inl ⟨by rfl, ?_⟩) (by assumption) ?_
        rotate_left
        · intro w hSw
          (try dsimp only at hSw)
          go_simp
          (try with_reducible rfl)
        try simp only [Act.put, List.getElem_toArray, List.getElem_cons_zero, List.setIfInBounds_toArray, List.set_cons_zero, List.set_cons_succ]
        refine wpAnyH_take (i := 2) (v := ?_) rfl (by kernel_rfl) (by kernel_rfl) (by kernel_rfl) (fun _ _ _ h => h) (Or.inl ⟨by rfl, ?_⟩) (by assumption) ?_
        rotate_left
        · intro w hSw
          (try dsimp only at hSw)
          go_simp
          (try with_reducible rfl)
        try simp only [Act.put, List.getElem_toArray, List.getElem_cons_zero, List.getElem_cons_succ, List.setIfInBounds_toArray, List.set_cons_zero, List.set_cons_succ]
        refine wpAnyH_take (i := 3) (v := ?_) rfl (by kernel_rfl) (by kernel_rfl) (by kernel_rfl) (fun _ _ _ h => h) (Or.inl ⟨by rfl, ?_⟩) (by assumption) ?_
        rotate_left
        · intro w hSw
          (try dsimp only at hSw)
          go_simp
          (try with_reducible rfl)
        try simp only [Act.put, List.getElem_toArray, List.getElem_cons_zero, List.getElem_cons_succ, List.setIfInBounds_toArray, List.set_cons_zero, List.set_cons_succ]
        refine wpAnyH_take (i := 4) (v := ?_) rfl (by kernel_rfl) (by kernel_rfl) (by kernel_rfl) (fun _ _ _ h => h) (Or.inl ⟨by rfl, ?_⟩) (by assumption) ?_
        rotate_left
        · intro w hSw
          (try dsimp only at hSw)
          go_simp
          (try with_reducible rfl)
        try simp only [Act.put, List.getElem_toArray, List.getElem_cons_zero, List.getElem_cons_succ, List.setIfInBounds_toArray, List.set_cons_zero, List.set_cons_succ]
        refine wpAnyH_ready (rs := [1]) (by kernel_rfl) (by simp) ?_
        refine AllReadyH.cons rfl (fun K hK => ?_) AllReadyH.nil
        go_simp
        refine (H2.out _ (DRO.out _ _ HP.out)).mono ?_
        rintro e w1 ⟨rfl, hp⟩
        have HP1 := Lib.hid hp
        clear hp
        first | show K _ _ | go_wp2_with fail
        refine hK.out _ _ ?_ (fun hHeld1 => ?_)
        · trivial
        clear hK K
        try simp only [Act.put, List.getElem_toArray, List.getElem_cons_zero, List.getElem_cons_succ, List.setIfInBounds_toArray, List.set_cons_zero, List.set_cons_succ]
        refine wpAnyH_take (i := 5) (v := ?_) rfl (by kernel_rfl) (by kernel_rfl) (by kernel_rfl) (fun _ _ _ h => h) (Or.inl ⟨by rfl, ?_⟩) (by assumption) ?_
        rotate_left
        · intro w hSw
          (try dsimp only at hSw)
          go_simp
          (try with_reducible rfl)
        try simp only [Act.put, List.getElem_toArray, List.getElem_cons_zero, List.getElem_cons_succ, List.setIfInBounds_toArray, List.set_cons_zero, List.set_cons_succ]
        refine wpAnyH_done (by kernel_rfl) ?_ _
        have HK1 := Lib.hid (HK.out.drew.trans HP1.out.2)
        clear hHeld hHeld1
        go_wp2_with fail
        go_roundw
        case rel => exact ⟨.inr (.inr ⟨rfl, HX.out, HY.out, HP1.out.1⟩), HK1.out⟩
        case measure => simp [intOf]
      · have t0 : ((y : Int) != 87) = true := by simp; omega
        have hd : decide (y = 87) = false := by simpa using hy
        have HRQ : Hid ((false, s2) = r) := by show _ = _; rw [← hd]; exact HRR.out
        clear hy hd
        go_wp2_with fail
        refine wp_region_held_drew (S := fun _ => True) (by kernel_rfl) ?_ (fun hHeld => ?_)
        · trivial
        refine wpAnyH_take (i := 0) (v := ?_) rfl (by kernel_rfl) (by kernel_rfl) (by kernel_rfl) (fun _ _ _ h => h) (Or.inl ⟨by rfl, ?_⟩) (by assumption) ?_
        rotate_left
        · intro w hSw
          (try dsimp only at hSw)
          go_simp
          (try with_reducible rfl)
        try simp only [Act.put, List.getElem_toArray, List.getElem_cons_zero, List.setIfInBounds_toArray, List.set_cons_zero, List.set_cons_succ]
        refine wpAnyH_take (i := 2) (v := ?_) rfl (by kernel_rfl) (by kernel_rfl) (by kernel_rfl) (fun _ _ _ h => h) (Or.inl ⟨by rfl, ?_⟩) (by assumption) ?_
        rotate_left
        · intro w hSw
          (try dsimp only at hSw)
          go_simp
          (try with_reducible rfl)
        try simp only [Act.put, List.getElem_toArray, List.getElem_cons_zero, List.getElem_cons_succ, List.setIfInBounds_toArray, List.set_cons_zero, List.set_cons_succ]
        refine wpAnyH_take (i := 3) (v := ?_) rfl (by kernel_rfl) (by kernel_rfl) (by kernel_rfl) (fun _ _ _ h => h) (Or.inl ⟨by rfl, ?_⟩) (by assumption) ?_
        rotate_left
        · intro w hSw
          (try dsimp only at hSw)
          go_simp
          (try with_reducible rfl)
        try simp only [Act.put, List.getElem_toArray, List.getElem_cons_zero, List.getElem_cons_succ, List.setIfInBounds_toArray, List.set_cons_zero, List.set_cons_succ]
        refine wpAnyH_take (i := 4) (v := ?_) rfl (by kernel_rfl) (by kernel_rfl) (by kernel_rfl) (fun _ _ _ h => h) (Or.inl ⟨by rfl, ?_⟩) (by assumption) ?_
        rotate_left
        · intro w hSw
          (try dsimp only at hSw)
          go_simp
          (try with_reducible rfl)
        try simp only [Act.put, List.getElem_toArray, List.getElem_cons_zero, List.getElem_cons_succ, List.setIfInBounds_toArray, List.set_cons_zero, List.set_cons_succ]
        refine wpAnyH_ready (rs := [1]) (by kernel_rfl) (by simp) ?_
        refine AllReadyH.cons rfl (fun K hK => ?_) AllReadyH.nil
        go_simp
        refine (H2.out _ (DRO.out _ _ HP.out)).mono ?_
        rintro e w1 ⟨rfl, hp⟩
        have HP1 := Lib.hid hp
        clear hp
        first | show K _ _ | go_wp2_with fail
        refine hK.out _ _ ?_ (fun hHeld1 => ?_)
        · trivial
        clear hK K
        try simp only [Act.put, List.getElem_toArray, List.getElem_cons_zero, List.getElem_cons_succ, List.setIfInBounds_toArray, List.set_cons_zero, List.set_cons_succ]
        refine wpAnyH_take (i := 5) (v := ?_) rfl (by kernel_rfl) (by kernel_rfl) (by kernel_rfl) (fun _ _ _ h => h) (Or.inl ⟨by rfl, ?_⟩) (by assumption) ?_
        rotate_left
        · intro w hSw
          (try dsimp only at hSw)
          go_simp
          (try with_reducible rfl)
        try simp only [Act.put, List.getElem_toArray, List.getElem_cons_zero, List.getElem_cons_succ, List.setIfInBounds_toArray, List.set_cons_zero, List.set_cons_succ]
        refine wpAnyH_done (by kernel_rfl) ?_ _
        have HK1 := Lib.hid (HK.out.drew.trans HP1.out.2)
        clear hHeld hHeld1
        go_wp2_with fail
        go_ret
        exact ⟨end_bool (by rw [← HRQ.out]), by rw [← HRQ.out]; exact HP1.out.1, HK1.out⟩
    · have HP := Lib.hid hp
      have hr := HR.out
      rw [if_pos hx, decide_eq_true hy] at hr
      have HRR := Lib.hid hr
      clear hp hx hy hr
      go_wp2_with fail
      go_ret
      exact ⟨end_bool (by rw [← HRR.out]), by rw [← HRR.out]; exact HP.out, HK.out⟩
end Go.Proofs.Ythgnklgejlebhaa
