/-
  What the program reads and writes, held together (layer 12), plain data: what is read is written as those bytes; with more behind, the same is read. Nothing of the program.
-/
import Derived.Test.YthgnklgejlebhaaObjV
import Derived.Test.YthgnklgejlebhaaObjR
namespace Go.Proofs.Ythgnklgejlebhaa

/- a reading that takes its bytes off the front, and leaves the rest alone -/
structure Reads1 {α : Type} (f : Ps → α × Ps) (enc : α → List Nat) : Prop where
  /- what is short stays short -/
  stay : ∀ s, s.2 = true → (f s).2.2 = true
  /- what is read is written so -/
  back : ∀ s, Okay s → (f s).2.2 = false → s.1 = enc (f s).1 ++ (f s).2.1
  /- with more behind it -/
  more : ∀ l z, (f (l, false)).2.2 = false → f (l ++ z, false) = ((f (l, false)).1, ((f (l, false)).2.1 ++ z, false))
theorem Reads1.not {α : Type} {f : Ps → α × Ps} {enc : α → List Nat} (h : Reads1 f enc) {s : Ps} (hs : (f s).2.2 = false) : s.2 = false := by
  cases hb : s.2 with
  | false => rfl
  | true => rw [h.stay s hb] at hs; cases hs
theorem valB_take (l : List Nat) (k : Nat) (h : ∀ b ∈ l, b < 256) (hk : k ≤ l.length) : numB (valB (l.take k)) k = l.take k := by
  have := numB_val (l.take k) (fun b hb => h b (List.mem_of_mem_take hb))
  rwa [List.length_take, Nat.min_eq_left hk] at this
theorem wide_nat {k : Nat} (h1 : 1 ≤ k) (h4 : k ≤ 4) : wideK (k : Nat) = true := by simp [wideK]; omega
theorem pn_def {k : Nat} (h1 : 1 ≤ k) (h4 : k ≤ 4) (s : Ps) : pn s (k : Nat) = (valB (takeV s.1 k), (takeL s.1 k, takeS s.1 s.2 k)) := by
  simp only [pn, pnumV, pnumL, pnumS, wide_nat h1 h4, if_true, Int.toNat_natCast]
theorem takeS_false {l : List Nat} {b : Bool} {k : Nat} (h : takeS l b k = false) : b = false ∧ k ≤ l.length := by
  simp only [takeS, Bool.or_eq_false_iff, decide_eq_false_iff_not] at h
  exact ⟨h.1, by omega⟩
theorem take_more {l z : List Nat} {k : Nat} (h : k ≤ l.length) : takeV (l ++ z) k = takeV l k ∧ takeL (l ++ z) k = takeL l k ++ z ∧ takeS (l ++ z) false k = false := by
  have h2 : k ≤ (l ++ z).length := by rw [List.length_append]; omega
  refine ⟨?_, ?_, ?_⟩
  · rw [takeV, takeV, if_pos h, if_pos h2, List.take_append_of_le_length h]
  · rw [takeL, takeL, if_pos h, if_pos h2, List.drop_append_of_le_length h]
  · simp only [takeS, Bool.false_or, decide_eq_false_iff_not]; omega
theorem reads_pn {k : Nat} (h1 : 1 ≤ k) (h4 : k ≤ 4) : Reads1 (pn · (k : Nat)) (numB · k) := by
  refine ⟨fun s hs => ?_, fun s ho hs => ?_, fun l z hs => ?_⟩
  · simp only [pn_def h1 h4, takeS, hs, Bool.true_or]
  · simp only [pn_def h1 h4] at hs ⊢
    have h := (takeS_false hs).2
    rw [takeV, takeL, if_pos h, if_pos h, valB_take s.1 k ho.byte h, List.take_append_drop]
  · simp only [pn_def h1 h4] at hs ⊢
    have h := take_more (z := z) (takeS_false hs).2
    rw [h.1, h.2.1, h.2.2]
/- a reading whose values are others' -/
theorem Reads1.map {α β : Type} {f : Ps → α × Ps} {enc : α → List Nat} (h : Reads1 f enc) (g : α → β) (e2 : β → List Nat) (he : ∀ s, Okay s → e2 (g (f s).1) = enc (f s).1) : Reads1 (fun s => (g (f s).1, (f s).2)) e2 := by
  refine ⟨h.stay, fun s ho hs => ?_, fun l z hs => ?_⟩
  · show s.1 = e2 (g (f s).1) ++ (f s).2.1
    rw [he s ho]
    exact h.back s ho hs
  · have := h.more l z hs
    simp only [this]
theorem Reads1.as {α β : Type} {f : Ps → α × Ps} {enc : α → List Nat} (h : Reads1 f enc) (g : α → β) (e2 : β → List Nat) (he : ∀ x, e2 (g x) = enc x) : Reads1 (fun s => (g (f s).1, (f s).2)) e2 := h.map g e2 fun s _ => he (f s).1
theorem Reads1.congr {α : Type} {f g : Ps → α × Ps} {enc : α → List Nat} (h : Reads1 f enc) (e : ∀ s, f s = g s) : Reads1 g enc := by
  have : f = g := funext e
  rw [← this]
  exact h
/- one behind the other -/
theorem Reads1.seq {α β : Type} {f : Ps → α × Ps} {g : Ps → β × Ps} {e1 : α → List Nat} {e2 : β → List Nat} (hf : Reads1 f e1) (hg : Reads1 g e2) (ok : ∀ s, Okay s → Okay (f s).2) : Reads1 (fun s => (((f s).1, (g (f s).2).1), (g (f s).2).2)) (fun x => e1 x.1 ++ e2 x.2) := by
  refine ⟨fun s hs => hg.stay _ (hf.stay s hs), fun s ho hs => ?_, fun l z hs => ?_⟩
  · have h1 := hg.not hs
    rw [List.append_assoc, ← hg.back _ (ok s ho) hs]
    exact hf.back s ho h1
  · have h1 := hg.not hs
    have e1 := hf.more l z h1
    simp only [e1]
    have e2 : (f (l, false)).2 = ((f (l, false)).2.1, false) := Prod.ext rfl h1
    have := hg.more (f (l, false)).2.1 z (by rw [← e2]; exact hs)
    rw [this, ← e2]
theorem okay_pnk (k : Nat) : ∀ s, Okay s → Okay (pn s (k : Nat)).2 := fun _ h => okay_pn h _
/- a text -/
theorem pt_eq (s : Ps) : pt s = (strOf (takeV (pnumL s.1 1) (pnumV s.1 1)), (takeL (pnumL s.1 1) (pnumV s.1 1), takeS (pnumL s.1 1) (pnumS s.1 s.2 1) (pnumV s.1 1))) := rfl
theorem reads_pt : Reads1 pt (fun x => textB (sb x)) := by
  have d : ∀ s : Ps, pnumV s.1 1 = valB (takeV s.1 1) ∧ pnumL s.1 1 = takeL s.1 1 ∧ pnumS s.1 s.2 1 = takeS s.1 s.2 1 := fun s => ⟨rfl, rfl, rfl⟩
  refine ⟨fun s hs => ?_, fun s ho hs => ?_, fun l z hs => ?_⟩
  · rw [pt_eq, (d s).2.2]
    simp [takeS, hs]
  · rw [pt_eq] at hs ⊢
    simp only at hs ⊢
    have h := takeS_false hs
    have h0 := (reads_pn (k := 1) (by decide) (by decide)).back s ho h.1
    have hok := okay_pn ho 1
    have hc : pnumV s.1 1 < 256 := pnum_lt ho.byte 1
    have h0' : s.1 = numB (pnumV s.1 1) 1 ++ pnumL s.1 1 := h0
    have hb : ∀ b ∈ pnumL s.1 1, b < 256 := hok.byte
    generalize pnumL s.1 1 = r at *
    generalize pnumV s.1 1 = c at *
    rw [takeV, takeL, if_pos h.2, if_pos h.2, sb_strOf (fun b hb' => hb b (List.mem_of_mem_take hb'))]
    have hl : (r.take c).length = c := by rw [List.length_take]; exact Nat.min_eq_left h.2
    rw [h0', textB, hl, if_neg (by omega), List.take_of_length_le (by omega)]
    show numB c 1 ++ r = c :: r.take c ++ r.drop c
    rw [List.cons_append, List.take_append_drop]
    simp only [numB]
    rw [Nat.mod_eq_of_lt hc]
    rfl
  · rw [pt_eq] at hs ⊢
    simp only at hs ⊢
    have h := takeS_false hs
    have e := (reads_pn (k := 1) (by decide) (by decide)).more l z h.1
    have e1 : pnumV (l ++ z) 1 = pnumV l 1 := congrArg (fun p => p.1) e
    have e2 : pnumL (l ++ z) 1 = pnumL l 1 ++ z := congrArg (fun p => p.2.1) e
    have e3 : pnumS (l ++ z) false 1 = false := congrArg (fun p => p.2.2) e
    have t := take_more (z := z) h.2
    rw [e1, e2, e3, t.1, t.2.1, t.2.2]
    rfl
theorem numZ_cast {n : Nat} (h : n < 4294967296) (k : Nat) : numZ ((n : Nat) : Int) k = numB n k := by
  unfold numZ
  rw [show (((n : Nat) : Int) % 4294967296).toNat = n by omega]
theorem reads_byte : Reads1 pByte (numZ · 1) := (reads_pn (k := 1) (by decide) (by decide)).map (fun n => ((n : Nat) : Int)) _ fun s h => numZ_cast (Nat.lt_trans (pnum_lt h.byte 1) (by decide)) 1
theorem reads_place : Reads1 pPlace (numZ · 2) := (reads_pn (k := 2) (by decide) (by decide)).map (fun n => ((n : Nat) : Int)) _ fun s h => numZ_cast (Nat.lt_trans (pnum_lt h.byte 2) (by decide)) 2
theorem reads_base : Reads1 pBase (numZ · 1) := (reads_pn (k := 1) (by decide) (by decide)).map base255 _ fun s h => by
  have hc : (pn s ((1 : Nat) : Int)).1 < 256 := pnum_lt h.byte 1
  show numZ (base255 (pn s ((1 : Nat) : Int)).1) 1 = numB (pn s ((1 : Nat) : Int)).1 1
  generalize (pn s ((1 : Nat) : Int)).1 = n at *
  unfold base255
  split
  · next e => rw [e]; decide
  · exact numZ_cast (by omega) 1
theorem reads_word : Reads1 pWord (numB · 4) := reads_pn (k := 4) (by decide) (by decide)
theorem reads_imp : Reads1 pImp impB := reads_pt.seq reads_word (fun _ h => okay_pt h)
theorem reads_cmd : Reads1 pCmd cmdB := reads_pt.seq reads_place (fun _ h => okay_pt h)
theorem reads_exp : Reads1 pExp expB := reads_byte.seq reads_place (fun _ h => (pbyte_i64 h).2)
theorem reads_type : Reads1 pType typeB := by
  have h := reads_place.seq (reads_byte.seq reads_base (fun _ h => (pbyte_i64 h).2)) (fun _ h => (pplace_i64 h).2)
  refine ⟨h.stay, fun s ho hs => ?_, h.more⟩
  rw [typeB, List.append_assoc]
  exact h.back s ho hs
/- a list -/
theorem plist_acc {α : Type} (f : Ps → α × Ps) : ∀ n acc s, (plist f n acc s).2.2 = false → (plist f n acc s).1 = acc ++ (plist f n [] s).1 ∧ (plist f n acc s).2 = (plist f n [] s).2
  | 0, acc, s, _ => ⟨(List.append_nil acc).symm, rfl⟩
  | n + 1, acc, s, h => by
    rw [plist] at h ⊢
    rw [plist]
    split at h
    · next hs => rw [hs] at h; cases h
    · next hs =>
      rw [if_neg hs]
      simp only [if_neg hs]
      have h1 := plist_acc f n (acc ++ [(f s).1]) (f s).2 h
      have h0 : (plist f n [] (f s).2).2.2 = false := by rw [← h1.2]; exact h
      have h3 : (plist f n ([] ++ [(f s).1]) (f s).2).2.2 = false := by
        cases hb : (plist f n ([] ++ [(f s).1]) (f s).2).2.2 with
        | false => rfl
        | true => exact absurd hb (by rw [plist_short f n ([] ++ [(f s).1]) [] (f s).2, h0]; simp)
      have h2 := plist_acc f n ([] ++ [(f s).1]) (f s).2 h3
      exact ⟨by rw [h1.1, h2.1, List.append_assoc]; rfl, h1.2.trans h2.2.symm⟩
where
  plist_short {α : Type} (f : Ps → α × Ps) : ∀ n (a b : List α) s, (plist f n a s).2.2 = (plist f n b s).2.2
    | 0, _, _, _ => rfl
    | n + 1, a, b, s => by
      rw [plist, plist]
      split
      · rfl
      · exact plist_short f n _ _ _
theorem plist_stay {α : Type} {f : Ps → α × Ps} (hf : ∀ s, s.2 = true → (f s).2.2 = true) : ∀ n acc s, s.2 = true → (plist f n acc s).2.2 = true
  | 0, _, _, h => h
  | n + 1, acc, s, h => by rw [plist, if_pos (hf s h)]; exact hf s h
theorem plist_len {α : Type} (f : Ps → α × Ps) : ∀ n acc s, (plist f n acc s).1.length ≤ acc.length + n
  | 0, _, _ => Nat.le_refl _
  | n + 1, acc, s => by
    rw [plist]
    split
    · exact Nat.zero_le _
    · have := plist_len f n (acc ++ [(f s).1]) (f s).2
      rw [List.length_append] at this
      simp only [List.length_cons, List.length_nil] at this
      omega
theorem plist_back {α : Type} {f : Ps → α × Ps} {enc : α → List Nat} (hf : Reads1 f enc) (ok : ∀ s, Okay s → Okay (f s).2) : ∀ n s, Okay s → (plist f n [] s).2.2 = false → s.1 = (plist f n [] s).1.flatMap enc ++ (plist f n [] s).2.1 ∧ (plist f n [] s).1.length = n
  | 0, s, _, _ => ⟨rfl, rfl⟩
  | n + 1, s, ho, h => by
    rw [plist] at h ⊢
    split at h
    · next hs => rw [hs] at h; cases h
    · next hs =>
      rw [if_neg hs]
      have hs' : (f s).2.2 = false := by simpa using hs
      have h1 := plist_acc f n ([] ++ [(f s).1]) (f s).2 h
      have h0 : (plist f n [] (f s).2).2.2 = false := by rw [← h1.2]; exact h
      have h2 := plist_back hf ok n (f s).2 (ok s ho) h0
      have h3 := hf.back s ho hs'
      refine ⟨?_, ?_⟩
      · rw [h1.1, h1.2, List.flatMap_append, List.append_assoc, ← h2.1]
        simpa using h3
      · rw [h1.1, List.length_append, h2.2]
        simp only [List.nil_append, List.length_cons, List.length_nil]
        omega
theorem plist_more {α : Type} {f : Ps → α × Ps} {enc : α → List Nat} (hf : Reads1 f enc) : ∀ n acc l z, (plist f n acc (l, false)).2.2 = false → plist f n acc (l ++ z, false) = ((plist f n acc (l, false)).1, ((plist f n acc (l, false)).2.1 ++ z, false))
  | 0, _, _, _, _ => rfl
  | n + 1, acc, l, z, h => by
    rw [plist] at h ⊢
    rw [plist]
    split at h
    · next hs => rw [hs] at h; cases h
    · next hs =>
      have hs' : (f (l, false)).2.2 = false := by simpa using hs
      have e := hf.more l z hs'
      have e2 : (f (l, false)).2 = ((f (l, false)).2.1, false) := Prod.ext rfl hs'
      rw [e]
      simp only [hs', Bool.false_eq_true, if_false]
      rw [e2] at h
      have := plist_more hf n (acc ++ [(f (l, false)).1]) (f (l, false)).2.1 z h
      rw [this, ← e2]
theorem reads_plot {α : Type} {f : Ps → α × Ps} {enc : α → List Nat} (hf : Reads1 f enc) (ok : ∀ s, Okay s → Okay (f s).2) {k : Nat} (h1 : 1 ≤ k) (h2 : k ≤ 2) : Reads1 (plot f (k : Nat)) (wl k enc) := by
  have hp := reads_pn h1 (Nat.le_trans h2 (by decide))
  refine ⟨fun s hs => plist_stay hf.stay _ _ _ (hp.stay s hs), fun s ho hs => ?_, fun l z hs => ?_⟩
  · have ho2 := okay_pn ho ((k : Nat) : Int)
    have hn : (pn s ((k : Nat) : Int)).2.2 = false := by
      cases hb : (pn s ((k : Nat) : Int)).2.2 with
      | false => rfl
      | true =>
        have : (plot f (k : Nat) s).2.2 = true := plist_stay hf.stay _ _ _ hb
        rw [hs] at this
        cases this
    have hb := hp.back s ho hn
    have hl := plist_back hf ok _ _ ho2 hs
    have hc : (pn s ((k : Nat) : Int)).1 < 256 ^ k := pnum_lt ho.byte k
    have hc2 : 256 ^ k ≤ 65536 := Nat.pow_le_pow_right (by decide : 0 < 256) h2
    have e1 : (plot f (k : Nat) s).1.length = (pn s ((k : Nat) : Int)).1 := hl.2
    have e2 : (plot f (k : Nat) s).1.take (256 ^ k - 1) = (plot f (k : Nat) s).1 := List.take_of_length_le (by omega)
    have hb' : s.1 = numB (pn s ((k : Nat) : Int)).1 k ++ (pn s ((k : Nat) : Int)).2.1 := hb
    have hl' : (pn s ((k : Nat) : Int)).2.1 = (plot f (k : Nat) s).1.flatMap enc ++ (plot f (k : Nat) s).2.1 := hl.1
    rw [wl, e2, e1, numZ_cast (by omega), List.append_assoc, ← hl']
    exact hb'
  · have hn : (pn (l, false) ((k : Nat) : Int)).2.2 = false := by
      cases hb : (pn (l, false) ((k : Nat) : Int)).2.2 with
      | false => rfl
      | true =>
        have : (plot f (k : Nat) (l, false)).2.2 = true := plist_stay hf.stay _ _ _ hb
        rw [hs] at this
        cases this
    have e := hp.more l z hn
    have e2 : (pn (l, false) ((k : Nat) : Int)).2 = ((pn (l, false) ((k : Nat) : Int)).2.1, false) := Prod.ext rfl hn
    have hs' : (plist f (pn (l, false) ((k : Nat) : Int)).1 [] (pn (l, false) ((k : Nat) : Int)).2).2.2 = false := hs
    rw [e2] at hs'
    have := plist_more hf _ [] _ z hs'
    show plist f (pn (l ++ z, false) ((k : Nat) : Int)).1 [] (pn (l ++ z, false) ((k : Nat) : Int)).2 = _
    have e3 : pn (l ++ z, false) ((k : Nat) : Int) = ((pn (l, false) ((k : Nat) : Int)).1, ((pn (l, false) ((k : Nat) : Int)).2.1 ++ z, false)) := e
    rw [e3, this, ← e2]
    rfl

/- an object's bytes behind the mark -/
def encG (o : ObjD) : List Nat :=
  textB (sb o.name) ++ (numB o.key 4 ++ (wl 1 impB o.imps ++ (wl 1 typeB o.types ++ (numZ o.data 1 ++ (textB (sb o.text) ++ (wl 2 (numB · 4) o.code ++ (wl 1 cmdB o.cmds ++ (wl 1 expB o.exps ++ (wl 1 (numZ · 1) o.ptrs ++ (wl 1 (numZ · 1) o.procs ++ (numZ o.f0 2 ++ (numZ o.f1 2 ++ (numZ o.f2 2 ++ numZ o.body 2)))))))))))))
theorem pwrite_enc (o : ObjD) : pwrite o = 68 :: 87 :: encG o := by
  simp only [pwrite, pw9, pw8, pw7, pw6, pw5, pw4, pw3, pw2, pw1, encG, List.append_assoc, List.flatMap_cons, List.flatMap_nil, List.append_nil, List.cons_append, List.nil_append]
theorem okay_imp (s : Ps) (h : Okay s) : Okay (pImp s).2 := (pimp_fit h).2
theorem okay_cmd (s : Ps) (h : Okay s) : Okay (pCmd s).2 := (pcmd_fit h).2
theorem okay_exp (s : Ps) (h : Okay s) : Okay (pExp s).2 := (pexp_fit h).2
theorem okay_type (s : Ps) (h : Okay s) : Okay (pType s).2 := (ptype_fit h).2
theorem okay_word (s : Ps) (h : Okay s) : Okay (pWord s).2 := okay_pn h 4
theorem okay_byte (s : Ps) (h : Okay s) : Okay (pByte s).2 := okay_pn h 1
theorem okay_place (s : Ps) (h : Okay s) : Okay (pPlace s).2 := okay_pn h 2
theorem okay_plot {α : Type} {f : Ps → α × Ps} (hf : ∀ s, Okay s → Okay (f s).2) (k : Int) (s : Ps) (h : Okay s) : Okay (plot f k s).2 := (plot_all (Q := fun _ => True) (fun s h => ⟨trivial, hf s h⟩) k h).2
theorem reads_got : Reads1 gotP encG := by
  have h14 := reads_place.seq reads_place okay_place
  have h13 := reads_place.seq h14 okay_place
  have h12 := reads_place.seq h13 okay_place
  have h11 := (reads_plot reads_byte okay_byte (k := 1) (by decide) (by decide)).seq h12 (okay_plot okay_byte _)
  have h10 := (reads_plot reads_byte okay_byte (k := 1) (by decide) (by decide)).seq h11 (okay_plot okay_byte _)
  have h9 := (reads_plot reads_exp okay_exp (k := 1) (by decide) (by decide)).seq h10 (okay_plot okay_exp _)
  have h8 := (reads_plot reads_cmd okay_cmd (k := 1) (by decide) (by decide)).seq h9 (okay_plot okay_cmd _)
  have h7 := (reads_plot reads_word okay_word (k := 2) (by decide) (by decide)).seq h8 (okay_plot okay_word _)
  have h6 := reads_pt.seq h7 (fun _ h => okay_pt h)
  have h5 := reads_byte.seq h6 okay_byte
  have h4 := (reads_plot reads_type okay_type (k := 1) (by decide) (by decide)).seq h5 (okay_plot okay_type _)
  have h3 := (reads_plot reads_imp okay_imp (k := 1) (by decide) (by decide)).seq h4 (okay_plot okay_imp _)
  have h2 := reads_word.seq h3 okay_word
  have h1 := reads_pt.seq h2 (fun _ h => okay_pt h)
  have h0 := h1.as (fun x => (⟨x.1, x.2.1, x.2.2.1, x.2.2.2.1, x.2.2.2.2.1, x.2.2.2.2.2.1, x.2.2.2.2.2.2.1, x.2.2.2.2.2.2.2.1, x.2.2.2.2.2.2.2.2.1, x.2.2.2.2.2.2.2.2.2.1, x.2.2.2.2.2.2.2.2.2.2.1, x.2.2.2.2.2.2.2.2.2.2.2.1, x.2.2.2.2.2.2.2.2.2.2.2.2.1, x.2.2.2.2.2.2.2.2.2.2.2.2.2.1, x.2.2.2.2.2.2.2.2.2.2.2.2.2.2⟩ : ObjD)) encG (fun x => rfl)
  refine h0.congr (fun s => ?_)
  simp only [gotP]
  rfl
/- the mark -/
theorem pMark_two (a b : Nat) (r : List Nat) : pMark (a :: b :: r, false) = if a = 68 then (decide (b = 87), (r, false)) else (false, (b :: r, false)) := rfl
theorem pMark_true {l : List Nat} (h : (pMark (l, false)).1 = true) : ∃ r, l = 68 :: 87 :: r ∧ (pMark (l, false)).2 = (r, false) := by
  match l with
  | [] => exact absurd h (by decide)
  | [a] =>
    have : pMark ([a], false) = if a = 68 then (false, ([], true)) else (false, ([], false)) := rfl
    rw [this] at h
    split at h <;> cases h
  | a :: b :: r =>
    rw [pMark_two] at h ⊢
    split at h
    · next ha =>
      rw [if_pos ha]
      have hb : b = 87 := by simpa using h
      subst ha hb
      exact ⟨r, rfl, rfl⟩
    · cases h
theorem pGet_some {l : List Nat} {o : ObjD} (h : pGet l = some o) : ∃ r, l = 68 :: 87 :: r ∧ gotP (r, false) = (o, ([], false)) := by
  unfold pGet at h
  split at h
  · next hm =>
    obtain ⟨r, hl, he⟩ := pMark_true hm
    rw [he] at h
    split at h
    · cases h
    · next hs =>
      simp only [Bool.or_eq_true, decide_eq_true_eq, not_or] at hs
      refine ⟨r, hl, ?_⟩
      have h1 : (gotP (r, false)).1 = o := by simpa using h
      have h2 : (gotP (r, false)).2.1 = [] := List.eq_nil_of_length_eq_zero (by omega)
      have h3 : (gotP (r, false)).2.2 = false := by simpa using hs.1
      exact Prod.ext h1 (Prod.ext h2 h3)
  · cases h
theorem pGet_back {l : List Nat} {o : ObjD} (hb : ∀ b ∈ l, b < 256) (hs : l.length ≤ 100000) (h : pGet l = some o) : l = pwrite o := by
  obtain ⟨r, rfl, hg⟩ := pGet_some h
  have := reads_got.back (r, false) ⟨fun b hb' => hb b (by simp [hb']), by simp at hs ⊢; omega⟩ (by rw [hg])
  rw [hg] at this
  rw [pwrite_enc, ← List.append_nil (encG o)]
  exact congrArg (fun x => 68 :: 87 :: x) this
theorem pGet_more {l z : List Nat} {o : ObjD} (h : pGet l = some o) (hz : z ≠ []) : pGet (l ++ z) = none := by
  obtain ⟨r, rfl, hg⟩ := pGet_some h
  have := reads_got.more r z (by rw [hg])
  rw [hg] at this
  have hzl : 0 < z.length := List.length_pos_iff.2 hz
  have e : (68 :: 87 :: r) ++ z = 68 :: 87 :: (r ++ z) := rfl
  have hm : pMark (68 :: 87 :: (r ++ z), false) = (true, (r ++ z, false)) := rfl
  rw [pGet, e, hm]
  simp only [if_true]
  rw [this]
  simp [hzl]
theorem few_got {l : List Nat} {o : ObjD} (hb : ∀ b ∈ l, b < 256) (hs : l.length ≤ 6000) (h : pGet l = some o) : FewB o := by
  have hw := pGet_back hb (by omega) h
  obtain ⟨r, hl, hg⟩ := pGet_some h
  have ho : Okay (r, false) := ⟨fun b hb' => hb b (by simp [hl, hb']), by rw [hl] at hs; simp at hs ⊢; omega⟩
  have small : ∀ {α : Type} (f : Ps → α × Ps) (s : Ps), Okay s → (plot f 1 s).1.length ≤ 300 := fun f s h => by
    have h1 := plist_len f (pn s 1).1 [] (pn s 1).2
    have h2 : (pn s 1).1 < 256 := pnum_lt h.byte 1
    simp only [List.length_nil, Nat.zero_add] at h1
    exact Nat.le_trans h1 (by omega)
  have hcode : o.code.length ≤ 2000 := by
    have h1 : (wl 2 (numB · 4) o.code).length ≤ (pwrite o).length := by
      rw [pwrite_enc, encG]
      simp only [List.length_cons, List.length_append]
      omega
    rw [← hw, wl, List.length_append, numZ_len] at h1
    have h2 : ∀ L : List Nat, (L.flatMap (numB · 4)).length = 4 * L.length := fun L => by
      induction L with
      | nil => rfl
      | cons x L ih => rw [List.flatMap_cons, List.length_append, ih, numB_length, List.length_cons]; omega
    rw [h2, List.length_take] at h1
    omega
  have e : o = (gotP (r, false)).1 := by rw [hg]
  rw [e] at hcode ⊢
  clear e hg hl hw h hs hb
  simp only [gotP] at hcode ⊢
  have b0 := okay_pt ho
  generalize pt (r, false) = nm at *
  have b1 := okay_pn b0 4
  generalize pn nm.2 4 = ky at *
  have c2 := small pImp _ b1
  have b2 := okay_plot okay_imp 1 _ b1
  generalize plot pImp 1 ky.2 = im at *
  have c3 := small pType _ b2
  have b3 := okay_plot okay_type 1 _ b2
  generalize plot pType 1 im.2 = ty at *
  have b4 := okay_byte _ b3
  generalize pByte ty.2 = da at *
  have b5 := okay_pt b4
  generalize pt da.2 = tx at *
  have b6 := okay_plot okay_word 2 _ b5
  generalize plot pWord 2 tx.2 = co at *
  have c7 := small pCmd _ b6
  have b7 := okay_plot okay_cmd 1 _ b6
  generalize plot pCmd 1 co.2 = cm at *
  have c8 := small pExp _ b7
  have b8 := okay_plot okay_exp 1 _ b7
  generalize plot pExp 1 cm.2 = ex at *
  have c9 := small pByte _ b8
  have b9 := okay_plot okay_byte 1 _ b8
  generalize plot pByte 1 ex.2 = pp at *
  have c10 := small pByte _ b9
  generalize plot pByte 1 pp.2 = pq at *
  exact ⟨c2, c3, hcode, c7, c8, c9, c10⟩
end Go.Proofs.Ythgnklgejlebhaa
