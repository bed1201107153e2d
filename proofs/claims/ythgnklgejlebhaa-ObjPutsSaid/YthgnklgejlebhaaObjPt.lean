/-
  The program's bytes of an object and the document's (layer 12), plain data: where Put tells any they are the same. Nothing of the program.
-/
import Derived.Test.YthgnklgejlebhaaObjZ
import Derived.Test.YthgnklgejlebhaaObjC
namespace Go.Proofs.Ythgnklgejlebhaa

theorem wl_all {α : Type} {k : Nat} {f : α → List Nat} {L : List α} (h : L.length ≤ 256 ^ k - 1) : wl k f L = numZ ((L.length : Nat) : Int) k ++ L.flatMap f := by
  rw [wl, List.take_of_length_le h]
/- its lists are no longer than one byte tells -/
structure Short255 (o : ObjD) : Prop where
  imps : o.imps.length ≤ 255
  types : o.types.length ≤ 255
  cmds : o.cmds.length ≤ 255
  exps : o.exps.length ≤ 255
  ptrs : o.ptrs.length ≤ 255
  procs : o.procs.length ≤ 255
theorem bytes_same {o : ObjD} (h : Short255 o) (hc : o.code.length ≤ 65535) : pwrite o = bytesO o := by
  simp only [pwrite, pw9, pw8, pw7, pw6, pw5, pw4, pw3, pw2, pw1, bytesO, part7, part6, part5, part4, part3, part2, part1,
    wl_all (k := 1) (show o.imps.length ≤ 256 ^ 1 - 1 from h.imps), wl_all (k := 1) (show o.types.length ≤ 256 ^ 1 - 1 from h.types), wl_all (k := 2) (show o.code.length ≤ 256 ^ 2 - 1 from hc), wl_all (k := 1) (show o.cmds.length ≤ 256 ^ 1 - 1 from h.cmds),
    wl_all (k := 1) (show o.exps.length ≤ 256 ^ 1 - 1 from h.exps), wl_all (k := 1) (show o.ptrs.length ≤ 256 ^ 1 - 1 from h.ptrs), wl_all (k := 1) (show o.procs.length ≤ 256 ^ 1 - 1 from h.procs), List.append_assoc]
theorem short_got {l : List Nat} {o : ObjD} (hb : ∀ b ∈ l, b < 256) (hs : l.length ≤ 100000) (h : pGet l = some o) : Short255 o := by
  obtain ⟨r, hl, hg⟩ := pGet_some h
  have ho : Okay (r, false) := ⟨fun b hb' => hb b (by simp [hl, hb']), by rw [hl] at hs; simp at hs ⊢; omega⟩
  have small : ∀ {α : Type} (f : Ps → α × Ps) (s : Ps), Okay s → (plot f 1 s).1.length ≤ 255 := fun f s h => by
    have h1 := plist_len f (pn s 1).1 [] (pn s 1).2
    have h2 : (pn s 1).1 < 256 := pnum_lt h.byte 1
    simp only [List.length_nil, Nat.zero_add] at h1
    exact Nat.le_trans h1 (by omega)
  have e : o = (gotP (r, false)).1 := by rw [hg]
  rw [e]
  clear e hg hl h hs hb
  simp only [gotP]
  have b0 := okay_pt ho
  generalize pt (r, false) = nm at *
  have b1 := okay_pn b0 4
  generalize pn nm.2 4 = ky at *
  have c2 := small pImp _ b1
  have b2 := okay_plot okay_imp 1 _ b1
  generalize plot pImp 1 ky.2 = im at *
  have c3 := small pType _ b2
  have b3 := okay_plot okay_type 1 _ b2
  generalize plot pType 1 im.2 = ty at *
  have b4 := okay_byte _ b3
  generalize pByte ty.2 = da at *
  have b5 := okay_pt b4
  generalize pt da.2 = tx at *
  have b6 := okay_plot okay_word 2 _ b5
  generalize plot pWord 2 tx.2 = co at *
  have c7 := small pCmd _ b6
  have b7 := okay_plot okay_cmd 1 _ b6
  generalize plot pCmd 1 co.2 = cm at *
  have c8 := small pExp _ b7
  have b8 := okay_plot okay_exp 1 _ b7
  generalize plot pExp 1 cm.2 = ex at *
  have c9 := small pByte _ b8
  have b9 := okay_plot okay_byte 1 _ b8
  generalize plot pByte 1 ex.2 = pp at *
  have c10 := small pByte _ b9
  generalize plot pByte 1 pp.2 = pq at *
  exact ⟨c2, c3, c7, c8, c9, c10⟩
/- Put tells bytes just where the document's are few enough, and its object of them is the same; and tells them -/
theorem put_bytes {o : ObjD} (hc : o.code.length ≤ 2000) (h : putOk o) : pwrite o = bytesO o :=
  bytes_same (short_got (pwrite_lt o) (by have := h.1; omega) h.2) (by omega)
theorem bytesO_lt (o : ObjD) : ∀ b ∈ bytesO o, b < 256 := by
  have h1 : ∀ b ∈ part1 o, b < 256 := lt_append (lt_append (lt_append (fun x hx => by simp at hx; omega) (textB_lt _)) (numB_lt _ _)) (numZ_lt _ _)
  have h2 : ∀ b ∈ part2 o, b < 256 := lt_append (lt_append h1 (lt_flat impB_lt _)) (numZ_lt _ _)
  have h3 : ∀ b ∈ part3 o, b < 256 := lt_append (lt_append (lt_append (lt_append h2 (lt_flat typeB_lt _)) (numZ_lt _ _)) (textB_lt _)) (numZ_lt _ _)
  have h4 : ∀ b ∈ part4 o, b < 256 := lt_append (lt_append h3 (lt_flat (fun y => numB_lt 4 y) _)) (numZ_lt _ _)
  have h5 : ∀ b ∈ part5 o, b < 256 := lt_append (lt_append h4 (lt_flat cmdB_lt _)) (numZ_lt _ _)
  have h6 : ∀ b ∈ part6 o, b < 256 := lt_append (lt_append h5 (lt_flat expB_lt _)) (numZ_lt _ _)
  have h7 : ∀ b ∈ part7 o, b < 256 := lt_append (lt_append h6 (lt_flat (fun y => numZ_lt y 1) _)) (numZ_lt _ _)
  exact lt_append (lt_append (lt_append h7 (lt_flat (fun y => numZ_lt y 1) _)) (lt_flat (fun y => numZ_lt y 2) _)) (numZ_lt _ _)
theorem put_iff {o : ObjD} (hc : o.code.length ≤ 2000) (hl : (bytesO o).length ≤ 100000) : putOk o ↔ (bytesO o).length ≤ 4000 ∧ pGet (bytesO o) = some o := by
  constructor
  · intro h
    have e := put_bytes hc h
    exact ⟨by rw [← e]; exact h.1, by rw [← e]; exact h.2⟩
  · rintro ⟨h1, h2⟩
    have e := bytes_same (short_got (bytesO_lt o) hl h2) (by omega)
    exact ⟨by rw [e]; exact h1, by rw [e]; exact h2⟩
end Go.Proofs.Ythgnklgejlebhaa
