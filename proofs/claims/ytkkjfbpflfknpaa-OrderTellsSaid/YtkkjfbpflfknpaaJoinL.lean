/-
  Code (dowellaw00): the number of an error. No conditions.
-/
import Derived.Test.YtkkjfbpflfknpaaBase
import Derived.Lib.IfaceEq
import Derived.Test.YtkkjfbpflfknpaaErrV
import Derived.Test.YtkkjfbpflfknpaaObjK
import Derived.Test.YtkkjfbpflfknpaaOrA
import Derived.Test.YtkkjfbpflfknpaaJoinW
import Derived.Test.YtkkjfbpflfknpaaJoinR
import Derived.Test.YtkkjfbpflfknpaaObjE
namespace Go.Proofs.Ytkkjfbpflfknpaa
open Go.ChangeShapes Go.WideShapes Go.ChangeAt Go.RowKit

theorem code_nil (w : World) : Calls Try.prog 11 #[.nilIface] w fun e w' => e = .returned (.int .i64 0) ∧ w = w' := by
  go_enter Try.func11, Try.ntmps11
  go_wp2_with fail
  go_ret
  exact ⟨rfl, rfl⟩

theorem comparableC : (Try.prog.info? 57).map (·.comparable) = some true := by kernel_rfl
theorem code_at (k : Nat) (w : World) (h1 : 1 ≤ k) (h2 : k ≤ 13) : Calls Try.prog 11 #[.iface 57 (.int .i64 k)] w fun e w' => e = .returned (.int .i64 k) ∧ w = w' := by
  have hq := fun (w : World) (n : Int) => Lib.run_eql_iface_int (P := Try.prog) w (k := .i64) (k : Int) n Try.underlying31 comparableC Try.underlying57
  go_enter Try.func11, Try.ntmps11
  go_wp2_with fail
  go_loop [3] (fun i => ∃ n : Nat, 1 ≤ n ∧ n ≤ k ∧ i = .int .i64 n) (fun i => 14 - (intOf i).toNat)
  case atStart => exact ⟨1, by omega, by omega, rfl⟩
  case round =>
    obtain ⟨n, hn1, hn2, rfl⟩ := hrel
    by_cases he : n = k
    · subst he
      have e1 : ((n : Int) == (n : Int)) = true := by simp
      go_wp2_with fail
      go_ret
      exact ⟨rfl, rfl⟩
    · have e1 : ((k : Int) == (n : Int)) = false := by simp; omega
      go_wp2_with fail
      go_round
      case rel => exact ⟨n + 1, by omega, by omega, by go_num⟩
      case measure => simp [intOf]; omega
end Go.Proofs.Ytkkjfbpflfknpaa

/-
  dowellaw00.Code of any error's number (errV). No conditions beyond those that each theorem names.
-/
namespace Go.Proofs.Ytkkjfbpflfknpaa
open Go.ChangeShapes Go.WideShapes Go.ChangeAt Go.RowKit

theorem code_any (c : Nat) (w : World) (h : c ≤ 13) : Calls Try.prog 11 #[errV c] w fun e w' => e = .returned (.int .i64 (c : Nat)) ∧ w = w' := by
  cases c with
  | zero => exact code_nil w
  | succ n => exact code_at (n + 1) w (by omega) h
end Go.Proofs.Ytkkjfbpflfknpaa

/-
  Texts as they come in. No conditions.
-/
namespace Go.Proofs.Ytkkjfbpflfknpaa
open Go.ChangeShapes Go.WideShapes Go.ChangeAt Go.RowKit

section
variable {H : Type} {enc : TypeId × Value → H} {w : World} {base : Nat} {sp : Nat → Bool} {held : Bool} {fuel : Nat} {c : Value} {x : DataW H × List MemPlace}
theorem texts_of (h : DataW.trod enc Try.prog w base sp held fuel 23 [c] = some x) : ∃ L : List ByteArray, ElsAt 1 sRow w c L ∧ ∀ y ∈ L, y.size ≤ maxLen := by
  refine els_of (k := 1) sRow _ ⟨#[]⟩ Try.underlying23 (by kernel_rfl) (by decide) (fun n cs z hl hz => ?_) h
  match cs, hl with
  | [c0], _ =>
    obtain ⟨z0, e0, _, w0⟩ := DataW.trod_string Try.underlying9 hz
    simp at e0
    subst e0
    exact ⟨z0, rfl, w0⟩
end
theorem texts_in {H : Type} {enc : TypeId × Value → H} {w : World} {base : Nat} {sp : Nat → Bool} {held : Bool} {a : Option Addr} {len cap : Nat} {d : DataW H} {p : List MemPlace}
    (h : DataW.Trod enc Try.prog w base sp held 23 (.slice a len cap) d p) : ∃ L : List ByteArray, ElsAt 1 sRow w (.slice a len cap) L ∧ ∀ y ∈ L, y.size ≤ maxLen := by
  obtain ⟨_, h⟩ := h
  exact texts_of h
end Go.Proofs.Ytkkjfbpflfknpaa

/-
  Files and names as they come in (layer 19). No conditions.
-/
namespace Go.Proofs.Ytkkjfbpflfknpaa
open Go.ChangeShapes Go.WideShapes Go.ChangeAt Go.RowKit

theorem files_in {H : Type} {enc : TypeId × Value → H} {w : World} {base : Nat} {sp : Nat → Bool} {held : Bool} {a : Option Addr} {len cap : Nat} {d : DataW H} {p : List MemPlace}
    (h : DataW.Trod enc Try.prog w base sp held 22 (.slice a len cap) d p) : ∃ L, FilesIn w (.slice a len cap) L ∧ ∀ x ∈ L, x.1.size ≤ maxLen := by
  obtain ⟨fuel, h⟩ := h
  have h : DataW.trod enc Try.prog w base sp held fuel 22 [.slice a len cap] = some (d, p) := h
  obtain ⟨L, h1, h2⟩ := els_of (k := 16) fileRow (fun x => x.1.size ≤ maxLen ∧ ObjAt w x.2.1 x.2.2) ⟨⟨#[]⟩, nilO, noObj⟩ Try.underlying22 (by kernel_rfl) (by decide) (fun n cs z hl hz => by
    match cs, hl with
    | [c0, c1, c2, c3, c4, c5, c6, c7, c8, c9, c10, c11, c12, c13, c14, c15], _ =>
      obtain ⟨xs, n', _, _, _, hxl, hf⟩ := DataW.trod_struct Try.underlying50 hz
      match xs, hxl with
      | [y0, y1], _ =>
        have k1 : Try.prog.cellsOf OT = 15 := by kernel_rfl
        obtain ⟨z0, e0, _, w0⟩ := DataW.trod_string Try.underlying9 (hf 0 _ rfl)
        have h1 := hf 1 _ rfl
        simp [one_str] at e0
        simp [k1] at h1
        obtain ⟨V, o, e, ho⟩ := obj_of (H := H) (enc := enc) (w := w) (base := base) (sp := sp) (held := held) (cs := #[c1, c2, c3, c4, c5, c6, c7, c8, c9, c10, c11, c12, c13, c14, c15]) rfl (d := y1.1) (p := y1.2) ⟨n', h1⟩
        have e := congrArg Array.toList e
        simp only [] at e
        refine ⟨⟨z0, V, o⟩, ?_, w0, ho⟩
        show _ = Value.string z0 :: ocells V o
        rw [e0]
        exact congrArg (Value.string z0 :: ·) e) h
  exact ⟨L, ⟨h1, fun x hx => (h2 x hx).2⟩, fun x hx => (h2 x hx).1⟩
end Go.Proofs.Ytkkjfbpflfknpaa

/-
  OrderTells (layer 19). No conditions but that its files and its names can be read.
-/
namespace Go.Proofs.Ytkkjfbpflfknpaa
open Go.ChangeShapes Go.WideShapes Go.ChangeAt Go.RowKit

/- what getter's closure and has stand on -/
def TellI (wb : World) (lo : Nat) (lv dv : Value) (bg bl gb bd : Nat) (w : World) (g : List ByteArray) : Prop := GetI wb lo lv bg bl gb w g ∧ RowAt w bd SlT [dv]
set_option maxRecDepth 100000 in
theorem tells_env {w : World} {lo : Nat} {lv dv : Value} {L : List (ByteArray × ObjV × ObjD)} {ld : List ByteArray} {bg bl gb bd : Nat} (hF : FilesIn w lv L) (hD : ElsAt 1 sRow w dv ld) (hf : FewF L) (hgb : gb < lo) (hbd : bd < lo) :
    Env (filesD L) ld lo (· = gb) (TellI w lo lv dv bg bl gb bd) 18 7 #[.pointer (some ⟨bg, 0, none⟩), .pointer (some ⟨bl, 0, none⟩)] #[.pointer (some ⟨bd, 0, none⟩)] where
  eg := fun _ _ => by kernel_rfl
  eh := fun _ _ => by kernel_rfl
  small := files_small hf
  glow := fun j e => by rw [e]; exact hgb
  keep := fun _ _ _ h k => ⟨h.1.keep k, h.2.keep k (by omega)⟩
  get := fun s g w' hlo h hs hl hz => by
    rw [show (#[Value.string s] ++ #[.pointer (some ⟨bg, 0, none⟩), .pointer (some ⟨bl, 0, none⟩)] : Array Value) = #[Value.string s, .pointer (some ⟨bg, 0, none⟩), .pointer (some ⟨bl, 0, none⟩)] by simp]
    exact (getter1_any w lo lv L bg bl gb hF s g w' hlo h.1 hs hl hz).mono fun e w2 ⟨h1, h2, h3⟩ => ⟨h1, ⟨h2, h.2.keep h3 (row_mapG h.2 h.1.map)⟩, h3⟩
  yes := fun s _ w' h hm => by
    rw [show (#[Value.string s] ++ #[.pointer (some ⟨bd, 0, none⟩)] : Array Value) = #[Value.string s, .pointer (some ⟨bd, 0, none⟩)] by simp]
    exact has_yes19 bd dv ld s w' h.2 (hD.on h.1.below) hm
  no := fun s _ w' h hm => by
    rw [show (#[Value.string s] ++ #[.pointer (some ⟨bd, 0, none⟩)] : Array Value) = #[Value.string s, .pointer (some ⟨bd, 0, none⟩)] by simp]
    exact has_no19 bd dv ld s w' h.2 (hD.on h.1.below) hm
theorem gotF_le (g : List ByteArray) (s : ByteArray) : ¬ (1 : Int) < (gotF g s).getD 0 := by
  by_cases h : s ∈ g
  · rw [gotF_yes h]
    decide
  · rw [gotF_no h]
    decide
set_option maxRecDepth 100000 in
set_option maxHeartbeats 8000000 in
theorem orderTells_any (lv dv : Value) (L : List (ByteArray × ObjV × ObjD)) (ld : List ByteArray) (s : ByteArray) (w : World) (hF : FilesIn w lv L) (hD : ElsAt 1 sRow w dv ld) :
    Calls Try.prog 3 #[lv, dv, .string s] w fun e w' => e = .returned (.bool true) ∧ Below w.heap.size w w' := by
  obtain ⟨al, cl, hlv, hlc, hlm, _⟩ := hF.els.shape
  obtain ⟨nl, hnl⟩ : ∃ n, n = L.length := ⟨_, rfl⟩
  rw [← hnl] at hlv hlc
  subst hlv
  have HNL := Lib.hid hnl
  have snl : nl ≤ 9223372036854775807 := Nat.le_trans hlc hlm
  obtain ⟨ad, cd, hdv, _⟩ := hD.shape
  obtain ⟨nd, hnd⟩ : ∃ n, n = ld.length := ⟨_, rfl⟩
  rw [← hnd] at hdv
  subst hdv
  have HF := Lib.hid hF
  have HD := Lib.hid hD
  have hb0 : Below w.heap.size w (w.alloc (.cells #[.slice ad nd cd] SlT)) := (Below.refl _ _).alloc (Nat.le_refl _) _
  have HUP := Lib.hid (up19 (w.alloc (.cells #[.slice ad nd cd] SlT)))
  have HBD : Hid (RowAt (w.alloc (.cells #[.slice ad nd cd] SlT)) w.heap.size SlT [.slice ad nd cd]) := RowAt.new w SlT _
  have HB0 := Lib.hid hb0
  clear hF hD hnl hnd hlc hlm hb0
  go_enter Try.func3, Try.ntmps3
  go_upto_region 1 with fail
  generalize w.alloc (.cells #[.slice ad nd cd] SlT) = w0 at *
  obtain ⟨bd, hbd⟩ : ∃ bd, bd = w.heap.size := ⟨_, rfl⟩
  rw [← hbd] at HBD ⊢
  have HBE := Lib.hid hbd
  clear hbd
  go_wp2_with fail
  refine HUP.out.mono ?_
  rintro e w1 ⟨rfl, hb1⟩
  have HB1 := Lib.hid (below_on HB0.out hb1 HB0.out.size)
  have HFW := Lib.hid (few19_any _ L w1 (HF.out.on HB1.out))
  have HR1 := Lib.hid (HBD.out.keep (Kept.of_below (S := fun _ => False) hb1) fun e => e)
  clear hb1 HUP HB0 HBD
  go_wp2_with fail
  refine HFW.out.mono ?_
  rintro e w2 ⟨hfew, hb2⟩
  have HB2 := Lib.hid (below_on HB1.out hb2 HB1.out.size)
  have HR2 := Lib.hid (HR1.out.keep (Kept.of_below (S := fun _ => False) hb2) fun e => e)
  have r0 : w2.cell? ⟨bd, 0, none⟩ = some (.slice ad nd cd) := HR2.out.cell 0
  clear hb2 HFW HB1 HR1
  rcases hfew with ⟨rfl, hfw⟩ | rfl
  rotate_left
  · as_aux_lemma =>
    go_wp2_with fail
    go_ret
    exact ⟨rfl, HB2.out⟩
  have HFE := Lib.hid hfw
  clear hfw
  by_cases h20 : 20 < (nd : Int)
  · as_aux_lemma =>
    have h20' : decide (20 < (nd : Int)) = true := by simpa using h20
    go_wp2_with fail
    go_ret
    exact ⟨rfl, HB2.out⟩
  have h20' : decide (20 < (nd : Int)) = false := by simpa using h20
  by_cases h100 : 100 < ((s.size : Nat) : Int)
  · as_aux_lemma =>
    have h100' : decide (100 < ((s.size : Nat) : Int)) = true := by simpa using h100
    go_wp2_with fail
    go_ret
    exact ⟨rfl, HB2.out⟩
  have h100' : decide (100 < ((s.size : Nat) : Int)) = false := by simpa using h100
  have HSZ : Hid (s.size ≤ 300) := by show _ ≤ _; omega
  have hmm := @run_makeMap Try.prog
  have hmf : ∀ (fn : Fn) (first cap : Array Value) (w : World), (Instr.makeFunc fn first cap).run Try.prog w = .ok (.func fn first cap) w := fun _ _ _ _ => rfl
  obtain ⟨bg, bl, gb, W4, hgt, hgi, rfl, hk4⟩ := got_start2 (al := al) (nl := nl) (cl := cl) HB2.out
  have HGT := Lib.hid hgt
  have hr4 := HR2.out.keep hk4 fun e => e
  have HTP := Lib.hid (top_any s W4 (tells_env (bg := bg) (bl := bl) (bd := bd) HF.out HD.out HFE.out hgi.l3 hr4.lt) (files_len HFE.out) (files_key HF.out) ⟨hgi, hr4⟩ HSZ.out)
  have HBK : Hid (∀ w', Kept (· = w2.heap.size) W4 w' → Below w.heap.size w w') := fun w' k => k.below hgi.below hgi.below.size fun j _ e => by rw [e]; exact hgi.l0
  clear hgt hgi hk4 hr4
  go_wp2_with fail
  refine HGT.out.mono ?_
  rintro e w3 ⟨rfl, rfl⟩
  clear r0 HGT hmm hmf h20 h20' h100 h100'
  generalize hr : resN (filesD L) ld 9 ⟨[], []⟩ s = r at *
  have HR := Lib.hid hr
  clear hr
  go_wp2_with fail
  refine HTP.out.mono ?_
  rintro e w5 ht
  clear HTP
  have HDR : Hid (∀ W, Below w.heap.size w W → Calls Try.prog 10 #[.slice al nl cl, .slice ad nd cd, .slice none 0 0, .slice none 0 0, .string s, .int .i64 0] W fun e w' => ResTold W r e w') := fun W hb => by
    have h := dres_any L ld (.slice al nl cl) (.slice ad nd cd) HFE.out 9 (Nat.le_refl _) (.slice none 0 0) (.slice none 0 0) ⟨[], []⟩ s W (HF.out.on hb) (HD.out.on hb) (OutIn.none W) (els_none _ _ _) (OInv.start _)
    rw [HR.out] at h
    exact h
  generalize w2.heap.size = gb at *
  cases r with
  | bad k =>
    as_aux_lemma =>
    obtain ⟨rfl, ⟨g, _, hI⟩, hk⟩ := ht
    have hk0 := res_num 9 _ s k HR.out
    have HK0 : Hid (k ≠ 0) := by show k ≠ 0; omega
    have HCD := Lib.hid (fun W => code_any k W (by omega))
    rw [errV_pos HK0.out] at HCD ⊢
    have HB5 := Lib.hid (HBK.out w5 hk)
    have HTI := Lib.hid hI
    have r5 : w5.cell? ⟨bd, 0, none⟩ = some (.slice ad nd cd) := hI.2.cell 0
    clear hI hk hk0 HBK
    go_wp2_with fail
    refine (HDR.out w5 HB5.out).mono ?_
    rintro e w6 ht
    obtain ⟨⟨vo, vw, rfl⟩, _, hb6⟩ := ht
    have HB6 := Lib.hid (below_on HB5.out hb6 HB5.out.size)
    have HMG := Lib.hid (HTI.out.1.map.keep (Kept.of_below (S := fun _ => False) hb6) fun e => e)
    have tk : ((k : Int) != (k : Int)) = false := by simp
    clear hb6 r5 HDR HTI HB5
    go_wp2_with fail
    refine (HCD.out w6).mono ?_
    rintro e w7 ⟨rfl, rfl⟩
    clear HCD
    have HF6 := Lib.hid (HF.out.on HB6.out)
    go_wp2_with fail
    go_loopw [15] (fun i wr => w6 = wr ∧ ∃ m : Nat, m ≤ nl ∧ i = .int .i64 (m : Nat)) (fun i _ => nl - (intOf i).toNat)
    case atStart => exact ⟨rfl, 0, Nat.zero_le _, rfl⟩
    case round =>
      obtain ⟨rfl, m, hm, rfl⟩ := hrel
      by_cases hlt : m < nl
      · as_aux_lemma =>
        obtain ⟨x, hx⟩ : ∃ x, L[m]? = some x := ⟨_, List.getElem?_eq_getElem (by have := HNL.out; omega)⟩
        obtain ⟨b, off, cap, e0, hb, u0, _⟩ := HF6.out.cell hx
        rw [← HNL.out] at e0
        have ea : al = some ⟨b, off, none⟩ := by cases e0; rfl
        subst ea
        have hlook := HMG.out.look (M := MgT) Try.underlying28 Try.underlying3 (zeroK w6) (s := x.1) (Nat.le_trans (HFE.out.2 x (List.mem_of_getElem? hx)).2 (by decide))
        obtain ⟨c, hc⟩ : ∃ c : Int, c = (gotF g x.1).getD 0 := ⟨_, rfl⟩
        have i3 : ¬ (1 : Int) < c := by rw [hc]; exact gotF_le g x.1
        rw [← hc] at hlook
        obtain ⟨xn, hxn⟩ : ∃ xn, xn = x.1 := ⟨_, rfl⟩
        rw [← hxn] at hlook u0
        have i1 : (m : Int) < (nl : Int) := by omega
        have i2 : (0 : Int) ≤ (m : Int) := by omega
        have HLT : Hid (m < nl) := hlt
        clear e0 hx hb hm hlt hc hxn
        go_wp2_with fail
        go_roundw
        case rel => exact ⟨by trivial, m + 1, HLT.out, by go_num⟩
        case measure => have := HLT.out; simp [intOf]; omega
      · as_aux_lemma =>
        have i1 : ¬ (m : Int) < (nl : Int) := by omega
        have t1 : ((k : Int) != 0) = true := by simp; exact HK0.out
        clear hm hlt
        go_wp2_with fail
        go_ret
        exact ⟨by first | rfl | exact end_bool (by simp), HB6.out⟩
  | good st =>
    obtain ⟨⟨v, LO, rfl, hs1, hs2, hs3, _⟩, hI, hk⟩ := ht
    have HCD : Hid (∀ W, Calls Try.prog 11 #[.nilIface] W fun e w' => e = .returned (.int .i64 0) ∧ W = w') := fun W => code_any 0 W (by decide)
    have HB5 := Lib.hid (HBK.out w5 hk)
    have HTI := Lib.hid hI
    have r5 : w5.cell? ⟨bd, 0, none⟩ = some (.slice ad nd cd) := hI.2.cell 0
    have HX5 : Hid (ObjsIn w5 v LO) := ⟨hs1.els objRow_len, fun x hx => (hs2 x hx).at_⟩
    have HMP := Lib.hid hs3
    clear hI hk HBK hs1 hs2 hs3
    go_wp2_with fail
    refine (HDR.out w5 HB5.out).mono ?_
    rintro e w6 ht
    obtain ⟨⟨vo, vw, rfl, ⟨LW, hw6, hmw⟩, _⟩, hb6⟩ := ht
    have HB6 := Lib.hid (below_on HB5.out hb6 HB5.out.size)
    have HMG := Lib.hid (HTI.out.1.map.keep (Kept.of_below (S := fun _ => False) hb6) fun e => e)
    have HX6 := Lib.hid (HX5.out.on hb6)
    have HW6 := Lib.hid hw6
    have HMW := Lib.hid hmw
    generalize st.way = g at *
    clear hb6 r5 HDR HTI HB5 hw6 hmw HX5
    go_wp2_with fail
    refine (HCD.out w6).mono ?_
    rintro e w7 ⟨rfl, rfl⟩
    clear HCD
    have HF6 := Lib.hid (HF.out.on HB6.out)
    go_wp2_with fail
    go_loopw [15] (fun i wr => w6 = wr ∧ ∃ m : Nat, m ≤ nl ∧ i = .int .i64 (m : Nat)) (fun i _ => nl - (intOf i).toNat)
    case atStart => exact ⟨rfl, 0, Nat.zero_le _, rfl⟩
    case round =>
      obtain ⟨rfl, m, hm, rfl⟩ := hrel
      by_cases hlt : m < nl
      · as_aux_lemma =>
        obtain ⟨x, hx⟩ : ∃ x, L[m]? = some x := ⟨_, List.getElem?_eq_getElem (by have := HNL.out; omega)⟩
        obtain ⟨b, off, cap, e0, hb, u0, _⟩ := HF6.out.cell hx
        rw [← HNL.out] at e0
        have ea : al = some ⟨b, off, none⟩ := by cases e0; rfl
        subst ea
        have hlook := HMG.out.look (M := MgT) Try.underlying28 Try.underlying3 (zeroK w6) (s := x.1) (Nat.le_trans (HFE.out.2 x (List.mem_of_getElem? hx)).2 (by decide))
        obtain ⟨c, hc⟩ : ∃ c : Int, c = (gotF g x.1).getD 0 := ⟨_, rfl⟩
        have i3 : ¬ (1 : Int) < c := by rw [hc]; exact gotF_le g x.1
        rw [← hc] at hlook
        obtain ⟨xn, hxn⟩ : ∃ xn, xn = x.1 := ⟨_, rfl⟩
        rw [← hxn] at hlook u0
        have i1 : (m : Int) < (nl : Int) := by omega
        have i2 : (0 : Int) ≤ (m : Int) := by omega
        have HLT : Hid (m < nl) := hlt
        clear e0 hx hb hm hlt hc hxn
        go_wp2_with fail
        go_roundw
        case rel => exact ⟨by trivial, m + 1, HLT.out, by go_num⟩
        case measure => have := HLT.out; simp [intOf]; omega
      · as_aux_lemma =>
        have i1 : ¬ (m : Int) < (nl : Int) := by omega
        clear hm hlt
        obtain ⟨xa, xc, hxv, hx1, hx2, _⟩ := HX6.out.els.shape
        obtain ⟨n, hn⟩ : ∃ n, n = LO.length := ⟨_, rfl⟩
        have hnw : LW.length = n := by
          have h1 := congrArg List.length HMP.out
          have h2 := congrArg List.length HMW.out
          rw [List.length_map] at h1 h2
          omega
        obtain ⟨ya, yc, hyv, hy1, hy2, _⟩ := HW6.out.els.shape
        rw [hnw] at hyv
        rw [← hn] at hxv hx1
        have sn : n ≤ 9223372036854775807 := Nat.le_trans hx1 hx2
        have HN := Lib.hid hn
        have HNW := Lib.hid hnw
        subst hxv hyv
        clear hx1 hx2 hy1 hy2 hn hnw
        go_wp2_with fail
        go_loopw [16] (fun i wr => Hid (Below w6.heap.size w6 wr) ∧ ∃ m : Nat, m ≤ n ∧ i = .int .i64 (m : Nat)) (fun i _ => n - (intOf i).toNat)
        case atStart => exact ⟨Below.refl _ _, 0, Nat.zero_le _, rfl⟩
        case round =>
          obtain ⟨HBR, m, hm, rfl⟩ := hrel
          by_cases hlt : m < n
          · as_aux_lemma =>
            obtain ⟨x, hx⟩ : ∃ x, LO[m]? = some x := ⟨_, List.getElem?_eq_getElem (by have := HN.out; omega)⟩
            obtain ⟨y, hy⟩ : ∃ y, LW[m]? = some y := ⟨_, List.getElem?_eq_getElem (by have := HNW.out; omega)⟩
            have hxy : x.2 = y.2 := by
              have h1 := congrArg (·[m]?) (HMP.out.trans HMW.out.symm)
              simp only [List.getElem?_map, hx, hy] at h1
              simpa using h1
            obtain ⟨xb, xo, xq, e0, hxb, hxc⟩ := HX6.out.els.cell hx
            obtain ⟨yb, yo, yq, e1, hyb, hyc⟩ := HW6.out.els.cell hy
            rw [← HN.out] at e0
            rw [HNW.out] at e1
            have ea : xa = some ⟨xb, xo, none⟩ := by cases e0; rfl
            have eb : ya = some ⟨yb, yo, none⟩ := by cases e1; rfl
            subst ea eb
            have HOX := Lib.hid (HX6.out.objs x (List.mem_of_getElem? hx))
            have HOY := Lib.hid (HW6.out.objs y (List.mem_of_getElem? hy))
            have hrx : w6.rangeAt xb (xo + m * 15) (objRow x) := fun j u hj => by
              rw [show xo + m * 15 + j = xo + (m * 15 + j) by omega, hxc j (by have := (List.getElem?_eq_some_iff.1 hj).1; exact this)]
              exact hj
            have hry : w6.rangeAt yb (yo + m * 15) (objRow y) := fun j u hj => by
              rw [show yo + m * 15 + j = yo + (m * 15 + j) by omega, hyc j (by have := (List.getElem?_eq_some_iff.1 hj).1; exact this)]
              exact hj
            have HRX : Hid (∀ W, Below w6.heap.size w6 W → W.rangeAt xb (xo + m * 15) (ocells x.1 x.2)) := fun W hb => range_below hrx hxb hb
            have HRY : Hid (∀ W, Below w6.heap.size w6 W → W.rangeAt yb (yo + m * 15) (ocells y.1 y.2)) := fun W hb => range_below hry hyb hb
            have HSAME : Hid (∀ W, Below w6.heap.size w6 W → Calls Try.prog 12 #[.agg (ocells x.1 x.2).toArray, .agg (ocells y.1 y.2).toArray] W fun e w' => e = .returned (.bool true) ∧ Below W.heap.size W w') := fun W hb => rSame_any x.1 y.1 x.2 y.2 true W (HOX.out.on hb) (HOY.out.on hb) ⟨fun _ => hxy, fun _ => rfl⟩
            have j1 : (m : Int) < (n : Int) := by omega
            have j2 : (0 : Int) ≤ (m : Int) := by omega
            have HLT : Hid (m < n) := hlt
            obtain ⟨x1, x2⟩ := x
            obtain ⟨y1, y2⟩ := y
            simp only at HRX HRY HSAME
            clear hx hy hxy e0 e1 hxb hxc hyb hyc hrx hry hm hlt HOX HOY
            go_wp2_with fail
            refine wp_region_held_drew (S := fun w' => Below w6.heap.size w6 w') (by kernel_rfl) ?_ (fun hHeld => ?_)
            · exact HBR.out.trans ((Drawn.of_n _ 1).below _)
            refine wpAnyH_take (i := 0) (v := ?_) rfl (by kernel_rfl) (by kernel_rfl) (by kernel_rfl) (fun _ _ _ h => h) (Or.inl ⟨by rfl, ?_⟩) (by assumption) ?_
            rotate_left
            · intro w hSw
              (try dsimp only at hSw)
              go_simp
              (try with_reducible rfl)
            try simp only [Act.put, List.getElem_toArray, List.getElem_cons_zero, List.setIfInBounds_toArray, List.set_cons_zero, List.set_cons_succ]
            refine wpAnyH_take (i := 1) (v := ?_) rfl (by kernel_rfl) (by kernel_rfl) (by kernel_rfl) (fun _ _ _ h => h) (Or.inl ⟨by rfl, ?_⟩) (by assumption) ?_
            rotate_left
            · intro w hSw
              (try dsimp only at hSw)
              go_simp
              (try with_reducible rfl)
            try simp only [Act.put, List.getElem_toArray, List.getElem_cons_zero, List.getElem_cons_succ, List.setIfInBounds_toArray, List.set_cons_zero, List.set_cons_succ]
            refine wpAnyH_take (i := 2) (v := ?_) rfl (by kernel_rfl) (by kernel_rfl) (by kernel_rfl) (fun _ _ _ h => h) (Or.inl ⟨by rfl, ?_⟩) (by assumption) ?_
            rotate_left
            · intro w hSw
              (try dsimp only at hSw)
              go_simp
              (try with_reducible rfl)
            try simp only [Act.put, List.getElem_toArray, List.getElem_cons_zero, List.getElem_cons_succ, List.setIfInBounds_toArray, List.set_cons_zero, List.set_cons_succ]
            refine wpAnyH_take (i := 3) (v := _) rfl (by kernel_rfl) (by kernel_rfl) (by kernel_rfl) (fun _ _ _ h => h) (yieldsIf_load_mid (by rfl) _ _ rfl _ _ rfl _ _ (fun w hSw => HRX.out w hSw) (Try.underlying48) rfl (by rw [size_ob]; rfl)) (by assumption) ?_
            try simp only [Act.put, List.getElem_toArray, List.getElem_cons_zero, List.getElem_cons_succ, List.setIfInBounds_toArray, List.set_cons_zero, List.set_cons_succ]
            refine wpAnyH_take (i := 4) (v := ?_) rfl (by kernel_rfl) (by kernel_rfl) (by kernel_rfl) (fun _ _ _ h => h) (Or.inl ⟨by rfl, ?_⟩) (by assumption) ?_
            rotate_left
            · intro w hSw
              (try dsimp only at hSw)
              go_simp
              (try with_reducible rfl)
            try simp only [Act.put, List.getElem_toArray, List.getElem_cons_zero, List.getElem_cons_succ, List.setIfInBounds_toArray, List.set_cons_zero, List.set_cons_succ]
            refine wpAnyH_take (i := 5) (v := ?_) rfl (by kernel_rfl) (by kernel_rfl) (by kernel_rfl) (fun _ _ _ h => h) (Or.inl ⟨by rfl, ?_⟩) (by assumption) ?_
            rotate_left
            · intro w hSw
              (try dsimp only at hSw)
              go_simp
              (try with_reducible rfl)
            try simp only [Act.put, List.getElem_toArray, List.getElem_cons_zero, List.getElem_cons_succ, List.setIfInBounds_toArray, List.set_cons_zero, List.set_cons_succ]
            refine wpAnyH_take (i := 6) (v := ?_) rfl (by kernel_rfl) (by kernel_rfl) (by kernel_rfl) (fun _ _ _ h => h) (Or.inl ⟨by rfl, ?_⟩) (by assumption) ?_
            rotate_left
            · intro w hSw
              (try dsimp only at hSw)
              go_simp
              (try with_reducible rfl)
            try simp only [Act.put, List.getElem_toArray, List.getElem_cons_zero, List.getElem_cons_succ, List.setIfInBounds_toArray, List.set_cons_zero, List.set_cons_succ]
            refine wpAnyH_take (i := 7) (v := _) rfl (by kernel_rfl) (by kernel_rfl) (by kernel_rfl) (fun _ _ _ h => h) (yieldsIf_load_mid (by rfl) _ _ rfl _ _ rfl _ _ (fun w hSw => HRY.out w hSw) (Try.underlying48) rfl (by rw [size_ob]; rfl)) (by assumption) ?_
            try simp only [Act.put, List.getElem_toArray, List.getElem_cons_zero, List.getElem_cons_succ, List.setIfInBounds_toArray, List.set_cons_zero, List.set_cons_succ]
            refine wpAnyH_ready (rs := [8]) (by kernel_rfl) (by simp) ?_
            refine AllReadyH.cons rfl (fun K hK => ?_) AllReadyH.nil
            go_simp
            refine (HSAME.out _ (by assumption)).mono ?_
            rintro e wS ⟨rfl, hbS⟩
            first | show K _ _ | go_wp2_with fail
            refine hK.out _ _ ?_ (fun hHeld1 => ?_)
            · exact below_on hHeld hbS hHeld.size
            clear hK K
            try simp only [Act.put, List.getElem_toArray, List.getElem_cons_zero, List.getElem_cons_succ, List.setIfInBounds_toArray, List.set_cons_zero, List.set_cons_succ]
            refine wpAnyH_take (i := 9) (v := ?_) rfl (by kernel_rfl) (by kernel_rfl) (by kernel_rfl) (fun _ _ _ h => h) (Or.inl ⟨by rfl, ?_⟩) (by assumption) ?_
            rotate_left
            · intro w hSw
              (try dsimp only at hSw)
              go_simp
              (try with_reducible rfl)
            try simp only [Act.put, List.getElem_toArray, List.getElem_cons_zero, List.getElem_cons_succ, List.setIfInBounds_toArray, List.set_cons_zero, List.set_cons_succ]
            refine wpAnyH_done (by kernel_rfl) ?_ _
            have HB7 := Lib.hid hHeld1
            clear hHeld hHeld1 hbS HRX HRY HSAME
            go_wp2_with fail
            go_roundw
            case rel => exact ⟨HB7, m + 1, HLT.out, by go_num⟩
            case measure => have := HLT.out; simp [intOf]; omega
          · as_aux_lemma =>
            have i1 : ¬ (m : Int) < (n : Int) := by omega
            have RES : Hid (Below w.heap.size w wr) := below_on HB6.out HBR.out HB6.out.size
            clear hm hlt
            go_wp2_with fail
            go_ret
            exact ⟨rfl, RES.out⟩
end Go.Proofs.Ytkkjfbpflfknpaa

/-
  OrderTells (layer 19), at any arguments as they are read. No conditions.
-/
namespace Go.Proofs.Ytkkjfbpflfknpaa
open Go.ChangeShapes Go.WideShapes Go.ChangeAt Go.RowKit

theorem orderTells_read (a : Option Addr) (n cap : Nat) (a' : Option Addr) (n' cap' : Nat) (s : ByteArray) (w : World) (h : ∃ L, FilesIn w (.slice a n cap) L ∧ ∀ x ∈ L, x.1.size ≤ maxLen) (g : ∃ L : List ByteArray, ElsAt 1 sRow w (.slice a' n' cap') L ∧ ∀ y ∈ L, y.size ≤ maxLen) (_ : s.size ≤ maxLen) :
    Calls Try.prog 3 #[.slice a n cap, .slice a' n' cap', .string s] w fun e w' => e = .returned (.bool true) ∧ Below w.heap.size w w' := by
  obtain ⟨L, h, _⟩ := h
  obtain ⟨l, g, _⟩ := g
  exact orderTells_any _ _ L l s w h g
end Go.Proofs.Ytkkjfbpflfknpaa
