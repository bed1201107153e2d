/-
  What the program's reader of objects (layer 12) reads, as plain data; its small readers. No conditions beyond those that each theorem names.
-/
import Derived.Test.YthgnklgejlebhaaBioB
import Derived.Test.YthgnklgejlebhaaObjA
import Derived.Test.YthgnklgejlebhaaStore
namespace Go.Proofs.Ythgnklgejlebhaa
open Go.ChangeShapes Go.WideShapes Go.ChangeAt Go.RowKit

/- what is left, and whether it is short -/
abbrev Ps := List Nat × Bool
def pn (s : Ps) (k : Int) : Nat × Ps := (pnumV s.1 k, (pnumL s.1 k, pnumS s.1 s.2 k))
def pt (s : Ps) : ByteArray × Ps := (strOf (ptxtV s.1), (ptxtL s.1, ptxtS s.1 s.2))
def pByte (s : Ps) : Int × Ps := (((pn s 1).1 : Nat), (pn s 1).2)
def pPlace (s : Ps) : Int × Ps := (((pn s 2).1 : Nat), (pn s 2).2)
def pBase (s : Ps) : Int × Ps := (base255 (pn s 1).1, (pn s 1).2)
def pWord (s : Ps) : Nat × Ps := pn s 4
def pImp (s : Ps) : (ByteArray × Nat) × Ps := (((pt s).1, (pn (pt s).2 4).1), (pn (pt s).2 4).2)
def pCmd (s : Ps) : (ByteArray × Int) × Ps := (((pt s).1, (pPlace (pt s).2).1), (pPlace (pt s).2).2)
def pExp (s : Ps) : (Int × Int) × Ps := (((pByte s).1, (pPlace (pByte s).2).1), (pPlace (pByte s).2).2)
def pType (s : Ps) : (Int × Int × Int) × Ps := (((pPlace s).1, (pByte (pPlace s).2).1, (pBase (pByte (pPlace s).2).2).1), (pBase (pByte (pPlace s).2).2).2)
/- at most n of a kind behind those that are there; none, if it becomes short -/
def plist {α : Type} (f : Ps → α × Ps) : Nat → List α → Ps → List α × Ps
  | 0, acc, s => (acc, s)
  | n + 1, acc, s => if (f s).2.2 then ([], (f s).2) else plist f n (acc ++ [(f s).1]) (f s).2
def plot {α : Type} (f : Ps → α × Ps) (k : Int) (s : Ps) : List α × Ps := plist f (pn s k).1 [] (pn s k).2

abbrev PrS (w : World) (pb B : Nat) (s : Ps) : Prop := PrB w pb B s.1 s.2
theorem PrB.lt {w : World} {pb B : Nat} {l : List Nat} {sh : Bool} (h : PrB w pb B l sh) : pb < w.heap.size := by
  obtain ⟨_, hr, _⟩ := h.is
  exact hr.lt
theorem pnum_lt {l : List Nat} (h : ∀ b ∈ l, b < 256) (k : Nat) : pnumV l (k : Nat) < 256 ^ k := by
  unfold pnumV
  split
  · have h1 := valB_lt _ (takeV_lt h (((k : Nat) : Int).toNat))
    have h2 := takeV_len l (((k : Nat) : Int).toNat)
    rw [Int.toNat_natCast] at h1 h2 ⊢
    exact Nat.lt_of_lt_of_le h1 (Nat.pow_le_pow_right (n := 256) (by decide) h2)
  · exact Nat.pow_pos (by decide)
abbrev PrR (pb B : Nat) (w : World) {α : Type} (f : Ps → α × Ps) (s : Ps) (w' : World) : Prop := PrS w' pb B (f s).2 ∧ Kept (· = pb) w w'
theorem pn_any (pb B : Nat) (s : Ps) (k : Int) (w : World) (h : PrS w pb B s) :
    Calls Try.prog 50 #[.pointer (some ⟨pb, 0, none⟩), .int .i64 k] w fun e w' => e = .returned (.int .u32 (((pn s k).1 : Nat) : Int)) ∧ PrR pb B w (pn · k) s w' := bnumB_any pb B s.1 s.2 k w h
theorem pt_any (pb B : Nat) (s : Ps) (w : World) (h : PrS w pb B s) :
    Calls Try.prog 51 #[.pointer (some ⟨pb, 0, none⟩)] w fun e w' => e = .returned (.string (pt s).1) ∧ PrR pb B w pt s w' := btxtB_any pb B s.1 s.2 w h
set_option maxRecDepth 100000 in
theorem pbyte_any (pb B : Nat) (s : Ps) (w : World) (h : PrS w pb B s) :
    Calls Try.prog 56 #[.pointer (some ⟨pb, 0, none⟩)] w fun e w' => e = .returned (.int .i64 (pByte s).1) ∧ PrR pb B w pByte s w' := by
  have H := Lib.hid (pn_any pb B s 1 w h)
  have hx : (pn s 1).1 < 256 := pnum_lt h.at_.fit 1
  show Calls _ _ _ _ fun e w' => e = .returned (.int .i64 (((pn s 1).1 : Nat) : Int)) ∧ PrS w' pb B (pn s 1).2 ∧ Kept (· = pb) w w'
  have e0 : PrR pb B w (pn · 1) s = fun w' => PrS w' pb B (pn s 1).2 ∧ Kept (· = pb) w w' := rfl
  rw [e0] at H
  generalize (pn s 1).1 = x at *
  have j1 : IntKind.i64.wrap (x : Int) = (x : Int) := IntWalk.i64_in _ (by omega)
  clear hx h e0
  go_enter Try.func56, Try.ntmps56
  go_wp2_with fail
  refine H.out.mono ?_
  rintro e w1 ⟨rfl, hp⟩
  have RES := Lib.hid hp
  clear hp H
  go_wp2_with fail
  go_ret
  exact ⟨rfl, RES.out⟩
set_option maxRecDepth 100000 in
theorem pplace_any (pb B : Nat) (s : Ps) (w : World) (h : PrS w pb B s) :
    Calls Try.prog 64 #[.pointer (some ⟨pb, 0, none⟩)] w fun e w' => e = .returned (.int .i64 (pPlace s).1) ∧ PrR pb B w pPlace s w' := by
  have H := Lib.hid (pn_any pb B s 2 w h)
  have hx : (pn s 2).1 < 65536 := pnum_lt h.at_.fit 2
  show Calls _ _ _ _ fun e w' => e = .returned (.int .i64 (((pn s 2).1 : Nat) : Int)) ∧ PrS w' pb B (pn s 2).2 ∧ Kept (· = pb) w w'
  have e0 : PrR pb B w (pn · 2) s = fun w' => PrS w' pb B (pn s 2).2 ∧ Kept (· = pb) w w' := rfl
  rw [e0] at H
  generalize (pn s 2).1 = x at *
  have j1 : IntKind.i64.wrap (x : Int) = (x : Int) := IntWalk.i64_in _ (by omega)
  clear hx h e0
  go_enter Try.func64, Try.ntmps64
  go_wp2_with fail
  refine H.out.mono ?_
  rintro e w1 ⟨rfl, hp⟩
  have RES := Lib.hid hp
  clear hp H
  go_wp2_with fail
  go_ret
  exact ⟨rfl, RES.out⟩
set_option maxRecDepth 100000 in
theorem pword_any (pb B : Nat) (s : Ps) (w : World) (h : PrS w pb B s) :
    Calls Try.prog 58 #[.pointer (some ⟨pb, 0, none⟩)] w fun e w' => e = .returned (.int .u32 (((pWord s).1 : Nat) : Int)) ∧ PrR pb B w pWord s w' := by
  have H := Lib.hid (pn_any pb B s 4 w h)
  clear h
  go_enter Try.func58, Try.ntmps58
  go_wp2_with fail
  refine H.out.mono ?_
  rintro e w1 ⟨rfl, hp⟩
  have RES := Lib.hid hp
  clear hp H
  go_wp2_with fail
  go_ret
  exact ⟨rfl, RES.out⟩
set_option maxRecDepth 100000 in
theorem pbase_any (pb B : Nat) (s : Ps) (w : World) (h : PrS w pb B s) :
    Calls Try.prog 67 #[.pointer (some ⟨pb, 0, none⟩)] w fun e w' => e = .returned (.int .i64 (pBase s).1) ∧ PrR pb B w pBase s w' := by
  have H := Lib.hid (pbyte_any pb B s w h)
  show Calls _ _ _ _ fun e w' => e = .returned (.int .i64 (base255 (pn s 1).1)) ∧ PrS w' pb B (pn s 1).2 ∧ Kept (· = pb) w w'
  have e0 : PrR pb B w pByte s = fun w' => PrS w' pb B (pn s 1).2 ∧ Kept (· = pb) w w' := rfl
  rw [e0, show (pByte s).1 = (((pn s 1).1 : Nat) : Int) from rfl] at H
  generalize (pn s 1).1 = x at *
  clear h e0
  unfold base255
  by_cases hx : x = 255
  · rw [if_pos hx]
    subst hx
    go_enter Try.func67, Try.ntmps67
    go_wp2_with fail
    refine H.out.mono ?_
    rintro e w1 ⟨rfl, hp⟩
    have RES := Lib.hid hp
    clear hp H
    go_wp2_with fail
    go_ret
    exact ⟨rfl, RES.out⟩
  · rw [if_neg hx]
    have e2 : ((x : Int) == 255) = false := by rw [beq_eq_false_iff_ne]; omega
    have e1 : ¬ (x : Int) = 255 := by omega
    clear hx
    go_enter Try.func67, Try.ntmps67
    go_wp2_with fail
    refine H.out.mono ?_
    rintro e w1 ⟨rfl, hp⟩
    have RES := Lib.hid hp
    clear hp H
    go_wp2_with fail
    go_ret
    exact ⟨rfl, RES.out⟩
end Go.Proofs.Ythgnklgejlebhaa
