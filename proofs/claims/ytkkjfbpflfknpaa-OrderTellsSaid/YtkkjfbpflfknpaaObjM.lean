/-
  Objects as plain data (layer 12): their bytes, the object of bytes, whether two are the same. Nothing of the program but the number of a type.
-/
import Derived.Test.YtkkjfbpflfknpaaBioM
namespace Go.Proofs.Ytkkjfbpflfknpaa

structure ObjD where
  name : ByteArray
  key : Nat
  imps : List (ByteArray × Nat)
  types : List (Int × Int × Int)
  data : Int
  text : ByteArray
  code : List Nat
  cmds : List (ByteArray × Int)
  exps : List (Int × Int)
  ptrs : List Int
  procs : List Int
  f0 : Int
  f1 : Int
  f2 : Int
  body : Int
def noObj : ObjD := ⟨⟨#[]⟩, 0, [], [], 0, ⟨#[]⟩, [], [], [], [], [], 0, 0, 0, 0⟩

/- a number of any size, cut off to k bytes -/
def numZ (n : Int) (k : Nat) : List Nat := numB (n % 4294967296).toNat k
def impB (x : ByteArray × Nat) : List Nat := textB (sb x.1) ++ numB x.2 4
def typeB (x : Int × Int × Int) : List Nat := numZ x.1 2 ++ numZ x.2.1 1 ++ numZ x.2.2 1
def cmdB (x : ByteArray × Int) : List Nat := textB (sb x.1) ++ numZ x.2 2
def expB (x : Int × Int) : List Nat := numZ x.1 1 ++ numZ x.2 2
/- its bytes, part by part, each behind what stands ahead -/
def part1 (o : ObjD) : List Nat := [68, 87] ++ textB (sb o.name) ++ numB o.key 4 ++ numZ o.imps.length 1
def part2 (o : ObjD) : List Nat := part1 o ++ o.imps.flatMap impB ++ numZ o.types.length 1
def part3 (o : ObjD) : List Nat := part2 o ++ o.types.flatMap typeB ++ numZ o.data 1 ++ textB (sb o.text) ++ numZ o.code.length 2
def part4 (o : ObjD) : List Nat := part3 o ++ o.code.flatMap (numB · 4) ++ numZ o.cmds.length 1
def part5 (o : ObjD) : List Nat := part4 o ++ o.cmds.flatMap cmdB ++ numZ o.exps.length 1
def part6 (o : ObjD) : List Nat := part5 o ++ o.exps.flatMap expB ++ numZ o.ptrs.length 1
def part7 (o : ObjD) : List Nat := part6 o ++ o.ptrs.flatMap (numZ · 1) ++ numZ o.procs.length 1
def bytesO (o : ObjD) : List Nat := part7 o ++ o.procs.flatMap (numZ · 1) ++ [o.f0, o.f1, o.f2].flatMap (numZ · 2) ++ numZ o.body 2

/- a reader's state: where it reads on, whether it is short -/
abbrev Rs := Nat × Bool
def num (l : List Nat) (s : Rs) (k : Int) : Nat × Rs := (numV l s.1 s.2 k, numAt l s.1 s.2 k, numSh l s.1 s.2 k)
def txt (l : List Nat) (s : Rs) : ByteArray × Rs := (strOf (textV l s.1 s.2), textAt l s.1 s.2, textSh l s.1 s.2)
/- at most n of a kind, as long as it isn't short -/
def many {α : Type} (f : Rs → α × Rs) : Nat → Rs → List α × Rs
  | 0, s => ([], s)
  | n + 1, s => if s.2 then ([], s) else ((f s).1 :: (many f n (f s).2).1, (many f n (f s).2).2)
def getImp (l : List Nat) (s : Rs) : (ByteArray × Nat) × Rs := (((txt l s).1, (num l (txt l s).2 4).1), (num l (txt l s).2 4).2)
def base255 (n : Nat) : Int := if n = 255 then -1 else (n : Int)
def getType (l : List Nat) (s : Rs) : (Int × Int × Int) × Rs :=
  (((num l s 2).1, (num l (num l s 2).2 1).1, base255 (num l (num l (num l s 2).2 1).2 1).1), (num l (num l (num l s 2).2 1).2 1).2)
def getWord (l : List Nat) (s : Rs) : Nat × Rs := num l s 4
def getCmd (l : List Nat) (s : Rs) : (ByteArray × Int) × Rs := (((txt l s).1, (num l (txt l s).2 2).1), (num l (txt l s).2 2).2)
def getExp (l : List Nat) (s : Rs) : (Int × Int) × Rs := (((num l s 1).1, (num l (num l s 1).2 2).1), (num l (num l s 1).2 2).2)
def getByte (l : List Nat) (s : Rs) : Int × Rs := ((num l s 1).1, (num l s 1).2)
def lot {α : Type} (l : List Nat) (f : Rs → α × Rs) (k : Int) (s : Rs) : List α × Rs := many f (num l s k).1 (num l s k).2

structure Got where
  o : ObjD
  s : Rs
def got0 (l : List Nat) : Got := let a := txt l (2, false); let b := num l a.2 4; ⟨{ noObj with name := a.1, key := b.1 }, b.2⟩
def got1 (l : List Nat) (g : Got) : Got := let a := lot l (getImp l) 1 g.s; ⟨{ g.o with imps := a.1 }, a.2⟩
def got2 (l : List Nat) (g : Got) : Got := let a := lot l (getType l) 1 g.s; ⟨{ g.o with types := a.1 }, a.2⟩
def got3 (l : List Nat) (g : Got) : Got := let a := num l g.s 1; let b := txt l a.2; ⟨{ g.o with data := a.1, text := b.1 }, b.2⟩
def got4 (l : List Nat) (g : Got) : Got := let a := lot l (getWord l) 2 g.s; ⟨{ g.o with code := a.1 }, a.2⟩
def got5 (l : List Nat) (g : Got) : Got := let a := lot l (getCmd l) 1 g.s; ⟨{ g.o with cmds := a.1 }, a.2⟩
def got6 (l : List Nat) (g : Got) : Got := let a := lot l (getExp l) 1 g.s; ⟨{ g.o with exps := a.1 }, a.2⟩
def got7 (l : List Nat) (g : Got) : Got := let a := lot l (getByte l) 1 g.s; let b := lot l (getByte l) 1 a.2; ⟨{ g.o with ptrs := a.1, procs := b.1 }, b.2⟩
def got8 (l : List Nat) (g : Got) : Got := let a := num l g.s 2; let b := num l a.2 2; let c := num l b.2 2; let d := num l c.2 2; ⟨{ g.o with f0 := a.1, f1 := b.1, f2 := c.1, body := d.1 }, d.2⟩
def gotAll (l : List Nat) : Got := got8 l (got7 l (got6 l (got5 l (got4 l (got3 l (got2 l (got1 l (got0 l))))))))
def isObj (l : List Nat) : Bool := decide (2 ≤ l.length) && decide (l.getD 0 0 = 68) && decide (l.getD 1 0 = 87) && !(gotAll l).s.2 && decide (leftN l (gotAll l).s.1 (gotAll l).s.2 = 0)
def getO (l : List Nat) : ObjD := if isObj l then (gotAll l).o else noObj

/- the same -/
def ObjD.Eqv (a b : ObjD) : Prop := a.name = b.name ∧ a.key = b.key ∧ a.imps = b.imps ∧ a.types = b.types ∧ a.data = b.data ∧ a.text = b.text ∧ a.code = b.code ∧ a.cmds = b.cmds ∧ a.exps = b.exps ∧ a.ptrs = b.ptrs ∧ a.procs = b.procs ∧ a.f0 = b.f0 ∧ a.f1 = b.f1 ∧ a.f2 = b.f2 ∧ a.body = b.body
theorem ObjD.eqv_iff (a b : ObjD) : a.Eqv b ↔ a = b := by
  cases a
  cases b
  simp [ObjD.Eqv]
end Go.Proofs.Ytkkjfbpflfknpaa
