/-
  Contracts of alu.Do (Add, Sub, Xor, Div, an operation that is none) and of alu.Meets (layer 3). No conditions beyond those that each theorem names.
-/
import Derived.Test.YtlnjcaicagcinaaBase
import Derived.Test.YtlnjcaicagcinaaMathA
import Derived.Test.YtlnjcaicagcinaaStore
import Derived.RegionTactic
import Derived.Deep.RegionWith
import Derived.Laws.Rows
namespace Go.Proofs.Ytlnjcaicagcinaa
open Go.ChangeShapes Go.WideShapes Go.ChangeAt Go.RowKit

/- one of the bits of two numbers of 32 bits -/
def xorI (x y : Int) : Int := IntKind.i32.wrap ((BitVec.ofInt 32 x ^^^ BitVec.ofInt 32 y).toNat)

/- what Do answers: a number, a trap -/
abbrev done (n t : Int) : Ending := .returned (.tuple #[.int .i32 n, .int .i64 t])

set_option maxRecDepth 100000 in
theorem do_add (x y : Int) (w : World) : Calls Try.prog 77 #[.int .i64 2, .int .i32 x, .int .i32 y] w fun e w' => e = done (wrap32 (x + y)) 0 ∧ w = w' := by
  go_enter Try.func77, Try.ntmps77
  go_wp2
  go_ret2
  exact ⟨rfl, rfl⟩

set_option maxRecDepth 100000 in
theorem do_sub (x y : Int) (w : World) : Calls Try.prog 77 #[.int .i64 3, .int .i32 x, .int .i32 y] w fun e w' => e = done (wrap32 (x - y)) 0 ∧ w = w' := by
  go_enter Try.func77, Try.ntmps77
  go_wp2
  go_ret2
  exact ⟨rfl, rfl⟩

set_option maxRecDepth 100000 in
theorem do_xor (x y : Int) (w : World) : Calls Try.prog 77 #[.int .i64 8, .int .i32 x, .int .i32 y] w fun e w' => e = done (xorI x y) 0 ∧ w = w' := by
  go_enter Try.func77, Try.ntmps77
  go_wp2
  go_ret2
  exact ⟨by unfold xorI; rfl, rfl⟩

set_option maxRecDepth 100000 in
theorem divide_any (x y : Int) (w : World) (hy : y ≠ 0) : Calls Try.prog 87 #[.int .i32 x, .int .i32 y] w fun e w' => e = done (wrap32 (x.tdiv y)) 0 ∧ w = w' := by
  go_enter Try.func87, Try.ntmps87
  go_wp2
  go_ret2
  exact ⟨rfl, rfl⟩

set_option maxRecDepth 100000 in
theorem divide_zero (x : Int) (w : World) : Calls Try.prog 87 #[.int .i32 x, .int .i32 0] w fun e w' => e = done 0 4 ∧ w = w' := by
  go_enter Try.func87, Try.ntmps87
  go_wp2
  go_ret2
  exact ⟨rfl, rfl⟩

set_option maxRecDepth 100000 in
theorem do_div (x y : Int) (w : World) (hy : y ≠ 0) : Calls Try.prog 77 #[.int .i64 5, .int .i32 x, .int .i32 y] w fun e w' => e = done (wrap32 (x.tdiv y)) 0 ∧ w = w' := by
  go_enter Try.func77, Try.ntmps77
  go_wp2_with (go_at_call 87; refine (divide_any _ _ _ hy).mono ?_; rintro e w' ⟨rfl, rfl⟩)
  go_ret2
  exact ⟨rfl, rfl⟩

set_option maxRecDepth 100000 in
theorem do_div_zero (x : Int) (w : World) : Calls Try.prog 77 #[.int .i64 5, .int .i32 x, .int .i32 0] w fun e w' => e = done 0 4 ∧ w = w' := by
  go_enter Try.func77, Try.ntmps77
  go_wp2_with (go_at_call 87; refine (divide_zero _ _).mono ?_; rintro e w' ⟨rfl, rfl⟩)
  go_ret2
  exact ⟨rfl, rfl⟩

set_option maxRecDepth 100000 in
theorem do_none (x y : Int) (w : World) : Calls Try.prog 77 #[.int .i64 0, .int .i32 x, .int .i32 y] w fun e w' => e = done 0 1 ∧ w = w' := by
  go_enter Try.func77, Try.ntmps77
  go_wp2
  go_ret2
  exact ⟨rfl, rfl⟩

set_option maxRecDepth 100000 in
theorem meets_same (x y : Int) (w : World) : Calls Try.prog 54 #[.int .i64 16, .int .i32 x, .int .i32 y] w fun e w' => e = .returned (.bool (x == y)) ∧ w = w' := by
  go_enter Try.func54, Try.ntmps54
  go_wp2
  go_ret
  exact ⟨rfl, rfl⟩

set_option maxRecDepth 100000 in
theorem meets_other (x y : Int) (w : World) : Calls Try.prog 54 #[.int .i64 17, .int .i32 x, .int .i32 y] w fun e w' => e = .returned (.bool (x != y)) ∧ w = w' := by
  go_enter Try.func54, Try.ntmps54
  go_wp2
  go_ret
  exact ⟨rfl, rfl⟩

set_option maxRecDepth 100000 in
theorem meets_less (x y : Int) (w : World) : Calls Try.prog 54 #[.int .i64 18, .int .i32 x, .int .i32 y] w fun e w' => e = .returned (.bool (decide (x < y))) ∧ w = w' := by
  go_enter Try.func54, Try.ntmps54
  go_wp2
  go_ret
  exact ⟨rfl, rfl⟩

set_option maxRecDepth 100000 in
theorem meets_jump (x y : Int) (w : World) : Calls Try.prog 54 #[.int .i64 19, .int .i32 x, .int .i32 y] w fun e w' => e = .returned (.bool true) ∧ w = w' := by
  go_enter Try.func54, Try.ntmps54
  go_wp2
  go_ret
  exact ⟨rfl, rfl⟩

/- the numbers -/
theorem add_back (x y : Int) (h1 : -2147483648 ≤ x) (h2 : x ≤ 2147483647) : wrap32 (wrap32 (x + y) - y) = x := by unfold wrap32; omega

theorem ofInt_wrap (b : BitVec 32) : BitVec.ofInt 32 (IntKind.i32.wrap b.toNat) = b := by
  apply BitVec.eq_of_toNat_eq
  rw [BitVec.toNat_ofInt, IntKind.wrap_i32]
  have := b.isLt
  omega

theorem wrap_ofInt (x : Int) (h1 : -2147483648 ≤ x) (h2 : x ≤ 2147483647) : IntKind.i32.wrap (BitVec.ofInt 32 x).toNat = x := by
  rw [BitVec.toNat_ofInt, IntKind.wrap_i32]
  omega

theorem xor_back (x y : Int) (h1 : -2147483648 ≤ x) (h2 : x ≤ 2147483647) : xorI (xorI x y) y = x := by
  unfold xorI
  rw [ofInt_wrap, BitVec.xor_assoc, BitVec.xor_self, BitVec.xor_zero]
  exact wrap_ofInt x h1 h2
end Go.Proofs.Ytlnjcaicagcinaa

/-
  Contracts of alu.Do, each operation, in one form, and of alu.Meets (layer 3, as layer 7 calls it). No conditions beyond those that each theorem names.
-/
namespace Go.Proofs.Ytlnjcaicagcinaa
open Go.ChangeShapes Go.WideShapes Go.ChangeAt Go.RowKit

/- what an operation comes to, and its trap -/
def aluV (o x y : Int) : Int :=
  if o = 2 then wrap32 (x + y) else if o = 3 then wrap32 (x - y) else if o = 4 then wrap32 (x * y) else if o = 5 then (if y = 0 then 0 else wrap32 (x.tdiv y))
  else if o = 6 then bits BinOp.and IntKind.i32 x y else if o = 7 then bits BinOp.or IntKind.i32 x y else if o = 8 then bits BinOp.xor IntKind.i32 x y
  else if o = 9 then wrap32 (x * 2 ^ (y % 32).toNat) else x / 2 ^ (y % 32).toNat
def aluT (o y : Int) : Int := if o = 5 ∧ y = 0 then 4 else 0
def meetsOf (o x y : Int) : Bool := (o == 16 && x == y) || (o == 17 && x != y) || (o == 18 && decide (x < y)) || o == 19

set_option maxRecDepth 100000 in
theorem do_mul (x y : Int) (w : World) : Calls Try.prog 77 #[.int .i64 4, .int .i32 x, .int .i32 y] w fun e w' => e = done (wrap32 (x * y)) 0 ∧ w = w' := by
  go_enter Try.func77, Try.ntmps77
  go_wp2
  go_ret2
  exact ⟨rfl, rfl⟩

set_option maxRecDepth 100000 in
theorem do_and (x y : Int) (w : World) : Calls Try.prog 77 #[.int .i64 6, .int .i32 x, .int .i32 y] w fun e w' => e = done (bits BinOp.and IntKind.i32 x y) 0 ∧ w = w' := by
  go_enter Try.func77, Try.ntmps77
  go_wp2
  go_ret2
  exact ⟨rfl, rfl⟩

set_option maxRecDepth 100000 in
theorem do_or (x y : Int) (w : World) : Calls Try.prog 77 #[.int .i64 7, .int .i32 x, .int .i32 y] w fun e w' => e = done (bits BinOp.or IntKind.i32 x y) 0 ∧ w = w' := by
  go_enter Try.func77, Try.ntmps77
  go_wp2
  go_ret2
  exact ⟨rfl, rfl⟩

set_option maxRecDepth 100000 in
theorem do_xor2 (x y : Int) (w : World) : Calls Try.prog 77 #[.int .i64 8, .int .i32 x, .int .i32 y] w fun e w' => e = done (bits BinOp.xor IntKind.i32 x y) 0 ∧ w = w' := by
  go_enter Try.func77, Try.ntmps77
  go_wp2
  go_ret2
  exact ⟨rfl, rfl⟩

theorem mask_31 (y : Int) : bits BinOp.and IntKind.u32 (y % 4294967296) 31 = y % 32 := by
  have h := get_form (y % 4294967296).toNat 0 5 (by omega) (by omega)
  rw [show (((y % 4294967296).toNat : Nat) : Int) = y % 4294967296 by omega] at h
  simp only [Int.pow_zero, Int.ediv_one] at h
  refine (Eq.trans ?_ h).trans ?_
  · rfl
  · unfold getN
    simp
    omega

set_option maxRecDepth 100000 in
theorem shift_any (y : Int) (w : World) : Calls Try.prog 88 #[.int .i32 y] w fun e w' => e = .returned (.int .u32 (y % 32)) ∧ w = w' := by
  go_enter Try.func88, Try.ntmps88
  go_wp2
  go_ret
  exact ⟨end_int (mask_31 y), rfl⟩

set_option maxRecDepth 100000 in
theorem do_shl (x y : Int) (w : World) : Calls Try.prog 77 #[.int .i64 9, .int .i32 x, .int .i32 y] w fun e w' => e = done (wrap32 (x * 2 ^ (y % 32).toNat)) 0 ∧ w = w' := by
  go_enter Try.func77, Try.ntmps77
  go_wp2_with fail
  refine (shift_any y _).mono ?_
  rintro e w' ⟨rfl, rfl⟩
  go_wp2_with fail
  go_ret2
  exact ⟨rfl, rfl⟩

set_option maxRecDepth 100000 in
theorem do_shr (x y : Int) (w : World) : Calls Try.prog 77 #[.int .i64 10, .int .i32 x, .int .i32 y] w fun e w' => e = done (x / 2 ^ (y % 32).toNat) 0 ∧ w = w' := by
  go_enter Try.func77, Try.ntmps77
  go_wp2_with fail
  refine (shift_any y _).mono ?_
  rintro e w' ⟨rfl, rfl⟩
  go_wp2_with fail
  go_ret2
  exact ⟨rfl, rfl⟩

theorem do_any (o x y : Int) (w : World) (h1 : 2 ≤ o) (h2 : o ≤ 10) : Calls Try.prog 77 #[.int .i64 o, .int .i32 x, .int .i32 y] w fun e w' => e = done (aluV o x y) (aluT o y) ∧ w = w' := by
  have hc : o = 2 ∨ o = 3 ∨ o = 4 ∨ o = 5 ∨ o = 6 ∨ o = 7 ∨ o = 8 ∨ o = 9 ∨ o = 10 := by omega
  rcases hc with rfl | rfl | rfl | rfl | rfl | rfl | rfl | rfl | rfl
  · exact do_add x y w
  · exact do_sub x y w
  · exact do_mul x y w
  · by_cases hy : y = 0
    · subst hy
      exact do_div_zero x w
    · have e1 : aluV 5 x y = wrap32 (x.tdiv y) := by simp [aluV, hy]
      have e2 : aluT 5 y = 0 := by simp [aluT, hy]
      rw [e1, e2]
      exact do_div x y w hy
  · exact do_and x y w
  · exact do_or x y w
  · exact do_xor2 x y w
  · exact do_shl x y w
  · exact do_shr x y w

theorem aluMeets_any (o x y : Int) (w : World) (h1 : 16 ≤ o) (h2 : o ≤ 19) : Calls Try.prog 54 #[.int .i64 o, .int .i32 x, .int .i32 y] w fun e w' => e = .returned (.bool (meetsOf o x y)) ∧ w = w' := by
  have hc : o = 16 ∨ o = 17 ∨ o = 18 ∨ o = 19 := by omega
  rcases hc with rfl | rfl | rfl | rfl
  · rw [show meetsOf 16 x y = (x == y) by simp [meetsOf]]; exact meets_same x y w
  · rw [show meetsOf 17 x y = (x != y) by simp [meetsOf]]; exact meets_other x y w
  · rw [show meetsOf 18 x y = decide (x < y) by simp [meetsOf]]; exact meets_less x y w
  · rw [show meetsOf 19 x y = true by simp [meetsOf]]; exact meets_jump x y w
end Go.Proofs.Ytlnjcaicagcinaa

/-
  A state of package cpu as plain data; contracts of its small helpers (layer 7). No conditions beyond those that each theorem names.
-/
namespace Go.Proofs.Ytlnjcaicagcinaa
open Go.ChangeShapes Go.WideShapes Go.ChangeAt Go.RowKit

abbrev ST : TypeId := 64
/- sixteen registers, and a place -/
def cst (r : List Int) (p : Int) : List Value := (r.map fun x => Value.int .i32 x) ++ [.int .i64 p]
theorem cst_reg (r : List Int) (p : Int) (hr : r.length = 16) (a : Nat) (ha : a < 16) : (cst r p)[a]? = some (.int .i32 (r.getD a 0)) := by
  unfold cst
  rw [List.getElem?_append_left (by simp; omega)]
  simp [List.getD, hr, ha]
theorem cst_at (r : List Int) (p : Int) (hr : r.length = 16) : (cst r p)[16]? = some (.int .i64 p) := by
  unfold cst
  rw [List.getElem?_append_right (by simp; omega)]
  simp [hr]
theorem cst_set (r : List Int) (p : Int) (hr : r.length = 16) (a : Nat) (ha : a < 16) (x : Int) : (cst r p).set a (.int .i32 x) = cst (r.set a x) p := by
  unfold cst
  rw [List.set_append_left _ _ (by simp; omega), List.map_set]
theorem cst_put (r : List Int) (p q : Int) (hr : r.length = 16) : (cst r p).set 16 (.int .i64 q) = cst r q := by
  unfold cst
  rw [List.set_append_right _ _ (by simp; omega)]
  simp [hr]
theorem cst_length (r : List Int) (p : Int) (hr : r.length = 16) : (cst r p).length = 17 := by simp [cst, hr]
theorem cst_ones (r : List Int) (p : Int) : Ones (cst r p) := by
  intro u hu
  rcases List.mem_append.1 hu with hu | hu
  · obtain ⟨x, _, rfl⟩ := List.mem_map.1 hu
    rfl
  · simp at hu
    subst hu
    rfl
theorem RowAt.reg {w : World} {sp : Nat} {r : List Int} {p : Int} (h : RowAt w sp ST (cst r p)) (hr : r.length = 16) {a : Nat} (ha : a < 16) : w.cell? ⟨sp, a, none⟩ = some (.int .i32 (r.getD a 0)) := by
  rw [h.cell, cst_reg r p hr a ha]
theorem RowAt.spot {w : World} {sp : Nat} {r : List Int} {p : Int} (h : RowAt w sp ST (cst r p)) (hr : r.length = 16) : w.cell? ⟨sp, 16, none⟩ = some (.int .i64 p) := by
  rw [h.cell, cst_at r p hr]

set_option maxRecDepth 100000 in
theorem place_any (x : Int) (w : World) : Calls Try.prog 56 #[.int .i32 x] w fun e w' => e = .returned (.int .i64 (x % 4294967296)) ∧ w = w' := by
  go_enter Try.func56, Try.ntmps56
  go_wp2
  go_ret
  exact ⟨rfl, rfl⟩

set_option maxRecDepth 100000 in
theorem cpuAligned_any (a : Int) (w : World) : Calls Try.prog 70 #[.int .i64 a] w fun e w' => e = .returned (.bool (a.tmod 4 == 0)) ∧ w = w' := by
  go_enter Try.func70, Try.ntmps70
  go_wp2
  go_ret
  exact ⟨rfl, rfl⟩

theorem wrap_reach (x n : Int) : IntKind.i32.wrap (x + IntKind.i32.wrap n) % 4294967296 = (x + n) % 4294967296 := by
  simp only [IntKind.wrap_i32]
  omega
set_option maxRecDepth 100000 in
theorem reach_any (sp : Nat) (r : List Int) (p o a n : Int) (b : Nat) (w : World) (h : RowAt w sp ST (cst r p)) (hr : r.length = 16) (hb : b < 16) :
    Calls Try.prog 69 #[.pointer (some ⟨sp, 0, none⟩), .agg #[.int .i64 o, .int .i64 a, .int .i64 b, .int .i64 n]] w fun e w' => e = .returned (.int .i64 ((r.getD b 0 + n) % 4294967296)) ∧ Below w.heap.size w w' := by
  have c0 := h.reg hr hb
  have hlt := h.lt
  have e1 : (b : Int) < 16 := by omega
  have e2 : (0 : Int) ≤ (b : Int) := by omega
  generalize r.getD b 0 = x at *
  clear h
  go_enter Try.func69, Try.ntmps69
  go_wp2_with fail
  go_region_with ((go_at_call 56; refine (place_any _ _).mono ?_; rintro e w' ⟨rfl, rfl⟩))
  all_goals
    go_wp2_with fail
    go_ret
    exact ⟨end_int (wrap_reach x n), ((Below.refl _ _).alloc (Nat.le_refl _) _).trans ⟨rfl, rfl, rfl, Nat.le_refl _, fun _ _ => rfl⟩⟩


set_option maxRecDepth 100000 in
theorem jump_any (sp : Nat) (r : List Int) (p n : Int) (w : World) (h : RowAt w sp ST (cst r p)) (hr : r.length = 16) (hp : 0 ≤ p) (hp2 : p ≤ 100000) (hn : -131072 ≤ n) (hn2 : n ≤ 131071) :
    Calls Try.prog 55 #[.pointer (some ⟨sp, 0, none⟩), .int .i64 n] w fun e w' => e = .returned (.tuple #[]) ∧ w.setCell ⟨sp, 16, none⟩ (.int .i64 (p + 4 * n)) = w' := by
  have c0 := h.spot hr
  have hlt := h.lt
  have hf := h.free 16
  clear h
  go_enter Try.func55, Try.ntmps55
  go_wp2_with fail
  refine bodyPost_end (results_none rfl _ _ _) rfl ?_
  exact ⟨rfl, rfl⟩

end Go.Proofs.Ytlnjcaicagcinaa
