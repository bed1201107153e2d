/-
  Contracts of package ins's helpers and of May (layer 2), and of the document's May. No conditions beyond those that each theorem names.
-/
import Derived.Test.YtlnjcaicagcinaaFieldA
import Derived.Test.YtlnjcaicagcinaaMathB
namespace Go.Proofs.Ytlnjcaicagcinaa
open Go.ChangeShapes Go.WideShapes Go.ChangeAt Go.RowKit

/- an instruction may be -/
def isOpP (o : Int) : Prop := 1 ≤ o ∧ o ≤ 21
def isRegP (r : Int) : Prop := 0 ≤ r ∧ r ≤ 15
def isNumP (o n : Int) : Prop := (2 ≤ o ∧ o ≤ 10 ∧ 0 ≤ n ∧ n ≤ 15) ∨ ((o < 2 ∨ 10 < o) ∧ -131072 ≤ n ∧ n ≤ 131071)
def MayP (o a b n : Int) : Prop := isOpP o ∧ isRegP a ∧ isRegP b ∧ isNumP o n

set_option maxRecDepth 100000 in
theorem isOp_yes (o : Int) (w : World) (h : isOpP o) :
    Calls Try.prog 82 #[.int .i64 o] w fun e w' => e = .returned (.bool true) ∧ w = w' := by
  obtain ⟨h1, h2⟩ := h
  go_enter Try.func82, Try.ntmps82
  go_wp2
  go_ret
  exact ⟨rfl, rfl⟩

set_option maxRecDepth 100000 in
theorem isOp_no (o : Int) (w : World) (h : ¬ isOpP o) :
    Calls Try.prog 82 #[.int .i64 o] w fun e w' => e = .returned (.bool false) ∧ w = w' := by
  unfold isOpP at h
  by_cases h1 : 1 ≤ o
  · have h2 : 21 < o := by omega
    clear h
    go_enter Try.func82, Try.ntmps82
    go_wp2
    go_ret
    exact ⟨end_bool (by simp <;> omega), rfl⟩
  · have h2 : o < 1 := by omega
    clear h h1
    go_enter Try.func82, Try.ntmps82
    go_wp2
    go_ret
    exact ⟨end_bool (by simp <;> omega), rfl⟩

set_option maxRecDepth 100000 in
theorem isReg_yes (o : Int) (w : World) (h : isRegP o) :
    Calls Try.prog 83 #[.int .i64 o] w fun e w' => e = .returned (.bool true) ∧ w = w' := by
  obtain ⟨h1, h2⟩ := h
  go_enter Try.func83, Try.ntmps83
  go_wp2
  go_ret
  exact ⟨end_bool (by simp <;> omega), rfl⟩

set_option maxRecDepth 100000 in
theorem isReg_no (o : Int) (w : World) (h : ¬ isRegP o) :
    Calls Try.prog 83 #[.int .i64 o] w fun e w' => e = .returned (.bool false) ∧ w = w' := by
  unfold isRegP at h
  by_cases h1 : 0 ≤ o
  · have h2 : 15 < o := by omega
    clear h
    go_enter Try.func83, Try.ntmps83
    go_wp2
    go_ret
    exact ⟨end_bool (by simp <;> omega), rfl⟩
  · have h2 : o < 0 := by omega
    clear h h1
    go_enter Try.func83, Try.ntmps83
    go_wp2
    go_ret
    exact ⟨end_bool (by simp <;> omega), rfl⟩

set_option maxRecDepth 100000 in
theorem namesReg_yes (o : Int) (w : World) (h1 : 2 ≤ o) (h2 : o ≤ 10) :
    Calls Try.prog 89 #[.int .i64 o] w fun e w' => e = .returned (.bool true) ∧ w = w' := by
  go_enter Try.func89, Try.ntmps89
  go_wp2
  go_ret
  exact ⟨end_bool (by simp <;> omega), rfl⟩

set_option maxRecDepth 100000 in
theorem namesReg_no (o : Int) (w : World) (h : o < 2 ∨ 10 < o) :
    Calls Try.prog 89 #[.int .i64 o] w fun e w' => e = .returned (.bool false) ∧ w = w' := by
  rcases h with h1 | h1
  all_goals
    go_enter Try.func89, Try.ntmps89
    go_wp2
    go_ret
    exact ⟨end_bool (by simp <;> omega), rfl⟩

set_option maxRecDepth 100000 in
theorem isNum_yes (o n : Int) (w : World) (h : isNumP o n) :
    Calls Try.prog 84 #[.int .i64 o, .int .i64 n] w fun e w' => e = .returned (.bool true) ∧ w = w' := by
  rcases h with ⟨h1, h2, h3, h4⟩ | ⟨h0, h3, h4⟩
  · go_enter Try.func84, Try.ntmps84
    go_wp2_with fail
    refine (namesReg_yes o _ h1 h2).mono ?_
    rintro e w' ⟨rfl, rfl⟩
    go_wp2_with fail
    refine (isReg_yes n _ ⟨h3, h4⟩).mono ?_
    rintro e w' ⟨rfl, rfl⟩
    go_wp2_with fail
    go_ret
    exact ⟨rfl, rfl⟩
  · have H := Lib.hid h0
    clear h0
    go_enter Try.func84, Try.ntmps84
    go_wp2_with fail
    refine (namesReg_no o _ H.out).mono ?_
    rintro e w' ⟨rfl, rfl⟩
    go_wp2_with fail
    go_ret
    exact ⟨end_bool (by simp <;> omega), rfl⟩

set_option maxRecDepth 100000 in
theorem isNum_no (o n : Int) (w : World) (h : ¬ isNumP o n) :
    Calls Try.prog 84 #[.int .i64 o, .int .i64 n] w fun e w' => e = .returned (.bool false) ∧ w = w' := by
  unfold isNumP at h
  by_cases h0 : o < 2 ∨ 10 < o
  · have H := Lib.hid h0
    by_cases h3 : -131072 ≤ n
    · have h4 : 131071 < n := by omega
      clear h h0
      go_enter Try.func84, Try.ntmps84
      go_wp2_with fail
      refine (namesReg_no o _ H.out).mono ?_
      rintro e w' ⟨rfl, rfl⟩
      go_wp2_with fail
      go_ret
      exact ⟨end_bool (by simp <;> omega), rfl⟩
    · have h4 : n < -131072 := by omega
      clear h h0 h3
      go_enter Try.func84, Try.ntmps84
      go_wp2_with fail
      refine (namesReg_no o _ H.out).mono ?_
      rintro e w' ⟨rfl, rfl⟩
      go_wp2_with fail
      go_ret
      exact ⟨end_bool (by simp <;> omega), rfl⟩
  · have h1 : 2 ≤ o := by omega
    have h2 : o ≤ 10 := by omega
    have H : Hid (¬ isRegP n) := by unfold isRegP; exact fun g => h (.inl ⟨h1, h2, g.1, g.2⟩)
    clear h h0
    go_enter Try.func84, Try.ntmps84
    go_wp2_with fail
    refine (namesReg_yes o _ h1 h2).mono ?_
    rintro e w' ⟨rfl, rfl⟩
    go_wp2_with fail
    refine (isReg_no n _ H.out).mono ?_
    rintro e w' ⟨rfl, rfl⟩
    go_wp2_with fail
    go_ret
    exact ⟨rfl, rfl⟩
end Go.Proofs.Ytlnjcaicagcinaa

/-
  Contracts of ins.May (layer 2). No conditions beyond those that each theorem names.
-/
namespace Go.Proofs.Ytlnjcaicagcinaa
open Go.ChangeShapes Go.WideShapes Go.ChangeAt Go.RowKit

set_option maxRecDepth 100000 in
theorem may_yes (o a b n : Int) (w : World) (h : MayP o a b n) :
    Calls Try.prog 68 #[.agg #[.int .i64 o, .int .i64 a, .int .i64 b, .int .i64 n]] w fun e w' => e = .returned (.bool true) ∧ Below w.heap.size w w' := by
  obtain ⟨h1, h2, h3, h4⟩ := h
  have H1 := Lib.hid h1
  have H2 := Lib.hid h2
  have H3 := Lib.hid h3
  have H4 := Lib.hid h4
  clear h1 h2 h3 h4
  go_enter Try.func68, Try.ntmps68
  go_wp2_with fail
  refine (isOp_yes o _ H1.out).mono ?_
  rintro e w' ⟨rfl, rfl⟩
  go_wp2_with fail
  refine (isReg_yes a _ H2.out).mono ?_
  rintro e w' ⟨rfl, rfl⟩
  go_wp2_with fail
  refine (isReg_yes b _ H3.out).mono ?_
  rintro e w' ⟨rfl, rfl⟩
  go_wp2_with fail
  refine (isNum_yes o n _ H4.out).mono ?_
  rintro e w' ⟨rfl, rfl⟩
  go_wp2_with fail
  go_ret
  exact ⟨rfl, (Below.refl _ _).alloc (Nat.le_refl _) _⟩

set_option maxRecDepth 100000 in
theorem may_no (o a b n : Int) (w : World) (h : ¬ MayP o a b n) :
    Calls Try.prog 68 #[.agg #[.int .i64 o, .int .i64 a, .int .i64 b, .int .i64 n]] w fun e w' => e = .returned (.bool false) ∧ Below w.heap.size w w' := by
  have H := Lib.hid h
  clear h
  by_cases h1 : isOpP o
  · have H1 := Lib.hid h1
    clear h1
    by_cases h2 : isRegP a
    · have H2 := Lib.hid h2
      clear h2
      by_cases h3 : isRegP b
      · have H3 := Lib.hid h3
        clear h3
        have H4 : Hid (¬ isNumP o n) := fun g => H.out ⟨H1.out, H2.out, H3.out, g⟩
        go_enter Try.func68, Try.ntmps68
        go_wp2_with fail
        refine (isOp_yes o _ H1.out).mono ?_
        rintro e w' ⟨rfl, rfl⟩
        go_wp2_with fail
        refine (isReg_yes a _ H2.out).mono ?_
        rintro e w' ⟨rfl, rfl⟩
        go_wp2_with fail
        refine (isReg_yes b _ H3.out).mono ?_
        rintro e w' ⟨rfl, rfl⟩
        go_wp2_with fail
        refine (isNum_no o n _ H4.out).mono ?_
        rintro e w' ⟨rfl, rfl⟩
        go_wp2_with fail
        go_ret
        exact ⟨rfl, (Below.refl _ _).alloc (Nat.le_refl _) _⟩
      · have H3 := Lib.hid h3
        clear h3
        go_enter Try.func68, Try.ntmps68
        go_wp2_with fail
        refine (isOp_yes o _ H1.out).mono ?_
        rintro e w' ⟨rfl, rfl⟩
        go_wp2_with fail
        refine (isReg_yes a _ H2.out).mono ?_
        rintro e w' ⟨rfl, rfl⟩
        go_wp2_with fail
        refine (isReg_no b _ H3.out).mono ?_
        rintro e w' ⟨rfl, rfl⟩
        go_wp2_with fail
        go_ret
        exact ⟨rfl, (Below.refl _ _).alloc (Nat.le_refl _) _⟩
    · have H2 := Lib.hid h2
      clear h2
      go_enter Try.func68, Try.ntmps68
      go_wp2_with fail
      refine (isOp_yes o _ H1.out).mono ?_
      rintro e w' ⟨rfl, rfl⟩
      go_wp2_with fail
      refine (isReg_no a _ H2.out).mono ?_
      rintro e w' ⟨rfl, rfl⟩
      go_wp2_with fail
      go_ret
      exact ⟨rfl, (Below.refl _ _).alloc (Nat.le_refl _) _⟩
  · have H1 := Lib.hid h1
    clear h1
    go_enter Try.func68, Try.ntmps68
    go_wp2_with fail
    refine (isOp_no o _ H1.out).mono ?_
    rintro e w' ⟨rfl, rfl⟩
    go_wp2_with fail
    go_ret
    exact ⟨rfl, (Below.refl _ _).alloc (Nat.le_refl _) _⟩

end Go.Proofs.Ytlnjcaicagcinaa

/-
  Contracts of the document's May (layer 2). No conditions beyond those that each theorem names.
-/
namespace Go.Proofs.Ytlnjcaicagcinaa
open Go.ChangeShapes Go.WideShapes Go.ChangeAt Go.RowKit

/- where it may not be, by the first test that tells it -/
def NoMay (o a b n : Int) : Prop := o < 1 ∨ (1 ≤ o ∧ 21 < o) ∨ (1 ≤ o ∧ o ≤ 21 ∧ a < 0) ∨ (1 ≤ o ∧ o ≤ 21 ∧ 0 ≤ a ∧ 15 < a) ∨ (1 ≤ o ∧ o ≤ 21 ∧ 0 ≤ a ∧ a ≤ 15 ∧ b < 0) ∨ (1 ≤ o ∧ o ≤ 21 ∧ 0 ≤ a ∧ a ≤ 15 ∧ 0 ≤ b ∧ 15 < b)
  ∨ (1 ≤ o ∧ o ≤ 21 ∧ 0 ≤ a ∧ a ≤ 15 ∧ 0 ≤ b ∧ b ≤ 15 ∧ n < -131072) ∨ (1 ≤ o ∧ o ≤ 21 ∧ 0 ≤ a ∧ a ≤ 15 ∧ 0 ≤ b ∧ b ≤ 15 ∧ -131072 ≤ n ∧ 131071 < n)
  ∨ (2 ≤ o ∧ o ≤ 10 ∧ 0 ≤ a ∧ a ≤ 15 ∧ 0 ≤ b ∧ b ≤ 15 ∧ -131072 ≤ n ∧ n < 0) ∨ (2 ≤ o ∧ o ≤ 10 ∧ 0 ≤ a ∧ a ≤ 15 ∧ 0 ≤ b ∧ b ≤ 15 ∧ 15 < n ∧ n ≤ 131071)
theorem noMay (o a b n : Int) (h : ¬ MayP o a b n) : NoMay o a b n := by
  unfold NoMay
  by_cases g1 : o < 1
  · exact .inl g1
  have k1 : 1 ≤ o := by omega
  clear g1
  by_cases g1 : 21 < o
  · exact .inr (.inl ⟨k1, g1⟩)
  have k2 : o ≤ 21 := by omega
  clear g1
  by_cases g1 : a < 0
  · exact .inr (.inr (.inl ⟨k1, k2, g1⟩))
  have k3 : 0 ≤ a := by omega
  clear g1
  by_cases g1 : 15 < a
  · exact .inr (.inr (.inr (.inl ⟨k1, k2, k3, g1⟩)))
  have k4 : a ≤ 15 := by omega
  clear g1
  by_cases g1 : b < 0
  · exact .inr (.inr (.inr (.inr (.inl ⟨k1, k2, k3, k4, g1⟩))))
  have k5 : 0 ≤ b := by omega
  clear g1
  by_cases g1 : 15 < b
  · exact .inr (.inr (.inr (.inr (.inr (.inl ⟨k1, k2, k3, k4, k5, g1⟩)))))
  have k6 : b ≤ 15 := by omega
  clear g1
  by_cases g1 : n < -131072
  · exact .inr (.inr (.inr (.inr (.inr (.inr (.inl ⟨k1, k2, k3, k4, k5, k6, g1⟩))))))
  have k7 : -131072 ≤ n := by omega
  clear g1
  by_cases g1 : 131071 < n
  · exact .inr (.inr (.inr (.inr (.inr (.inr (.inr (.inl ⟨k1, k2, k3, k4, k5, k6, k7, g1⟩)))))))
  have k8 : n ≤ 131071 := by omega
  clear g1
  by_cases g2 : o < 2 ∨ 10 < o
  · exact absurd ⟨⟨k1, k2⟩, ⟨k3, k4⟩, ⟨k5, k6⟩, .inr ⟨g2, k7, k8⟩⟩ h
  have m1 : 2 ≤ o := by omega
  have m2 : o ≤ 10 := by omega
  clear g2
  by_cases g3 : n < 0
  · exact .inr (.inr (.inr (.inr (.inr (.inr (.inr (.inr (.inl ⟨m1, m2, k3, k4, k5, k6, k7, g3⟩))))))))
  have m3 : 0 ≤ n := by omega
  clear g3
  by_cases g4 : 15 < n
  · exact .inr (.inr (.inr (.inr (.inr (.inr (.inr (.inr (.inr ⟨m1, m2, k3, k4, k5, k6, g4, k8⟩))))))))
  exact absurd ⟨⟨k1, k2⟩, ⟨k3, k4⟩, ⟨k5, k6⟩, .inl ⟨m1, m2, m3, by omega⟩⟩ h

end Go.Proofs.Ytlnjcaicagcinaa

/-
  Contracts of the document's PutIns (layer 2). No conditions beyond those that each theorem names.
-/
namespace Go.Proofs.Ytlnjcaicagcinaa
open Go.ChangeShapes Go.WideShapes Go.ChangeAt Go.RowKit

theorem put_number (o a b : Nat) (n : Int) (h1 : 0 ≤ n) (h2 : n ≤ 131071) :
    (o : Int) * 67108864 + (a : Int) * 4194304 + (b : Int) * 262144 + n = ((insN o a b (lowN n) : Nat) : Int) := by
  have h := lowN_cast n
  unfold insN
  omega
theorem put_number_neg (o a b : Nat) (n : Int) (h1 : -131072 ≤ n) (h2 : n < 0) :
    (o : Int) * 67108864 + (a : Int) * 4194304 + (b : Int) * 262144 + (n + 262144) = ((insN o a b (lowN n) : Nat) : Int) := by
  have h := lowN_cast n
  unfold insN
  omega

set_option maxRecDepth 100000 in
set_option maxHeartbeats 1000000 in
theorem refPutIns_any (o a b : Nat) (n : Int) (w : World) (ho : o < 64) (ha : a < 16) (hb : b < 16) (h1 : -131072 ≤ n) (h2 : n ≤ 131071) :
    Calls Try.prog 9 #[.agg #[.int .i64 o, .int .i64 a, .int .i64 b, .int .i64 n]] w fun e w' => e = .returned (.int .u32 (insN o a b (lowN n) : Nat)) ∧ Below w.heap.size w w' := by
  by_cases h3 : n < 0
  · go_enter Try.func9, Try.ntmps9
    go_wp2
    go_ret
    exact ⟨end_int (put_number_neg o a b n h1 h3), (Below.refl _ _).alloc (Nat.le_refl _) _⟩
  · have h4 : 0 ≤ n := by omega
    clear h3
    go_enter Try.func9, Try.ntmps9
    go_wp2
    go_ret
    exact ⟨end_int (put_number o a b n h4 h2), (Below.refl _ _).alloc (Nat.le_refl _) _⟩
end Go.Proofs.Ytlnjcaicagcinaa

/-
  Contracts of ins.Get (layer 2). No conditions beyond those that each theorem names.
-/
namespace Go.Proofs.Ytlnjcaicagcinaa
open Go.ChangeShapes Go.WideShapes Go.ChangeAt Go.RowKit

set_option maxRecDepth 100000 in
set_option maxHeartbeats 1000000 in
theorem insGet_yes (x : Nat) (w : World) (hx : x < 4294967296) (h : MayP (getN x 26 6 : Nat) (getN x 22 4 : Nat) (getN x 18 4 : Nat) (signI (getN x 0 18) 18)) :
    Calls Try.prog 49 #[.int .u32 x] w fun e w' => e = .returned (.tuple #[.agg #[.int .i64 (getN x 26 6 : Nat), .int .i64 (getN x 22 4 : Nat), .int .i64 (getN x 18 4 : Nat), .int .i64 (signI (getN x 0 18) 18)], .bool true]) ∧ Below w.heap.size w w' := by
  have H := Lib.hid h
  clear h
  have b1 := getN_lt x 26 6
  have b2 := getN_lt x 22 4
  have b3 := getN_lt x 18 4
  have b4 := getN_lt x 0 18
  have b5 := signI_18 (getN x 0 18)
  simp only [Nat.reducePow] at b1 b2 b3 b4
  go_enter Try.func49, Try.ntmps49
  go_wp2_with fail
  refine (get_yes x 26 6 _ hx (by omega) (by omega)).mono ?_
  rintro e w1 ⟨rfl, hw1⟩
  go_wp2_with fail
  refine (get_yes x 22 4 _ hx (by omega) (by omega)).mono ?_
  rintro e w2 ⟨rfl, hw2⟩
  go_wp2_with fail
  refine (get_yes x 18 4 _ hx (by omega) (by omega)).mono ?_
  rintro e w3 ⟨rfl, hw3⟩
  go_wp2_with fail
  refine (get_yes x 0 18 _ hx (by omega) (by omega)).mono ?_
  rintro e w4 ⟨rfl, hw4⟩
  go_wp2_with fail
  refine (sign_yes (getN x 0 18) 18 _ (by omega) (by omega)).mono ?_
  rintro e w5 ⟨rfl, rfl⟩
  go_wp2_with fail
  refine (may_yes _ _ _ _ _ H.out).mono ?_
  rintro e w6 ⟨rfl, hb6⟩
  have hD := ((hw1.trans hw2).trans hw3).trans hw4
  clear hw1 hw2 hw3 hw4
  obtain ⟨k, rfl⟩ := hD
  have hc := old_cell hb6
  have hf := old_mark hb6
  go_wp2_with fail
  have gs : ∀ i, i < 4 → w6.cell? ⟨w.heap.size, i, none⟩ = some (.int .i64 0) := by
    intro i hi
    rw [hc w.heap.size i (by simp [World.drewN]; omega)]
    match i, hi with
    | 0, _ => simp [go_sem]
    | 1, _ => simp [go_sem]
    | 2, _ => simp [go_sem]
    | 3, _ => simp [go_sem]
  have g0 := gs 0 (by omega)
  have g1 := gs 1 (by omega)
  have g2 := gs 2 (by omega)
  have g3 := gs 3 (by omega)
  clear gs hc hf
  refine bodyPost_ret (v := .tuple #[.agg #[.int .i64 (getN x 26 6 : Nat), .int .i64 (getN x 22 4 : Nat), .int .i64 (getN x 18 4 : Nat), .int .i64 (signI (getN x 0 18) 18)], .bool true]) (by simp [results, Try.results49, go_sem, g0, g1, g2, g3]) rfl ⟨rfl, ?_⟩
  have hb7 := ((((Below.refl w.heap.size w).alloc (Nat.le_refl _) _).trans ((Drawn.of_n _ k).below _)).alloc (by simp [World.drewN]) _).trans (hb6.mono (by simp [World.drewN]; omega))
  exact (((hb7.setCell (Nat.le_refl _) _).setCell (Nat.le_refl _) _).setCell (Nat.le_refl _) _).setCell (Nat.le_refl _) _

set_option maxRecDepth 100000 in
set_option maxHeartbeats 1000000 in
theorem insGet_no (x : Nat) (w : World) (hx : x < 4294967296) (h : ¬ MayP (getN x 26 6 : Nat) (getN x 22 4 : Nat) (getN x 18 4 : Nat) (signI (getN x 0 18) 18)) :
    Calls Try.prog 49 #[.int .u32 x] w fun e w' => e = .returned (.tuple #[.agg #[.int .i64 0, .int .i64 0, .int .i64 0, .int .i64 0], .bool false]) ∧ Below w.heap.size w w' := by
  have H := Lib.hid h
  clear h
  have b1 := getN_lt x 26 6
  have b2 := getN_lt x 22 4
  have b3 := getN_lt x 18 4
  have b4 := getN_lt x 0 18
  have b5 := signI_18 (getN x 0 18)
  simp only [Nat.reducePow] at b1 b2 b3 b4
  go_enter Try.func49, Try.ntmps49
  go_wp2_with fail
  refine (get_yes x 26 6 _ hx (by omega) (by omega)).mono ?_
  rintro e w1 ⟨rfl, hw1⟩
  go_wp2_with fail
  refine (get_yes x 22 4 _ hx (by omega) (by omega)).mono ?_
  rintro e w2 ⟨rfl, hw2⟩
  go_wp2_with fail
  refine (get_yes x 18 4 _ hx (by omega) (by omega)).mono ?_
  rintro e w3 ⟨rfl, hw3⟩
  go_wp2_with fail
  refine (get_yes x 0 18 _ hx (by omega) (by omega)).mono ?_
  rintro e w4 ⟨rfl, hw4⟩
  go_wp2_with fail
  refine (sign_yes (getN x 0 18) 18 _ (by omega) (by omega)).mono ?_
  rintro e w5 ⟨rfl, rfl⟩
  go_wp2_with fail
  refine (may_no _ _ _ _ _ H.out).mono ?_
  rintro e w6 ⟨rfl, hb6⟩
  have hD := ((hw1.trans hw2).trans hw3).trans hw4
  clear hw1 hw2 hw3 hw4
  obtain ⟨k, rfl⟩ := hD
  have hc := old_cell hb6
  have hf := old_mark hb6
  go_wp2_with fail
  have gs : ∀ i, i < 4 → w6.cell? ⟨w.heap.size, i, none⟩ = some (.int .i64 0) := by
    intro i hi
    rw [hc w.heap.size i (by simp [World.drewN]; omega)]
    match i, hi with
    | 0, _ => simp [go_sem]
    | 1, _ => simp [go_sem]
    | 2, _ => simp [go_sem]
    | 3, _ => simp [go_sem]
  have g0 := gs 0 (by omega)
  have g1 := gs 1 (by omega)
  have g2 := gs 2 (by omega)
  have g3 := gs 3 (by omega)
  clear gs hc hf
  refine bodyPost_ret (v := .tuple #[.agg #[.int .i64 0, .int .i64 0, .int .i64 0, .int .i64 0], .bool false]) (by simp [results, Try.results49, go_sem, g0, g1, g2, g3]) rfl ⟨rfl, ?_⟩
  have hb7 := ((((Below.refl w.heap.size w).alloc (Nat.le_refl _) _).trans ((Drawn.of_n _ k).below _)).alloc (by simp [World.drewN]) _).trans (hb6.mono (by simp [World.drewN]; omega))
  exact (((hb7.setCell (Nat.le_refl _) _).setCell (Nat.le_refl _) _).setCell (Nat.le_refl _) _).setCell (Nat.le_refl _) _

end Go.Proofs.Ytlnjcaicagcinaa
