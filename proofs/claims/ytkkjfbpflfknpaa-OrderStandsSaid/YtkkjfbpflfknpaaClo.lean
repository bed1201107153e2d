/-
  slices.Clone at seven kinds of elements. Conditions: at most 100000 elements. (Written by wip/tools/clo.py.)
-/
import Derived.Test.YtkkjfbpflfknpaaInA
import Derived.Test.YtkkjfbpflfknpaaObjK
namespace Go.Proofs.Ytkkjfbpflfknpaa
open Go.ChangeShapes Go.WideShapes Go.ChangeAt Go.RowKit

theorem info_cm : (Try.prog.info? CmT).map (fun i => (i.zero, i.size, i.bytes)) = some (some (.agg #[.string ⟨#[]⟩, .int .i64 0]), 2, 24) := by kernel_rfl
theorem info_im : (Try.prog.info? ImT).map (fun i => (i.zero, i.size, i.bytes)) = some (some (.agg #[.string ⟨#[]⟩, .int .u32 0]), 2, 24) := by kernel_rfl
theorem info_ty : (Try.prog.info? TyT).map (fun i => (i.zero, i.size, i.bytes)) = some (some (.agg #[.int .i64 0, .int .i64 0, .int .i64 0]), 3, 24) := by kernel_rfl
theorem info_ex : (Try.prog.info? ExT).map (fun i => (i.zero, i.size, i.bytes)) = some (some (.agg #[.int .i64 0, .int .i64 0]), 2, 16) := by kernel_rfl
set_option maxRecDepth 100000 in
set_option maxHeartbeats 1000000 in
theorem clone_ints (v : Value) (L : List Int) (w : World) (h : ElsAt 1 intRow w v L) (h1 : ∀ x ∈ L, Ones (intRow x)) (small : L.length ≤ 100000) :
    Calls Try.prog 41 #[v] w fun e w' => ∃ v', e = .returned v' ∧ In w.heap.size InT 1 intRow w' v' L ∧ Below w.heap.size w w' := by
  obtain ⟨a, c, rfl, hc1, hc2, hc3⟩ := h.shape
  cases a with
  | none =>
    obtain rfl := hc3 rfl
    have hL : L = [] := List.eq_nil_of_length_eq_zero (by omega)
    subst hL
    have hq := Lib.run_eql_slice_nil (P := Try.prog) w 45 InT none 0 0 0 0 Try.underlying45
    clear h
    go_enter Try.func41, Try.ntmps41
    go_wp2_with fail
    go_ret
    exact ⟨_, rfl, In.nil _ _ _ _ _, Below.refl _ _⟩
  | some ad =>
    have hb0 : Below w.heap.size w (w.alloc (.cells #[] InT)) := (Below.refl _ _).alloc (Nat.le_refl _) _
    obtain ⟨v1, w1, q0, q1, q2, q3⟩ := append_all (T := 45) Try.underlying45 info_in rfl (by decide) (fun _ => rfl) (by decide) (SRow.empty InT 1 intRow w) (h.on hb0) h1 (by simp) (by simp; omega)
    rw [List.nil_append] at q1
    have RES : Hid (In w.heap.size InT 1 intRow w1 v1 L ∧ Below w.heap.size w w1) :=
      ⟨⟨q1, fun j hj => by
        rcases q2.2 j hj with e | e
        · have e : j = w.heap.size := e
          omega
        · exact Nat.le_trans hb0.size e⟩, q2.1.below hb0 hb0.size fun j _ hj => by have e : j = w.heap.size := hj; omega⟩
    have hq := Lib.run_eql_slice_nil (P := Try.prog) w 45 InT (some ad) L.length c 0 0 Try.underlying45
    have HR1 := Lib.hid q0
    generalize L.length = n at *
    clear h h1 q0 q1 q2 q3 hb0
    go_enter Try.func41, Try.ntmps41
    go_wp2_with (at_builtin; refine Lib.wpList_append_run _ rfl _ _ _ _ rfl _ _ rfl rfl _ _ HR1.out ?_)
    go_ret
    exact ⟨_, rfl, RES.out⟩
set_option maxRecDepth 100000 in
set_option maxHeartbeats 1000000 in
theorem clone_cmds (v : Value) (L : List (ByteArray × Int)) (w : World) (h : ElsAt 2 cmdRow w v L) (h1 : ∀ x ∈ L, Ones (cmdRow x)) (small : L.length ≤ 100000) :
    Calls Try.prog 39 #[v] w fun e w' => ∃ v', e = .returned v' ∧ In w.heap.size CmT 2 cmdRow w' v' L ∧ Below w.heap.size w w' := by
  obtain ⟨a, c, rfl, hc1, hc2, hc3⟩ := h.shape
  cases a with
  | none =>
    obtain rfl := hc3 rfl
    have hL : L = [] := List.eq_nil_of_length_eq_zero (by omega)
    subst hL
    have hq := Lib.run_eql_slice_nil (P := Try.prog) w 43 CmT none 0 0 0 0 Try.underlying43
    clear h
    go_enter Try.func39, Try.ntmps39
    go_wp2_with fail
    go_ret
    exact ⟨_, rfl, In.nil _ _ _ _ _, Below.refl _ _⟩
  | some ad =>
    have hb0 : Below w.heap.size w (w.alloc (.cells #[] CmT)) := (Below.refl _ _).alloc (Nat.le_refl _) _
    obtain ⟨v1, w1, q0, q1, q2, q3⟩ := append_all (T := 43) Try.underlying43 info_cm rfl (by decide) (fun _ => rfl) (by decide) (SRow.empty CmT 2 cmdRow w) (h.on hb0) h1 (by simp) (by simp; omega)
    rw [List.nil_append] at q1
    have RES : Hid (In w.heap.size CmT 2 cmdRow w1 v1 L ∧ Below w.heap.size w w1) :=
      ⟨⟨q1, fun j hj => by
        rcases q2.2 j hj with e | e
        · have e : j = w.heap.size := e
          omega
        · exact Nat.le_trans hb0.size e⟩, q2.1.below hb0 hb0.size fun j _ hj => by have e : j = w.heap.size := hj; omega⟩
    have hq := Lib.run_eql_slice_nil (P := Try.prog) w 43 CmT (some ad) L.length c 0 0 Try.underlying43
    have HR1 := Lib.hid q0
    generalize L.length = n at *
    clear h h1 q0 q1 q2 q3 hb0
    go_enter Try.func39, Try.ntmps39
    go_wp2_with (at_builtin; refine Lib.wpList_append_run _ rfl _ _ _ _ rfl _ _ rfl rfl _ _ HR1.out ?_)
    go_ret
    exact ⟨_, rfl, RES.out⟩
set_option maxRecDepth 100000 in
set_option maxHeartbeats 1000000 in
theorem clone_imps (v : Value) (L : List (ByteArray × Nat)) (w : World) (h : ElsAt 2 impRow w v L) (h1 : ∀ x ∈ L, Ones (impRow x)) (small : L.length ≤ 100000) :
    Calls Try.prog 36 #[v] w fun e w' => ∃ v', e = .returned v' ∧ In w.heap.size ImT 2 impRow w' v' L ∧ Below w.heap.size w w' := by
  obtain ⟨a, c, rfl, hc1, hc2, hc3⟩ := h.shape
  cases a with
  | none =>
    obtain rfl := hc3 rfl
    have hL : L = [] := List.eq_nil_of_length_eq_zero (by omega)
    subst hL
    have hq := Lib.run_eql_slice_nil (P := Try.prog) w 40 ImT none 0 0 0 0 Try.underlying40
    clear h
    go_enter Try.func36, Try.ntmps36
    go_wp2_with fail
    go_ret
    exact ⟨_, rfl, In.nil _ _ _ _ _, Below.refl _ _⟩
  | some ad =>
    have hb0 : Below w.heap.size w (w.alloc (.cells #[] ImT)) := (Below.refl _ _).alloc (Nat.le_refl _) _
    obtain ⟨v1, w1, q0, q1, q2, q3⟩ := append_all (T := 40) Try.underlying40 info_im rfl (by decide) (fun _ => rfl) (by decide) (SRow.empty ImT 2 impRow w) (h.on hb0) h1 (by simp) (by simp; omega)
    rw [List.nil_append] at q1
    have RES : Hid (In w.heap.size ImT 2 impRow w1 v1 L ∧ Below w.heap.size w w1) :=
      ⟨⟨q1, fun j hj => by
        rcases q2.2 j hj with e | e
        · have e : j = w.heap.size := e
          omega
        · exact Nat.le_trans hb0.size e⟩, q2.1.below hb0 hb0.size fun j _ hj => by have e : j = w.heap.size := hj; omega⟩
    have hq := Lib.run_eql_slice_nil (P := Try.prog) w 40 ImT (some ad) L.length c 0 0 Try.underlying40
    have HR1 := Lib.hid q0
    generalize L.length = n at *
    clear h h1 q0 q1 q2 q3 hb0
    go_enter Try.func36, Try.ntmps36
    go_wp2_with (at_builtin; refine Lib.wpList_append_run _ rfl _ _ _ _ rfl _ _ rfl rfl _ _ HR1.out ?_)
    go_ret
    exact ⟨_, rfl, RES.out⟩
set_option maxRecDepth 100000 in
set_option maxHeartbeats 1000000 in
theorem clone_tys (v : Value) (L : List (Int × Int × Int)) (w : World) (h : ElsAt 3 typeRow w v L) (h1 : ∀ x ∈ L, Ones (typeRow x)) (small : L.length ≤ 100000) :
    Calls Try.prog 37 #[v] w fun e w' => ∃ v', e = .returned v' ∧ In w.heap.size TyT 3 typeRow w' v' L ∧ Below w.heap.size w w' := by
  obtain ⟨a, c, rfl, hc1, hc2, hc3⟩ := h.shape
  cases a with
  | none =>
    obtain rfl := hc3 rfl
    have hL : L = [] := List.eq_nil_of_length_eq_zero (by omega)
    subst hL
    have hq := Lib.run_eql_slice_nil (P := Try.prog) w 41 TyT none 0 0 0 0 Try.underlying41
    clear h
    go_enter Try.func37, Try.ntmps37
    go_wp2_with fail
    go_ret
    exact ⟨_, rfl, In.nil _ _ _ _ _, Below.refl _ _⟩
  | some ad =>
    have hb0 : Below w.heap.size w (w.alloc (.cells #[] TyT)) := (Below.refl _ _).alloc (Nat.le_refl _) _
    obtain ⟨v1, w1, q0, q1, q2, q3⟩ := append_all (T := 41) Try.underlying41 info_ty rfl (by decide) (fun _ => rfl) (by decide) (SRow.empty TyT 3 typeRow w) (h.on hb0) h1 (by simp) (by simp; omega)
    rw [List.nil_append] at q1
    have RES : Hid (In w.heap.size TyT 3 typeRow w1 v1 L ∧ Below w.heap.size w w1) :=
      ⟨⟨q1, fun j hj => by
        rcases q2.2 j hj with e | e
        · have e : j = w.heap.size := e
          omega
        · exact Nat.le_trans hb0.size e⟩, q2.1.below hb0 hb0.size fun j _ hj => by have e : j = w.heap.size := hj; omega⟩
    have hq := Lib.run_eql_slice_nil (P := Try.prog) w 41 TyT (some ad) L.length c 0 0 Try.underlying41
    have HR1 := Lib.hid q0
    generalize L.length = n at *
    clear h h1 q0 q1 q2 q3 hb0
    go_enter Try.func37, Try.ntmps37
    go_wp2_with (at_builtin; refine Lib.wpList_append_run _ rfl _ _ _ _ rfl _ _ rfl rfl _ _ HR1.out ?_)
    go_ret
    exact ⟨_, rfl, RES.out⟩
set_option maxRecDepth 100000 in
set_option maxHeartbeats 1000000 in
theorem clone_wds (v : Value) (L : List Nat) (w : World) (h : ElsAt 1 wordRow w v L) (h1 : ∀ x ∈ L, Ones (wordRow x)) (small : L.length ≤ 100000) :
    Calls Try.prog 38 #[v] w fun e w' => ∃ v', e = .returned v' ∧ In w.heap.size WdT 1 wordRow w' v' L ∧ Below w.heap.size w w' := by
  obtain ⟨a, c, rfl, hc1, hc2, hc3⟩ := h.shape
  cases a with
  | none =>
    obtain rfl := hc3 rfl
    have hL : L = [] := List.eq_nil_of_length_eq_zero (by omega)
    subst hL
    have hq := Lib.run_eql_slice_nil (P := Try.prog) w 42 WdT none 0 0 0 0 Try.underlying42
    clear h
    go_enter Try.func38, Try.ntmps38
    go_wp2_with fail
    go_ret
    exact ⟨_, rfl, In.nil _ _ _ _ _, Below.refl _ _⟩
  | some ad =>
    have hb0 : Below w.heap.size w (w.alloc (.cells #[] WdT)) := (Below.refl _ _).alloc (Nat.le_refl _) _
    obtain ⟨v1, w1, q0, q1, q2, q3⟩ := append_all (T := 42) Try.underlying42 info_wd rfl (by decide) (fun _ => rfl) (by decide) (SRow.empty WdT 1 wordRow w) (h.on hb0) h1 (by simp) (by simp; omega)
    rw [List.nil_append] at q1
    have RES : Hid (In w.heap.size WdT 1 wordRow w1 v1 L ∧ Below w.heap.size w w1) :=
      ⟨⟨q1, fun j hj => by
        rcases q2.2 j hj with e | e
        · have e : j = w.heap.size := e
          omega
        · exact Nat.le_trans hb0.size e⟩, q2.1.below hb0 hb0.size fun j _ hj => by have e : j = w.heap.size := hj; omega⟩
    have hq := Lib.run_eql_slice_nil (P := Try.prog) w 42 WdT (some ad) L.length c 0 0 Try.underlying42
    have HR1 := Lib.hid q0
    generalize L.length = n at *
    clear h h1 q0 q1 q2 q3 hb0
    go_enter Try.func38, Try.ntmps38
    go_wp2_with (at_builtin; refine Lib.wpList_append_run _ rfl _ _ _ _ rfl _ _ rfl rfl _ _ HR1.out ?_)
    go_ret
    exact ⟨_, rfl, RES.out⟩
set_option maxRecDepth 100000 in
set_option maxHeartbeats 1000000 in
theorem clone_outs (v : Value) (L : List (Int × Int)) (w : World) (h : ElsAt 2 expRow w v L) (h1 : ∀ x ∈ L, Ones (expRow x)) (small : L.length ≤ 100000) :
    Calls Try.prog 40 #[v] w fun e w' => ∃ v', e = .returned v' ∧ In w.heap.size ExT 2 expRow w' v' L ∧ Below w.heap.size w w' := by
  obtain ⟨a, c, rfl, hc1, hc2, hc3⟩ := h.shape
  cases a with
  | none =>
    obtain rfl := hc3 rfl
    have hL : L = [] := List.eq_nil_of_length_eq_zero (by omega)
    subst hL
    have hq := Lib.run_eql_slice_nil (P := Try.prog) w 44 ExT none 0 0 0 0 Try.underlying44
    clear h
    go_enter Try.func40, Try.ntmps40
    go_wp2_with fail
    go_ret
    exact ⟨_, rfl, In.nil _ _ _ _ _, Below.refl _ _⟩
  | some ad =>
    have hb0 : Below w.heap.size w (w.alloc (.cells #[] ExT)) := (Below.refl _ _).alloc (Nat.le_refl _) _
    obtain ⟨v1, w1, q0, q1, q2, q3⟩ := append_all (T := 44) Try.underlying44 info_ex rfl (by decide) (fun _ => rfl) (by decide) (SRow.empty ExT 2 expRow w) (h.on hb0) h1 (by simp) (by simp; omega)
    rw [List.nil_append] at q1
    have RES : Hid (In w.heap.size ExT 2 expRow w1 v1 L ∧ Below w.heap.size w w1) :=
      ⟨⟨q1, fun j hj => by
        rcases q2.2 j hj with e | e
        · have e : j = w.heap.size := e
          omega
        · exact Nat.le_trans hb0.size e⟩, q2.1.below hb0 hb0.size fun j _ hj => by have e : j = w.heap.size := hj; omega⟩
    have hq := Lib.run_eql_slice_nil (P := Try.prog) w 44 ExT (some ad) L.length c 0 0 Try.underlying44
    have HR1 := Lib.hid q0
    generalize L.length = n at *
    clear h h1 q0 q1 q2 q3 hb0
    go_enter Try.func40, Try.ntmps40
    go_wp2_with (at_builtin; refine Lib.wpList_append_run _ rfl _ _ _ _ rfl _ _ rfl rfl _ _ HR1.out ?_)
    go_ret
    exact ⟨_, rfl, RES.out⟩
end Go.Proofs.Ytkkjfbpflfknpaa
