/-
  The program's writers of an object's lists (layer 12). No conditions beyond those that each theorem names. (Written by wip/tools/obj-x.py.)
-/
import Derived.Test.YthgnklgejlebhaaObjX
import Derived.Test.YthgnklgejlebhaaObjH
namespace Go.Proofs.Ythgnklgejlebhaa
open Go.ChangeShapes Go.WideShapes Go.ChangeAt Go.RowKit

/- a list's bytes: how many, in so many bytes, and each; cut off where more wouldn't be told -/
def wl {α : Type} (wd : Nat) (f : α → List Nat) (L : List α) : List Nat := numZ (((L.take (256 ^ wd - 1)).length : Nat) : Int) wd ++ (L.take (256 ^ wd - 1)).flatMap f
theorem wl_min {α : Type} {wd : Nat} {f : α → List Nat} {L : List α} {m : Nat} (hm : m = min L.length (256 ^ wd - 1)) : wl wd f L = numZ ((m : Nat) : Int) wd ++ (L.take m).flatMap f := by
  have h1 : (L.take (256 ^ wd - 1)).length = m := by rw [List.length_take]; omega
  have h2 : L.take (256 ^ wd - 1) = L.take m := by
    rcases Nat.le_total L.length (256 ^ wd - 1) with h | h
    · rw [List.take_of_length_le h, List.take_of_length_le (by omega)]
    · rw [show m = 256 ^ wd - 1 by omega]
  rw [wl, h1, h2]
theorem numZ_nat {m : Nat} (h : m < 4294967296) (k : Nat) : numZ ((m : Nat) : Int) k = numB m k := by
  unfold numZ
  rw [show (((m : Nat) : Int) % 4294967296).toNat = m by omega]
theorem Grew.alloc {a b : World} {u v : Value} (h : Grew a b u v) (o : Obj) : Grew a (b.alloc o) u v := ⟨h.1.alloc o, h.2⟩
theorem mem_at {α : Type} {L : List α} {i : Nat} {x : α} (h : L[i]? = some x) : x ∈ L := List.mem_of_getElem? h

set_option maxRecDepth 100000 in
set_option maxHeartbeats 2000000 in
theorem wlist_imps_any (W : World) (lv : Value) (L : List (ByteArray × Nat)) (hE : ElsAt 2 impRow W lv L) (hfit : ∀ x ∈ L, x.2 < 4294967296) (hL : L.length ≤ 2000) (hc : L.length * 260 ≤ 80000) (v : Value) (l : List Nat) (wz : World) (h : Bs wz v l) (hb : Below W.heap.size W wz) (hf : ∀ j, own v j → W.heap.size ≤ j) (small : l.length ≤ 200000) :
    Calls Try.prog 37 #[v, .int .i64 1, lv, .func (.func 38) #[] #[]] wz fun e w' => Wrote wz v (l ++ wl 1 impB L) e w' := by
  obtain ⟨m, hm⟩ : ∃ m, m = min L.length 255 := ⟨_, rfl⟩
  rw [wl_min (wd := 1) (f := impB) (L := L) hm]
  obtain ⟨ad, cap, rfl, hcap, hmax, hnil⟩ := hE.shape
  have HLN : Hid (m ≤ L.length) := by show _ ≤ _; omega
  have H1 : Hid (Calls Try.prog 36 #[v, .int .u32 (m : Nat), .int .i64 1] wz fun e w' => Wrote wz v (l ++ numZ ((m : Nat) : Int) 1) e w') := by
    rw [numZ_nat (by omega)]
    exact bput_any v l m 1 wz h (by omega) (by omega)
  have HE := Lib.hid hE
  have HB := Lib.hid hb
  have HF := Lib.hid hf
  have HFIT := Lib.hid hfit
  have HS : Hid (∀ q, (l ++ numZ ((m : Nat) : Int) 1 ++ (L.take q).flatMap impB).length ≤ 300000) := fun q => by
    have h1 := flat_len impB 260 impB_len (L.take q)
    have h2 : (L.take q).length * 260 ≤ L.length * 260 := Nat.mul_le_mul_right _ (by rw [List.length_take]; omega)
    rw [List.length_append, List.length_append, numZ_len]
    omega
  obtain ⟨n, hn⟩ : ∃ n, n = L.length := ⟨_, rfl⟩
  have HN := Lib.hid hn
  rw [← hn] at hcap hm hL HLN ⊢
  have e1 : (if (255 : Int) < (n : Int) then (255 : Int) else (n : Int)) = (m : Int) := by split <;> omega
  have e2 : IntKind.u32.wrap (m : Int) = (m : Int) := by rw [IntKind.wrap_u32]; omega
  have i1 : (m : Int) ≤ (cap : Int) := by omega
  have i2 : (0 : Int) ≤ (m : Int) := by omega
  have HM4 : Hid (m ≤ 2000) := by show _ ≤ _; omega
  clear hE hb hf hfit small hc h hn hm hcap hmax hnil hL
  go_enter Try.func37, Try.ntmps37
  go_wp2_with fail
  refine H1.out.mono ?_
  rintro e w1 ⟨v1, rfl, hb1, hg1⟩
  have HX : Hid (Bs w1 v1 (l ++ numZ ((m : Nat) : Int) 1 ++ (L.take 0).flatMap impB) ∧ Grew wz w1 v v1) := ⟨by simpa using hb1, hg1⟩
  clear hb1 hg1 H1 e1 e2 i1 i2
  go_wp2_with fail
  go_loopw [0, 30] (fun out i wr => ∃ q : Nat, q ≤ m ∧ i = .int .i64 (q : Nat) ∧ Bs wr out (l ++ numZ ((m : Nat) : Int) 1 ++ (L.take q).flatMap impB) ∧ Grew wz wr v out) (fun _ i _ => m - (intOf i).toNat)
  case atStart => exact ⟨0, Nat.zero_le _, rfl, HX.out⟩
  case round =>
    clear HX
    obtain ⟨q, hq, rfl, hbs, hg⟩ := hrel
    have HBS := Lib.hid hbs
    have HG := Lib.hid hg
    have HQ := Lib.hid hq
    clear hbs hg
    by_cases hlt : q < m
    · obtain ⟨x, hx⟩ : ∃ x, L[q]? = some x := ⟨_, List.getElem?_eq_getElem (by have := HLN.out; have := HN.out; omega)⟩
      obtain ⟨x1, x2⟩ := x
      have hbel := HG.out.1.below HB.out HB.out.size fun j _ hj => HF.out j hj
      obtain ⟨b, off, cap', e0, hlb, g0, g1⟩ := (HE.out.on hbel).cell2 hx rfl
      cases e0
      have HXX := Lib.hid hx
      have i3 : (q : Int) < (m : Int) := by omega
      have i4 : (0 : Int) ≤ (q : Int) := by omega
      have HLT : Hid (q < m) := hlt
      have i5 : IntKind.i64.wrap ((q : Int) + 1) = (q : Int) + 1 := IntWalk.i64_in _ (by have := HM4.out; omega)
      clear hlb hbel hx hlt hq
      have RUN : Hid ((Instr.storeAt 53 (.pointer (some ⟨wr.heap.size, 0, none⟩)) (.agg #[.string x1, .int .u32 (x2 : Nat)])).run Try.prog (wr.alloc (.cells #[.string ⟨#[]⟩, .int .u32 0] 53)) = .ok () (wr.alloc (.cells #[.string x1, .int .u32 (x2 : Nat)] 53))) := by
        have := (told_row (RowAt.new wr 53 [.string ⟨#[]⟩, .int .u32 0]) (xs := [.string x1, .int .u32 (x2 : Nat)]) (k := 2) rfl rfl (ones_imp (x1, x2)) size_imp).1
        rw [setRow_alloc] at this
        exact this
      have R0 := RowAt.new wr 53 [.string x1, .int .u32 (x2 : Nat)]
      have c0 : (wr.alloc (.cells #[.string x1, .int .u32 (x2 : Nat)] 53)).cell? ⟨wr.heap.size, 0, none⟩ = some (.string x1) := R0.cell 0
      have c1 : (wr.alloc (.cells #[.string x1, .int .u32 (x2 : Nat)] 53)).cell? ⟨wr.heap.size, 1, none⟩ = some (.int .u32 (x2 : Nat)) := R0.cell 1
      have HBS2 := Lib.hid (HBS.out.fresh (.cells #[.string x1, .int .u32 (x2 : Nat)] 53))
      have HG2 := Lib.hid (HG.out.alloc (.cells #[.string x1, .int .u32 (x2 : Nat)] 53))
      clear R0 HBS HG
      go_wp2_with (refine wpList_store_run _ rfl _ _ _ rfl _ _ rfl rfl (by exact RUN.out) ?_)
      refine (wimp_any _ _ x1 x2 _ HBS2.out (HFIT.out _ (mem_at HXX.out)) (by have := HS.out q; omega)).mono ?_
      rintro e w3 ⟨v3, rfl, hb3, hg3⟩
      have HE3 : Hid (Bs w3 v3 (l ++ numZ ((m : Nat) : Int) 1 ++ (L.take (q + 1)).flatMap impB) ∧ Grew wz w3 v v3) := by
        refine ⟨?_, HG2.out.trans hg3⟩
        rw [take_next impB _ _ q _ HXX.out]
        exact hb3
      clear hb3 hg3 HBS2 HG2 RUN c0 c1
      go_wp2_with fail
      go_roundw
      case rel => exact ⟨q + 1, HLT.out, by go_num, HE3.out⟩
      case measure => have := HLT.out; simp [intOf]; omega
    · obtain rfl : q = m := by omega
      have i3 : ¬ (q : Int) < (q : Int) := by omega
      have RES : Hid (Bs wr _ (l ++ (numZ ((q : Nat) : Int) 1 ++ (L.take q).flatMap impB)) ∧ Grew wz wr v _) := ⟨by rw [← List.append_assoc]; exact HBS.out, HG.out⟩
      clear HBS HG hlt hq
      go_wp2_with fail
      go_ret
      exact ⟨_, rfl, RES.out⟩

set_option maxRecDepth 100000 in
set_option maxHeartbeats 2000000 in
theorem wlist_types_any (W : World) (lv : Value) (L : List (Int × Int × Int)) (hE : ElsAt 3 typeRow W lv L)  (hL : L.length ≤ 2000) (_hc : L.length * 4 ≤ 80000) (v : Value) (l : List Nat) (wz : World) (h : Bs wz v l) (hb : Below W.heap.size W wz) (hf : ∀ j, own v j → W.heap.size ≤ j) (small : l.length ≤ 200000) :
    Calls Try.prog 39 #[v, .int .i64 1, lv, .func (.func 40) #[] #[]] wz fun e w' => Wrote wz v (l ++ wl 1 typeB L) e w' := by
  obtain ⟨m, hm⟩ : ∃ m, m = min L.length 255 := ⟨_, rfl⟩
  rw [wl_min (wd := 1) (f := typeB) (L := L) hm]
  obtain ⟨ad, cap, rfl, hcap, hmax, hnil⟩ := hE.shape
  have HLN : Hid (m ≤ L.length) := by show _ ≤ _; omega
  have H1 : Hid (Calls Try.prog 36 #[v, .int .u32 (m : Nat), .int .i64 1] wz fun e w' => Wrote wz v (l ++ numZ ((m : Nat) : Int) 1) e w') := by
    rw [numZ_nat (by omega)]
    exact bput_any v l m 1 wz h (by omega) (by omega)
  have HE := Lib.hid hE
  have HB := Lib.hid hb
  have HF := Lib.hid hf
  have HS : Hid (∀ q, (l ++ numZ ((m : Nat) : Int) 1 ++ (L.take q).flatMap typeB).length ≤ 300000) := fun q => by
    have h1 := flat_len typeB 4 typeB_len (L.take q)
    have h2 : (L.take q).length * 4 ≤ L.length * 4 := Nat.mul_le_mul_right _ (by rw [List.length_take]; omega)
    rw [List.length_append, List.length_append, numZ_len]
    omega
  obtain ⟨n, hn⟩ : ∃ n, n = L.length := ⟨_, rfl⟩
  have HN := Lib.hid hn
  rw [← hn] at hcap hm hL HLN ⊢
  have e1 : (if (255 : Int) < (n : Int) then (255 : Int) else (n : Int)) = (m : Int) := by split <;> omega
  have e2 : IntKind.u32.wrap (m : Int) = (m : Int) := by rw [IntKind.wrap_u32]; omega
  have i1 : (m : Int) ≤ (cap : Int) := by omega
  have i2 : (0 : Int) ≤ (m : Int) := by omega
  have HM4 : Hid (m ≤ 2000) := by show _ ≤ _; omega
  clear hE hb hf small _hc h hn hm hcap hmax hnil hL
  go_enter Try.func39, Try.ntmps39
  go_wp2_with fail
  refine H1.out.mono ?_
  rintro e w1 ⟨v1, rfl, hb1, hg1⟩
  have HX : Hid (Bs w1 v1 (l ++ numZ ((m : Nat) : Int) 1 ++ (L.take 0).flatMap typeB) ∧ Grew wz w1 v v1) := ⟨by simpa using hb1, hg1⟩
  clear hb1 hg1 H1 e1 e2 i1 i2
  go_wp2_with fail
  go_loopw [0, 30] (fun out i wr => ∃ q : Nat, q ≤ m ∧ i = .int .i64 (q : Nat) ∧ Bs wr out (l ++ numZ ((m : Nat) : Int) 1 ++ (L.take q).flatMap typeB) ∧ Grew wz wr v out) (fun _ i _ => m - (intOf i).toNat)
  case atStart => exact ⟨0, Nat.zero_le _, rfl, HX.out⟩
  case round =>
    clear HX
    obtain ⟨q, hq, rfl, hbs, hg⟩ := hrel
    have HBS := Lib.hid hbs
    have HG := Lib.hid hg
    have HQ := Lib.hid hq
    clear hbs hg
    by_cases hlt : q < m
    · obtain ⟨x, hx⟩ : ∃ x, L[q]? = some x := ⟨_, List.getElem?_eq_getElem (by have := HLN.out; have := HN.out; omega)⟩
      obtain ⟨x1, x2, x3⟩ := x
      have hbel := HG.out.1.below HB.out HB.out.size fun j _ hj => HF.out j hj
      obtain ⟨b, off, cap', e0, hlb, g0, g1, g2⟩ := (HE.out.on hbel).cell3 hx rfl
      cases e0
      have HXX := Lib.hid hx
      have i3 : (q : Int) < (m : Int) := by omega
      have i4 : (0 : Int) ≤ (q : Int) := by omega
      have HLT : Hid (q < m) := hlt
      have i5 : IntKind.i64.wrap ((q : Int) + 1) = (q : Int) + 1 := IntWalk.i64_in _ (by have := HM4.out; omega)
      clear hlb hbel hx hlt hq
      have RUN : Hid ((Instr.storeAt 55 (.pointer (some ⟨wr.heap.size, 0, none⟩)) (.agg #[.int .i64 x1, .int .i64 x2, .int .i64 x3])).run Try.prog (wr.alloc (.cells #[.int .i64 0, .int .i64 0, .int .i64 0] 55)) = .ok () (wr.alloc (.cells #[.int .i64 x1, .int .i64 x2, .int .i64 x3] 55))) := by
        have := (told_row (RowAt.new wr 55 [.int .i64 0, .int .i64 0, .int .i64 0]) (xs := [.int .i64 x1, .int .i64 x2, .int .i64 x3]) (k := 3) rfl rfl (ones_type (x1, x2, x3)) size_type).1
        rw [setRow_alloc] at this
        exact this
      have R0 := RowAt.new wr 55 [.int .i64 x1, .int .i64 x2, .int .i64 x3]
      have c0 : (wr.alloc (.cells #[.int .i64 x1, .int .i64 x2, .int .i64 x3] 55)).cell? ⟨wr.heap.size, 0, none⟩ = some (.int .i64 x1) := R0.cell 0
      have c1 : (wr.alloc (.cells #[.int .i64 x1, .int .i64 x2, .int .i64 x3] 55)).cell? ⟨wr.heap.size, 1, none⟩ = some (.int .i64 x2) := R0.cell 1
      have c2 : (wr.alloc (.cells #[.int .i64 x1, .int .i64 x2, .int .i64 x3] 55)).cell? ⟨wr.heap.size, 2, none⟩ = some (.int .i64 x3) := R0.cell 2
      have HBS2 := Lib.hid (HBS.out.fresh (.cells #[.int .i64 x1, .int .i64 x2, .int .i64 x3] 55))
      have HG2 := Lib.hid (HG.out.alloc (.cells #[.int .i64 x1, .int .i64 x2, .int .i64 x3] 55))
      clear R0 HBS HG
      go_wp2_with (refine wpList_store_run _ rfl _ _ _ rfl _ _ rfl rfl (by exact RUN.out) ?_)
      refine (wtype_any _ _ x1 x2 x3 _ HBS2.out (by have := HS.out q; omega)).mono ?_
      rintro e w3 ⟨v3, rfl, hb3, hg3⟩
      have HE3 : Hid (Bs w3 v3 (l ++ numZ ((m : Nat) : Int) 1 ++ (L.take (q + 1)).flatMap typeB) ∧ Grew wz w3 v v3) := by
        refine ⟨?_, HG2.out.trans hg3⟩
        rw [take_next typeB _ _ q _ HXX.out]
        exact hb3
      clear hb3 hg3 HBS2 HG2 RUN c0 c1 c2
      go_wp2_with fail
      go_roundw
      case rel => exact ⟨q + 1, HLT.out, by go_num, HE3.out⟩
      case measure => have := HLT.out; simp [intOf]; omega
    · obtain rfl : q = m := by omega
      have i3 : ¬ (q : Int) < (q : Int) := by omega
      have RES : Hid (Bs wr _ (l ++ (numZ ((q : Nat) : Int) 1 ++ (L.take q).flatMap typeB)) ∧ Grew wz wr v _) := ⟨by rw [← List.append_assoc]; exact HBS.out, HG.out⟩
      clear HBS HG hlt hq
      go_wp2_with fail
      go_ret
      exact ⟨_, rfl, RES.out⟩

set_option maxRecDepth 100000 in
set_option maxHeartbeats 2000000 in
theorem wlist_code_any (W : World) (lv : Value) (L : List (Nat)) (hE : ElsAt 1 wordRow W lv L) (hfit : ∀ x ∈ L, x < 4294967296) (hL : L.length ≤ 2000) (_hc : L.length * 4 ≤ 80000) (v : Value) (l : List Nat) (wz : World) (h : Bs wz v l) (hb : Below W.heap.size W wz) (hf : ∀ j, own v j → W.heap.size ≤ j) (small : l.length ≤ 200000) :
    Calls Try.prog 42 #[v, .int .i64 2, lv, .func (.func 43) #[] #[]] wz fun e w' => Wrote wz v (l ++ wl 2 (numB · 4) L) e w' := by
  obtain ⟨m, hm⟩ : ∃ m, m = min L.length 65535 := ⟨_, rfl⟩
  rw [wl_min (wd := 2) (f := (numB · 4)) (L := L) hm]
  obtain ⟨ad, cap, rfl, hcap, hmax, hnil⟩ := hE.shape
  have HLN : Hid (m ≤ L.length) := by show _ ≤ _; omega
  have H1 : Hid (Calls Try.prog 36 #[v, .int .u32 (m : Nat), .int .i64 2] wz fun e w' => Wrote wz v (l ++ numZ ((m : Nat) : Int) 2) e w') := by
    rw [numZ_nat (by omega)]
    exact bput_any v l m 2 wz h (by omega) (by omega)
  have HE := Lib.hid hE
  have HB := Lib.hid hb
  have HF := Lib.hid hf
  have HFIT := Lib.hid hfit
  have HS : Hid (∀ q, (l ++ numZ ((m : Nat) : Int) 2 ++ (L.take q).flatMap (numB · 4)).length ≤ 300000) := fun q => by
    have h1 := flat_len (numB · 4) 4 (fun x => Nat.le_of_eq (numB_length 4 x)) (L.take q)
    have h2 : (L.take q).length * 4 ≤ L.length * 4 := Nat.mul_le_mul_right _ (by rw [List.length_take]; omega)
    rw [List.length_append, List.length_append, numZ_len]
    omega
  obtain ⟨n, hn⟩ : ∃ n, n = L.length := ⟨_, rfl⟩
  have HN := Lib.hid hn
  rw [← hn] at hcap hm hL HLN ⊢
  have e1 : (if (65535 : Int) < (n : Int) then (65535 : Int) else (n : Int)) = (m : Int) := by split <;> omega
  have e2 : IntKind.u32.wrap (m : Int) = (m : Int) := by rw [IntKind.wrap_u32]; omega
  have i1 : (m : Int) ≤ (cap : Int) := by omega
  have i2 : (0 : Int) ≤ (m : Int) := by omega
  have HM4 : Hid (m ≤ 2000) := by show _ ≤ _; omega
  clear hE hb hf hfit small _hc h hn hm hcap hmax hnil hL
  go_enter Try.func42, Try.ntmps42
  go_wp2_with fail
  refine H1.out.mono ?_
  rintro e w1 ⟨v1, rfl, hb1, hg1⟩
  have HX : Hid (Bs w1 v1 (l ++ numZ ((m : Nat) : Int) 2 ++ (L.take 0).flatMap (numB · 4)) ∧ Grew wz w1 v v1) := ⟨by simpa using hb1, hg1⟩
  clear hb1 hg1 H1 e1 e2 i1 i2
  go_wp2_with fail
  go_loopw [0, 30] (fun out i wr => ∃ q : Nat, q ≤ m ∧ i = .int .i64 (q : Nat) ∧ Bs wr out (l ++ numZ ((m : Nat) : Int) 2 ++ (L.take q).flatMap (numB · 4)) ∧ Grew wz wr v out) (fun _ i _ => m - (intOf i).toNat)
  case atStart => exact ⟨0, Nat.zero_le _, rfl, HX.out⟩
  case round =>
    clear HX
    obtain ⟨q, hq, rfl, hbs, hg⟩ := hrel
    have HBS := Lib.hid hbs
    have HG := Lib.hid hg
    have HQ := Lib.hid hq
    clear hbs hg
    by_cases hlt : q < m
    · obtain ⟨x, hx⟩ : ∃ x, L[q]? = some x := ⟨_, List.getElem?_eq_getElem (by have := HLN.out; have := HN.out; omega)⟩
      obtain ⟨x1, hx1⟩ : ∃ z, z = x := ⟨_, rfl⟩
      subst hx1
      have hbel := HG.out.1.below HB.out HB.out.size fun j _ hj => HF.out j hj
      obtain ⟨b, off, cap', e0, hlb, g0⟩ := (HE.out.on hbel).cell1 hx rfl
      cases e0
      have HXX := Lib.hid hx
      have i3 : (q : Int) < (m : Int) := by omega
      have i4 : (0 : Int) ≤ (q : Int) := by omega
      have HLT : Hid (q < m) := hlt
      have i5 : IntKind.i64.wrap ((q : Int) + 1) = (q : Int) + 1 := IntWalk.i64_in _ (by have := HM4.out; omega)
      clear hlb hbel hx hlt hq
      have HBS2 := HBS
      have HG2 := HG
      clear HBS HG
      go_wp2_with fail
      refine (wword_any _ _ x1 _ HBS2.out (HFIT.out _ (mem_at HXX.out)) (by have := HS.out q; omega)).mono ?_
      rintro e w3 ⟨v3, rfl, hb3, hg3⟩
      have HE3 : Hid (Bs w3 v3 (l ++ numZ ((m : Nat) : Int) 2 ++ (L.take (q + 1)).flatMap (numB · 4)) ∧ Grew wz w3 v v3) := by
        refine ⟨?_, HG2.out.trans hg3⟩
        rw [take_next (numB · 4) _ _ q _ HXX.out]
        exact hb3
      clear hb3 hg3 HBS2 HG2
      go_wp2_with fail
      go_roundw
      case rel => exact ⟨q + 1, HLT.out, by go_num, HE3.out⟩
      case measure => have := HLT.out; simp [intOf]; omega
    · obtain rfl : q = m := by omega
      have i3 : ¬ (q : Int) < (q : Int) := by omega
      have RES : Hid (Bs wr _ (l ++ (numZ ((q : Nat) : Int) 2 ++ (L.take q).flatMap (numB · 4))) ∧ Grew wz wr v _) := ⟨by rw [← List.append_assoc]; exact HBS.out, HG.out⟩
      clear HBS HG hlt hq
      go_wp2_with fail
      go_ret
      exact ⟨_, rfl, RES.out⟩

set_option maxRecDepth 100000 in
set_option maxHeartbeats 2000000 in
theorem wlist_cmds_any (W : World) (lv : Value) (L : List (ByteArray × Int)) (hE : ElsAt 2 cmdRow W lv L)  (hL : L.length ≤ 2000) (hc : L.length * 258 ≤ 80000) (v : Value) (l : List Nat) (wz : World) (h : Bs wz v l) (hb : Below W.heap.size W wz) (hf : ∀ j, own v j → W.heap.size ≤ j) (small : l.length ≤ 200000) :
    Calls Try.prog 44 #[v, .int .i64 1, lv, .func (.func 45) #[] #[]] wz fun e w' => Wrote wz v (l ++ wl 1 cmdB L) e w' := by
  obtain ⟨m, hm⟩ : ∃ m, m = min L.length 255 := ⟨_, rfl⟩
  rw [wl_min (wd := 1) (f := cmdB) (L := L) hm]
  obtain ⟨ad, cap, rfl, hcap, hmax, hnil⟩ := hE.shape
  have HLN : Hid (m ≤ L.length) := by show _ ≤ _; omega
  have H1 : Hid (Calls Try.prog 36 #[v, .int .u32 (m : Nat), .int .i64 1] wz fun e w' => Wrote wz v (l ++ numZ ((m : Nat) : Int) 1) e w') := by
    rw [numZ_nat (by omega)]
    exact bput_any v l m 1 wz h (by omega) (by omega)
  have HE := Lib.hid hE
  have HB := Lib.hid hb
  have HF := Lib.hid hf
  have HS : Hid (∀ q, (l ++ numZ ((m : Nat) : Int) 1 ++ (L.take q).flatMap cmdB).length ≤ 300000) := fun q => by
    have h1 := flat_len cmdB 258 cmdB_len (L.take q)
    have h2 : (L.take q).length * 258 ≤ L.length * 258 := Nat.mul_le_mul_right _ (by rw [List.length_take]; omega)
    rw [List.length_append, List.length_append, numZ_len]
    omega
  obtain ⟨n, hn⟩ : ∃ n, n = L.length := ⟨_, rfl⟩
  have HN := Lib.hid hn
  rw [← hn] at hcap hm hL HLN ⊢
  have e1 : (if (255 : Int) < (n : Int) then (255 : Int) else (n : Int)) = (m : Int) := by split <;> omega
  have e2 : IntKind.u32.wrap (m : Int) = (m : Int) := by rw [IntKind.wrap_u32]; omega
  have i1 : (m : Int) ≤ (cap : Int) := by omega
  have i2 : (0 : Int) ≤ (m : Int) := by omega
  have HM4 : Hid (m ≤ 2000) := by show _ ≤ _; omega
  clear hE hb hf small hc h hn hm hcap hmax hnil hL
  go_enter Try.func44, Try.ntmps44
  go_wp2_with fail
  refine H1.out.mono ?_
  rintro e w1 ⟨v1, rfl, hb1, hg1⟩
  have HX : Hid (Bs w1 v1 (l ++ numZ ((m : Nat) : Int) 1 ++ (L.take 0).flatMap cmdB) ∧ Grew wz w1 v v1) := ⟨by simpa using hb1, hg1⟩
  clear hb1 hg1 H1 e1 e2 i1 i2
  go_wp2_with fail
  go_loopw [0, 30] (fun out i wr => ∃ q : Nat, q ≤ m ∧ i = .int .i64 (q : Nat) ∧ Bs wr out (l ++ numZ ((m : Nat) : Int) 1 ++ (L.take q).flatMap cmdB) ∧ Grew wz wr v out) (fun _ i _ => m - (intOf i).toNat)
  case atStart => exact ⟨0, Nat.zero_le _, rfl, HX.out⟩
  case round =>
    clear HX
    obtain ⟨q, hq, rfl, hbs, hg⟩ := hrel
    have HBS := Lib.hid hbs
    have HG := Lib.hid hg
    have HQ := Lib.hid hq
    clear hbs hg
    by_cases hlt : q < m
    · obtain ⟨x, hx⟩ : ∃ x, L[q]? = some x := ⟨_, List.getElem?_eq_getElem (by have := HLN.out; have := HN.out; omega)⟩
      obtain ⟨x1, x2⟩ := x
      have hbel := HG.out.1.below HB.out HB.out.size fun j _ hj => HF.out j hj
      obtain ⟨b, off, cap', e0, hlb, g0, g1⟩ := (HE.out.on hbel).cell2 hx rfl
      cases e0
      have HXX := Lib.hid hx
      have i3 : (q : Int) < (m : Int) := by omega
      have i4 : (0 : Int) ≤ (q : Int) := by omega
      have HLT : Hid (q < m) := hlt
      have i5 : IntKind.i64.wrap ((q : Int) + 1) = (q : Int) + 1 := IntWalk.i64_in _ (by have := HM4.out; omega)
      clear hlb hbel hx hlt hq
      have RUN : Hid ((Instr.storeAt 57 (.pointer (some ⟨wr.heap.size, 0, none⟩)) (.agg #[.string x1, .int .i64 x2])).run Try.prog (wr.alloc (.cells #[.string ⟨#[]⟩, .int .i64 0] 57)) = .ok () (wr.alloc (.cells #[.string x1, .int .i64 x2] 57))) := by
        have := (told_row (RowAt.new wr 57 [.string ⟨#[]⟩, .int .i64 0]) (xs := [.string x1, .int .i64 x2]) (k := 2) rfl rfl (ones_cmd (x1, x2)) size_cmd).1
        rw [setRow_alloc] at this
        exact this
      have R0 := RowAt.new wr 57 [.string x1, .int .i64 x2]
      have c0 : (wr.alloc (.cells #[.string x1, .int .i64 x2] 57)).cell? ⟨wr.heap.size, 0, none⟩ = some (.string x1) := R0.cell 0
      have c1 : (wr.alloc (.cells #[.string x1, .int .i64 x2] 57)).cell? ⟨wr.heap.size, 1, none⟩ = some (.int .i64 x2) := R0.cell 1
      have HBS2 := Lib.hid (HBS.out.fresh (.cells #[.string x1, .int .i64 x2] 57))
      have HG2 := Lib.hid (HG.out.alloc (.cells #[.string x1, .int .i64 x2] 57))
      clear R0 HBS HG
      go_wp2_with (refine wpList_store_run _ rfl _ _ _ rfl _ _ rfl rfl (by exact RUN.out) ?_)
      refine (wcmd_any _ _ x1 x2 _ HBS2.out (by have := HS.out q; omega)).mono ?_
      rintro e w3 ⟨v3, rfl, hb3, hg3⟩
      have HE3 : Hid (Bs w3 v3 (l ++ numZ ((m : Nat) : Int) 1 ++ (L.take (q + 1)).flatMap cmdB) ∧ Grew wz w3 v v3) := by
        refine ⟨?_, HG2.out.trans hg3⟩
        rw [take_next cmdB _ _ q _ HXX.out]
        exact hb3
      clear hb3 hg3 HBS2 HG2 RUN c0 c1
      go_wp2_with fail
      go_roundw
      case rel => exact ⟨q + 1, HLT.out, by go_num, HE3.out⟩
      case measure => have := HLT.out; simp [intOf]; omega
    · obtain rfl : q = m := by omega
      have i3 : ¬ (q : Int) < (q : Int) := by omega
      have RES : Hid (Bs wr _ (l ++ (numZ ((q : Nat) : Int) 1 ++ (L.take q).flatMap cmdB)) ∧ Grew wz wr v _) := ⟨by rw [← List.append_assoc]; exact HBS.out, HG.out⟩
      clear HBS HG hlt hq
      go_wp2_with fail
      go_ret
      exact ⟨_, rfl, RES.out⟩

set_option maxRecDepth 100000 in
set_option maxHeartbeats 2000000 in
theorem wlist_exps_any (W : World) (lv : Value) (L : List (Int × Int)) (hE : ElsAt 2 expRow W lv L)  (hL : L.length ≤ 2000) (_hc : L.length * 3 ≤ 80000) (v : Value) (l : List Nat) (wz : World) (h : Bs wz v l) (hb : Below W.heap.size W wz) (hf : ∀ j, own v j → W.heap.size ≤ j) (small : l.length ≤ 200000) :
    Calls Try.prog 46 #[v, .int .i64 1, lv, .func (.func 47) #[] #[]] wz fun e w' => Wrote wz v (l ++ wl 1 expB L) e w' := by
  obtain ⟨m, hm⟩ : ∃ m, m = min L.length 255 := ⟨_, rfl⟩
  rw [wl_min (wd := 1) (f := expB) (L := L) hm]
  obtain ⟨ad, cap, rfl, hcap, hmax, hnil⟩ := hE.shape
  have HLN : Hid (m ≤ L.length) := by show _ ≤ _; omega
  have H1 : Hid (Calls Try.prog 36 #[v, .int .u32 (m : Nat), .int .i64 1] wz fun e w' => Wrote wz v (l ++ numZ ((m : Nat) : Int) 1) e w') := by
    rw [numZ_nat (by omega)]
    exact bput_any v l m 1 wz h (by omega) (by omega)
  have HE := Lib.hid hE
  have HB := Lib.hid hb
  have HF := Lib.hid hf
  have HS : Hid (∀ q, (l ++ numZ ((m : Nat) : Int) 1 ++ (L.take q).flatMap expB).length ≤ 300000) := fun q => by
    have h1 := flat_len expB 3 expB_len (L.take q)
    have h2 : (L.take q).length * 3 ≤ L.length * 3 := Nat.mul_le_mul_right _ (by rw [List.length_take]; omega)
    rw [List.length_append, List.length_append, numZ_len]
    omega
  obtain ⟨n, hn⟩ : ∃ n, n = L.length := ⟨_, rfl⟩
  have HN := Lib.hid hn
  rw [← hn] at hcap hm hL HLN ⊢
  have e1 : (if (255 : Int) < (n : Int) then (255 : Int) else (n : Int)) = (m : Int) := by split <;> omega
  have e2 : IntKind.u32.wrap (m : Int) = (m : Int) := by rw [IntKind.wrap_u32]; omega
  have i1 : (m : Int) ≤ (cap : Int) := by omega
  have i2 : (0 : Int) ≤ (m : Int) := by omega
  have HM4 : Hid (m ≤ 2000) := by show _ ≤ _; omega
  clear hE hb hf small _hc h hn hm hcap hmax hnil hL
  go_enter Try.func46, Try.ntmps46
  go_wp2_with fail
  refine H1.out.mono ?_
  rintro e w1 ⟨v1, rfl, hb1, hg1⟩
  have HX : Hid (Bs w1 v1 (l ++ numZ ((m : Nat) : Int) 1 ++ (L.take 0).flatMap expB) ∧ Grew wz w1 v v1) := ⟨by simpa using hb1, hg1⟩
  clear hb1 hg1 H1 e1 e2 i1 i2
  go_wp2_with fail
  go_loopw [0, 30] (fun out i wr => ∃ q : Nat, q ≤ m ∧ i = .int .i64 (q : Nat) ∧ Bs wr out (l ++ numZ ((m : Nat) : Int) 1 ++ (L.take q).flatMap expB) ∧ Grew wz wr v out) (fun _ i _ => m - (intOf i).toNat)
  case atStart => exact ⟨0, Nat.zero_le _, rfl, HX.out⟩
  case round =>
    clear HX
    obtain ⟨q, hq, rfl, hbs, hg⟩ := hrel
    have HBS := Lib.hid hbs
    have HG := Lib.hid hg
    have HQ := Lib.hid hq
    clear hbs hg
    by_cases hlt : q < m
    · obtain ⟨x, hx⟩ : ∃ x, L[q]? = some x := ⟨_, List.getElem?_eq_getElem (by have := HLN.out; have := HN.out; omega)⟩
      obtain ⟨x1, x2⟩ := x
      have hbel := HG.out.1.below HB.out HB.out.size fun j _ hj => HF.out j hj
      obtain ⟨b, off, cap', e0, hlb, g0, g1⟩ := (HE.out.on hbel).cell2 hx rfl
      cases e0
      have HXX := Lib.hid hx
      have i3 : (q : Int) < (m : Int) := by omega
      have i4 : (0 : Int) ≤ (q : Int) := by omega
      have HLT : Hid (q < m) := hlt
      have i5 : IntKind.i64.wrap ((q : Int) + 1) = (q : Int) + 1 := IntWalk.i64_in _ (by have := HM4.out; omega)
      clear hlb hbel hx hlt hq
      have RUN : Hid ((Instr.storeAt 59 (.pointer (some ⟨wr.heap.size, 0, none⟩)) (.agg #[.int .i64 x1, .int .i64 x2])).run Try.prog (wr.alloc (.cells #[.int .i64 0, .int .i64 0] 59)) = .ok () (wr.alloc (.cells #[.int .i64 x1, .int .i64 x2] 59))) := by
        have := (told_row (RowAt.new wr 59 [.int .i64 0, .int .i64 0]) (xs := [.int .i64 x1, .int .i64 x2]) (k := 2) rfl rfl (ones_exp (x1, x2)) size_exp).1
        rw [setRow_alloc] at this
        exact this
      have R0 := RowAt.new wr 59 [.int .i64 x1, .int .i64 x2]
      have c0 : (wr.alloc (.cells #[.int .i64 x1, .int .i64 x2] 59)).cell? ⟨wr.heap.size, 0, none⟩ = some (.int .i64 x1) := R0.cell 0
      have c1 : (wr.alloc (.cells #[.int .i64 x1, .int .i64 x2] 59)).cell? ⟨wr.heap.size, 1, none⟩ = some (.int .i64 x2) := R0.cell 1
      have HBS2 := Lib.hid (HBS.out.fresh (.cells #[.int .i64 x1, .int .i64 x2] 59))
      have HG2 := Lib.hid (HG.out.alloc (.cells #[.int .i64 x1, .int .i64 x2] 59))
      clear R0 HBS HG
      go_wp2_with (refine wpList_store_run _ rfl _ _ _ rfl _ _ rfl rfl (by exact RUN.out) ?_)
      refine (wexp_any _ _ x1 x2 _ HBS2.out (by have := HS.out q; omega)).mono ?_
      rintro e w3 ⟨v3, rfl, hb3, hg3⟩
      have HE3 : Hid (Bs w3 v3 (l ++ numZ ((m : Nat) : Int) 1 ++ (L.take (q + 1)).flatMap expB) ∧ Grew wz w3 v v3) := by
        refine ⟨?_, HG2.out.trans hg3⟩
        rw [take_next expB _ _ q _ HXX.out]
        exact hb3
      clear hb3 hg3 HBS2 HG2 RUN c0 c1
      go_wp2_with fail
      go_roundw
      case rel => exact ⟨q + 1, HLT.out, by go_num, HE3.out⟩
      case measure => have := HLT.out; simp [intOf]; omega
    · obtain rfl : q = m := by omega
      have i3 : ¬ (q : Int) < (q : Int) := by omega
      have RES : Hid (Bs wr _ (l ++ (numZ ((q : Nat) : Int) 1 ++ (L.take q).flatMap expB)) ∧ Grew wz wr v _) := ⟨by rw [← List.append_assoc]; exact HBS.out, HG.out⟩
      clear HBS HG hlt hq
      go_wp2_with fail
      go_ret
      exact ⟨_, rfl, RES.out⟩

set_option maxRecDepth 100000 in
set_option maxHeartbeats 2000000 in
theorem wlist_ints_any (W : World) (lv : Value) (L : List (Int)) (hE : ElsAt 1 intRow W lv L)  (hL : L.length ≤ 2000) (_hc : L.length * 1 ≤ 80000) (v : Value) (l : List Nat) (wz : World) (h : Bs wz v l) (hb : Below W.heap.size W wz) (hf : ∀ j, own v j → W.heap.size ≤ j) (small : l.length ≤ 200000) :
    Calls Try.prog 48 #[v, .int .i64 1, lv, .func (.func 41) #[] #[]] wz fun e w' => Wrote wz v (l ++ wl 1 (numZ · 1) L) e w' := by
  obtain ⟨m, hm⟩ : ∃ m, m = min L.length 255 := ⟨_, rfl⟩
  rw [wl_min (wd := 1) (f := (numZ · 1)) (L := L) hm]
  obtain ⟨ad, cap, rfl, hcap, hmax, hnil⟩ := hE.shape
  have HLN : Hid (m ≤ L.length) := by show _ ≤ _; omega
  have H1 : Hid (Calls Try.prog 36 #[v, .int .u32 (m : Nat), .int .i64 1] wz fun e w' => Wrote wz v (l ++ numZ ((m : Nat) : Int) 1) e w') := by
    rw [numZ_nat (by omega)]
    exact bput_any v l m 1 wz h (by omega) (by omega)
  have HE := Lib.hid hE
  have HB := Lib.hid hb
  have HF := Lib.hid hf
  have HS : Hid (∀ q, (l ++ numZ ((m : Nat) : Int) 1 ++ (L.take q).flatMap (numZ · 1)).length ≤ 300000) := fun q => by
    have h1 := flat_len (numZ · 1) 1 (fun x => Nat.le_of_eq (numZ_len x 1)) (L.take q)
    have h2 : (L.take q).length * 1 ≤ L.length * 1 := Nat.mul_le_mul_right _ (by rw [List.length_take]; omega)
    rw [List.length_append, List.length_append, numZ_len]
    omega
  obtain ⟨n, hn⟩ : ∃ n, n = L.length := ⟨_, rfl⟩
  have HN := Lib.hid hn
  rw [← hn] at hcap hm hL HLN ⊢
  have e1 : (if (255 : Int) < (n : Int) then (255 : Int) else (n : Int)) = (m : Int) := by split <;> omega
  have e2 : IntKind.u32.wrap (m : Int) = (m : Int) := by rw [IntKind.wrap_u32]; omega
  have i1 : (m : Int) ≤ (cap : Int) := by omega
  have i2 : (0 : Int) ≤ (m : Int) := by omega
  have HM4 : Hid (m ≤ 2000) := by show _ ≤ _; omega
  clear hE hb hf small _hc h hn hm hcap hmax hnil hL
  go_enter Try.func48, Try.ntmps48
  go_wp2_with fail
  refine H1.out.mono ?_
  rintro e w1 ⟨v1, rfl, hb1, hg1⟩
  have HX : Hid (Bs w1 v1 (l ++ numZ ((m : Nat) : Int) 1 ++ (L.take 0).flatMap (numZ · 1)) ∧ Grew wz w1 v v1) := ⟨by simpa using hb1, hg1⟩
  clear hb1 hg1 H1 e1 e2 i1 i2
  go_wp2_with fail
  go_loopw [0, 30] (fun out i wr => ∃ q : Nat, q ≤ m ∧ i = .int .i64 (q : Nat) ∧ Bs wr out (l ++ numZ ((m : Nat) : Int) 1 ++ (L.take q).flatMap (numZ · 1)) ∧ Grew wz wr v out) (fun _ i _ => m - (intOf i).toNat)
  case atStart => exact ⟨0, Nat.zero_le _, rfl, HX.out⟩
  case round =>
    clear HX
    obtain ⟨q, hq, rfl, hbs, hg⟩ := hrel
    have HBS := Lib.hid hbs
    have HG := Lib.hid hg
    have HQ := Lib.hid hq
    clear hbs hg
    by_cases hlt : q < m
    · obtain ⟨x, hx⟩ : ∃ x, L[q]? = some x := ⟨_, List.getElem?_eq_getElem (by have := HLN.out; have := HN.out; omega)⟩
      obtain ⟨x1, hx1⟩ : ∃ z, z = x := ⟨_, rfl⟩
      subst hx1
      have hbel := HG.out.1.below HB.out HB.out.size fun j _ hj => HF.out j hj
      obtain ⟨b, off, cap', e0, hlb, g0⟩ := (HE.out.on hbel).cell1 hx rfl
      cases e0
      have HXX := Lib.hid hx
      have i3 : (q : Int) < (m : Int) := by omega
      have i4 : (0 : Int) ≤ (q : Int) := by omega
      have HLT : Hid (q < m) := hlt
      have i5 : IntKind.i64.wrap ((q : Int) + 1) = (q : Int) + 1 := IntWalk.i64_in _ (by have := HM4.out; omega)
      clear hlb hbel hx hlt hq
      have HBS2 := HBS
      have HG2 := HG
      clear HBS HG
      go_wp2_with fail
      refine (wbyte_any _ _ x1 _ HBS2.out (by have := HS.out q; omega)).mono ?_
      rintro e w3 ⟨v3, rfl, hb3, hg3⟩
      have HE3 : Hid (Bs w3 v3 (l ++ numZ ((m : Nat) : Int) 1 ++ (L.take (q + 1)).flatMap (numZ · 1)) ∧ Grew wz w3 v v3) := by
        refine ⟨?_, HG2.out.trans hg3⟩
        rw [take_next (numZ · 1) _ _ q _ HXX.out]
        exact hb3
      clear hb3 hg3 HBS2 HG2
      go_wp2_with fail
      go_roundw
      case rel => exact ⟨q + 1, HLT.out, by go_num, HE3.out⟩
      case measure => have := HLT.out; simp [intOf]; omega
    · obtain rfl : q = m := by omega
      have i3 : ¬ (q : Int) < (q : Int) := by omega
      have RES : Hid (Bs wr _ (l ++ (numZ ((q : Nat) : Int) 1 ++ (L.take q).flatMap (numZ · 1))) ∧ Grew wz wr v _) := ⟨by rw [← List.append_assoc]; exact HBS.out, HG.out⟩
      clear HBS HG hlt hq
      go_wp2_with fail
      go_ret
      exact ⟨_, rfl, RES.out⟩

end Go.Proofs.Ythgnklgejlebhaa
