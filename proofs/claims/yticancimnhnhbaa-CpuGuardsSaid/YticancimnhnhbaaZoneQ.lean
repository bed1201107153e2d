/-
  The contract of slices.Concat over two slices of ints (layer 6). No conditions beyond those that each theorem names.
-/
import Derived.Test.YticancimnhnhbaaZoneL
namespace Go.Proofs.Yticancimnhnhbaa
open Go.ChangeShapes Go.WideShapes Go.ChangeAt Go.RowKit

set_option maxRecDepth 100000 in
set_option maxHeartbeats 4000000 in
theorem concat_any (vb : Nat) (p q : Sl) (P Q : List Int) (w : World) (hr : RowAt w vb 28 [p.v, q.v]) (hp : IntsAt w p P) (hq : IntsAt w q Q) (sp : P.length ≤ 100) (sq : Q.length ≤ 100) :
    Calls Try.prog 33 #[.slice (some ⟨vb, 0, none⟩) 2 2] w fun e w' => ∃ s : Sl, e = .returned s.v ∧ IntsAt w' s (P ++ Q) ∧ Kept No w w' := by
  have c0 : w.cell? ⟨vb, 0, none⟩ = some p.v := by rw [hr.cell]; rfl
  have c1 : w.cell? ⟨vb, 1, none⟩ = some q.v := by rw [hr.cell]; rfl
  have HG := Lib.hid (grow_any (p.n + q.n) w (by rw [hp.len, hq.len]; omega))
  have HP := Lib.hid hp
  have HQ := Lib.hid hq
  have HR := Lib.hid hr
  have lp := hp.len
  have lq := hq.len
  obtain ⟨pa, pn, pc⟩ := p
  obtain ⟨qa, qn, qc⟩ := q
  simp only [Sl.mk_v] at c0 c1
  simp only at lp lq HG
  have hpn : pn ≤ 100 ∧ qn ≤ 100 := by omega
  have HL := Lib.hid (And.intro lp lq)
  clear lp lq hp hq hr
  have HG' : Hid (Calls Try.prog 60 #[.slice none 0 0, .int .i64 ((pn : Int) + (qn : Int))] w fun e w' => ∃ v', e = .returned v' ∧ SRow 3 1 w' v' 0 [] ∧ Kept No w w' ∧ (∀ j, own v' j → w.heap.size ≤ j)) := by
    rw [show (pn : Int) + (qn : Int) = ((pn + qn : Nat) : Int) by omega]
    exact HG.out.mono fun _ _ ⟨v', h1, h2, h3, h4, _⟩ => ⟨v', h1, h2, h3, h4⟩
  clear HG
  have s0 : ¬ ((pn : Int) < 0) := by omega
  have s3 : ¬ ((pn : Int) + (qn : Int) < 0) := by omega
  go_enter Try.func33, Try.ntmps33
  go_wp2_with fail
  refine wp_loop_rounds 3 ?_
  rw [rounds_succ]
  go_wp2_with fail
  rw [rounds_succ]
  go_wp2_with fail
  rw [rounds_succ]
  go_wp2_with fail
  refine HG'.out.mono ?_
  rintro e w1 ⟨v1, rfl, hv1, hk1, ho1⟩
  have hr1 := HR.out.keep hk1 (fun h => h)
  have d0 : w1.cell? ⟨vb, 0, none⟩ = some (.slice pa pn pc) := by rw [hr1.cell]; rfl
  obtain ⟨v2, w2, ha2, hv2, hk2, ho2⟩ := iappend (xs := []) (ys := P) hv1 ⟨pa, pn, pc⟩ (HP.out.on hk1.none) rfl (by omega) 28
  have hlt1 := hr1.lt
  have hk2' : Kept No w w2 := hk1.then hk2 (fun k hk hh => by have := ho1 k hh; omega)
  have hr2 := HR.out.keep hk2' (fun h => h)
  have d1 : w2.cell? ⟨vb, 1, none⟩ = some (.slice qa qn qc) := by rw [hr2.cell]; rfl
  have hq2 := HQ.out.on hk2'.none
  obtain ⟨v3, w3, ha3, hv3, hk3, ho3⟩ := iappend (xs := P) (ys := Q) (by simpa using hv2) ⟨qa, qn, qc⟩ hq2 rfl (by omega) 28
  simp only [Sl.mk_v] at ha2 ha3
  have hfit : ∀ y ∈ P ++ Q, (Lit.int .i64 y).wf = true := fun y hy => by
    rcases List.mem_append.1 hy with hy | hy
    · exact HP.out.fit y hy
    · exact HQ.out.fit y hy
  have hv3' : SRow 3 1 w3 v3 (P ++ Q).length (ivs (P ++ Q)) := by rw [List.length_append]; exact hv3
  obtain ⟨s, rfl, hs, -, -⟩ := hv3'.sealed hfit
  have RES : Hid (IntsAt w3 s (P ++ Q) ∧ Kept No w w3) := ⟨hs, hk2'.then hk3 (fun k hk hh => by
    rcases ho2 k hh with h | h
    · have := ho1 k h; omega
    · have := hk1.more; omega)⟩
  have HA2 := Lib.hid ha2
  have HA3 := Lib.hid ha3
  clear hv1 hk1 ho1 hr1 ha2 hv2 hk2 ho2 hk2' hr2 hq2 ha3 hv3 hk3 ho3 hv3' hs hfit HP HQ HR HG' c0 c1
  go_wp2_with fail
  refine wp_loop_rounds 3 ?_
  rw [rounds_succ]
  go_wp2_with (at_builtin; refine Lib.wpList_append_run _ rfl _ _ _ _ rfl _ _ rfl rfl _ _ HA2.out ?_)
  rw [rounds_succ]
  go_wp2_with (at_builtin; refine Lib.wpList_append_run _ rfl _ _ _ _ rfl _ _ rfl rfl _ _ HA3.out ?_)
  rw [rounds_succ]
  go_wp2_with fail
  go_ret
  exact ⟨s, rfl, RES.out⟩
end Go.Proofs.Yticancimnhnhbaa
