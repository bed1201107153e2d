/-
  Begun, of layer 7's laws: a memory and zones in which blocks are laid, and the document's. No conditions beyond those that each theorem names.
-/
import Derived.Test.YticancimnhnhbaaJoinD
import Derived.Test.YticancimnhnhbaaJoinC
import Derived.Test.YticancimnhnhbaaJoinI
import Derived.Test.YticancimnhnhbaaJoinA
import Derived.Deep.DeepCutAuto
namespace Go.Proofs.Yticancimnhnhbaa
open Go.ChangeShapes Go.WideShapes Go.ChangeAt Go.RowKit

/- words that are laid from a place on, as many as told -/
def laid (b : Int) (W : List Nat) (l : List Nat) : Nat → List Nat
  | 0 => l
  | j + 1 => if 0 ≤ b + 4 * (j : Int) ∧ b + 4 * (j : Int) ≤ 2044 ∧ (b + 4 * (j : Int)) % 4 = 0 then splice (laid b W l j) (b + 4 * (j : Int)).toNat (bytes4 (W.getD j 0)) else laid b W l j
def Begs (B : List Blk) : Nat → List ZR → List Nat → Prop
  | 0, L, l => L = [] ∧ l = List.replicate 2048 0
  | k + 1, L, l => ∃ L0 l0 d, Begs B k L0 l0 ∧ B[k]? = some d ∧ AddedZ L0 d.x.z L ∧ l = laid d.x.z.b d.W l0 d.W.length
theorem laid_length (b : Int) (W l : List Nat) (hl : l.length = 2048) (j : Nat) : (laid b W l j).length = 2048 := by
  induction j with
  | zero => exact hl
  | succ j ih =>
    rw [laid]
    split
    · rename_i h
      rw [length_splice _ _ _ (by simp [bytes4]; omega), ih]
    · exact ih

def BegunAt (w w' : World) (e : Ending) (B : List Blk) (n : Nat) : Prop :=
  ∃ mp g zp mb xp xb L M mv l, e = .returned (.tuple #[.pointer (some ⟨mp, 0, none⟩), .pointer (some ⟨zp, 0, none⟩), .pointer (some ⟨xp, 0, none⟩)]) ∧ Duo w w' mp g zp mb xp xb L M mv 2000 l ∧ Begs B n L l ∧ L.length ≤ n
def InBegun (w wr : World) (mp g zp mb xp xb n : Nat) (B : List Blk) (i : Value) : Prop :=
  ∃ k : Nat, k ≤ n ∧ i = .int .i64 k ∧ ∃ L M mv l, Duo w wr mp g zp mb xp xb L M mv (k * 200) l ∧ Begs B k L l ∧ L.length ≤ k

def InWords (w wr : World) (mp g zp mb xp xb nn : Nat) (L M : List ZR) (mv : Value) (d : Blk) (l : List Nat) (i : Value) : Prop :=
  ∃ j : Nat, j ≤ d.W.length ∧ i = .int .i64 j ∧ Duo w wr mp g zp mb xp xb L M mv nn (laid d.x.z.b d.W l j)

set_option maxRecDepth 100000 in
set_option maxHeartbeats 8000000 in
theorem begun_any (a : Option Addr) (n cap : Nat) (B : List Blk) (w : World) (h : Blks w a n B) (hf : FewB B) :
    Calls Try.prog 28 #[.slice a n cap] w fun e w' => BegunAt w w' e B n := by
  have HB := Lib.hid h
  have HF := Lib.hid hf
  have hn : n ≤ 10 := by have := hf.2; rw [h.len] at this; exact this
  have HN := Lib.hid Zoo.new
  have hmk := fun v => make_zeros 2048 2048 rfl (by omega) v
  clear h hf
  go_enter Try.func28, Try.ntmps28
  go_wp2_with fail
  refine (memNew_raw 2048 w (by omega) (by omega) (by omega)).mono ?_
  rintro e w1 ⟨rfl, hw1⟩
  have m1 : MemAt w1 (w.heap.size + 1) w.heap.size (List.replicate 2048 0) := hw1 ▸ newMem_at w 2048 (by omega)
  have k1 : Kept No w w1 := hw1 ▸ newMem_kept w 2048 _
  have s1 : w1.heap.size = w.heap.size + 2 := by rw [← hw1]; exact newMem_size w 2048
  have M1 := Lib.hid m1
  have K1 := Lib.hid k1
  clear m1 k1 hw1
  go_wp2_with fail
  refine (HN.out _).mono ?_
  rintro e w2 ⟨zp, mb, rfl, hz⟩
  have HZ2 := Lib.hid (hz.base K1.out.none)
  have M2 := Lib.hid (M1.out.keep (Kept.of_below hz.below : Kept No w1 w2) (fun h => h) (fun h => h))
  have S2 := hz.size
  clear hz
  obtain ⟨w3, hw3⟩ : ∃ w3, w3 = (w2.alloc (zeros 2048)).alloc (.cells #[.slice (some ⟨w2.heap.size, 0, none⟩) 2048 2048, .slice none 0 0] MCT) := ⟨_, rfl⟩
  have d3 : Duo w w3 (w.heap.size + 1) w.heap.size zp mb (w2.heap.size + 1) w2.heap.size [] [] (.slice none 0 0) 0 (List.replicate 2048 0) := by
    have kk : Kept No w2 w3 := by rw [hw3]; exact ((Kept.refl _ _).alloc _).alloc _
    have e0 : (w2.alloc (zeros 2048)).heap.size = w2.heap.size + 1 := by simp
    refine ⟨⟨HZ2.out.on kk.none, SRow.nil _ _ _, by simp, rfl⟩, M2.out.keep kk (fun h => h) (fun h => h), ?_, ?_, by simp, ⟨by omega, by omega, by omega, by omega⟩, by omega⟩
    · have := RowAt.new (w2.alloc (zeros 2048)) MCT [.slice (some ⟨w2.heap.size, 0, none⟩) 2048 2048, .slice none 0 0]
      rw [e0] at this
      rw [hw3]
      exact this
    · have := (ByteRow.new w2 (List.replicate 2048 0) (by simp)).keep (S := No) ((Kept.refl No _).alloc (.cells #[.slice (some ⟨w2.heap.size, 0, none⟩) 2048 2048, .slice none 0 0] MCT)) (fun h => h)
      rw [hw3]
      exact this
  have D3 := Lib.hid d3
  clear d3 M1 K1 s1 HZ2 M2 S2
  go_wp2_with fail
  clear hmk
  rw [← hw3]
  clear hw3
  generalize w.heap.size + 1 = mp at *
  generalize w2.heap.size + 1 = xp at *
  generalize w2.heap.size = xb at *
  obtain ⟨g, hg⟩ : ∃ g, w.heap.size = g := ⟨_, rfl⟩
  rw [hg] at D3
  clear hg
  go_loopw [9] (fun i wr => InBegun w wr mp g zp mb xp xb n B i) (fun i _ => n - (intOf i).toNat)
  case atStart => exact ⟨0, Nat.zero_le _, rfl, [], [], _, _, D3.out, ⟨rfl, rfl⟩, Nat.le_refl _⟩
  case round =>
    clear D3
    obtain ⟨k, hk, rfl, L, M, mv, l, hi⟩ := hrel
    have HI := Lib.hid hi
    clear hi
    by_cases hlt : k < n
    · obtain ⟨b, off, d, rfl, hb, hd, hs0, hw0, hp0, hq0, hu0⟩ := HB.out.at_ hlt
      have hsm := HF.out.1 d (List.mem_of_getElem? hd)
      have HD := Lib.hid hd
      have HA : Hid (∀ v, Below w.heap.size w v → Six v b (off + k * 7) d.x ∧ v.cell? ⟨b, off + k * 7 + 6, none⟩ = some d.ws.v ∧ IntsAt v d.x.p d.x.z.P ∧ IntsAt v d.x.q d.x.z.Q ∧ U32At v d.ws d.W) := fun v kb =>
        ⟨hs0.on kb hb, (kb.cell (p := ⟨b, _, none⟩) hb).trans hw0, hp0.on kb, hq0.on kb, hu0.on kb⟩
      have HSm := Lib.hid hsm
      have HPQ : Hid (IntsAt w d.x.p d.x.z.P ∧ IntsAt w d.x.q d.x.z.Q) := ⟨hp0, hq0⟩
      have HU := Lib.hid hu0
      clear hs0 hw0 hp0 hq0 hu0 hsm hd
      have e5 : (k : Int) < (n : Int) := by omega
      have e6 : (0 : Int) ≤ (k : Int) := by omega
      obtain ⟨⟨c0, c1, c2, c3, c4, c5⟩, -, hp, hq, -⟩ := HA.out _ HI.out.1.both.zoo.below
      have HP := Lib.hid (zadd_one HI.out.1.both.zoo d.x hp hq (by have := HSm.out.2.1; omega) (by have := HSm.out.2.2.1; omega) (by have := HI.out.2.2; omega) (by omega))
      clear hp hq
      go_wp2_with fail
      refine HP.out.mono ?_
      rintro e w4 ⟨v4, L', rfl, hsp, hadd, hlen, hz4⟩
      have HZ4 := Lib.hid hz4
      have HSP := Lib.hid hsp
      have HAdd := Lib.hid hadd
      have HLe := Lib.hid hlen
      have m4 := HSP.out xp _ _ HI.out.1.mach (by decide) (by decide)
      clear hz4 hsp hadd hlen c0 c1 c2 c3 c4 c5
      obtain ⟨⟨c0, c1, c2, c3, c4, c5⟩, -, -, -, -⟩ := HA.out _ HZ4.out.below
      have x1 : w4.cell? ⟨xp, 1, none⟩ = some mv := by rw [m4.cell]; rfl
      have x2 := m4.free 1
      have hxl := m4.lt
      have hbl : b < w4.heap.size := cell_lt c0
      have HM4 := Lib.hid m4
      clear m4
      have HR : Hid (∀ v, Kept No w4 v → Calls Try.prog 11 #[mv, .agg #[.int .i64 d.x.z.b, .int .i64 d.x.z.d, .int .i64 d.x.z.r, .int .i64 d.x.z.e, d.x.p.v, d.x.q.v]] v fun e w' => ∃ v' ok M', e = .returned (.tuple #[v', .bool ok]) ∧ SRow RZT 6 w' v' M'.length (zcs M') ∧ AddedR M d.x M' ∧ Kept No v w') := fun v kv => by
        have hbv : Below w.heap.size w v := (HZ4.out.on kv.none).below
        have hrow : SRow RZT 6 v mv M.length (zcs M) := by
          have h0 := HI.out.1.both.row
          refine ⟨?_, h0.len, h0.one⟩
          rcases h0.is with h1 | ⟨b', cap', rest', e', hr', h2⟩
          · exact .inl h1
          · exact .inr ⟨b', cap', rest', e', (HSP.out b' _ _ hr' (by decide) (by decide)).keep kv (fun h => h), h2⟩
        exact radd_one d.x mv M v ⟨hrow, fun x hx => ⟨(HI.out.1.both.ints x hx).1.on hbv, (HI.out.1.both.ints x hx).2.on hbv⟩⟩ HI.out.1.both.good (by have := HI.out.1.both.len; have := HI.out.2.2; omega) (HPQ.out.1.on hbv) (HPQ.out.2.on hbv) (by have := HSm.out.2.1; omega) (by have := HSm.out.2.2.1; omega)
      go_wp2_with fail
      go_region_with (first
        | (go_at_call 12; refine (as6_any d.x _).mono ?_; rintro e5 w5 ⟨rfl, k5⟩;
           have j5 : Kept No w4 w5 := (by first | exact k5 | exact ((Kept.refl _ _).drew).trans k5);
           have y1 : w5.cell? ⟨xp, 1, none⟩ = some mv := (j5.cell (p := ⟨xp, 1, none⟩) hxl (fun h => h)).trans x1;
           have J5 := Lib.hid j5; clear k5 j5)
        | (go_at_call 11; refine (HR.out _ (by first | exact J5.out | exact J5.out.drew)).mono ?_; rintro e6 w6 ⟨v6, ok6, M', rfl, hr6, ha6, k6⟩; obtain ⟨a6, cc6, rfl, -, -⟩ := hr6.shape;
           have j6 : Kept No w4 w6 := (by first | exact J5.out.trans k6 | exact J5.out.drew.trans k6);
           have z1 : w6.cell? ⟨xp, 1, none⟩ = some mv := (j6.cell (p := ⟨xp, 1, none⟩) hxl (fun h => h)).trans x1;
           have z2 := (HM4.out.keep j6 (fun h => h)).free 1;
           have J6 := Lib.hid j6; have HR6 := Lib.hid hr6; have HA6 := Lib.hid ha6; clear k6 j6 hr6 ha6))
      all_goals
        have dz : Duo w (w6.setCell ⟨xp, 1, none⟩ (.slice a6 M'.length cc6)) mp g zp mb xp xb L' M' (.slice a6 M'.length cc6) ((k + 1) * 200) l := by
          have q := HI.out.1.zone HSP.out HZ4.out J6.out HR6.out (fun y hy => by
            rcases addedR_mem HA6.out hy with h1 | rfl
            · exact HI.out.1.both.ints y h1
            · exact HPQ.out) (added_same HI.out.1.both.same HAdd.out HA6.out)
          have e : k * 200 + 200 = (k + 1) * 200 := by omega
          rw [e] at q
          exact q
        have DZ := Lib.hid dz
        clear dz z1 z2 x1 x2 y1 c0 c1 c2 c3 c4 c5 hxl hbl
        generalize w6.setCell ⟨xp, 1, none⟩ (.slice a6 M'.length cc6) = w7 at *
        clear J5 J6 HR6 HA6
        generalize hmv : Value.slice a6 M'.length cc6 = mv' at *
        clear hmv
        go_wp2_with fail
        go_loopw [10] (fun i wx => InWords w wx mp g zp mb xp xb ((k + 1) * 200) L' M' mv' d l i) (fun i _ => d.W.length - (intOf i).toNat)
        case atStart => exact ⟨0, Nat.zero_le _, rfl, DZ.out⟩
        case round =>
          clear DZ
          obtain ⟨j, hj, rfl, hi⟩ := hrel
          have HJ := Lib.hid hi
          clear hi
          obtain ⟨⟨c0, c1, c2, c3, c4, c5⟩, c6, -, -, hu⟩ := HA.out _ HJ.out.both.zoo.below
          have hwl := hu.len
          have hwc := hu.cap
          simp only [maxLen] at hwc
          have hsm := HSm.out
          unfold smallB at hsm
          obtain ⟨sm1, -, -, sm4, sm5⟩ := hsm
          by_cases hjl : j < d.W.length
          · obtain ⟨x, hx⟩ : ∃ x, d.W[j]? = some x := ⟨_, List.getElem?_eq_getElem hjl⟩
            have hxl := hu.lt x (List.mem_of_getElem? hx)
            have hwx : ∀ v, U32At v d.ws d.W → ∃ wb wo, d.ws.v = .slice (some ⟨wb, wo, none⟩) d.ws.n d.ws.cap ∧ v.cell? ⟨wb, wo + j, none⟩ = some (.int .u32 (x : Nat)) := fun v h => by
              rcases h.at_ with h0 | ⟨wb, wo, hwa, _, hc⟩
              · have := h.len
                omega
              · exact ⟨wb, wo, by rw [Sl.v, hwa], hc j x hx⟩
            obtain ⟨wb, wo, hv, cw⟩ := hwx _ hu
            rw [hv] at c6
            have HWX : Hid (∀ v, Below w.heap.size w v → v.cell? ⟨b, off + k * 7, none⟩ = some (.int .i64 d.x.z.b) ∧ v.cell? ⟨b, off + k * 7 + 6, none⟩ = some (.slice (some ⟨wb, wo, none⟩) d.ws.n d.ws.cap) ∧ v.cell? ⟨wb, wo + j, none⟩ = some (.int .u32 (x : Nat))) := fun v hbv => by
              obtain ⟨q1, q2, -, -, q3⟩ := HA.out v hbv
              obtain ⟨wb', wo', hv', cw'⟩ := hwx v q3
              rw [hv] at hv' q2
              cases hv'
              exact ⟨q1.c0, q2, cw'⟩
            have hgd : d.W.getD j 0 = x := by simp [List.getD, hx]
            have i1 : (j : Int) < (d.ws.n : Int) := by omega
            have i2 : (0 : Int) ≤ (j : Int) := by omega
            have i3 : (j : Int) ≤ 200 := by omega
            have HXL := Lib.hid hxl
            have HGd := Lib.hid hgd
            clear hwx hv hx hgd hu c1 c2 c3 c4 c5 hxl
            generalize d.ws.n = wn at *
            generalize d.ws.cap = wc at *
            by_cases hok : 0 ≤ d.x.z.b + 4 * (j : Int) ∧ d.x.z.b + 4 * (j : Int) ≤ 2044 ∧ (d.x.z.b + 4 * (j : Int)) % 4 = 0
            · obtain ⟨q, hq⟩ : ∃ q : Nat, d.x.z.b + 4 * (j : Int) = (q : Int) := ⟨(d.x.z.b + 4 * (j : Int)).toNat, by omega⟩
              have e4 : ((q : Int) % 4 == 0) = true := by simp; omega
              have hq2 : (q : Int) ≤ 2044 := by omega
              have hlj := HJ.out.len
              have HLj := Lib.hid hlj
              have HNext : Hid (laid d.x.z.b d.W l (j + 1) = splice (laid d.x.z.b d.W l j) q (bytes4 x)) := by
                show _ = _
                rw [laid, if_pos hok, HGd.out, hq]
                rfl
              have HQ4 : Hid (q % 4 = 0) := by show _ = _; omega
              have HS := Lib.hid (memSetWord_yes mp g (laid d.x.z.b d.W l j) q x wr HJ.out.mem HXL.out HQ4.out (by omega))
              clear hok hlj
              go_wp2_with fail
              refine HS.out.mono ?_
              rintro e w8 ⟨rfl, hm8, k8⟩
              have HM8 := Lib.hid hm8
              have K8 := Lib.hid k8
              obtain ⟨b8, m8, y8⟩ := HJ.out.setG k8 hm8
              clear c0 c6 cw hm8 k8
              obtain ⟨c0, c6, cw⟩ := HWX.out _ b8.zoo.below
              have HS2 := Lib.hid (machSet_any xp xb 2048 q x mv' (laid d.x.z.b d.W l j) w8 m8 y8 HLj.out (by omega) (by omega) HXL.out)
              clear b8 m8 y8
              go_wp2_with fail
              refine HS2.out.mono ?_
              rintro e w9 ⟨rfl, hb9, k9⟩
              have D9 := Lib.hid (HJ.out.word K8.out HM8.out k9 hb9 (by rw [length_splice _ _ _ (by rw [HLj.out]; simp [bytes4]; omega)]; exact HLj.out))
              clear hb9 k9
              go_wp2_with fail
              go_roundw
              case rel => exact ⟨j + 1, by omega, by go_num, by rw [HNext.out]; exact D9.out⟩
              case measure => simp [intOf]; omega
            · have HNext : Hid (laid d.x.z.b d.W l (j + 1) = laid d.x.z.b d.W l j) := by
                show _ = _
                rw [laid, if_neg hok]
              by_cases h1 : 0 ≤ d.x.z.b + 4 * (j : Int)
              · obtain ⟨q, hq⟩ : ∃ q : Nat, d.x.z.b + 4 * (j : Int) = (q : Int) := ⟨(d.x.z.b + 4 * (j : Int)).toNat, by omega⟩
                by_cases h2 : (q : Int) ≤ 2044
                · have e4 : ((q : Int) % 4 == 0) = false := by simp; omega
                  clear hok h1
                  go_wp2_with fail
                  go_roundw
                  case rel => exact ⟨j + 1, by omega, by go_num, by rw [HNext.out]; exact HJ.out⟩
                  case measure => simp [intOf]; omega
                · have h3 : ¬ (q : Int) ≤ 2044 := h2
                  clear hok h1
                  go_wp2_with fail
                  go_roundw
                  case rel => exact ⟨j + 1, by omega, by go_num, by rw [HNext.out]; exact HJ.out⟩
                  case measure => simp [intOf]; omega
              · clear hok
                go_wp2_with fail
                go_roundw
                case rel => exact ⟨j + 1, by omega, by go_num, by rw [HNext.out]; exact HJ.out⟩
                case measure => simp [intOf]; omega
          · obtain rfl : j = d.W.length := by omega
            have i1 : ¬ (d.W.length : Int) < (d.ws.n : Int) := by omega
            clear c0 c1 c2 c3 c4 c5 hu
            have HEnd := Lib.hid hjl
            rw [show d.ws.v = .slice d.ws.a d.ws.n d.ws.cap from rfl] at c6
            generalize d.ws.n = wn at *
            generalize d.ws.cap = wc at *
            generalize d.ws.a = wa at *
            have RES : Hid (InBegun w wr mp g zp mb xp xb n B (.int .i64 ((k + 1 : Nat) : Int))) :=
              ⟨k + 1, by omega, rfl, L', M', mv', _, HJ.out, ⟨L, l, d, HI.out.2.1, HD.out, HAdd.out, rfl⟩, by have := HLe.out; have := HI.out.2.2; omega⟩
            go_wp2_with fail
            go_roundw
            case rel => exact RES.out
            case measure => simp [intOf]; omega
    · obtain rfl : k = n := by omega
      have e5 : ¬ (k : Int) < (k : Int) := by omega
      go_wp2_with fail
      go_ret3
      exact ⟨mp, g, zp, mb, xp, xb, L, M, mv, l, rfl, ⟨HI.out.1.both.more (by omega), HI.out.1.mem, HI.out.1.mach, HI.out.1.bytes, HI.out.1.len, HI.out.1.low, HI.out.1.apart⟩, HI.out.2.1, HI.out.2.2⟩
end Go.Proofs.Yticancimnhnhbaa

/-
  The examples at the head of layer 7's laws (up): it returns true and changes nothing that was there. No conditions.
-/
namespace Go.Proofs.Yticancimnhnhbaa
open Go.ChangeShapes Go.WideShapes Go.ChangeAt Go.RowKit

theorem wordAt_put (l : List Nat) (i x : Nat) (hi : i ≤ l.length) (hx : x < 4294967296) : wordAt (splice l i (bytes4 x)) i = x := by
  have hp : piece (splice l i (bytes4 x)) i (i + 4) = bytes4 x := by
    unfold piece splice
    rw [List.drop_append, List.drop_of_length_le (by rw [List.length_take]; omega), List.nil_append, List.length_take, Nat.min_eq_left hi, Nat.sub_self, List.drop_zero, Nat.add_sub_cancel_left, List.take_append_of_le_length (by simp [bytes4]), List.take_of_length_le (by simp [bytes4])]
  unfold wordAt
  rw [hp]
  have h := word_bytes x hx
  unfold wordOf at h
  rw [List.take_of_length_le (by simp)] at h
  exact h

theorem Mach.after {w w' : World} {e : Ending} {sp mp g zp mb : Nat} {lv : Value} {L : List ZR} {n : Nat} {r : List Int} {p : Int} {l : List Nat} {d : Out} (h : Mach w sp mp g zp mb lv L n r p l) (hd : DidIns w w' e sp mp g d) (hr : d.r.length = 16) : Mach w' sp mp g zp mb lv L n d.r d.p d.l :=
  ⟨hd.2.1, hd.2.2.1, h.z.keep_row hd.2.2.2 fun j hj => by
    rcases hj with hj | hj
    · subst hj; exact ⟨ST, _, h.st, by decide, by decide, by decide⟩
    · subst hj; exact ⟨5, _, byteRow_row h.mem.row, by decide, by decide, by decide⟩, hr⟩
theorem stepOf_len (Z : List ZV) (r : List Int) (p : Int) (l : List Nat) : (stepOf Z r p l).r.length = r.length := by
  unfold stepOf
  split
  · rfl
  · split
    · simp only
      split
      · exact doOf_len _ _ _ _ _ _ _ _
      · rfl
    · rfl

abbrev ZUp : ZV := ⟨272, 272, 272, 276, [], []⟩
theorem step_up (l : List Nat) (hl : l.length = 2048) (hw : wordAt l 272 = 79691783) : stepOf [ZUp] (List.replicate 16 0) 272 l = ⟨0, (List.replicate 16 0).set 3 7, 276, l⟩ := by
  have e : (272 : Int).toNat = 272 := rfl
  unfold stepOf
  rw [e, hw, if_neg (by rw [hl]; decide), if_pos (by decide)]
  rfl
theorem step_up2 (r : List Int) (l : List Nat) : stepOf [ZUp] r 276 l = ⟨5, r, 276, l⟩ := by
  unfold stepOf
  rw [if_pos (.inl (by decide))]

set_option maxRecDepth 100000 in
theorem word_up (w : World) : Calls Try.prog 49 #[.agg #[.int .i64 1, .int .i64 3, .int .i64 0, .int .i64 7]] w fun e w' => e = .returned (.int .u32 79691783) ∧ Kept No w w' := by
  have HM : Hid (MayP 1 3 0 7) := by show MayP 1 3 0 7; decide
  have HP := Lib.hid (fun v => refPutIns_any 1 3 0 7 v (by decide) (by decide) (by decide) (by decide) (by decide))
  have k0 : Kept No w (w.alloc (.cells #[.int .i64 1, .int .i64 3, .int .i64 0, .int .i64 7] 86)) := (Kept.refl _ _).alloc _
  go_enter Try.func49, Try.ntmps49
  go_wp2_with fail
  refine (refMay_yes 1 3 0 7 _ HM.out).mono ?_
  rintro e w1 ⟨rfl, hb1⟩
  obtain ⟨c0, c1, c2, c3⟩ := box_cells (Kept.of_below hb1)
  have K1 := Lib.hid (k0.trans (Kept.of_below hb1))
  clear hb1
  go_wp2_with fail
  refine (HP.out _).mono ?_
  rintro e w2 ⟨rfl, hb2⟩
  go_wp2_with fail
  go_ret
  exact ⟨rfl, K1.out.trans (Kept.of_below hb2)⟩

def blkUp (b : Nat) : Blk := ⟨⟨ZUp, ⟨none, 0, 0⟩, ⟨none, 0, 0⟩⟩, ⟨some ⟨b, 0, none⟩, 1, 1⟩, [79691783]⟩
theorem begs_up (b : Nat) (L : List ZR) (l : List Nat) (h : Begs [blkUp b] 1 L l) : L.map ZR.z = [ZUp] ∧ l = splice (List.replicate 2048 0) 272 (bytes4 79691783) := by
  obtain ⟨L0, l0, d, ⟨rfl, rfl⟩, hd, ha, rfl⟩ := h
  simp at hd
  subst hd
  refine ⟨?_, ?_⟩
  · have hm : MayAdd ([] : List ZV) ZUp := ⟨by decide, rfl, by simp [cellsOk, DeclOk]⟩
    rcases ha with ⟨_, A, B, hs, e⟩ | ⟨hn, _⟩
    · have h0 := hs.eq
      simp at h0
      obtain ⟨rfl, rfl⟩ := h0
      exact e
    · exact absurd hm hn
  · show laid 272 [79691783] (List.replicate 2048 0) 1 = _
    rw [laid, if_pos (by decide)]
    rfl

set_option maxRecDepth 100000 in
set_option maxHeartbeats 2000000 in
theorem up07 (w : World) : Calls Try.prog 26 #[] w fun e w' => e = .returned (.bool true) ∧ Below w.heap.size w w' := by
  go_enter Try.func26, Try.ntmps26
  go_wp2_with fail
  refine (word_up _).mono ?_
  rintro e w1 ⟨rfl, k1⟩
  obtain ⟨W, hW⟩ : ∃ W, W = (w1.alloc (.cells #[.int .u32 79691783] 67)).alloc (.cells #[.int .i64 272, .int .i64 272, .int .i64 272, .int .i64 276, .slice none 0 0, .slice none 0 0, .slice (some ⟨w1.heap.size, 0, none⟩) 1 1] 89) := ⟨_, rfl⟩
  have kW : Kept No w W := by rw [hW]; exact (k1.alloc _).alloc _
  have hblk : Blks W (some ⟨w1.heap.size + 1, 0, none⟩) 1 [blkUp w1.heap.size] := by
    have r1 : RowAt W (w1.heap.size + 1) 89 [.int .i64 272, .int .i64 272, .int .i64 272, .int .i64 276, .slice none 0 0, .slice none 0 0, .slice (some ⟨w1.heap.size, 0, none⟩) 1 1] := by
      have e0 : (w1.alloc (.cells #[.int .u32 79691783] 67)).heap.size = w1.heap.size + 1 := by simp
      have := RowAt.new (w1.alloc (.cells #[.int .u32 79691783] 67)) 89 [.int .i64 272, .int .i64 272, .int .i64 272, .int .i64 276, .slice none 0 0, .slice none 0 0, .slice (some ⟨w1.heap.size, 0, none⟩) 1 1]
      rw [e0] at this
      rw [hW]
      exact this
    have r0 : RowAt W w1.heap.size 67 [.int .u32 79691783] := by
      rw [hW]
      exact (RowAt.new w1 67 [.int .u32 79691783]).keep ((Kept.refl No _).alloc _) (fun h => h)
    refine ⟨rfl, by decide, .inr ⟨_, 0, rfl, r1.lt, fun i d hd => ?_⟩, fun d hd => ?_, fun d hd => ?_⟩
    · match i, hd with
      | 0, hd =>
        simp at hd
        subst hd
        exact ⟨⟨by rw [r1.cell]; rfl, by rw [r1.cell]; rfl, by rw [r1.cell]; rfl, by rw [r1.cell]; rfl, by rw [r1.cell]; rfl, by rw [r1.cell]; rfl⟩, by rw [r1.cell]; rfl⟩
    · simp at hd
      subst hd
      exact ⟨⟨rfl, ⟨Nat.le_refl 0, Nat.zero_le _⟩, fun _ => rfl, .inl rfl, by simp [blkUp]⟩, ⟨rfl, ⟨Nat.le_refl 0, Nat.zero_le _⟩, fun _ => rfl, .inl rfl, by simp [blkUp]⟩⟩
    · simp at hd
      subst hd
      refine ⟨rfl, ⟨Nat.le_refl 1, (by show 1 ≤ maxLen; decide)⟩, .inr ⟨_, 0, rfl, r0.lt, fun j x hx => ?_⟩, by simp [blkUp]⟩
      match j, hx with
      | 0, hx =>
        simp [blkUp] at hx
        subst hx
        rw [r0.cell]
        rfl
  have HBg := Lib.hid (begun_any _ 1 1 _ W hblk ⟨fun d hd => by simp at hd; subst hd; exact ⟨by simp [blkUp], by simp [blkUp], by simp [blkUp], by simp [blkUp], by simp [blkUp]⟩, by simp⟩)
  have KW := Lib.hid kW
  clear kW hblk k1
  go_wp2_with fail
  rw [← hW]
  clear hW
  refine HBg.out.mono ?_
  rintro e w3 ⟨mp, g, zp, mb, xp, xb, L, M, mv, l, rfl, hduo, hbegs, -⟩
  obtain ⟨hL, hl⟩ := begs_up _ L l hbegs
  have hll := hduo.len
  have hwd : wordAt l 272 = 79691783 := by rw [hl]; exact wordAt_put _ 272 _ (by simp) (by decide)
  obtain ⟨lv, hz, -⟩ := hduo.both.zoo.is
  have k4 : Kept No w3 (w3.alloc (.cells #[.int .i32 0, .int .i32 0, .int .i32 0, .int .i32 0, .int .i32 0, .int .i32 0, .int .i32 0, .int .i32 0, .int .i32 0, .int .i32 0, .int .i32 0, .int .i32 0, .int .i32 0, .int .i32 0, .int .i32 0, .int .i32 0, .int .i64 272] ST)) := (Kept.refl _ _).alloc _
  have m4 : Mach (w3.alloc (.cells #[.int .i32 0, .int .i32 0, .int .i32 0, .int .i32 0, .int .i32 0, .int .i32 0, .int .i32 0, .int .i32 0, .int .i32 0, .int .i32 0, .int .i32 0, .int .i32 0, .int .i32 0, .int .i32 0, .int .i32 0, .int .i32 0, .int .i64 272] ST)) w3.heap.size mp g zp mb lv L 2000 (List.replicate 16 0) 272 l :=
    ⟨RowAt.new w3 ST (cst (List.replicate 16 0) 272), hduo.mem.keep k4 (fun h => h) (fun h => h), hz.keep_row k4 fun _ h => h.elim, by simp⟩
  have hstep := step_any m4
  rw [hL, step_up l hll hwd] at hstep
  have hlow := hduo.low
  have HS1 := Lib.hid hstep
  have M4 := Lib.hid m4
  have KB := Lib.hid (hduo.both.zoo.below)
  have HLow := Lib.hid hlow
  have HL := Lib.hid hL
  have hWs : W.heap.size ≤ w3.heap.size := hduo.both.zoo.size
  clear hbegs hL hl hll hwd hz k4 m4 hstep hlow hduo
  go_wp2_with fail
  refine HS1.out.mono ?_
  rintro e w5 hd5
  obtain rfl := hd5.1
  have M5 := Lib.hid (M4.out.after hd5 (by simp))
  have K5 := Lib.hid hd5.2.2.2
  clear hd5
  have hstep2 := step_any M5.out
  rw [HL.out, step_up2] at hstep2
  have HS2 := Lib.hid hstep2
  clear hstep2
  go_wp2_with fail
  refine HS2.out.mono ?_
  rintro e w6 hd6
  obtain rfl := hd6.1
  have K6 := Lib.hid hd6.2.2.2
  have c3 : w6.cell? ⟨w3.heap.size, 3, none⟩ = some (.int .i32 7) := hd6.2.1.reg (a := 3) (by simp) (by decide)
  have c16 : w6.cell? ⟨w3.heap.size, 16, none⟩ = some (.int .i64 276) := hd6.2.1.spot (by simp)
  clear hd6
  go_wp2_with fail
  refine (step_nil mp zp _).mono ?_
  rintro e w7 ⟨rfl, rfl⟩
  go_wp2_with fail
  go_ret
  refine ⟨rfl, ?_⟩
  have hb : Below w.heap.size w w3 := KW.out.none.trans (KB.out.mono (by have := KW.out.more; omega))
  have k7 : Kept (Mine w3.heap.size g) w3 w6 := (((Kept.refl _ _).alloc _).trans K5.out).trans K6.out
  refine k7.below hb (by have := KW.out.more; omega) fun j _ hj => ?_
  have h1 := KW.out.more
  have h2 := HLow.out.2.1
  rcases hj with hj | hj <;> omega
end Go.Proofs.Yticancimnhnhbaa

/-
  What a step of package cpu changes, as plain data: only what can be stored; a declared cell keeps a value that it may have (layer 7). No conditions beyond those that each theorem names.
-/
namespace Go.Proofs.Yticancimnhnhbaa
open Go.ChangeShapes Go.WideShapes Go.ChangeAt Go.RowKit

def Wrote (Z : List ZV) (l l' : List Nat) : Prop :=
  l' = l ∨ (∃ q x : Nat, q % 4 = 0 ∧ q + 4 ≤ l.length ∧ x < 4294967296 ∧ canStore Z q 4 = true ∧ fitsZ Z (kindOf Z q) x = true ∧ l' = splice l q (bytes4 x)) ∨
  (∃ q y : Nat, q < l.length ∧ canStore Z q 1 = true ∧ kindOf Z ((q : Int) - (q : Int) % 4) = 0 ∧ l' = l.set q y)
theorem storeW_wrote (Z : List ZV) (r : List Int) (l : List Nat) (a b : Nat) (c : Int) : Wrote Z l (storeW Z r l a b c).2 ∧ ((storeW Z r l a b c).1 ≠ 0 → (storeW Z r l a b c).2 = l) := by
  simp only [storeW]
  generalize ((r.getD b 0 + c) % 4294967296).toNat = q
  split
  · exact ⟨.inl rfl, fun _ => rfl⟩
  · split
    · exact ⟨.inl rfl, fun _ => rfl⟩
    · split
      · exact ⟨.inl rfl, fun _ => rfl⟩
      · split
        · exact ⟨.inl rfl, fun _ => rfl⟩
        · rename_i h1 h2 h3 h4
          refine ⟨.inr (.inl ⟨q, (r.getD a 0 % 4294967296).toNat, by omega, by omega, by omega, by simpa using h2, ?_, rfl⟩), fun h => absurd rfl h⟩
          rw [show (((r.getD a 0 % 4294967296).toNat : Nat) : Int) = r.getD a 0 % 4294967296 by omega]
          simpa using h3
theorem storeB_wrote (Z : List ZV) (r : List Int) (l : List Nat) (a b : Nat) (c : Int) : Wrote Z l (storeB Z r l a b c).2 ∧ ((storeB Z r l a b c).1 ≠ 0 → (storeB Z r l a b c).2 = l) := by
  simp only [storeB]
  generalize ((r.getD b 0 + c) % 4294967296).toNat = q
  split
  · exact ⟨.inl rfl, fun _ => rfl⟩
  · split
    · exact ⟨.inl rfl, fun _ => rfl⟩
    · split
      · exact ⟨.inl rfl, fun _ => rfl⟩
      · rename_i h1 h2 h3
        exact ⟨.inr (.inr ⟨q, _, by omega, by simpa using h1, by simpa using h2, rfl⟩), fun h => absurd rfl h⟩
theorem doOf_wrote (Z : List ZV) (r : List Int) (p : Int) (l : List Nat) (o : Int) (a b : Nat) (c : Int) : Wrote Z l (doOf Z r p l o a b c).l ∧ ((doOf Z r p l o a b c).t ≠ 0 → (doOf Z r p l o a b c).l = l) := by
  unfold doOf
  split
  · exact ⟨.inl rfl, fun _ => rfl⟩
  split
  · exact ⟨.inl rfl, fun _ => rfl⟩
  split
  · exact ⟨.inl rfl, fun _ => rfl⟩
  split
  · exact storeW_wrote Z r l a b c
  split
  · exact ⟨.inl rfl, fun _ => rfl⟩
  split
  · exact storeB_wrote Z r l a b c
  split
  · exact ⟨.inl rfl, fun _ => rfl⟩
  split
  · exact ⟨.inl rfl, fun _ => rfl⟩
  split
  · exact ⟨.inl rfl, fun _ => rfl⟩
  · exact ⟨.inl rfl, fun _ => rfl⟩
theorem stepOf_wrote (Z : List ZV) (r : List Int) (p : Int) (l : List Nat) : Wrote Z l (stepOf Z r p l).l ∧ ((stepOf Z r p l).t ≠ 0 → (stepOf Z r p l).r = r ∧ (stepOf Z r p l).p = p ∧ (stepOf Z r p l).l = l) := by
  unfold stepOf
  split
  · exact ⟨.inl rfl, fun _ => ⟨rfl, rfl, rfl⟩⟩
  split
  · simp only
    have hd := doOf_wrote Z r (p + 4) l (insO (wordAt l p.toNat)) (insA (wordAt l p.toNat)) (insB (wordAt l p.toNat)) (insC (wordAt l p.toNat))
    split
    · rename_i h0
      exact ⟨hd.1, fun h => absurd h0 h⟩
    · rename_i h0
      exact ⟨hd.1, fun _ => ⟨rfl, rfl, hd.2 h0⟩⟩
  · exact ⟨.inl rfl, fun _ => ⟨rfl, rfl, rfl⟩⟩

theorem splice_out (l : List Nat) (q x k : Nat) (h : q + 4 ≤ l.length) (hk : k < q ∨ q + 4 ≤ k) : (splice l q (bytes4 x)).getD k 0 = l.getD k 0 := by
  have e : ∃ A b0 b1 b2 b3 C, l = A ++ b0 :: b1 :: b2 :: b3 :: C ∧ A.length = q := by
    have h4 : 4 ≤ (l.drop q).length := by rw [List.length_drop]; omega
    match hd : l.drop q, h4 with
    | b0 :: b1 :: b2 :: b3 :: C, _ => exact ⟨l.take q, b0, b1, b2, b3, C, by rw [← hd, List.take_append_drop], by rw [List.length_take]; omega⟩
    | [], h => exact absurd h (by decide)
    | [_], h => exact absurd h (by simp)
    | [_, _], h => exact absurd h (by simp)
    | [_, _, _], h => exact absurd h (by simp)
  obtain ⟨A, b0, b1, b2, b3, C, rfl, rfl⟩ := e
  simp only [splice, bytes4, List.length_cons, List.length_nil, List.take_left', List.getD]
  rcases hk with hk | hk
  · simp [List.getElem?_append, hk]
  · obtain ⟨m, rfl⟩ : ∃ m, k = A.length + 4 + m := ⟨k - (A.length + 4), by omega⟩
    have e1 : A.length + 4 + m - A.length = m + 4 := by omega
    simp [List.getElem?_append, show ¬ A.length + 4 + m < A.length by omega, e1]
theorem wordAt_same {l l' : List Nat} {k : Nat} (hl : l'.length = l.length) (hk : k + 4 ≤ l.length) (h : ∀ i, i < 4 → l'.getD (k + i) 0 = l.getD (k + i) 0) : wordAt l' k = wordAt l k := by
  unfold wordAt
  congr 1
  apply List.ext_getElem?
  intro i
  rcases Nat.lt_or_ge i 4 with hi | hi
  · have h1 := piece_getD l' k (k + 4) i (by omega)
    have h2 := piece_getD l k (k + 4) i (by omega)
    have n1 : i < (piece l' k (k + 4)).length := by rw [piece_length l' k (k + 4) (by omega)]; omega
    have n2 : i < (piece l k (k + 4)).length := by rw [piece_length l k (k + 4) (by omega)]; omega
    rw [List.getElem?_eq_getElem n1, List.getElem?_eq_getElem n2]
    have g1 : (piece l' k (k + 4)).getD i 0 = (piece l' k (k + 4))[i] := by simp [List.getD, n1]
    have g2 : (piece l k (k + 4)).getD i 0 = (piece l k (k + 4))[i] := by simp [List.getD, n2]
    rw [← g1, ← g2, h1, h2, h i hi]
  · rw [List.getElem?_eq_none (by rw [piece_length l' k (k + 4) (by omega)]; omega), List.getElem?_eq_none (by rw [piece_length l k (k + 4) (by omega)]; omega)]
theorem canStore_part {Z : List ZV} {q k : Int} (h : canStore Z q 4 = true) (h1 : q ≤ k) (h2 : k < q + 4) : canStore Z k 1 = true := by
  have key : ∀ f t, within q 4 f t = true → within k 1 f t = true := by
    intro f t hw
    simp [within] at hw ⊢
    omega
  unfold canStore at h ⊢
  rw [Bool.or_eq_true] at h ⊢
  rcases h with h | h
  · exact .inl (key _ _ h)
  · rw [List.any_eq_true] at h
    obtain ⟨z, hz, hw⟩ := h
    exact .inr (List.any_eq_true.2 ⟨z, hz, key _ _ hw⟩)

theorem Wrote.len {Z : List ZV} {l l' : List Nat} (h : Wrote Z l l') : l'.length = l.length := by
  rcases h with rfl | ⟨q, x, _, hq, _, _, _, rfl⟩ | ⟨q, y, _, _, _, rfl⟩
  · rfl
  · exact length_splice _ _ _ (by simp [bytes4]; omega)
  · simp
theorem Wrote.byte {Z : List ZV} {l l' : List Nat} (h : Wrote Z l l') (k : Nat) (hk : l'.getD k 0 ≠ l.getD k 0) : canStore Z k 1 = true := by
  rcases h with rfl | ⟨q, x, _, hq, _, hc, _, rfl⟩ | ⟨q, y, _, hc, _, rfl⟩
  · exact absurd rfl hk
  · have hkq : q ≤ k ∧ k < q + 4 := by
      refine Classical.byContradiction fun hn => hk (splice_out l q x k hq ?_)
      omega
    exact canStore_part hc (by omega) (by omega)
  · have e : k = q := Classical.byContradiction fun hn => hk (by simp [List.getD, show ¬ q = k from fun e => hn e.symm])
    subst e
    exact hc
theorem Wrote.word {Z : List ZV} {l l' : List Nat} (h : Wrote Z l l') (k : Nat) (h4 : k % 4 = 0) (hk : k + 4 ≤ l.length) (hkind : kindOf Z k ≠ 0) (hf : fitsZ Z (kindOf Z k) (wordAt l k : Nat) = true) : fitsZ Z (kindOf Z k) (wordAt l' k : Nat) = true := by
  have hl := h.len
  rcases h with rfl | ⟨q, x, hq4, hq, hx, hc, hfx, rfl⟩ | ⟨q, y, hq, hc, hkd, rfl⟩
  · exact hf
  · by_cases e : k = q
    · subst e
      rw [wordAt_put l k x (by omega) hx]
      exact hfx
    · rw [wordAt_same hl hk fun i hi => splice_out l q x (k + i) hq (by omega)]
      exact hf
  · have hne : ∀ i, i < 4 → k + i ≠ q := by
      intro i hi e
      have : (q : Int) - (q : Int) % 4 = k := by omega
      rw [this] at hkd
      exact hkind hkd
    rw [wordAt_same hl hk fun i hi => by simp [List.getD, show ¬ q = k + i from fun e => hne i hi e.symm]]
    exact hf
end Go.Proofs.Yticancimnhnhbaa

/-
  CpuGuards (layer 7): the calls of its walk on a machine, and the law where it asks nothing. No conditions beyond those that each theorem names.
-/
namespace Go.Proofs.Yticancimnhnhbaa
open Go.ChangeShapes Go.WideShapes Go.ChangeAt Go.RowKit

theorem bytes_all {w : World} {mp g : Nat} {l : List Nat} (h : MemAt w mp g l) (hl : l.length = 2048) :
    Calls Try.prog 29 #[.pointer (some ⟨mp, 0, none⟩), .int .i64 0, .int .i64 2048] w fun e w' => e = .returned (.slice (some ⟨w.heap.size, 0, none⟩) 2048 2048) ∧ ByteRow w' w.heap.size l ∧ Kept No w w' := by
  have hb := memBytes_yes mp g l 0 2048 0 2048 w h (.inl rfl) (.inl ⟨rfl, by omega⟩) (by omega)
  refine hb.mono ?_
  rintro e w' ⟨rfl, rfl⟩
  have e0 : piece l 0 2048 = l := by rw [← hl]; exact piece_all l
  rw [e0]
  exact ⟨rfl, ByteRow.new w l h.row.2, (Kept.refl _ _).alloc _⟩
theorem word4 {w : World} {b : Nat} {l : List Nat} (h : ByteRow w b l) (hl : l.length = 2048) (k cap : Nat) (hk : k + 4 ≤ 2048) (hc : 4 ≤ cap) (hm : cap ≤ 9223372036854775807) :
    Calls Try.prog 31 #[.slice (some ⟨b, k, none⟩) 4 cap] w fun e w' => e = .returned (.int .u32 (wordAt l k : Nat)) ∧ w = w' := by
  have hp : (piece l k (k + 4)).length = 4 := by rw [piece_length l k (k + 4) (by omega)]; omega
  have hr := refWord_some b k cap (piece l k (k + 4)) w (by omega) (by omega) hm (piece_lt h.2 _ _) (fun i hi => by
    rw [h.at_ (k + i) (by omega), piece_getD l k (k + 4) i (by omega)])
  rw [hp] at hr
  have e : wordOf (piece l k (k + 4)) = wordAt l k := by
    unfold wordOf wordAt
    rw [List.take_of_length_le (by omega)]
  rw [e] at hr
  exact hr
theorem Below.blks {w w' : World} {a : Option Addr} {n : Nat} {B : List Blk} (h : Blks w a n B) (hb : Below w.heap.size w w') : Blks w' a n B := h.on hb

set_option maxRecDepth 100000 in
set_option maxHeartbeats 4000000 in
theorem cpuGuards_not (a a2 : Option Addr) (n cap n2 cap2 : Nat) (at_ st : Int) (B : List Blk) (w : World) (h : Blks w a n B) (hno : ¬ FewB B ∨ st < 0 ∨ 40 < st ∨ 16 < n2) :
    Calls Try.prog 5 #[.slice a n cap, .slice a2 n2 cap2, .int .i64 at_, .int .i64 st] w fun e w' => e = .returned (.bool true) ∧ Below w.heap.size w w' := by
  have HB := Lib.hid h
  clear h
  by_cases hf : FewB B
  · have e1 : (if FewB B then (1 : Int) else 0) = 1 := if_pos hf
    by_cases h1 : st < 0
    · clear hno hf
      go_enter Try.func5, Try.ntmps5
      go_wp2_with fail
      refine (up07 _).mono ?_
      rintro e w1 ⟨rfl, hb1⟩
      go_wp2_with fail
      refine (few7_any a n cap B _ (HB.out.on hb1)).mono ?_
      rintro e w2 ⟨rfl, rfl⟩
      rw [e1]
      go_wp2_with fail
      go_ret
      exact ⟨rfl, hb1⟩
    · by_cases h2 : 40 < st
      · clear hno hf
        go_enter Try.func5, Try.ntmps5
        go_wp2_with fail
        refine (up07 _).mono ?_
        rintro e w1 ⟨rfl, hb1⟩
        go_wp2_with fail
        refine (few7_any a n cap B _ (HB.out.on hb1)).mono ?_
        rintro e w2 ⟨rfl, rfl⟩
        rw [e1]
        go_wp2_with fail
        go_ret
        exact ⟨rfl, hb1⟩
      · have h3 : (16 : Int) < (n2 : Int) := by
          rcases hno with h | h | h | h
          · exact absurd hf h
          · omega
          · omega
          · omega
        clear hno hf
        go_enter Try.func5, Try.ntmps5
        go_wp2_with fail
        refine (up07 _).mono ?_
        rintro e w1 ⟨rfl, hb1⟩
        go_wp2_with fail
        refine (few7_any a n cap B _ (HB.out.on hb1)).mono ?_
        rintro e w2 ⟨rfl, rfl⟩
        rw [e1]
        go_wp2_with fail
        go_ret
        exact ⟨rfl, hb1⟩
  · have e1 : (if FewB B then (1 : Int) else 0) = 0 := if_neg hf
    clear hno hf
    go_enter Try.func5, Try.ntmps5
    go_wp2_with fail
    refine (up07 _).mono ?_
    rintro e w1 ⟨rfl, hb1⟩
    go_wp2_with fail
    refine (few7_any a n cap B _ (HB.out.on hb1)).mono ?_
    rintro e w2 ⟨rfl, rfl⟩
    rw [e1]
    go_wp2_with fail
    go_ret
    exact ⟨rfl, hb1⟩
end Go.Proofs.Yticancimnhnhbaa
