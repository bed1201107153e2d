/-
  What TablePlays (layer 18) holds from deed to deed: the table, the law's own list, the deeds that came in. No conditions.
-/
import Derived.Test.YtiofplejpgahdaaTbU
import Derived.Test.YtiofplejpgahdaaCodeV
namespace Go.Proofs.Ytiofplejpgahdaa
open Go.ChangeShapes Go.WideShapes Go.ChangeAt Go.RowKit

/- a deed's module -/
def ddD (x : DdX) : ModD := mdD x.name x.base x.imps
theorem nms_dd (M : List DdX) : nmsD (M.map ddD) = dnm M := by simp [List.map_map, Function.comp_def, ddD, mdD]
theorem imp_dd (M : List DdX) : impD (M.map ddD) = dim M := by simp [List.map_map, Function.comp_def, ddD, mdD]
/- the law's own list, and the table -/
structure Sp (w wr : World) (tb room : Nat) (mv : Value) (M : List DdX) : Prop where
  below : Below w.heap.size w wr
  tab : TabD w.heap.size w.heap.size wr tb room (M.map ddD)
  row : SRow DdT 4 wr mv M.length (rows ddRow M)
  imps : ∀ x ∈ M, ElsAt 1 sRow w x.iv x.imps
  few : ∀ x ∈ M, x.imps.length ≤ 1000
  nodup : (dnm M).Nodup
theorem Sp.on {w wr w' : World} {tb room : Nat} {mv : Value} {M : List DdX} (h : Sp w wr tb room mv M) (hb : Below wr.heap.size wr w') : Sp w w' tb room mv M :=
  ⟨below_on h.below hb h.below.size, h.tab.on hb, h.row.keep (Kept.of_below (S := fun _ => False) hb) (fun _ _ e => e), h.imps, h.few, h.nodup⟩
theorem Sp.deeds {w wr : World} {tb room : Nat} {mv : Value} {M : List DdX} (h : Sp w wr tb room mv M) : DeedsT wr mv M := ⟨h.row.els ddRow_len, fun x hx => (h.imps x hx).on h.below⟩
theorem Sp.len {w wr : World} {tb room : Nat} {mv : Value} {M : List DdX} (h : Sp w wr tb room mv M) : M.length ≤ 16 := by
  have := h.tab.len.2
  rwa [List.length_map] at this
theorem Sp.room {w wr : World} {tb room : Nat} {mv : Value} {M : List DdX} (h : Sp w wr tb room mv M) : M.length ≤ room := by
  have := h.tab.len.1
  rwa [List.length_map] at this
theorem Sp.start {w wr : World} {tb room : Nat} (h : TabD w.heap.size w.heap.size wr tb room []) (hb : Below w.heap.size w wr) : Sp w wr tb room nilS [] :=
  ⟨hb, h, SRow.nil _ _ _, (fun x hx => by cases hx), (fun x hx => by cases hx), List.nodup_nil⟩
theorem SRow.past' {B : Nat} {t : TypeId} {k : Nat} {w w' : World} {v : Value} {n : Nat} {cs : List Value} (h : SRow t k w v n cs) (ho : Off B w w') (h1 : t ≠ TbT) (h2 : t ≠ MdT) : SRow t k w' v n cs := by
  refine ⟨?_, h.len, h.one⟩
  rcases h.is with h0 | ⟨b, cap, rest, rfl, hr, h3⟩
  · exact .inl h0
  · exact .inr ⟨b, cap, rest, rfl, ho.rows _ _ _ h1 h2 hr, h3⟩
/- a call that turns the table, and no more -/
theorem Sp.turn {w wr w' : World} {tb room : Nat} {mv : Value} {M : List DdX} (h : Sp w wr tb room mv M) (ho : Off w.heap.size wr w') {D : List ModD} (ht : TabD w.heap.size w.heap.size w' tb room D) (hd : D = M.map ddD) : Sp w w' tb room mv M :=
  ⟨h.below.trans ho.below, by rw [← hd]; exact ht, h.row.past' ho (by decide) (by decide), h.imps, h.few, h.nodup⟩
/- what an Add, a Remove, make of both -/
theorem dd_add {room : Nat} {M : List DdX} {x : DdX} (h : addC room (dnm M) x.name x.imps = 0) : addD room (M.map ddD) (ddD x) = (M ++ [x]).map ddD := by
  unfold addD
  rw [nms_dd, show (ddD x).name = x.name from rfl, show (ddD x).imps = x.imps from rfl, if_pos h, List.map_append]
  rfl
theorem dd_same {room : Nat} {M : List DdX} {x : DdX} (h : addC room (dnm M) x.name x.imps ≠ 0) : addD room (M.map ddD) (ddD x) = M.map ddD := by
  unfold addD
  rw [nms_dd, show (ddD x).name = x.name from rfl, show (ddD x).imps = x.imps from rfl, if_neg h]
theorem dd_rem {M : List DdX} {s : ByteArray} : remL (nmsD (M.map ddD)) (impD (M.map ddD)) s (M.map ddD) = (remL (dnm M) (dim M) s M).map ddD := by
  rw [nms_dd, imp_dd, ← remL_map]
/- the law's list, one more, one less -/
theorem Sp.more {w wr w' w2 : World} {tb room : Nat} {mv v2 : Value} {M : List DdX} {x : DdX} (h : Sp w wr tb room mv M) (h0 : addC room (dnm M) x.name x.imps = 0) (ho : Off w.heap.size wr w') (ht : TabD w.heap.size w.heap.size w' tb room (addD room (M.map ddD) (ddD x))) (hb : Below w'.heap.size w' w2)
    (hr : SRow DdT 4 w2 v2 (M ++ [x]).length (rows ddRow (M ++ [x]))) (hi : ElsAt 1 sRow w x.iv x.imps) (hf : x.imps.length ≤ 1000) : Sp w w2 tb room v2 (M ++ [x]) := by
  rw [dd_add h0] at ht
  have hB := (h.below.trans ho.below).size
  refine ⟨below_on (h.below.trans ho.below) hb hB, ht.on hb, hr, fun y hy => ?_, fun y hy => ?_, ?_⟩
  · rcases List.mem_append.1 hy with h1 | h1
    · exact h.imps y h1
    · rw [List.mem_singleton.1 h1]
      exact hi
  · rcases List.mem_append.1 hy with h1 | h1
    · exact h.few y h1
    · rw [List.mem_singleton.1 h1]
      exact hf
  · obtain ⟨_, hn, _⟩ := addC_zero h0
    show ((M ++ [x]).map DdX.name).Nodup
    rw [List.map_append, List.nodup_append]
    refine ⟨h.nodup, by simp, fun a ha b hb e => hn ?_⟩
    have : b = x.name := by simpa using hb
    rw [← this, ← e]
    exact ha
theorem Sp.less {w wr w' w2 : World} {tb room k : Nat} {mv v2 : Value} {M : List DdX} {s : ByteArray} (h : Sp w wr tb room mv M) (hr : remB (dnm M) (dim M) s = true) (hk : posV (dnm M) s = (k : Int)) (ho : Off w.heap.size wr w') (ht : TabD w.heap.size w.heap.size w' tb room (remL (nmsD (M.map ddD)) (impD (M.map ddD)) s (M.map ddD))) (hb : Below w'.heap.size w' w2)
    (hrow : SRow DdT 4 w2 v2 (M.take k ++ M.drop (k + 1)).length (rows ddRow (M.take k ++ M.drop (k + 1)))) : Sp w w2 tb room v2 (M.take k ++ M.drop (k + 1)) := by
  rw [dd_rem, remL_yes hr hk] at ht
  have hB := (h.below.trans ho.below).size
  have hsub : ∀ y ∈ M.take k ++ M.drop (k + 1), y ∈ M := fun y hy => by
    rcases List.mem_append.1 hy with h1 | h1
    · exact List.mem_of_mem_take h1
    · exact List.mem_of_mem_drop h1
  refine ⟨below_on (h.below.trans ho.below) hb hB, ht.on hb, hrow, fun y hy => h.imps y (hsub y hy), fun y hy => h.few y (hsub y hy), ?_⟩
  show ((M.take k ++ M.drop (k + 1)).map DdX.name).Nodup
  rw [List.map_append, List.map_take, List.map_drop, ← List.eraseIdx_eq_take_drop_succ]
  exact h.nodup.sublist (List.eraseIdx_sublist _ _)
/- a slice's beginning, and its end -/
theorem ElsAt.part {α : Type} {k : Nat} {row : α → List Value} {w : World} {a : Option Addr} {n cap : Nat} {L : List α} (h : ElsAt k row w (.slice a n cap) L) (j : Nat) (hj : j ≤ n) : ElsAt k row w (.slice a j cap) (L.take j) := by
  obtain ⟨a', n', cap', e, rfl, h2, h3, h4, h5⟩ := h.is
  cases e
  refine ⟨a, j, cap, rfl, by rw [List.length_take]; omega, by omega, h3, h4, ?_⟩
  rcases h5 with h5 | ⟨b, off, rfl, hl, hc⟩
  · exact .inl (by omega)
  · refine .inr ⟨b, off, rfl, hl, fun i x t hx ht => hc i x t ?_ ht⟩
    rw [List.getElem?_take] at hx
    split at hx
    · exact hx
    · cases hx
theorem ElsAt.tail {α : Type} {k : Nat} {row : α → List Value} {w : World} {b off n cap : Nat} {L : List α} (h : ElsAt k row w (.slice (some ⟨b, off, none⟩) n cap) L) (j : Nat) (hj : j ≤ n) (h0 : 0 < n) :
    ∃ ad : Addr, (if cap = j then some (⟨b, off, none⟩ : Addr) else some ⟨b, off + j * k, none⟩) = some ad ∧ ElsAt k row w (.slice (some ad) (n - j) (cap - j)) (L.drop j) := by
  obtain ⟨a', n', cap', e, rfl, h2, h3, h4, h5⟩ := h.is
  cases e
  rcases h5 with h5 | ⟨b', off', e, hl, hc⟩
  · omega
  · cases e
    by_cases hq : cap = j
    · refine ⟨⟨b, off, none⟩, by rw [if_pos hq], ⟨_, _, _, rfl, by rw [List.length_drop], by omega, by omega, (fun h => by cases h), .inl (by omega)⟩⟩
    · refine ⟨⟨b, off + j * k, none⟩, by rw [if_neg hq], ⟨_, _, _, rfl, by rw [List.length_drop], by omega, by omega, (fun h => by cases h), .inr ⟨b, off + j * k, rfl, hl, fun i x t hx ht => ?_⟩⟩⟩
      rw [List.getElem?_drop] at hx
      have := hc (j + i) x t hx ht
      rw [show off + j * k + (i * k + t) = off + ((j + i) * k + t) by rw [Nat.add_mul]; omega]
      exact this
/- append(append([]Deed{}, m[:k]..), m[k+1:]..) -/
theorem del_run (W : World) (u1 u2 : Value) (A C : List DdX) (h1 : ElsAt 4 ddRow W u1 A) (h2 : ElsAt 4 ddRow W u2 C) (o1 : ∀ x ∈ A, Ones (ddRow x)) (o2 : ∀ x ∈ C, Ones (ddRow x)) (hl : A.length + C.length ≤ 1000) :
    ∃ v1 w1 v2 w2, (Builtin.append_ #[DdS, DdS] DdS #[.slice (some ⟨W.heap.size, 0, none⟩) 0 0, u1]).run Try.prog (W.drew.alloc (.cells #[] DdT)) = .ok v1 w1 ∧ (Builtin.append_ #[DdS, DdS] DdS #[v1, u2]).run Try.prog w1 = .ok v2 w2 ∧
      Below W.heap.size W w1 ∧ SRow DdT 4 w2 v2 (A ++ C).length (rows ddRow (A ++ C)) ∧ Below W.heap.size W w2 := by
  have hb0 : Below W.heap.size W (W.drew.alloc (.cells #[] DdT)) := below_on ((Drawn.of_n W 1).below _) ((Below.refl _ _).alloc (Nat.le_refl _) _) (Nat.le_refl _)
  obtain ⟨v1, w1, q0, q1, q2, q3⟩ := append_all (T := DdS) Try.underlying22 info_dd rfl (by decide) ddRow_len (by decide) (SRow.empty DdT 4 ddRow W.drew) (h1.on hb0) o1 (by simp) (by simp; omega)
  rw [List.nil_append] at q1
  have hb1 : Below W.heap.size W w1 := q2.1.below hb0 hb0.size fun j _ hj => by have e : j = W.heap.size := hj; omega
  obtain ⟨v2, w2, r0, r1, r2, _⟩ := append_all (T := DdS) Try.underlying22 info_dd rfl (by decide) ddRow_len (by decide) q1 (h2.on hb1) o2 q3 (by omega)
  refine ⟨v1, w1, v2, w2, q0, r0, hb1, r1, r2.1.below hb1 hb1.size fun j _ hj => ?_⟩
  rcases q2.2 j hj with e | e
  · have e : j = W.heap.size := e
    omega
  · exact Nat.le_trans hb0.size e
theorem box_dd (wr : World) (x : DdX) (h1 : Ones (ddRow x)) : (Instr.storeAt DdT (.pointer (some ⟨wr.heap.size, 0, none⟩)) (.agg #[.bool x.gone, .string x.name, x.iv, .int .i64 x.base])).run Try.prog (wr.alloc (.cells #[.bool false, .string ⟨#[]⟩, .slice none 0 0, .int .i64 0] DdT)) = .ok () (wr.alloc (.cells #[.bool x.gone, .string x.name, x.iv, .int .i64 x.base] DdT)) :=
  box_el wr DdT 4 [.bool false, .string ⟨#[]⟩, .slice none 0 0, .int .i64 0] (ddRow x) rfl rfl h1 size_dd
theorem one_dd (W : World) (x : DdX) (b : Nat) (hb : b = W.heap.size) (h1 : Ones (ddRow x)) : SRow DdT 4 (W.alloc (.cells #[.bool x.gone, .string x.name, x.iv, .int .i64 x.base] DdT)) (.slice (some ⟨b, 0, none⟩) 1 1) [x].length (rows ddRow [x]) := by
  subst hb
  exact ⟨.inr ⟨_, 1, [], rfl, by rw [show rows ddRow [x] ++ [] = ddRow x by simp [rows]]; exact RowAt.new W DdT (ddRow x), by simp, Nat.le_refl _, by decide⟩, by simp [rows, ddRow_len], fun u hu => h1 u (by simpa [rows] using hu)⟩
end Go.Proofs.Ytiofplejpgahdaa
