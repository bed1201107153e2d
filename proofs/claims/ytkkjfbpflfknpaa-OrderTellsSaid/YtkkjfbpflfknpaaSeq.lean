/-
  Rows of cells that are known whole, slices of elements of k cells each: append, copy, clear over them. Nothing of the program.
-/
import Derived.Test.YtkkjfbpflfknpaaBase
import Derived.Deep.AppendSrc
import Derived.Lib.AppendZerosOnto
import Derived.Deep.RegionLaw
namespace Go.Proofs.Ytkkjfbpflfknpaa
open Go.ChangeShapes Go.WideShapes Go.ChangeAt Go.RowKit

/- cells, a block of their own -/
def RowAt (w : World) (b : Nat) (t : TypeId) (cs : List Value) : Prop := w.heap[b]? = some (.cells cs.toArray t (0, 0))
def Ones (cs : List Value) : Prop := ∀ u ∈ cs, u.oneCell' = true
theorem Ones.append {a b : List Value} (h : Ones a) (g : Ones b) : Ones (a ++ b) := fun u hu => (List.mem_append.1 hu).elim (h u) (g u)
theorem Ones.take {a : List Value} (h : Ones a) (n : Nat) : Ones (a.take n) := fun u hu => h u (List.mem_of_mem_take hu)
theorem Ones.drop {a : List Value} (h : Ones a) (n : Nat) : Ones (a.drop n) := fun u hu => h u (List.mem_of_mem_drop hu)

theorem RowAt.lt {w : World} {b : Nat} {t : TypeId} {cs : List Value} (h : RowAt w b t cs) : b < w.heap.size := (Array.getElem?_eq_some_iff.1 h).1
theorem RowAt.cell {w : World} {b : Nat} {t : TypeId} {cs : List Value} (h : RowAt w b t cs) (j : Nat) : w.cell? ⟨b, j, none⟩ = cs[j]? := by
  rw [cell_of_row w b j _ _ _ h]
  simp
theorem RowAt.free {w : World} {b : Nat} {t : TypeId} {cs : List Value} (h : RowAt w b t cs) (j : Nat) : w.frozen? ⟨b, j, none⟩ = false := by
  unfold RowAt at h
  simp [World.frozen?, h]
theorem RowAt.keep {S : Nat → Prop} {w w' : World} {b : Nat} {t : TypeId} {cs : List Value} (h : RowAt w b t cs) (k : Kept S w w') (hS : ¬ S b) : RowAt w' b t cs := k.block h hS
theorem RowAt.new (w : World) (t : TypeId) (cs : List Value) : RowAt (w.alloc (.cells cs.toArray t)) w.heap.size t cs := heap_alloc_new w _
theorem RowAt.drew {w : World} {b : Nat} {t : TypeId} {cs : List Value} (h : RowAt w b t cs) : RowAt w.drew b t cs := h
theorem RowAt.set {w : World} {b : Nat} {t : TypeId} {cs : List Value} (h : RowAt w b t cs) (ds : List Value) : RowAt (w.setRow b ds.toArray) b t ds := setRow_heap w b _ _ _ _ h
theorem RowAt.setCell {w : World} {b : Nat} {t : TypeId} {cs : List Value} (h : RowAt w b t cs) (i : Nat) (u : Value) : RowAt (w.setCell ⟨b, i, none⟩ u) b t (cs.set i u) := by
  unfold RowAt
  rw [setCell_eq_setRow w b i _ _ _ _ h, setRow_heap w b _ _ _ _ h]
  simp
theorem kept_row (w : World) (b : Nat) (ds : Array Value) : Kept (· = b) w (w.setRow b ds) := (Kept.refl (· = b) w).setRow (fun _ => rfl) ds

theorem store_row {P : Program} {w : World} {b : Nat} {t : TypeId} {cs : List Value} (h : RowAt w b t cs) (o : Nat) (vs : List Value) (hl : o + vs.length ≤ cs.length) (h1 : Ones vs) :
    (storeCells ⟨b, o, none⟩ vs 0).run P w = .ok () (w.setRow b (splice cs o vs).toArray) := by
  have := run_storeCells_at P b o t vs 0 cs.toArray w h (by simpa using hl) h1
  simpa [splice] using this

theorem copy_rows {P : Program} {w : World} {b : Nat} {t : TypeId} {cur : List Value} (h : RowAt w b t cur) {dT : TypeId} (sT ty : TypeId) {e : TypeId} {k : Nat} (hu : P.underlying dT = some (.slice e)) (hs : (P.info? e).map (·.size) = some k)
    (o dLen dCap : Nat) (a : Addr) (sLen sCap : Nat) (cs : List Value) (hn : cs.length = Nat.min sLen dLen * k) (hsrc : ∀ j v, cs[j]? = some v → w.cell? (a.add j) = some v) (hfit : o + cs.length ≤ cur.length) (h1 : Ones cs) :
    (Builtin.copy_ #[dT, sT] ty #[.slice (some ⟨b, o, none⟩) dLen dCap, .slice (some a) sLen sCap]).run P w = .ok (goInt (Nat.min sLen dLen)) (w.setRow b (splice cur o cs).toArray) := by
  have hf := run_firstCells_some (P := P) w k (Nat.min sLen dLen) a sLen sCap cs hn hsrc
  have hst := store_row (P := P) h o cs hfit h1
  cases hq : P.info? e with
  | none => simp [hq] at hs
  | some i =>
    have hi : i.size = k := by simpa [hq] using hs
    subst hi
    simp [Builtin.copy_, run_underlying hu, Builtin.lenOf, sizeOf, typeInfo, hq, hf, hst]

def zrs (z : Value) (n : Nat) : List Value := (Builtin.zeroCells z.cells n).toList
theorem zrs_length (z : Value) (n : Nat) : (zrs z n).length = n * z.cells.size := by rw [zrs, Array.length_toList, size_zeroCells]
theorem zrs_ones {z : Value} (h1 : Ones z.cells.toList) (n : Nat) : Ones (zrs z n) := by
  intro u hu
  simp [zrs, Builtin.zeroCells] at hu
  obtain ⟨i, hi, rfl⟩ := hu
  have hp : 0 < z.cells.size := by
    rcases Nat.eq_zero_or_pos z.cells.size with h0 | h0
    · rw [h0] at hi; simp at hi
    · exact h0
  have hm : i % z.cells.size < z.cells.size := Nat.mod_lt _ hp
  rw [show z.cells[i % z.cells.size]! = z.cells[i % z.cells.size] by simp [hm]]
  exact h1 _ (by simp)
theorem clear_rows {P : Program} {w : World} {b : Nat} {t : TypeId} {cur : List Value} (h : RowAt w b t cur) {dT : TypeId} (ty : TypeId) {e : TypeId} {z : Value} (hu : P.underlying dT = some (.slice e)) (hz : ∀ w, (zeroValue e).run P w = .ok z w)
    (o n c : Nat) (hfit : o + n * z.cells.size ≤ cur.length) (h1 : Ones z.cells.toList) :
    (Builtin.clear_ #[dT] ty #[.slice (some ⟨b, o, none⟩) n c]).run P w = .ok (.tuple #[]) (w.setRow b (splice cur o (zrs z n)).toArray) := by
  have hl := zrs_length z n
  cases n with
  | zero =>
    have : zrs z 0 = [] := List.eq_nil_of_length_eq_zero (by rw [hl]; simp)
    rw [this]
    have hh : w.setRow b (splice cur o []).toArray = w := by
      have := setRow_self w b _ t (0, 0) h
      simpa [splice] using this
    rw [hh]
    simp [Builtin.clear_, run_underlying hu]
  | succ m =>
    have hst := store_row (P := P) h o (zrs z (m + 1)) (by rw [hl]; exact hfit) (zrs_ones h1 _)
    simp [zrs] at hst
    simp [Builtin.clear_, run_underlying hu, hz, hst, zrs]

/- the block that a slice lies in -/
def own : Value → Nat → Prop
  | .slice (some a) _ _ => fun j => j = a.block
  | _ => fun _ => False

/- a slice of n elements of k cells each, from the beginning of a block of its own on; or nil -/
structure SRow (t : TypeId) (k : Nat) (w : World) (v : Value) (n : Nat) (cs : List Value) : Prop where
  is : (v = .slice none 0 0 ∧ n = 0) ∨ ∃ b cap rest, v = .slice (some ⟨b, 0, none⟩) n cap ∧ RowAt w b t (cs ++ rest) ∧ n * k + rest.length = cap * k ∧ n ≤ cap ∧ cap ≤ maxLen
  len : cs.length = n * k
  one : Ones cs

theorem SRow.own_lt {t : TypeId} {k : Nat} {w : World} {v : Value} {n : Nat} {cs : List Value} (h : SRow t k w v n cs) (j : Nat) (hj : own v j) : j < w.heap.size := by
  rcases h.is with ⟨rfl, _⟩ | ⟨b, cap, rest, rfl, hr, _⟩
  · exact hj.elim
  · simp [own] at hj
    subst hj
    exact hr.lt
theorem SRow.keep {S : Nat → Prop} {t : TypeId} {k : Nat} {w w' : World} {v : Value} {n : Nat} {cs : List Value} (h : SRow t k w v n cs) (kp : Kept S w w') (hS : ∀ j, own v j → ¬ S j) : SRow t k w' v n cs := by
  refine ⟨?_, h.len, h.one⟩
  rcases h.is with h0 | ⟨b, cap, rest, rfl, hr, h1⟩
  · exact .inl h0
  · exact .inr ⟨b, cap, rest, rfl, hr.keep kp (hS b rfl), h1⟩
theorem SRow.nil (t : TypeId) (k : Nat) (w : World) : SRow t k w (.slice none 0 0) 0 [] := ⟨.inl ⟨rfl, rfl⟩, by simp, fun _ h => by cases h⟩
theorem SRow.shape {t : TypeId} {k : Nat} {w : World} {v : Value} {n : Nat} {cs : List Value} (h : SRow t k w v n cs) : ∃ a c, v = .slice a n c ∧ n ≤ c ∧ c ≤ maxLen := by
  rcases h.is with ⟨rfl, rfl⟩ | ⟨b, cap, rest, rfl, _, _, h1, h2⟩
  · exact ⟨none, 0, rfl, Nat.le_refl _, Nat.zero_le _⟩
  · exact ⟨_, cap, rfl, h1, h2⟩
theorem SRow.cell {t : TypeId} {k : Nat} {w : World} {v : Value} {n : Nat} {cs : List Value} (h : SRow t k w v n cs) (hn : 0 < n) : ∃ b cap, v = .slice (some ⟨b, 0, none⟩) n cap ∧ b < w.heap.size ∧ n ≤ cap ∧ cap ≤ maxLen ∧ ∀ j, j < n * k → w.cell? ⟨b, j, none⟩ = cs[j]? := by
  rcases h.is with ⟨rfl, rfl⟩ | ⟨b, cap, rest, rfl, hr, _, h1, h2⟩
  · omega
  · refine ⟨b, cap, rfl, hr.lt, h1, h2, fun j hj => ?_⟩
    rw [hr.cell, List.getElem?_append_left (by rw [h.len]; exact hj)]

/- what is handed to append: some of a slice's elements -/
theorem SRow.src {P : Program} {t tx e' : TypeId} {k : Nat} {w : World} {v : Value} {n : Nat} {cs : List Value} (h : SRow t k w v n cs) (hk : P.underlying tx = some (.slice e')) : Src P k tx v n cs w := by
  rcases h.is with ⟨rfl, rfl⟩ | ⟨b, cap, rest, rfl, hr, _⟩
  · have : cs = [] := List.eq_nil_of_length_eq_zero (by rw [h.len]; simp)
    subst this
    exact Src.ofNil w hk 0
  · refine Src.ofSlice w hk _ n cap cs h.len (fun j u hu => ?_) h.one
    rw [Addr.add_lit, Nat.zero_add, hr.cell, List.getElem?_append_left (List.getElem?_eq_some_iff.1 hu).1, hu]

theorem splice_end (cs rest news : List Value) : splice (cs ++ rest) cs.length news = cs ++ news ++ rest.drop news.length := by
  simp [splice]

/- append where there is room -/
theorem append_room {P : Program} {t e : TypeId} {k : Nat} {w : World} {b n cap : Nat} {cs rest : List Value} (hr : RowAt w b e (cs ++ rest)) (hl : cs.length = n * k) (tx ty : TypeId) (ht : P.underlying t = some (.slice e)) (hi : (P.info? e).map (·.size) = some k)
    {x : Value} {m : Nat} {news : List Value} (hs : Src P k tx x m news w) (hfit : m * k ≤ rest.length) (hroom : n + m ≤ cap) :
    (Builtin.append_ #[t, tx] ty #[.slice (some ⟨b, 0, none⟩) n cap, x]).run P w = .ok (.slice (some ⟨b, 0, none⟩) (n + m) cap) (w.setRow b (cs ++ news ++ rest.drop news.length).toArray) := by
  cases hq : P.info? e with
  | none => simp [hq] at hi
  | some i =>
    obtain hi2 : i.size = k := by simpa [hq] using hi
    subst hi2
    have hst := store_row (P := P) hr (n * i.size) news (by rw [List.length_append, hl, hs.newsLen]; omega) hs.one
    rw [← hl, splice_end, hl] at hst
    rcases hs.kind with ⟨e', hk⟩ | hk <;> simp [Builtin.append_, run_underlying ht, run_underlying hk, sizeOf, typeInfo, hq, hs.len, hroom, hs.cells, Addr.add_lit] <;> simp [hst]

/- an append whose run is known, as a step of a region that draws its order -/
theorem step_append {P : Program} {ops : Array Oper} {o : Oper} {a : Act} {w : World} {K : Act → World → Prop} {Q : Exit → Act → World → Prop} {E : Prop} (hg : o.guard = none) (s x : Operand) (t tx : TypeId)
    (hop : o.op = Op.call { callee := Callee.builtin Builtin.append, args := #[s, x], argTypes := #[t, tx] }) (vs vx : Value) (hs : a.eval s = vs) (hx : a.eval x = vx) {v' : Value} {w' : World}
    (hr : (Builtin.append_ #[t, tx] o.type #[vs, vx]).run P w = .ok v' w') (hK : K (a.put o.dst v') w') : if Region.wanted o (yielded ops a.tmps) = true then Oper.wp P o a w K Q else E := by
  have hw : Region.wanted o (yielded ops a.tmps) = true := by simp [Region.wanted, hg]
  rw [if_pos hw]
  unfold Oper.wp
  simp [execOp, hop, resolve, invoke, builtin, hs, hx, hr, Result.andThen]
  exact hK

set_option maxHeartbeats 400000 in
theorem SRow.append {P : Program} {t e : TypeId} {k : Nat} {w : World} {v : Value} {n : Nat} {cs : List Value} (h : SRow e k w v n cs) (tx ty : TypeId) (ht : P.underlying t = some (.slice e)) {z : Value} {by_ : Nat}
    (hi : (P.info? e).map (fun i => (i.zero, i.size, i.bytes)) = some (some z, k, by_)) (hz : z.cells.size = k) (hb : by_ ≤ 4096) {x : Value} {m : Nat} {news : List Value} (hs : Src P k tx x m news w) (hm : 0 < m ∨ v ≠ .slice none 0 0) (small : n + m ≤ 1000000) :
    ∃ v' w', (Builtin.append_ #[t, tx] ty #[v, x]).run P w = .ok v' w' ∧ SRow e k w' v' (n + m) (cs ++ news) ∧ Kept (own v) w w' ∧ (∀ j, own v' j → own v j ∨ w.heap.size ≤ j) ∧ v' ≠ .slice none 0 0 := by
  cases hq : P.info? e with
  | none => simp [hq] at hi
  | some i =>
    obtain ⟨hi1, hi2, hi3⟩ : i.zero = some z ∧ i.size = k ∧ i.bytes = by_ := by simpa [hq] using hi
    subst hi2
    have hlen : (cs ++ news).length = (n + m) * i.size := by rw [List.length_append, h.len, hs.newsLen, Nat.add_mul]
    have grow : ∀ (base : Option Addr) (cap : Nat), v = .slice base n cap → cap < n + m → (Builtin.firstCells i.size n (.slice base n cap)).run P w.drew = .ok cs.toArray w.drew → ∃ v' w', (Builtin.append_ #[t, tx] ty #[v, x]).run P w = .ok v' w' ∧ SRow e i.size w' v' (n + m) (cs ++ news) ∧ Kept (own v) w w' ∧ (∀ j, own v' j → own v j ∨ w.heap.size ≤ j) ∧ v' ≠ .slice none 0 0 := by
      intro base cap hv hcap hold
      have hfit : Builtin.nextslicecap (n + m) cap * i.bytes ≤ 281474976710656 := growslice_fits hcap (by rw [hi3]; exact Nat.le_trans (Nat.mul_le_mul small hb) (by decide))
      have hr := run_append_grow_src (P := P) w t tx ty e i z ht hq hi1 base n cap cs hold x m news hs hcap (by omega) hfit
      refine ⟨_, _, by rw [hv]; exact hr, ⟨.inr ⟨w.heap.size, grownCap w (n + m) cap e, (Builtin.zeroCells z.cells (grownCap w (n + m) cap e - (n + m))).toList, rfl, ?_, ?_, grownCap_ge _ _ _ _, grownCap_le_maxLen _ _ _ _ (by simp [maxLen]; omega)⟩, hlen, h.one.append hs.one⟩, ((Kept.refl _ _).drew).alloc _, fun j hj => ?_, by simp⟩
      · have := RowAt.new w.drew e (cs ++ news ++ (Builtin.zeroCells z.cells (grownCap w (n + m) cap e - (n + m))).toList)
        have e1 : (cs ++ news).toArray ++ Builtin.zeroCells z.cells (grownCap w (n + m) cap e - (n + m)) = (cs ++ news ++ (Builtin.zeroCells z.cells (grownCap w (n + m) cap e - (n + m))).toList).toArray := by
          apply Array.ext'
          simp
        rw [e1]
        exact this
      · rw [Array.length_toList, size_zeroCells, hz, ← Nat.add_mul]
        have := grownCap_ge w (n + m) cap e
        congr 1
        omega
      · simp [own] at hj
        right
        omega
    rcases h.is with ⟨rfl, rfl⟩ | ⟨b, cap, rest, rfl, hr, h1, h2, h3⟩
    · have hm0 : 0 < m := by
        rcases hm with hm | hm
        · exact hm
        · exact absurd rfl hm
      have : cs = [] := List.eq_nil_of_length_eq_zero (by rw [h.len]; simp)
      subst this
      exact grow none 0 rfl (by omega) (run_firstCells_none w.drew i.size 0 0 0)
    · by_cases hroom : n + m ≤ cap
      · have hfit : n * i.size + news.length ≤ (cs ++ rest).length := by
          rw [List.length_append, h.len, h1, hs.newsLen, ← Nat.add_mul]
          exact Nat.mul_le_mul_right _ hroom
        have hst := store_row (P := P) hr (n * i.size) news hfit hs.one
        rw [← h.len, splice_end, h.len] at hst
        refine ⟨.slice (some ⟨b, 0, none⟩) (n + m) cap, w.setRow b (cs ++ news ++ rest.drop news.length).toArray, ?_, ⟨.inr ⟨b, cap, rest.drop news.length, rfl, hr.set _, ?_, hroom, h3⟩, hlen, h.one.append hs.one⟩, kept_row w b _, fun j hj => .inl hj, by simp⟩
        · rcases hs.kind with ⟨e', hk⟩ | hk <;> simp [Builtin.append_, run_underlying ht, run_underlying hk, sizeOf, typeInfo, hq, hs.len, hroom, hs.cells, Addr.add_lit] <;> simp [hst]
        · rw [List.length_drop, hs.newsLen, Nat.add_mul]
          have : m * i.size ≤ rest.length := by
            have := Nat.mul_le_mul_right i.size hroom
            rw [Nat.add_mul] at this
            omega
          omega
      · refine grow _ cap rfl (by omega) (run_firstCells_some w.drew i.size n ⟨b, 0, none⟩ n cap cs h.len (fun j u hu => ?_))
        rw [Addr.add_lit, Nat.zero_add, hr.drew.cell, List.getElem?_append_left (List.getElem?_eq_some_iff.1 hu).1, hu]
end Go.Proofs.Ytkkjfbpflfknpaa
