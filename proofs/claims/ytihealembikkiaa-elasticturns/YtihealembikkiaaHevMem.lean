
/-
  Items as they lie in memory: a key and a number each, as a list; and such that a call makes, one behind the other. Of no layer but for the type's number.
-/
import Derived.Test.YtihealembikkiaaHevNum
import Derived.Test.YtihealembikkiaaMemKit
import Derived.Deep.AppendLies
import Derived.OwnWalk
namespace Go.Proofs.Ytihealembikkiaa.L14
open Go.RowKit Hv Go.Deep
set_option linter.unusedVariables false
set_option maxRecDepth 20000

/-- The cells of items. -/
def lCells : List Itm → List Value
  | [] => []
  | x :: r => .string x.k :: .int .i64 x.c :: lCells r
theorem lCells_len : ∀ l, (lCells l).length = l.length * 2
  | [] => rfl
  | x :: r => by rw [lCells, List.length_cons, List.length_cons, lCells_len r, List.length_cons]; omega
theorem lCells_append : ∀ l m, lCells (l ++ m) = lCells l ++ lCells m
  | [], m => rfl
  | x :: r, m => by rw [List.cons_append, lCells, lCells, lCells_append r m]; rfl
theorem lCells_get : ∀ (l : List Itm) (i : Nat) (x : Itm), l[i]? = some x → (lCells l)[i * 2]? = some (.string x.k) ∧ (lCells l)[i * 2 + 1]? = some (.int .i64 x.c)
  | [], i, x, h => by simp at h
  | y :: r, 0, x, h => by
    simp at h
    subst h
    exact ⟨rfl, rfl⟩
  | y :: r, i + 1, x, h => by
    rw [List.getElem?_cons_succ] at h
    obtain ⟨h1, h2⟩ := lCells_get r i x h
    rw [lCells, show (i + 1) * 2 = i * 2 + 1 + 1 by omega]
    simp only [List.getElem?_cons_succ]
    exact ⟨h1, h2⟩
/-- Items that can be read, whoever made them. -/
def ItsL (w : World) (v : Value) (l : List Itm) : Prop :=
  ∃ A cap b o, v = .slice A l.length cap ∧ l.length ≤ cap ∧ (0 < l.length → A = some ⟨b, o, none⟩) ∧ ∀ i x, l[i]? = some x → w.cell? ⟨b, o + i * 2, none⟩ = some (.string x.k) ∧ w.cell? ⟨b, o + i * 2 + 1, none⟩ = some (.int .i64 x.c)
theorem ItsL.keep {w w' : World} {v : Value} {l : List Itm} (h : ItsL w v l) (k : Keep w w') : ItsL w' v l := by
  obtain ⟨A, cap, b, o, h1, h2, h3, h4⟩ := h
  exact ⟨A, cap, b, o, h1, h2, h3, fun i x hi => ⟨k _ _ (h4 i x hi).1, k _ _ (h4 i x hi).2⟩⟩
theorem its_none (w : World) : ItsL w (.slice none 0 0) [] := ⟨none, 0, 0, 0, rfl, Nat.le_refl _, fun h => by simp at h, fun i x h => by simp at h⟩
/-- The first ones. -/
theorem ItsL.take {w : World} {A : Option Addr} {n cap : Nat} {l : List Itm} (h : ItsL w (.slice A n cap) l) (k : Nat) (hk : k ≤ l.length) : ItsL w (.slice A k cap) (l.take k) := by
  obtain ⟨A', cap', b, o, h1, h2, h3, h4⟩ := h
  cases h1
  have e : (l.take k).length = k := by rw [List.length_take]; omega
  refine ⟨A, cap, b, o, by rw [e], by omega, fun z => h3 (by omega), fun i x hi => h4 i x ?_⟩
  rw [List.getElem?_take] at hi
  split at hi
  · exact hi
  · cases hi
theorem owns_its {w : World} {N : Nat} {t : TypeId} {v : Value} {l : List Itm} (h : w.ownsRow N t 2 v l.length (lCells l)) : ItsL w v l := by
  rcases h.2 with ⟨rfl, h0⟩ | ⟨g, cap, cur, rfl, _, hg, hn, _, _, hx⟩
  · exact ⟨none, 0, 0, 0, by rw [h0], by omega, fun z => by omega, fun i x hi => by have := (List.getElem?_eq_some_iff.1 hi).1; omega⟩
  · refine ⟨_, cap, g, 0, rfl, hn, fun _ => rfl, fun i x hi => ?_⟩
    have li := (List.getElem?_eq_some_iff.1 hi).1
    obtain ⟨g1, g2⟩ := lCells_get l i x hi
    have ll := lCells_len l
    have e1 := h.cellAt (j := i * 2) (by omega)
    have e2 := h.cellAt (j := i * 2 + 1) (by omega)
    rw [Nat.zero_add, e1, e2]
    exact ⟨g1, g2⟩
theorem new_it (w : World) (t : TypeId) (x y : Value) : ∀ (j : Nat) (u : Value), [x, y][j]? = some u → (w.alloc (.cells #[x, y] t)).cell? ((⟨w.heap.size, 0, none⟩ : Addr).add j) = some u :=
  World.news_of_block (w := w.alloc (.cells #[x, y] t)) (cs := #[x, y]) (t := t) (fr := (0, 0)) (blk_alloc_new w _)
theorem it_cell (a : ByteArray) (b : Int) : ∀ u ∈ [Value.string a, Value.int .i64 b], u.oneCell' = true := fun u hu => by
  simp at hu
  rcases hu with rfl | rfl <;> rfl
/-- Items that the call makes. -/
structure GrowL (t : TypeId) (w wr : World) (v : Value) (l : List Itm) : Prop where
  own : wr.ownsRow w.heap.size t 2 v l.length (lCells l)
  since : Below w.heap.size w wr
theorem growL_start (t : TypeId) (w : World) : GrowL t w w (.slice none 0 0) [] := ⟨World.ownsRow_nil w _ _ _, Below.refl _ _⟩
theorem GrowL.its {t : TypeId} {w wr : World} {v : Value} {l : List Itm} (h : GrowL t w wr v l) : ItsL wr v l := owns_its h.own
theorem GrowL.step {t : TypeId} {w wr w1 : World} {v : Value} {g cap : Nat} {l : List Itm} {x : Itm} {b : Obj} (h : GrowL t w wr v l)
    (hown : w1.ownsRow w.heap.size t 2 (.slice (some ⟨g, 0, none⟩) (l.length + 1) cap) (l.length + 1) (lCells l ++ [.string x.k, .int .i64 x.c])) (hg : (wr.alloc b).grownBy w1 v.ownBlock) : GrowL t w w1 (.slice (some ⟨g, 0, none⟩) (l.length + 1) cap) (l ++ [x]) := by
  have z := h.since.size
  have e : lCells (l ++ [x]) = lCells l ++ [.string x.k, .int .i64 x.c] := lCells_append l [x]
  refine ⟨?_, (h.since.alloc z b).grown hg (by simp; omega) fun p e => (h.own.lt p e).1⟩
  rw [e, List.length_append, List.length_singleton]
  exact hown
theorem GrowL.keep {t : TypeId} {w wr w2 : World} {v : Value} {l : List Itm} (h : GrowL t w wr v l) (s : Below wr.heap.size wr w2) : GrowL t w w2 v l :=
  ⟨h.own.kept (row := none) ⟨s.os, s.tape, s.output, s.size, fun k hk _ => s.block k hk⟩ (by cases v.ownBlock <;> simp), bel_trans h.since s⟩
theorem owns_of {w w' : World} {base : Nat} {t : TypeId} {size : Nat} {v : Value} {n : Nat} {xs : List Value} (h : w.ownsRow base t size v n xs) (e : ∀ g, v.ownBlock = some g → w'.heap[g]? = w.heap[g]?) : w'.ownsRow base t size v n xs := by
  refine ⟨h.1, ?_⟩
  rcases h.2 with h0 | ⟨g, cap, cur, hv, hg, hh, r⟩
  · exact Or.inl h0
  · exact Or.inr ⟨g, cap, cur, hv, hg, by rw [e g (by rw [hv]; rfl)]; exact hh, r⟩
end Go.Proofs.Ytihealembikkiaa.L14
