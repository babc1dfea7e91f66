
/-
  Items that a call makes: a key and a number each, one behind the other.
-/
import Derived.Test.YtpjpgcjlbfgkdaaSgnMem
import Derived.Test.YtpjpgcjlbfgkdaaLstOpen
import Derived.Test.YtpjpgcjlbfgkdaaHeldKit
namespace Go.Proofs.Ytpjpgcjlbfgkdaa
open Go.RowKit Fm Bl Sg L2 Go.Deep
set_option linter.unusedVariables false

/-- The cells of items. -/
def itCells (K : Nat → ByteArray) (q : Nat → Int) : Nat → List Value
  | 0 => []
  | k + 1 => itCells K q k ++ [.string (K k), .int .i64 (q k)]
theorem itCells_len (K : Nat → ByteArray) (q : Nat → Int) : ∀ k, (itCells K q k).length = k * 2
  | 0 => rfl
  | k + 1 => by rw [itCells, List.length_append, itCells_len K q k]; simp; omega
theorem itCells_get (K : Nat → ByteArray) (q : Nat → Int) : ∀ k i, i < k → (itCells K q k)[i * 2]? = some (.string (K i)) ∧ (itCells K q k)[i * 2 + 1]? = some (.int .i64 (q i))
  | 0, i, h => by omega
  | k + 1, i, h => by
    have l := itCells_len K q k
    rw [itCells]
    by_cases e : i = k
    · subst e
      rw [List.getElem?_append_right (by omega), List.getElem?_append_right (by omega), l, Nat.sub_self, show i * 2 + 1 - i * 2 = 1 by omega]
      exact ⟨rfl, rfl⟩
    · rw [List.getElem?_append_left (by omega), List.getElem?_append_left (by omega)]
      exact itCells_get K q k i (by omega)
theorem owns_items {w : World} {N : Nat} {t : TypeId} {v : Value} {k : Nat} {K : Nat → ByteArray} {q : Nat → Int} (h : w.ownsRow N t 2 v k (itCells K q k)) : ItAt w v k K q := by
  rcases h.2 with ⟨rfl, rfl⟩ | ⟨g, cap, cur, rfl, _, hg, hn, _, _, hx⟩
  · exact ⟨_, 0, 0, 0, rfl, Nat.le_refl _, fun h => by omega, fun c h => by omega⟩
  · refine ⟨_, cap, g, 0, rfl, hn, fun _ => rfl, fun i hi => ?_⟩
    obtain ⟨g1, g2⟩ := itCells_get K q k i hi
    have l := itCells_len K q k
    have e1 := h.cellAt (j := i * 2) (by omega)
    have e2 := h.cellAt (j := i * 2 + 1) (by omega)
    rw [Nat.zero_add, e1, e2]
    exact ⟨g1, g2⟩
theorem new_item (w : World) (t : TypeId) (x y : Value) : ∀ (j : Nat) (u : Value), [x, y][j]? = some u → (w.alloc (.cells #[x, y] t)).cell? ((⟨w.heap.size, 0, none⟩ : Addr).add j) = some u :=
  World.news_of_block (w := w.alloc (.cells #[x, y] t)) (cs := #[x, y]) (t := t) (fr := (0, 0)) (blk_alloc_new w _)
theorem item_cell (a : ByteArray) (b : Int) : ∀ u ∈ [Value.string a, Value.int .i64 b], u.oneCell' = true := fun u hu => by
  simp at hu
  rcases hu with rfl | rfl <;> rfl
theorem infoIT0 : (Try.prog.info? 54).map (fun i => (i.zero, i.size, i.bytes)) = some (some (.agg #[.string ⟨#[]⟩, .int .i64 0]), 2, 24) := by kernel_rfl
theorem infoIT : ∃ i, Try.prog.info? 54 = some i ∧ i.zero = some (.agg #[.string ⟨#[]⟩, .int .i64 0]) ∧ i.size = 2 ∧ i.bytes = 24 := by
  obtain ⟨i, hi, hzz⟩ := Option.map_eq_some_iff.1 infoIT0
  simp only [Prod.mk.injEq] at hzz
  exact ⟨i, hi, hzz⟩
/-- Items that the call makes. -/
structure GrowT (w wr : World) (v : Value) (k : Nat) (K : Nat → ByteArray) (q : Nat → Int) : Prop where
  own : wr.ownsRow w.heap.size 54 2 v k (itCells K q k)
  since : Below w.heap.size w wr
theorem growT_start (w : World) (K : Nat → ByteArray) (q : Nat → Int) : GrowT w w (.slice none 0 0) 0 K q := ⟨World.ownsRow_nil w _ _ _, Below.refl _ _⟩
theorem GrowT.step {w wr w1 : World} {v : Value} {k g cap : Nat} {K : Nat → ByteArray} {q : Nat → Int} {s : ByteArray} {x : Int} {a b : Obj} (h : GrowT w wr v k K q) (hs : s = K k) (hx : x = q k)
    (hown : w1.ownsRow w.heap.size 54 2 (.slice (some ⟨g, 0, none⟩) (k + 1) cap) (k + 1) (itCells K q k ++ [.string s, .int .i64 x])) (hg : ((wr.alloc a).alloc b).grownBy w1 v.ownBlock) : GrowT w w1 (.slice (some ⟨g, 0, none⟩) (k + 1) cap) (k + 1) K q := by
  rw [hs, hx] at hown
  have z := h.since.size
  exact ⟨hown, ((h.since.alloc z a).alloc (by simp; omega) b).grown hg (by simp; omega) fun p e => (h.own.lt p e).1⟩
end Go.Proofs.Ytpjpgcjlbfgkdaa
