
/-
  A frame as the document's: what the laws' own function makes of one; and that frames that are alike are told to be so.
-/
import Derived.Test.YticopigpgaomjaaEthRight
namespace Go.Proofs.Yticopigpgaomjaa.L5
open Go.RowKit Oc Et Go.Deep
set_option linter.unusedVariables false

/-- A block that is known whole, nothing of it frozen. -/
def Blk (w : World) (g : Nat) (t : TypeId) (cs : Array Value) : Prop := w.heap[g]? = some (.cells cs t (0, 0))
theorem Blk.cell {w : World} {g : Nat} {t : TypeId} {cs : Array Value} (h : Blk w g t cs) (i : Nat) : w.cell? ⟨g, i, none⟩ = cs[i]? := cell_of_row w g i cs t (0, 0) h
theorem Blk.frozen {w : World} {g : Nat} {t : TypeId} {cs : Array Value} (h : Blk w g t cs) (i : Nat) : w.frozen? ⟨g, i, none⟩ = false := frozen_of_row w g i cs t h
theorem Blk.lt {w : World} {g : Nat} {t : TypeId} {cs : Array Value} (h : Blk w g t cs) : g < w.heap.size := by
  rcases Nat.lt_or_ge g w.heap.size with hlt | hge
  · exact hlt
  · unfold Blk at h; rw [Array.getElem?_eq_none hge] at h; cases h
theorem Blk.of {w w' : World} {g : Nat} {t : TypeId} {cs : Array Value} (h : Blk w g t cs) (e : w'.heap[g]? = w.heap[g]?) : Blk w' g t cs := by unfold Blk; rw [e]; exact h
theorem Blk.new (w : World) (t : TypeId) (cs : Array Value) : Blk (w.alloc (.cells cs t)) w.heap.size t cs := blk_alloc_new w _
theorem Blk.alloc {w : World} {g : Nat} {t : TypeId} {cs : Array Value} (h : Blk w g t cs) (o : Obj) : Blk (w.alloc o) g t cs := h.of (Below.heap_alloc w o g h.lt)
theorem Blk.other {w : World} {g : Nat} {t : TypeId} {cs : Array Value} (h : Blk w g t cs) {a : Addr} (ha : g ≠ a.block) (v : Value) : Blk (w.setCell a v) g t cs := h.of (Below.heap_setCell w a v g ha)
theorem Blk.set {w : World} {g : Nat} {t : TypeId} {cs : Array Value} (h : Blk w g t cs) (i : Nat) (v : Value) : Blk (w.setCell ⟨g, i, none⟩ v) g t (cs.setIfInBounds i v) := by
  unfold Blk at h ⊢
  simp [World.setCell, Array.getElem?_modify, h]
theorem Blk.grown {w w' : World} {g : Nat} {t : TypeId} {cs : Array Value} {row : Option Nat} (h : Blk w g t cs) (hg : w.grownBy w' row) (hr : some g ≠ row) : Blk w' g t cs := h.of (hg.block g h.lt hr)
theorem Blk.below {w w' : World} {B g : Nat} {t : TypeId} {cs : Array Value} (h : Blk w g t cs) (hb : Below B w w') (hr : g < B) : Blk w' g t cs := h.of (hb.block g hr)

/-- The cells of tags. -/
def tagCells (K V : Nat → Int) : Nat → List Value
  | 0 => []
  | k + 1 => tagCells K V k ++ [.int .i64 (K k), .int .i64 (V k)]
theorem tagCells_len (K V : Nat → Int) : ∀ k, (tagCells K V k).length = k * 2
  | 0 => rfl
  | k + 1 => by rw [tagCells, List.length_append, tagCells_len K V k]; simp; omega
theorem tagCells_get (K V : Nat → Int) : ∀ k i, i < k → (tagCells K V k)[i * 2]? = some (.int .i64 (K i)) ∧ (tagCells K V k)[i * 2 + 1]? = some (.int .i64 (V i))
  | 0, i, h => by omega
  | k + 1, i, h => by
    have l := tagCells_len K V k
    rw [tagCells]
    by_cases e : i = k
    · subst e
      rw [List.getElem?_append_right (by omega), List.getElem?_append_right (by omega), l, Nat.sub_self, show i * 2 + 1 - i * 2 = 1 by omega]
      exact ⟨rfl, rfl⟩
    · rw [List.getElem?_append_left (by omega), List.getElem?_append_left (by omega)]
      exact tagCells_get K V k i (by omega)
theorem owns_tags {w : World} {N : Nat} {t : TypeId} {v : Value} {k : Nat} {K V : Nat → Int} (h : w.ownsRow N t 2 v k (tagCells K V k)) : TagsAt w v k K V := by
  rcases h.2 with ⟨rfl, rfl⟩ | ⟨g, cap, cur, rfl, _, hg, hn, _, _, hx⟩
  · exact ⟨_, 0, 0, 0, rfl, Nat.le_refl _, fun h => by omega, fun c h => by omega⟩
  · refine ⟨_, cap, g, 0, rfl, hn, fun _ => rfl, fun i hi => ?_⟩
    obtain ⟨g1, g2⟩ := tagCells_get K V k i hi
    have e1 := h.cellAt (j := i * 2) (by omega)
    have e2 := h.cellAt (j := i * 2 + 1) (by omega)
    rw [Nat.zero_add, e1, e2]
    exact ⟨g1, g2⟩
theorem new_tag (w : World) (t : TypeId) (x y : Value) : ∀ (j : Nat) (u : Value), [x, y][j]? = some u → (w.alloc (.cells #[x, y] t)).cell? ((⟨w.heap.size, 0, none⟩ : Addr).add j) = some u :=
  World.news_of_block (w := w.alloc (.cells #[x, y] t)) (cs := #[x, y]) (t := t) (fr := (0, 0)) (blk_alloc_new w _)
theorem tag_cell (a b : Int) : ∀ u ∈ [Value.int .i64 a, Value.int .i64 b], u.oneCell' = true := fun u hu => by
  simp at hu
  rcases hu with rfl | rfl <;> rfl
theorem infoT (t : TypeId) (h : (Try.prog.info? t).map (fun i => (i.zero, i.size, i.bytes)) = some (some (.agg #[.int .i64 0, .int .i64 0]), 2, 16)) : ∃ i, Try.prog.info? t = some i ∧ i.zero = some (.agg #[.int .i64 0, .int .i64 0]) ∧ i.size = 2 ∧ i.bytes = 16 := by
  obtain ⟨i, hi, hzz⟩ := Option.map_eq_some_iff.1 h
  simp only [Prod.mk.injEq] at hzz
  exact ⟨i, hi, hzz⟩
theorem info53 : ∃ i, Try.prog.info? 92 = some i ∧ i.zero = some (.agg #[.int .i64 0, .int .i64 0]) ∧ i.size = 2 ∧ i.bytes = 16 := infoT 92 (by kernel_rfl)
theorem info45 : ∃ i, Try.prog.info? 83 = some i ∧ i.zero = some (.agg #[.int .i64 0, .int .i64 0]) ∧ i.size = 2 ∧ i.bytes = 16 := infoT 83 (by kernel_rfl)

/-- What the loop of 'ref' keeps. -/
structure RefIn (w wr : World) (ds ss v T : Value) (k : Nat) (K V : Nat → Int) : Prop where
  since : Below w.heap.size w wr
  size : w.heap.size + 3 ≤ wr.heap.size
  res : Blk wr (w.heap.size + 1) 58 #[.string ⟨#[]⟩, .string ⟨#[]⟩, .slice none 0 0, .int .i64 0]
  fr : Blk wr (w.heap.size + 1 + 1) 58 #[ds, ss, v, T]
  own : wr.ownsRow (w.heap.size + 3) 92 2 v k (tagCells K V k)

theorem RefIn.step {w wr w1 : World} {ds ss v T v' : Value} {k : Nat} {K V : Nat → Int} {a b : Obj} (h : RefIn w wr ds ss v T k K V)
    (hown : w1.ownsRow (w.heap.size + 3) 92 2 v' (k + 1) (tagCells K V k ++ [.int .i64 (K k), .int .i64 (V k)])) (hg : ((wr.alloc a).alloc b).grownBy w1 v.ownBlock) :
    Blk w1 (w.heap.size + 1 + 1) 58 #[ds, ss, v, T] ∧ RefIn w (w1.setCell ⟨w.heap.size + 1 + 1, 2, none⟩ v') ds ss v' T (k + 1) K V := by
  have far : ∀ q, v.ownBlock = some q → w.heap.size + 3 ≤ q := fun q e => (h.own.lt q e).1
  have sz := h.size
  have b1 : Blk w1 (w.heap.size + 1) 58 #[.string ⟨#[]⟩, .string ⟨#[]⟩, .slice none 0 0, .int .i64 0] := ((h.res.alloc a).alloc b).grown hg fun e => by have := far _ e.symm; omega
  have b2 : Blk w1 (w.heap.size + 1 + 1) 58 #[ds, ss, v, T] := ((h.fr.alloc a).alloc b).grown hg fun e => by have := far _ e.symm; omega
  have s1 : Below w.heap.size w w1 := ((h.since.alloc h.since.size a).alloc (by have := h.since.size; simp; omega) b).grown hg (by have := h.since.size; simp; omega) fun q e => by have := far q e; omega
  have z1 := hg.size
  simp only [World.size_alloc] at z1
  refine ⟨b2, s1.setCell (by show w.heap.size ≤ w.heap.size + 1 + 1; omega) _, ?_, b1.other (by show w.heap.size + 1 ≠ w.heap.size + 1 + 1; omega) _, b2.set 2 v', ownsRow_setCell_below hown (by show w.heap.size + 1 + 1 < w.heap.size + 3; omega) _⟩
  have : (w1.setCell ⟨w.heap.size + 1 + 1, 2, none⟩ v').heap.size = w1.heap.size := by simp [World.setCell]
  omega

/-- Four stores into a block of the call's own. -/
def put4 (w : World) (g : Nat) (a b c d : Value) : World := (((w.setCell ⟨g, 0, none⟩ a).setCell ⟨g, 1, none⟩ b).setCell ⟨g, 2, none⟩ c).setCell ⟨g, 3, none⟩ d
theorem put4_below {B : Nat} {w wr : World} {g : Nat} (h : Below B w wr) (hg : B ≤ g) (a b c d : Value) : Below B w (put4 wr g a b c d) :=
  (((h.setCell (by exact hg) a).setCell (by exact hg) b).setCell (by exact hg) c).setCell (by exact hg) d
theorem put4_owns {w : World} {g base : Nat} {e : TypeId} {size : Nat} {v : Value} {n : Nat} {xs : List Value} (h : w.ownsRow base e size v n xs) (hg : g < base) (a b c d : Value) : (put4 w g a b c d).ownsRow base e size v n xs :=
  ownsRow_setCell_below (ownsRow_setCell_below (ownsRow_setCell_below (ownsRow_setCell_below h (by exact hg) a) (by exact hg) b) (by exact hg) c) (by exact hg) d
theorem put4_blk {w : World} {g : Nat} {t : TypeId} {x y z u : Value} (h : Blk w g t #[x, y, z, u]) (a b c d : Value) : Blk (put4 w g a b c d) g t #[a, b, c, d] :=
  (((h.set 0 a).set 1 b).set 2 c).set 3 d
theorem RefIn.four {w wr : World} {ds ss v T : Value} {k : Nat} {K V : Nat → Int} (h : RefIn w wr ds ss v T k K V) (g : Nat) (h1 : w.heap.size ≤ g) (h2 : g < w.heap.size + 3) (a b c d : Value) {x y z u : Value} {t : TypeId} (hb : Blk wr g t #[x, y, z, u]) :
    Below w.heap.size w (put4 wr g a b c d) ∧ (put4 wr g a b c d).ownsRow (w.heap.size + 3) 92 2 v k (tagCells K V k) ∧ Blk (put4 wr g a b c d) g t #[a, b, c, d] :=
  ⟨put4_below h.since h1 a b c d, put4_owns h.own h2 a b c d, put4_blk hb a b c d⟩

/-- A frame that is made. -/
def NewF (w : World) (F : Fr) (e : Ending) (w' : World) : Prop := ∃ x, e = .returned x ∧ FrameAt w' x F ∧ Below w.heap.size w w'

end Go.Proofs.Yticopigpgaomjaa.L5
