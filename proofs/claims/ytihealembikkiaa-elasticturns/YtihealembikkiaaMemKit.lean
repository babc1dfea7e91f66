
/-
  Memory that stands: what was there is there; blocks that are known whole. Nothing of one layer is in this text.
-/
import Derived.Test.YtihealembikkiaaOctCalls
import Derived.Deep.AppendLies
import Derived.Deep.RegionHeld3
import Derived.Deep.DrawnRows
namespace Go.Proofs.Ytihealembikkiaa
open Go.RowKit Oc Go.Deep

/-- What was there is there. -/
def Keep (w w' : World) : Prop := ∀ a v, w.cell? a = some v → w'.cell? a = some v
theorem Keep.refl (w : World) : Keep w w := fun _ _ h => h
theorem Keep.trans {a b c : World} (h : Keep a b) (k : Keep b c) : Keep a c := fun x v e => k x v (h x v e)
theorem keep_of_below {w w' : World} (h : Below w.heap.size w w') : Keep w w' := fun a v e => by
  rw [h.cell (World.block_lt_of_cell? w a e)]; exact e
theorem keep_heap {u v w : World} (h : Keep u v) (e : w.heap = v.heap) : Keep u w := fun a x k => by
  have := h a x k
  unfold World.cell? at this ⊢
  rw [e]; exact this
theorem below_since {w wr : World} {o : Obj} (h : Below (w.heap.size + 1) (w.alloc o) wr) : Below w.heap.size w wr :=
  ((Below.refl _ _).alloc (Nat.le_refl _) o).trans (h.mono (by omega))
theorem bel_alloc (w : World) (o : Obj) : Below w.heap.size w (w.alloc o) := (Below.refl _ _).alloc (Nat.le_refl _) o
theorem owns_below {w w' : World} {base : Nat} {e : TypeId} {size : Nat} {v : Value} {n : Nat} {xs : List Value} (h : w.ownsRow base e size v n xs) (hb : Below w.heap.size w w') : w'.ownsRow base e size v n xs := by
  obtain ⟨h1, h2⟩ := h
  refine ⟨h1, ?_⟩
  rcases h2 with h2 | ⟨g, cap, cur, hv, hg, hh, r⟩
  · exact Or.inl h2
  · refine Or.inr ⟨g, cap, cur, hv, hg, ?_, r⟩
    rw [hb.block g ?_]
    · exact hh
    · rcases Nat.lt_or_ge g w.heap.size with hlt | hge
      · exact hlt
      · rw [Array.getElem?_eq_none hge] at hh; cases hh

/-- A block that is known whole, nothing of it frozen. -/
def Blk (w : World) (g : Nat) (t : TypeId) (cs : Array Value) : Prop := w.heap[g]? = some (.cells cs t (0, 0))
theorem Blk.cell {w : World} {g : Nat} {t : TypeId} {cs : Array Value} (h : Blk w g t cs) (i : Nat) : w.cell? ⟨g, i, none⟩ = cs[i]? := cell_of_row w g i cs t (0, 0) h
theorem Blk.frozen {w : World} {g : Nat} {t : TypeId} {cs : Array Value} (h : Blk w g t cs) (i : Nat) : w.frozen? ⟨g, i, none⟩ = false := frozen_of_row w g i cs t h
theorem Blk.lt {w : World} {g : Nat} {t : TypeId} {cs : Array Value} (h : Blk w g t cs) : g < w.heap.size := by
  rcases Nat.lt_or_ge g w.heap.size with hlt | hge
  · exact hlt
  · unfold Blk at h; rw [Array.getElem?_eq_none hge] at h; cases h
theorem Blk.of {w w' : World} {g : Nat} {t : TypeId} {cs : Array Value} (h : Blk w g t cs) (e : w'.heap[g]? = w.heap[g]?) : Blk w' g t cs := by unfold Blk; rw [e]; exact h
theorem Blk.new (w : World) (t : TypeId) (cs : Array Value) : Blk (w.alloc (.cells cs t)) w.heap.size t cs := blk_alloc_new w _
theorem Blk.alloc {w : World} {g : Nat} {t : TypeId} {cs : Array Value} (h : Blk w g t cs) (o : Obj) : Blk (w.alloc o) g t cs := h.of (Below.heap_alloc w o g h.lt)
theorem Blk.other {w : World} {g : Nat} {t : TypeId} {cs : Array Value} (h : Blk w g t cs) {a : Addr} (ha : g ≠ a.block) (v : Value) : Blk (w.setCell a v) g t cs := h.of (Below.heap_setCell w a v g ha)
theorem Blk.set {w : World} {g : Nat} {t : TypeId} {cs : Array Value} (h : Blk w g t cs) (i : Nat) (v : Value) : Blk (w.setCell ⟨g, i, none⟩ v) g t (cs.setIfInBounds i v) := by
  unfold Blk at h ⊢
  simp [World.setCell, Array.getElem?_modify, h]
theorem Blk.grown {w w' : World} {g : Nat} {t : TypeId} {cs : Array Value} {row : Option Nat} (h : Blk w g t cs) (hg : w.grownBy w' row) (hr : some g ≠ row) : Blk w' g t cs := h.of (hg.block g h.lt hr)
theorem Blk.below {w w' : World} {B g : Nat} {t : TypeId} {cs : Array Value} (h : Blk w g t cs) (hb : Below B w w') (hr : g < B) : Blk w' g t cs := h.of (hb.block g hr)
theorem Blk.drew {w : World} {g : Nat} {t : TypeId} {cs : Array Value} (h : Blk w g t cs) : Blk w.drew g t cs := h
theorem Blk.since {w w' : World} {g : Nat} {t : TypeId} {cs : Array Value} (h : Blk w g t cs) (hb : Below w.heap.size w w') : Blk w' g t cs := h.below hb h.lt
/-- Stores into a block, one behind the other. -/
def putCells (w : World) (g : Nat) : Nat → List Value → World
  | _, [] => w
  | i, v :: vs => putCells (w.setCell ⟨g, i, none⟩ v) g (i + 1) vs
theorem putCells_below {Bd : Nat} {w : World} {g : Nat} (hg : Bd ≤ g) : ∀ (vs : List Value) (wr : World) (i : Nat), Below Bd w wr → Below Bd w (putCells wr g i vs)
  | [], _, _, h => h
  | v :: vs, _, i, h => putCells_below hg vs _ (i + 1) (h.setCell (p := ⟨g, i, none⟩) hg v)
theorem putCells_blk {g : Nat} {t : TypeId} : ∀ (vs old pre : List Value) (wr : World) (i : Nat), i = pre.length → old.length = vs.length → Blk wr g t (pre ++ old).toArray → Blk (putCells wr g i vs) g t (pre ++ vs).toArray
  | [], old, pre, wr, i, hi, ho, h => by
    have e : old = [] := List.length_eq_zero_iff.1 ho
    subst e; exact h
  | v :: vs, [], pre, wr, i, hi, ho, h => by simp at ho
  | v :: vs, x :: old, pre, wr, i, hi, ho, h => by
    have e : (pre ++ x :: old).toArray.setIfInBounds i v = ((pre ++ [v]) ++ old).toArray := by
      subst hi
      simp
    have h2 := h.set i v
    rw [e] at h2
    have r := putCells_blk vs old (pre ++ [v]) _ (i + 1) (by simp; exact hi) (by simpa using ho) h2
    rw [List.append_assoc] at r
    exact r
/-- 9 stores. -/
def put9 (w : World) (g : Nat) (a0 a1 a2 a3 a4 a5 a6 a7 a8 : Value) : World := (((((((((w.setCell ⟨g, 0, none⟩ a0).setCell ⟨g, 1, none⟩ a1).setCell ⟨g, 2, none⟩ a2).setCell ⟨g, 3, none⟩ a3).setCell ⟨g, 4, none⟩ a4).setCell ⟨g, 5, none⟩ a5).setCell ⟨g, 6, none⟩ a6).setCell ⟨g, 7, none⟩ a7).setCell ⟨g, 8, none⟩ a8)
theorem put9_eq (w : World) (g : Nat) (a0 a1 a2 a3 a4 a5 a6 a7 a8 : Value) : put9 w g a0 a1 a2 a3 a4 a5 a6 a7 a8 = putCells w g 0 [a0, a1, a2, a3, a4, a5, a6, a7, a8] := by
  simp only [putCells, put9]
theorem put9_below {Bd : Nat} {w wr : World} {g : Nat} (h : Below Bd w wr) (hg : Bd ≤ g) (a0 a1 a2 a3 a4 a5 a6 a7 a8 : Value) : Below Bd w (put9 wr g a0 a1 a2 a3 a4 a5 a6 a7 a8) := by
  rw [put9_eq]; exact putCells_below hg _ _ 0 h
theorem put9_blk {w : World} {g : Nat} {t : TypeId} {x0 x1 x2 x3 x4 x5 x6 x7 x8 : Value} (h : Blk w g t #[x0, x1, x2, x3, x4, x5, x6, x7, x8]) (a0 a1 a2 a3 a4 a5 a6 a7 a8 : Value) : Blk (put9 w g a0 a1 a2 a3 a4 a5 a6 a7 a8) g t #[a0, a1, a2, a3, a4, a5, a6, a7, a8] := by
  rw [put9_eq]; exact putCells_blk [a0, a1, a2, a3, a4, a5, a6, a7, a8] [x0, x1, x2, x3, x4, x5, x6, x7, x8] [] w 0 rfl rfl h
/-- A bool that tells whether something holds; what was there is there. -/
def TellsB (w : World) (P : Prop) (e : Ending) (w' : World) : Prop := ∃ B : Bool, e = .returned (.bool B) ∧ (B = true ↔ P) ∧ Below w.heap.size w w'
end Go.Proofs.Ytihealembikkiaa
