
/-
  Frames that are alike are told to be so.
-/
import Derived.Test.YticopigpgaomjaaEthRef
import Derived.Laws.StructEq
namespace Go.Proofs.Yticopigpgaomjaa.L5
open Go.RowKit Oc Et Go.Deep
set_option linter.unusedVariables false

theorem two_first {w wr : World} {c c' : Array Value} {t t' : TypeId} (h : Below (w.heap.size + 2) ((w.alloc (.cells c t)).alloc (.cells c' t')) wr) (i : Nat) : wr.cell? ⟨w.heap.size, i, none⟩ = c[i]? := by
  rw [h.cell (by show w.heap.size < _; omega), World.cell?_alloc_lt _ _ _ (by simp), World.cell?_alloc_new]
theorem two_next {w wr : World} {c c' : Array Value} {t t' : TypeId} (h : Below (w.heap.size + 2) ((w.alloc (.cells c t)).alloc (.cells c' t')) wr) (i : Nat) : wr.cell? ⟨w.heap.size + 1, i, none⟩ = c'[i]? := by
  rw [h.cell (by show w.heap.size + 1 < _; omega)]
  have e := World.cell?_alloc_new (w := w.alloc (.cells c t)) c' t' i
  rwa [World.size_alloc] at e
theorem two_since {w wr : World} {a b : Obj} (h : Below (w.heap.size + 2) ((w.alloc a).alloc b) wr) : Below w.heap.size w wr :=
  (((Below.refl _ _).alloc (Nat.le_refl _) a).alloc (by simp) b).trans (h.mono (by omega))
end Go.Proofs.Yticopigpgaomjaa.L5
