
/-
  Things that lie in memory, whatever they are: what holds in each world that has the same blocks, but for some. Nothing of one layer is in this text.
-/
import Derived.Test.YtihealembikkiaaMemKit
namespace Go.Proofs.Ytihealembikkiaa
open Go.RowKit Go.Deep
set_option linter.unusedVariables false
set_option maxRecDepth 20000

/-- Two worlds with the same blocks, of those of the first that are wanted. -/
def Same (D : Nat → Prop) (w w' : World) : Prop := w.heap.size ≤ w'.heap.size ∧ ∀ q, D q → q < w.heap.size → w'.heap[q]? = w.heap[q]?
theorem Same.below {D : Nat → Prop} {w w' : World} (h : Below w.heap.size w w') : Same D w w' := ⟨h.size, fun q _ hq => h.block q hq⟩
theorem Same.trans {D : Nat → Prop} {a b c : World} (h : Same D a b) (k : Same D b c) : Same D a c := ⟨by have := h.1; have := k.1; omega, fun q d hq => (k.2 q d (by have := h.1; omega)).trans (h.2 q d hq)⟩
theorem Same.mono {D E : Nat → Prop} {w w' : World} (h : Same D w w') (e : ∀ q, q < w.heap.size → E q → D q) : Same E w w' := ⟨h.1, fun q d hq => h.2 q (e q hq d) hq⟩
theorem Same.keep {w w' : World} (h : Same (fun _ => True) w w') : Keep w w' := fun a v e => by
  have hb := World.block_lt_of_cell? w a e
  have := h.2 a.block trivial hb
  unfold World.cell? at e ⊢
  rw [this]; exact e
theorem size_setCell (w : World) (a : Addr) (v : Value) : (w.setCell a v).heap.size = w.heap.size := by simp
theorem Same.setCell {D : Nat → Prop} {w : World} {a : Addr} (h : ¬ D a.block) (v : Value) : Same D w (w.setCell a v) := ⟨by rw [size_setCell]; exact Nat.le_refl _, fun q d _ => Below.heap_setCell w a v q (fun e => h (e ▸ d))⟩
/-- What holds in each world that has such blocks of this one. -/
def Held (D : Nat → Prop) (P : World → Prop) (w : World) : Prop := ∀ w', Same D w w' → P w'
/-- .. all blocks but these. -/
def HeldX (X : List Nat) (P : World → Prop) (w : World) : Prop := Held (fun q => ¬ q ∈ X) P w
theorem Held.at {D : Nat → Prop} {P : World → Prop} {w : World} (h : Held D P w) : P w := h w ⟨Nat.le_refl _, fun _ _ _ => rfl⟩
theorem Held.since {D : Nat → Prop} {P : World → Prop} {w w' : World} (h : Held D P w) (b : Below w.heap.size w w') : Held D P w' := fun u e => h u ((Same.below b).trans e)
theorem Held.same {D : Nat → Prop} {P : World → Prop} {w w' : World} (h : Held D P w) (b : Same D w w') : Held D P w' := fun u e => h u (b.trans e)
theorem Held.mono {D E : Nat → Prop} {P : World → Prop} {w : World} (h : Held D P w) (e : ∀ q, q < w.heap.size → D q → E q) : Held E P w := fun u k => h u (k.mono e)
theorem Held.imp {D : Nat → Prop} {P Q : World → Prop} {w : World} (h : Held D P w) (e : ∀ u, P u → Q u) : Held D Q w := fun u k => e u (h u k)
theorem Held.and {D : Nat → Prop} {P Q : World → Prop} {w : World} (h : Held D P w) (k : Held D Q w) : Held D (fun u => P u ∧ Q u) w := fun u e => ⟨h u e, k u e⟩
theorem HeldX.at {X : List Nat} {P : World → Prop} {w : World} (h : HeldX X P w) : P w := Held.at h
theorem HeldX.since {X : List Nat} {P : World → Prop} {w w' : World} (h : HeldX X P w) (b : Below w.heap.size w w') : HeldX X P w' := Held.since h b
theorem HeldX.imp {X : List Nat} {P Q : World → Prop} {w : World} (h : HeldX X P w) (e : ∀ u, P u → Q u) : HeldX X Q w := Held.imp h e
theorem HeldX.fewer {X Y : List Nat} {P : World → Prop} {w : World} (h : HeldX X P w) (e : ∀ p, p ∈ Y → p ∈ X) : HeldX Y P w := h.mono fun q _ d m => d (e q m)
/-- A thing that stands wherever what was there is there. -/
theorem heldX_keep {P : World → Prop} {w : World} (h : ∀ w', Keep w w' → P w') : HeldX [] P w := fun u e => h u (Same.keep (e.mono fun q _ _ => List.not_mem_nil))
theorem held_keep {P : World → Prop} {w : World} (h : ∀ w', Keep w w' → P w') : Held (fun _ => True) P w := fun u e => h u e.keep
theorem HeldX.alloc {X : List Nat} {P : World → Prop} {w : World} (h : HeldX X P w) (o : Obj) : HeldX (w.heap.size :: X) P (w.alloc o) := fun u e => h u ⟨by have := e.1; simp at this; omega, fun q d hq => by
  have := e.2 q (fun m => by rcases List.mem_cons.1 m with m | m; omega; exact d m) (by simp; omega)
  rw [this]; exact Below.heap_alloc w o q hq⟩
/-- Boxes of a call's own. -/
def Boxes (w u : World) (X : List Nat) : Prop := ∀ g, g ∈ X → w.heap.size ≤ g ∧ g < u.heap.size
theorem boxes_none (w u : World) : Boxes w u [] := fun g h => by cases h
theorem Boxes.since {w u u2 : World} {X : List Nat} (h : Boxes w u X) (b : Below u.heap.size u u2) : Boxes w u2 X := fun g m => ⟨(h g m).1, by have := (h g m).2; have := b.size; omega⟩
theorem Boxes.alloc {w u : World} {X : List Nat} (h : Boxes w u X) (b : Below w.heap.size w u) (o : Obj) : Boxes w (u.alloc o) (u.heap.size :: X) := fun g m => by
  have := b.size
  rcases List.mem_cons.1 m with rfl | m
  · simp; omega
  · have := h g m
    simp; omega
/-- What is new is none of the boxes. -/
theorem Held.new {P : World → Prop} {w u u2 : World} {X : List Nat} (h : Held (fun q => u.heap.size ≤ q) P u2) (k : Boxes w u X) : HeldX X P u2 := h.mono fun q _ d m => by have := (k q m).2; omega
/-! ### The steps of a walk: facts hidden -/
theorem h_bel {w u u2 : World} (h : Hid (Below w.heap.size w u)) (b : Below u.heap.size u u2) : Hid (Below w.heap.size w u2) := bel_trans h.out b
theorem h_box {w u u2 : World} {X : List Nat} (h : Hid (Boxes w u X)) (b : Below u.heap.size u u2) : Hid (Boxes w u2 X) := h.out.since b
theorem h_fact {X : List Nat} {P : World → Prop} {u u2 : World} (h : Hid (HeldX X P u)) (b : Below u.heap.size u u2) : Hid (HeldX X P u2) := h.out.since b
theorem h_blk {u u2 : World} {g : Nat} {t : TypeId} {cs : Array Value} (h : Hid (Blk u g t cs)) (b : Below u.heap.size u u2) : Hid (Blk u2 g t cs) := h.out.since b
theorem a_bel {w u : World} (h : Hid (Below w.heap.size w u)) (o : Obj) : Hid (Below w.heap.size w (u.alloc o)) := bel_trans h.out (bel_alloc u o)
theorem a_box {w u : World} {X : List Nat} (h : Hid (Boxes w u X)) (b : Hid (Below w.heap.size w u)) (o : Obj) : Hid (Boxes w (u.alloc o) (u.heap.size :: X)) := h.out.alloc b.out o
theorem a_fact {X : List Nat} {P : World → Prop} {u : World} (h : Hid (HeldX X P u)) (o : Obj) : Hid (HeldX (u.heap.size :: X) P (u.alloc o)) := h.out.alloc o
theorem a_blk {u : World} {g : Nat} {t : TypeId} {cs : Array Value} (h : Hid (Blk u g t cs)) (o : Obj) : Hid (Blk (u.alloc o) g t cs) := h.out.alloc o
theorem n_blk {u : World} (t : TypeId) (cs : Array Value) : Hid (Blk (u.alloc (.cells cs t)) u.heap.size t cs) := Blk.new u t cs
theorem n_ne {u : World} {g : Nat} {t : TypeId} {cs : Array Value} (h : Hid (Blk u g t cs)) : Hid (g ≠ u.heap.size) := Nat.ne_of_lt h.out.lt
theorem n_sym {a b : Nat} (h : Hid (a ≠ b)) : Hid (b ≠ a) := h.out.symm
/-! ### Stores into a box: any number of cells -/
theorem putCells_heap {g : Nat} : ∀ (vs : List Value) (w : World) (i q : Nat), q ≠ g → (putCells w g i vs).heap[q]? = w.heap[q]?
  | [], _, _, _, _ => rfl
  | v :: vs, w, i, q, h => (putCells_heap vs _ (i + 1) q h).trans (Below.heap_setCell _ _ _ q h)
theorem putCells_size {g : Nat} : ∀ (vs : List Value) (w : World) (i : Nat), (putCells w g i vs).heap.size = w.heap.size
  | [], _, _ => rfl
  | v :: vs, w, i => (putCells_size vs _ (i + 1)).trans (size_setCell _ _ _)
theorem p_bel {w u q : World} {g i : Nat} {vs : List Value} {X : List Nat} (e : q = putCells u g i vs) (h : Hid (Below w.heap.size w u)) (k : Hid (Boxes w u X)) (m : g ∈ X) : Hid (Below w.heap.size w q) := by subst e; exact putCells_below (k.out g m).1 vs u i h.out
theorem p_box {w u q : World} {g i : Nat} {vs : List Value} {X : List Nat} (e : q = putCells u g i vs) (k : Hid (Boxes w u X)) : Hid (Boxes w q X) := by subst e; exact fun p m => by rw [putCells_size]; exact k.out p m
theorem p_fact {u q : World} {g i : Nat} {vs : List Value} {X : List Nat} {P : World → Prop} (e : q = putCells u g i vs) (h : Hid (HeldX X P u)) (m : g ∈ X) : Hid (HeldX X P q) := by
  subst e
  exact Held.same h.out ⟨by rw [putCells_size]; exact Nat.le_refl _, fun p d _ => putCells_heap vs u i p (fun x => d (x ▸ m))⟩
theorem p_oth {u q : World} {g r i : Nat} {vs : List Value} (e : q = putCells u g i vs) {t : TypeId} {cs : Array Value} (h : Hid (Blk u r t cs)) (ne : Hid (r ≠ g)) : Hid (Blk q r t cs) := by subst e; exact h.out.of (putCells_heap vs u i r ne.out)
theorem p_blk {u q : World} {g : Nat} {vs old : List Value} (e : q = putCells u g 0 vs) {t : TypeId} (h : Hid (Blk u g t old.toArray)) (l : old.length = vs.length) : Hid (Blk q g t vs.toArray) := by subst e; exact putCells_blk vs old [] u 0 rfl l h.out
theorem Held.put {D : Nat → Prop} {P : World → Prop} {w : World} {g i : Nat} {vs : List Value} (h : Held D P w) (k : ¬ D g) : Held D P (putCells w g i vs) := h.same ⟨by rw [putCells_size]; exact Nat.le_refl _, fun p d _ => putCells_heap vs w i p (fun x => k (x ▸ d))⟩
end Go.Proofs.Ytihealembikkiaa
