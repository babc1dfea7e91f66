
/-
  Get, Add and Merge of the document (layer 11): what they answer.
-/
import Derived.Test.YtpjpgcjlbfgkdaaLstRef
import Derived.Test.YtpjpgcjlbfgkdaaLstAdd
import Derived.Deep.RegionLaw
namespace Go.Proofs.Ytpjpgcjlbfgkdaa
open Go.RowKit Fm Bl Lt L2 Go.Deep
set_option linter.unusedVariables false

def cellsI (k : Nat) (z : Nat → Int) : List Value := (List.range k).map fun j => .int .i64 (z j)
theorem cellsI_succ (k : Nat) (z : Nat → Int) : cellsI k z ++ [.int .i64 (z k)] = cellsI (k + 1) z := by simp [cellsI, List.range_succ]
/-- A slice of numbers that the call makes. -/
structure GrowI (w wr : World) (v : Value) (k : Nat) (z : Nat → Int) : Prop where
  own : wr.ownsRow w.heap.size 3 1 v k (cellsI k z)
  since : Below w.heap.size w wr
theorem growI_start (w : World) (z : Nat → Int) : GrowI w w (.slice none 0 0) 0 z := ⟨World.ownsRow_nil w _ _ _, Below.refl _ _⟩
theorem GrowI.step {w wr w1 : World} {v : Value} {k g cap : Nat} {z : Nat → Int} {x : Int} {o : Obj} (h : GrowI w wr v k z) (hx : x = z k)
    (hown : w1.ownsRow w.heap.size 3 1 (.slice (some ⟨g, 0, none⟩) (k + 1) cap) (k + 1) (cellsI k z ++ [.int .i64 x])) (hg : (wr.alloc o).grownBy w1 v.ownBlock) : GrowI w w1 (.slice (some ⟨g, 0, none⟩) (k + 1) cap) (k + 1) z := by
  rw [hx, cellsI_succ] at hown
  have s := h.since.size
  exact ⟨hown, (h.since.alloc s o).grown hg (by simp; omega) fun q e => (h.own.lt q e).1⟩
theorem GrowI.drew {w wr : World} {v : Value} {k : Nat} {z : Nat → Int} (h : GrowI w wr v k z) : GrowI w wr.drew v k z := ⟨h.own, h.since.drew⟩
/-- What has grown is a row. -/
theorem GrowI.row {w wr : World} {v : Value} {n : Nat} {z : Nat → Int} (h : GrowI w wr v n z) (hn : 1 ≤ n) : ∃ g cap, v = .slice (some ⟨g, 0, none⟩) n cap ∧ n ≤ cap ∧ w.heap.size ≤ g ∧ RowN wr g n z := by
  rcases h.own.2 with ⟨rfl, rfl⟩ | ⟨g, cap, cur, rfl, hb, hg, hl, _, _, hx⟩
  · omega
  · have hk : Blk wr g 3 cur := hg
    refine ⟨g, cap, rfl, hl, hb, cur, hk, fun i hi => ?_⟩
    have e := h.own.cellAt (j := i) (by omega)
    rw [← hk.cell i, e]
    simp [cellsI, hi]
theorem new_int (w : World) (x : Value) : ∀ (j : Nat) (u : Value), [x][j]? = some u → (w.alloc (.cells #[x] 3)).cell? ((⟨w.heap.size, 0, none⟩ : Addr).add j) = some u :=
  World.news_of_block (w := w.alloc (.cells #[x] 3)) (cs := #[x]) (t := 3) (fr := (0, 0)) (blk_alloc_new w _)
theorem new_row (w : World) (x : Value) : ∀ (j : Nat) (u : Value), [x][j]? = some u → (w.alloc (.cells #[x] 33)).cell? ((⟨w.heap.size, 0, none⟩ : Addr).add j) = some u :=
  World.news_of_block (w := w.alloc (.cells #[x] 33)) (cs := #[x]) (t := 33) (fr := (0, 0)) (blk_alloc_new w _)
theorem one_i64 (n : Int) : ∀ u ∈ [Value.int .i64 n], u.oneCell' = true := fun u hu => by
  rw [List.mem_singleton.1 hu]; rfl
/-- Rows that the call has made, in a slice that grows. -/
structure LinG (w wr : World) (v : Value) (k n : Nat) (V : Nat → Value) (G : Nat → Nat) (Z : Nat → Nat → Int) : Prop where
  own : wr.ownsRow w.heap.size 33 1 v k ((List.range k).map V)
  row : ∀ i, i < k → (∃ cap, V i = .slice (some ⟨G i, 0, none⟩) n cap ∧ n ≤ cap) ∧ w.heap.size ≤ G i ∧ v.ownBlock ≠ some (G i) ∧ RowN wr (G i) n (Z i)
  since : Below w.heap.size w wr
theorem lin_start (w : World) (n : Nat) (V : Nat → Value) (G : Nat → Nat) (Z : Nat → Nat → Int) : LinG w w (.slice none 0 0) 0 n V G Z :=
  ⟨World.ownsRow_nil w _ _ _, fun i h => by omega, Below.refl _ _⟩
theorem LinG.rows {w wr : World} {v : Value} {k n : Nat} {V : Nat → Value} {G : Nat → Nat} {Z : Nat → Nat → Int} (h : LinG w wr v k n V G Z) : RowsI wr v k (fun _ => n) Z := by
  rcases h.own.2 with ⟨rfl, rfl⟩ | ⟨g, cap, cur, rfl, _, hg, hn, _, _, hx⟩
  · exact ⟨_, 0, 0, 0, fun _ => .slice none 0 0, rfl, Nat.le_refl _, fun h => by omega, fun c h => by omega⟩
  · refine ⟨_, cap, g, 0, V, rfl, hn, fun _ => rfl, fun r hr => ⟨?_, ?_⟩⟩
    · have e := h.own.cellAt (j := r) (by omega)
      rw [Nat.zero_add, e]; simp [hr]
    · obtain ⟨⟨cap, e, l⟩, _, _, o⟩ := h.row r hr
      rw [e]; exact o.ints l
theorem grown_of_below {w w' : World} (h : Below w.heap.size w w') (row : Option Nat) : w.grownBy w' row := ⟨h.os, h.tape, h.output, h.size, fun k hk _ => h.block k hk⟩
theorem LinG.keep {w wr w2 : World} {v : Value} {k n : Nat} {V : Nat → Value} {G : Nat → Nat} {Z : Nat → Nat → Int} (h : LinG w wr v k n V G Z) (s : Below wr.heap.size wr w2) : LinG w w2 v k n V G Z :=
  ⟨h.own.kept (grown_of_below s none) (by cases v.ownBlock <;> simp), fun i hi => ⟨(h.row i hi).1, (h.row i hi).2.1, (h.row i hi).2.2.1, (h.row i hi).2.2.2.since s⟩, bel_trans h.since s⟩
theorem LinG.congr {w wr : World} {v : Value} {k n : Nat} {V : Nat → Value} {G : Nat → Nat} {Z Y : Nat → Nat → Int} (h : LinG w wr v k n V G Z) (e : ∀ i j, i < k → j < n → Z i j = Y i j) : LinG w wr v k n V G Y :=
  ⟨h.own, fun i hi => ⟨(h.row i hi).1, (h.row i hi).2.1, (h.row i hi).2.2.1, (h.row i hi).2.2.2.congr fun j hj => e i j hi hj⟩, h.since⟩
theorem LinG.more {w wr w2 w3 : World} {v : Value} {k n g cap gr capr : Nat} {V : Nat → Value} {G : Nat → Nat} {Z : Nat → Nat → Int} {o : Obj} (h : LinG w wr v k n V G Z) (s : Below wr.heap.size wr w2)
    (hr : wr.heap.size ≤ gr) (hl : n ≤ capr) (ho : RowN w2 gr n (Z k))
    (hown : w3.ownsRow w.heap.size 33 1 (.slice (some ⟨g, 0, none⟩) (k + 1) cap) (k + 1) ((List.range k).map V ++ [.slice (some ⟨gr, 0, none⟩) n capr])) (hg : (w2.alloc o).grownBy w3 v.ownBlock) (hat : v.ownBlock = some g ∨ g = w2.heap.size + 1) :
    LinG w w3 (.slice (some ⟨g, 0, none⟩) (k + 1) cap) (k + 1) n (fun i => if i < k then V i else .slice (some ⟨gr, 0, none⟩) n capr) (fun i => if i < k then G i else gr) Z := by
  have own := h.own.lt
  have s1 := s.size
  have s0 := h.since.size
  have blk : ∀ q, q < w2.heap.size → v.ownBlock ≠ some q → w3.heap[q]? = w2.heap[q]? := fun q hq hne =>
    (hg.block q (by simp; omega) (fun e => hne e.symm)).trans (Below.heap_alloc _ _ _ hq)
  have grne : v.ownBlock ≠ some gr := fun e => by have := (own gr e).2; omega
  refine ⟨?_, fun i hi => ?_, ?_⟩
  · have e : (List.range (k + 1)).map (fun i => if i < k then V i else .slice (some ⟨gr, 0, none⟩) n capr) = (List.range k).map V ++ [.slice (some ⟨gr, 0, none⟩) n capr] := by
      rw [List.range_succ, List.map_append, List.map_singleton, if_neg (Nat.lt_irrefl k)]
      congr 1
      exact List.map_congr_left fun i hi => if_pos (List.mem_range.1 hi)
    rw [e]; exact hown
  · by_cases e : i < k
    · simp only [if_pos e]
      obtain ⟨r1, r2, r3, r4⟩ := h.row i e
      have lt := r4.lt
      refine ⟨r1, r2, fun x => ?_, (r4.since s).of (blk _ (by omega) r3)⟩
      have x' : g = G i := by simpa [Value.ownBlock] using x
      rcases hat with a | a
      · exact r3 (by rw [a, x'])
      · omega
    · simp only [if_neg e]
      have lt := ho.lt
      have ik : i = k := by omega
      subst ik
      refine ⟨⟨capr, rfl, hl⟩, by omega, fun x => ?_, ho.of (blk _ lt grne)⟩
      have x' : g = gr := by simpa [Value.ownBlock] using x
      rcases hat with a | a
      · exact grne (by rw [a, x'])
      · omega
  · exact ((bel_trans h.since s).alloc (by omega) o).grown hg (by simp; omega) fun q e => (own q e).1
/-- A sketch that is told. -/
def Told (w : World) (S M : Int) (R n : Nat) (Z : Nat → Nat → Int) (e : Ending) (w' : World) : Prop := ∃ x, e = .returned x ∧ SkAt w' x S M R (fun _ => n) Z ∧ Below w.heap.size w w'
/-- Rows stand where a block below them, and not theirs, is written. -/
theorem LinG.other {w wr : World} {v : Value} {k n : Nat} {V : Nat → Value} {G : Nat → Nat} {Z : Nat → Nat → Int} (h : LinG w wr v k n V G Z) {a : Addr} (ha : a.block < w.heap.size) (y : Value) : RowsI (wr.setCell a y) v k (fun _ => n) Z := by
  rcases h.own.2 with ⟨rfl, rfl⟩ | ⟨g, cap, cur, rfl, hb, hg, hn, _, _, hx⟩
  · exact ⟨_, 0, 0, 0, fun _ => .slice none 0 0, rfl, Nat.le_refl _, fun h => by omega, fun c h => by omega⟩
  · have kg : Blk wr g 33 cur := hg
    refine ⟨_, cap, g, 0, V, rfl, hn, fun _ => rfl, fun r hr => ⟨?_, ?_⟩⟩
    · have e := h.own.cellAt (j := r) (by omega)
      rw [Nat.zero_add, (kg.other (a := a) (by omega) y).cell r, ← kg.cell r, e]; simp [hr]
    · obtain ⟨⟨cap, e, l⟩, q, _, o⟩ := h.row r hr
      rw [e]; exact (o.other (a := a) (by omega) y).ints l
theorem LinG.set {w wr : World} {v : Value} {k n : Nat} {V : Nat → Value} {G : Nat → Nat} {Z : Nat → Nat → Int} (h : LinG w wr v k n V G Z) {a b c d : Addr} (ha : a.block < w.heap.size) (hb : b.block = a.block) (hc : c.block = a.block) (x y z : Value) : True := trivial
theorem rows_put {w wr : World} {v : Value} {k n : Nat} {V : Nat → Value} {G : Nat → Nat} {Z : Nat → Nat → Int} (h : LinG w wr v k n V G Z) {w2 : World} (e : ∀ q, w.heap.size ≤ q → w2.heap[q]? = wr.heap[q]?) : RowsI w2 v k (fun _ => n) Z := by
  rcases h.own.2 with ⟨rfl, rfl⟩ | ⟨g, cap, cur, rfl, hb, hg, hn, _, _, hx⟩
  · exact ⟨_, 0, 0, 0, fun _ => .slice none 0 0, rfl, Nat.le_refl _, fun h => by omega, fun c h => by omega⟩
  · have kg : Blk wr g 33 cur := hg
    refine ⟨_, cap, g, 0, V, rfl, hn, fun _ => rfl, fun r hr => ⟨?_, ?_⟩⟩
    · have e2 := h.own.cellAt (j := r) (by omega)
      rw [Nat.zero_add, (kg.of (e g hb)).cell r, ← kg.cell r, e2]; simp [hr]
    · obtain ⟨⟨cap, e2, l⟩, q, _, o⟩ := h.row r hr
      rw [e2]; exact (o.of (e _ q)).ints l
theorem put3_heap (w : World) (g : Nat) (x y z : Value) (q : Nat) (h : q ≠ g) : (put3 w g x y z).heap[q]? = w.heap[q]? := by
  unfold put3
  rw [Below.heap_setCell _ _ _ q h, Below.heap_setCell _ _ _ q h, Below.heap_setCell _ _ _ q h]
end Go.Proofs.Ytpjpgcjlbfgkdaa
