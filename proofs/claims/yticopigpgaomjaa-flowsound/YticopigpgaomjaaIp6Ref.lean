
/-
  A header as the document's: what the laws' own function makes of one.
-/
import Derived.Test.YticopigpgaomjaaIp6Mem
namespace Go.Proofs.Yticopigpgaomjaa.L7
open Go.RowKit Oc Ip6 Go.Deep
set_option linter.unusedVariables false

/-- Seven stores. -/
def put7 (w : World) (g : Nat) (a0 a1 a2 a3 a4 a5 a6 : Value) : World := (((((((w.setCell ⟨g, 0, none⟩ a0).setCell ⟨g, 1, none⟩ a1).setCell ⟨g, 2, none⟩ a2).setCell ⟨g, 3, none⟩ a3).setCell ⟨g, 4, none⟩ a4).setCell ⟨g, 5, none⟩ a5).setCell ⟨g, 6, none⟩ a6)
theorem put7_eq (w : World) (g : Nat) (a0 a1 a2 a3 a4 a5 a6 : Value) : put7 w g a0 a1 a2 a3 a4 a5 a6 = putCells w g 0 [a0, a1, a2, a3, a4, a5, a6] := by
  simp only [putCells, put7]
theorem put7_below {Bd : Nat} {w wr : World} {g : Nat} (h : Below Bd w wr) (hg : Bd ≤ g) (a0 a1 a2 a3 a4 a5 a6 : Value) : Below Bd w (put7 wr g a0 a1 a2 a3 a4 a5 a6) := by
  rw [put7_eq]; exact putCells_below hg _ _ 0 h
theorem put7_blk {w : World} {g : Nat} {t : TypeId} {x0 x1 x2 x3 x4 x5 x6 : Value} (h : Blk w g t #[x0, x1, x2, x3, x4, x5, x6]) (a0 a1 a2 a3 a4 a5 a6 : Value) : Blk (put7 w g a0 a1 a2 a3 a4 a5 a6) g t #[a0, a1, a2, a3, a4, a5, a6] := by
  rw [put7_eq]; exact putCells_blk [a0, a1, a2, a3, a4, a5, a6] [x0, x1, x2, x3, x4, x5, x6] [] w 0 rfl rfl h
theorem putCells_other {g q : Nat} (h : q ≠ g) : ∀ (vs : List Value) (wr : World) (i : Nat), (putCells wr g i vs).heap[q]? = wr.heap[q]?
  | [], _, _ => rfl
  | v :: vs, wr, i => by rw [putCells, putCells_other h vs _ (i + 1), Below.heap_setCell _ _ _ _ (by exact h)]
theorem put7_other (w : World) {g q : Nat} (h : q ≠ g) (a0 a1 a2 a3 a4 a5 a6 : Value) : (put7 w g a0 a1 a2 a3 a4 a5 a6).heap[q]? = w.heap[q]? := by rw [put7_eq, putCells_other h]
theorem put7_owns {w : World} {g base : Nat} {e : TypeId} {size : Nat} {v : Value} {n : Nat} {xs : List Value} (h : w.ownsRow base e size v n xs) (hg : g < base) (a0 a1 a2 a3 a4 a5 a6 : Value) : (put7 w g a0 a1 a2 a3 a4 a5 a6).ownsRow base e size v n xs := ownsRow_setCell_below (ownsRow_setCell_below (ownsRow_setCell_below (ownsRow_setCell_below (ownsRow_setCell_below (ownsRow_setCell_below (ownsRow_setCell_below (h) (by exact hg) a0) (by exact hg) a1) (by exact hg) a2) (by exact hg) a3) (by exact hg) a4) (by exact hg) a5) (by exact hg) a6

/-- The cells of extensions. -/
def exCells (c : List Ex) : List Value := c.flatMap fun x => [.int .i64 x.kind, .string (bsL x.data)]
theorem exCells_app (c : List Ex) (x : Ex) : exCells (c ++ [x]) = exCells c ++ [.int .i64 x.kind, .string (bsL x.data)] := by simp [exCells]
theorem exCells_len (c : List Ex) : (exCells c).length = c.length * 2 := by
  induction c with
  | nil => rfl
  | cons x c ih => simp only [exCells, List.flatMap_cons, List.length_append, List.length_cons, List.length_nil] at ih ⊢; omega
theorem exCells_get : ∀ (c : List Ex) (i : Nat) (x : Ex), c[i]? = some x → (exCells c)[i * 2]? = some (.int .i64 x.kind) ∧ (exCells c)[i * 2 + 1]? = some (.string (bsL x.data))
  | [], i, x, h => by simp at h
  | y :: c, 0, x, h => by
    simp only [List.getElem?_cons_zero, Option.some.injEq] at h
    subst h
    exact ⟨rfl, rfl⟩
  | y :: c, i + 1, x, h => by
    have ih := exCells_get c i x (by simpa using h)
    have e : exCells (y :: c) = .int .i64 y.kind :: .string (bsL y.data) :: exCells c := rfl
    rw [e, show (i + 1) * 2 = i * 2 + 1 + 1 by omega]
    simp only [List.getElem?_cons_succ]
    exact ih
theorem owns_ch {w : World} {N k : Nat} {t : TypeId} {v : Value} {c : List Ex} (h : w.ownsRow N t 2 v k (exCells c)) (hk : c.length = k) : ChAt w v c := by
  subst hk
  rcases h.2 with ⟨rfl, h0⟩ | ⟨g, cap, cur, rfl, _, hg, hn, _, _, hx⟩
  · exact ⟨none, 0, 0, 0, by rw [h0], by omega, fun h => by omega, fun i x hi => by rw [List.getElem?_eq_none (by omega)] at hi; cases hi⟩
  · refine ⟨_, cap, g, 0, rfl, hn, fun _ => rfl, fun i x hi => ?_⟩
    obtain ⟨g1, g2⟩ := exCells_get c i x hi
    have hl : i < c.length := by
      rcases Nat.lt_or_ge i c.length with h1 | h1
      · exact h1
      · rw [List.getElem?_eq_none h1] at hi; cases hi
    have e1 := h.cellAt (j := i * 2) (by omega)
    have e2 := h.cellAt (j := i * 2 + 1) (by omega)
    rw [Nat.zero_add, e1, e2]
    exact ⟨g1, g2⟩
theorem new_pair (w : World) (t : TypeId) (x y : Value) : ∀ (j : Nat) (u : Value), [x, y][j]? = some u → (w.alloc (.cells #[x, y] t)).cell? ((⟨w.heap.size, 0, none⟩ : Addr).add j) = some u :=
  World.news_of_block (blk_alloc_new w (.cells #[x, y] t))
theorem ex_cell (K : Int) (D : List UInt8) : ∀ u ∈ [Value.int .i64 K, Value.string (bsL D)], u.oneCell' = true := fun u hu => by
  simp at hu
  rcases hu with rfl | rfl <;> rfl
theorem infoT (t : TypeId) (h : (Try.prog.info? t).map (fun i => (i.zero, i.size, i.bytes)) = some (some (.agg #[.int .i64 0, .string ⟨#[]⟩]), 2, 24)) : ∃ i, Try.prog.info? t = some i ∧ i.zero = some (.agg #[.int .i64 0, .string ⟨#[]⟩]) ∧ i.size = 2 ∧ i.bytes = 24 := by
  obtain ⟨i, hi, hzz⟩ := Option.map_eq_some_iff.1 h
  simp only [Prod.mk.injEq] at hzz
  exact ⟨i, hi, hzz⟩
theorem infoR : ∃ i, Try.prog.info? 94 = some i ∧ i.zero = some (.agg #[.int .i64 0, .string ⟨#[]⟩]) ∧ i.size = 2 ∧ i.bytes = 24 := infoT 94 (by kernel_rfl)
theorem infoH : ∃ i, Try.prog.info? 127 = some i ∧ i.zero = some (.agg #[.int .i64 0, .string ⟨#[]⟩]) ∧ i.size = 2 ∧ i.bytes = 24 := infoT 127 (by kernel_rfl)

/-- What the loop of 'ref' keeps. -/
structure RefIn (w wr : World) (c b h p : Int) (s d : List UInt8) (v : Value) (k : Nat) (P : List Ex) : Prop where
  since : Below w.heap.size w wr
  size : w.heap.size + 3 ≤ wr.heap.size
  res : Blk wr (w.heap.size + 1) 66 #[.int .i64 0, .int .i64 0, .int .i64 0, .int .i64 0, .string ⟨#[]⟩, .string ⟨#[]⟩, .slice none 0 0]
  fr : Blk wr (w.heap.size + 1 + 1) 66 #[.int .i64 c, .int .i64 b, .int .i64 h, .int .i64 p, .string (bsL s), .string (bsL d), v]
  own : wr.ownsRow (w.heap.size + 3) 94 2 v k (exCells P)
theorem RefIn.step {w wr w1 : World} {c b h p : Int} {s d : List UInt8} {v v' : Value} {k : Nat} {P : List Ex} {K : Int} {D : List UInt8} {x y : Obj} (h0 : RefIn w wr c b h p s d v k P)
    (hown : w1.ownsRow (w.heap.size + 3) 94 2 v' (k + 1) (exCells P ++ [.int .i64 K, .string (bsL D)])) (hg : ((wr.alloc x).alloc y).grownBy w1 v.ownBlock) :
    Blk w1 (w.heap.size + 1 + 1) 66 #[.int .i64 c, .int .i64 b, .int .i64 h, .int .i64 p, .string (bsL s), .string (bsL d), v] ∧ RefIn w (w1.setCell ⟨w.heap.size + 1 + 1, 6, none⟩ v') c b h p s d v' (k + 1) (P ++ [⟨K, D⟩]) := by
  have far : ∀ q, v.ownBlock = some q → w.heap.size + 3 ≤ q := fun q e => (h0.own.lt q e).1
  have sz := h0.size
  have b1 : Blk w1 (w.heap.size + 1) 66 #[.int .i64 0, .int .i64 0, .int .i64 0, .int .i64 0, .string ⟨#[]⟩, .string ⟨#[]⟩, .slice none 0 0] := ((h0.res.alloc x).alloc y).grown hg fun e => by have := far _ e.symm; omega
  have b2 : Blk w1 (w.heap.size + 1 + 1) 66 #[.int .i64 c, .int .i64 b, .int .i64 h, .int .i64 p, .string (bsL s), .string (bsL d), v] := ((h0.fr.alloc x).alloc y).grown hg fun e => by have := far _ e.symm; omega
  have s1 : Below w.heap.size w w1 := ((h0.since.alloc h0.since.size x).alloc (by have := h0.since.size; simp; omega) y).grown hg (by have := h0.since.size; simp; omega) fun q e => by have := far q e; omega
  have z1 := hg.size
  simp only [World.size_alloc] at z1
  refine ⟨b2, s1.setCell (by show w.heap.size ≤ w.heap.size + 1 + 1; omega) _, ?_, b1.other (by show w.heap.size + 1 ≠ w.heap.size + 1 + 1; omega) _, b2.set 6 v', ?_⟩
  · have : (w1.setCell ⟨w.heap.size + 1 + 1, 6, none⟩ v').heap.size = w1.heap.size := by simp [World.setCell]
    omega
  · rw [exCells_app]
    exact ownsRow_setCell_below hown (by show w.heap.size + 1 + 1 < w.heap.size + 3; omega) _
/-- A header that is made. -/
def NewH (w : World) (F : Hd) (e : Ending) (w' : World) : Prop := ∃ x, e = .returned x ∧ HdAt w' x F ∧ Below w.heap.size w w'
theorem take_ex {C : List Ex} {k : Nat} {x : Ex} (h : C[k]? = some x) : C.take k ++ [x] = C.take (k + 1) := by
  rw [List.take_add_one, h]; rfl
end Go.Proofs.Yticopigpgaomjaa.L7
