
/-
  Heavy flows apart, light ones together, as they lie in memory (layer 15): entries, buckets, sketches; such that a call makes.
-/
import Derived.Test.YtihealembikkiaaElGet
import Derived.Test.YtihealembikkiaaLstRef
import Derived.Test.YtihealembikkiaaHeldKit
import Derived.Test.YtihealembikkiaaHevRef
namespace Go.Proofs.Ytihealembikkiaa
open Go.RowKit Fm Bl Lt El L2 L14 Go.Deep
set_option linter.unusedVariables false
set_option maxRecDepth 20000

/-- Entries that can be read. -/
def EntsE (w : World) (v : Value) (l : List Ent) : Prop :=
  ∃ A cap b o, v = .slice A l.length cap ∧ l.length ≤ cap ∧ (0 < l.length → A = some ⟨b, o, none⟩) ∧ ∀ (i : Nat) (e : Ent), l[i]? = some e → w.cell? ⟨b, o + i * 3, none⟩ = some (.string e.k) ∧ w.cell? ⟨b, o + i * 3 + 1, none⟩ = some (.int .i64 e.v) ∧ w.cell? ⟨b, o + i * 3 + 2, none⟩ = some (.bool e.f)
theorem EntsE.keep {w w' : World} {v : Value} {l : List Ent} (h : EntsE w v l) (k : Keep w w') : EntsE w' v l := by
  obtain ⟨A, cap, b, o, h1, h2, h3, h4⟩ := h
  exact ⟨A, cap, b, o, h1, h2, h3, fun i e hi => ⟨k _ _ (h4 i e hi).1, k _ _ (h4 i e hi).2.1, k _ _ (h4 i e hi).2.2⟩⟩
theorem ents_none (w : World) : EntsE w (.slice none 0 0) [] := ⟨none, 0, 0, 0, rfl, Nat.le_refl _, fun h => by simp at h, fun i x h => by simp at h⟩
/-- Buckets that can be read. -/
def BktsE (w : World) (v : Value) (l : List Bkt) : Prop :=
  ∃ A cap b o, v = .slice A l.length cap ∧ l.length ≤ cap ∧ (0 < l.length → A = some ⟨b, o, none⟩) ∧ ∀ (i : Nat) (x : Bkt), l[i]? = some x → ∃ ev, w.cell? ⟨b, o + i * 2, none⟩ = some ev ∧ w.cell? ⟨b, o + i * 2 + 1, none⟩ = some (.int .i64 x.ag) ∧ EntsE w ev x.es
theorem BktsE.keep {w w' : World} {v : Value} {l : List Bkt} (h : BktsE w v l) (k : Keep w w') : BktsE w' v l := by
  obtain ⟨A, cap, b, o, h1, h2, h3, h4⟩ := h
  refine ⟨A, cap, b, o, h1, h2, h3, fun i x hi => ?_⟩
  obtain ⟨ev, g1, g2, g3⟩ := h4 i x hi
  exact ⟨ev, k _ _ g1, k _ _ g2, g3.keep k⟩
theorem bkts_none (w : World) : BktsE w (.slice none 0 0) [] := ⟨none, 0, 0, 0, rfl, Nat.le_refl _, fun h => by simp at h, fun i x h => by simp at h⟩
/-- What a sketch is. -/
structure Elk where
  S : Int
  room : Int
  votes : Int
  bs : List Bkt
  LS : Int
  LM : Int
  R : Nat
  L : Nat → Nat
  Z : Nat → Nat → Int
/-- A sketch's value, of seven cells. -/
def elv (F : Elk) (bv rv : Value) : Value := .agg #[.int .u64 F.S, .int .i64 F.room, .int .i64 F.votes, bv, .int .u64 F.LS, .int .i64 F.LM, rv]
def elc (F : Elk) (bv rv : Value) : Array Value := #[.int .u64 F.S, .int .i64 F.room, .int .i64 F.votes, bv, .int .u64 F.LS, .int .i64 F.LM, rv]
/-- A sketch that can be read. -/
def ElAt (w : World) (x : Value) (F : Elk) : Prop := ∃ bv rv, x = elv F bv rv ∧ BktsE w bv F.bs ∧ RowsI w rv F.R F.L F.Z
theorem ElAt.keep {w w' : World} {x : Value} {F : Elk} (h : ElAt w x F) (k : Keep w w') : ElAt w' x F := by
  obtain ⟨bv, rv, h1, h2, h3⟩ := h
  exact ⟨bv, rv, h1, h2.keep k, h3.keep k⟩
theorem rowsI_sk {w : World} {rv : Value} {F : Elk} (h : RowsI w rv F.R F.L F.Z) : SkAt w (.agg #[.int .u64 F.LS, .int .i64 F.LM, rv]) F.LS F.LM F.R F.L F.Z := ⟨rv, rfl, h⟩
/-- Is a bucket right? -/
def RightB (room : Int) (b : Bkt) : Prop := (b.es.length : Int) ≤ room ∧ 0 ≤ b.ag ∧ b.ag ≤ 1099511627776 ∧ ∀ (i : Nat) (e : Ent), b.es[i]? = some e → 1 ≤ e.v ∧ e.v ≤ 1099511627776 ∧ atE b.es e.k = some i
/-- Is a sketch right? -/
def RightE (F : Elk) : Prop := 1 ≤ F.room ∧ F.room ≤ 8 ∧ 1 ≤ F.votes ∧ F.votes ≤ 64 ∧ 1 ≤ F.bs.length ∧ F.bs.length ≤ 256 ∧ RightP F.LM F.R F.L F.Z ∧ F.LM = 255 ∧ F.LS = rowF F.S 1 ∧ ∀ (i : Nat) (b : Bkt), F.bs[i]? = some b → RightB F.room b
/-- Is it short enough to be gone through? -/
def SmallE (F : Elk) : Prop := F.bs.length ≤ 300 ∧ SmallP F.R F.L ∧ ∀ (i : Nat) (b : Bkt), F.bs[i]? = some b → b.es.length ≤ 20 ∧ ∀ (j : Nat) (e : Ent), b.es[j]? = some e → e.k.size ≤ 100
/-- The place of a key, -1 without one. -/
def atI (l : List Ent) (s : ByteArray) : Int := match atE l s with | some i => (i : Int) | none => -1
theorem atI_some {l : List Ent} {s : ByteArray} {i : Nat} (h : atE l s = some i) : atI l s = i := by unfold atI; rw [h]
theorem atI_none {l : List Ent} {s : ByteArray} (h : atE l s = none) : atI l s = -1 := by unfold atI; rw [h]
/-! ### Entries that a call makes -/
def eCells : List Ent → List Value
  | [] => []
  | e :: r => .string e.k :: .int .i64 e.v :: .bool e.f :: eCells r
theorem eCells_len : ∀ l, (eCells l).length = l.length * 3
  | [] => rfl
  | e :: r => by simp only [eCells, List.length_cons, eCells_len r]; omega
theorem eCells_append : ∀ l m, eCells (l ++ m) = eCells l ++ eCells m
  | [], m => rfl
  | e :: r, m => by rw [List.cons_append, eCells, eCells, eCells_append r m]; rfl
theorem eCells_get : ∀ (l : List Ent) (i : Nat) (e : Ent), l[i]? = some e → (eCells l)[i * 3]? = some (.string e.k) ∧ (eCells l)[i * 3 + 1]? = some (.int .i64 e.v) ∧ (eCells l)[i * 3 + 2]? = some (.bool e.f)
  | [], i, e, h => by simp at h
  | y :: r, 0, e, h => by
    simp at h
    subst h
    exact ⟨rfl, rfl, rfl⟩
  | y :: r, i + 1, e, h => by
    rw [List.getElem?_cons_succ] at h
    obtain ⟨h1, h2, h3⟩ := eCells_get r i e h
    rw [eCells, show (i + 1) * 3 = i * 3 + 1 + 1 + 1 by omega]
    simp only [List.getElem?_cons_succ]
    exact ⟨h1, h2, h3⟩
theorem owns_ents {w : World} {N : Nat} {t : TypeId} {v : Value} {l : List Ent} (h : w.ownsRow N t 3 v l.length (eCells l)) : EntsE w v l := by
  rcases h.2 with ⟨rfl, h0⟩ | ⟨g, cap, cur, rfl, _, hg, hn, _, _, hx⟩
  · exact ⟨none, 0, 0, 0, by rw [h0], by omega, fun z => by omega, fun i x hi => by have := (List.getElem?_eq_some_iff.1 hi).1; omega⟩
  · refine ⟨_, cap, g, 0, rfl, hn, fun _ => rfl, fun i x hi => ?_⟩
    have li := (List.getElem?_eq_some_iff.1 hi).1
    obtain ⟨g1, g2, g3⟩ := eCells_get l i x hi
    have e1 := h.cellAt (j := i * 3) (by omega)
    have e2 := h.cellAt (j := i * 3 + 1) (by omega)
    have e3 := h.cellAt (j := i * 3 + 2) (by omega)
    rw [Nat.zero_add, e1, e2, e3]
    exact ⟨g1, g2, g3⟩
theorem new_ent (w : World) (t : TypeId) (x y z : Value) : ∀ (j : Nat) (u : Value), [x, y, z][j]? = some u → (w.alloc (.cells #[x, y, z] t)).cell? ((⟨w.heap.size, 0, none⟩ : Addr).add j) = some u :=
  World.news_of_block (w := w.alloc (.cells #[x, y, z] t)) (cs := #[x, y, z]) (t := t) (fr := (0, 0)) (blk_alloc_new w _)
theorem ent_cell (a : ByteArray) (b : Int) (c : Bool) : ∀ u ∈ [Value.string a, Value.int .i64 b, Value.bool c], u.oneCell' = true := fun u hu => by
  simp at hu
  rcases hu with rfl | rfl | rfl <;> rfl
/-- Entries that the call makes. -/
structure GrowE (t : TypeId) (w wr : World) (v : Value) (l : List Ent) : Prop where
  own : wr.ownsRow w.heap.size t 3 v l.length (eCells l)
  since : Below w.heap.size w wr
theorem growE_start (t : TypeId) (w : World) : GrowE t w w (.slice none 0 0) [] := ⟨World.ownsRow_nil w _ _ _, Below.refl _ _⟩
theorem GrowE.ents {t : TypeId} {w wr : World} {v : Value} {l : List Ent} (h : GrowE t w wr v l) : EntsE wr v l := owns_ents h.own
theorem GrowE.step {t : TypeId} {w wr w1 : World} {v : Value} {g cap : Nat} {l : List Ent} {x : Ent} {b : Obj} (h : GrowE t w wr v l)
    (hown : w1.ownsRow w.heap.size t 3 (.slice (some ⟨g, 0, none⟩) (l.length + 1) cap) (l.length + 1) (eCells l ++ [.string x.k, .int .i64 x.v, .bool x.f])) (hg : (wr.alloc b).grownBy w1 v.ownBlock) : GrowE t w w1 (.slice (some ⟨g, 0, none⟩) (l.length + 1) cap) (l ++ [x]) := by
  have z := h.since.size
  have e : eCells (l ++ [x]) = eCells l ++ [.string x.k, .int .i64 x.v, .bool x.f] := eCells_append l [x]
  refine ⟨?_, (h.since.alloc z b).grown hg (by simp; omega) fun p e => (h.own.lt p e).1⟩
  rw [e, List.length_append, List.length_singleton]
  exact hown
theorem owns_at {w w' : World} {base : Nat} {t : TypeId} {size : Nat} {v : Value} {n : Nat} {xs : List Value} (h : w.ownsRow base t size v n xs) (e : ∀ g, v.ownBlock = some g → w'.heap[g]? = w.heap[g]?) : w'.ownsRow base t size v n xs := by
  refine ⟨h.1, ?_⟩
  rcases h.2 with h0 | ⟨g, cap, cur, hv, hg, hh, r⟩
  · exact Or.inl h0
  · exact Or.inr ⟨g, cap, cur, hv, hg, by rw [e g (by rw [hv]; rfl)]; exact hh, r⟩
theorem GrowE.keep {t : TypeId} {w wr w2 : World} {v : Value} {l : List Ent} (h : GrowE t w wr v l) (s : Below wr.heap.size wr w2) : GrowE t w w2 v l :=
  ⟨owns_at h.own fun g e => s.block g (h.own.lt g e).2, bel_trans h.since s⟩
/-- They stand wherever what is new stands. -/
theorem GrowE.held {t : TypeId} {w wr : World} {v : Value} {l : List Ent} {D : Nat → Prop} (h : GrowE t w wr v l) (d : ∀ q, w.heap.size ≤ q → q < wr.heap.size → D q) : Held D (fun u => EntsE u v l) wr := fun u e =>
  owns_ents (owns_at h.own fun g hg => e.2 g (d g (h.own.lt g hg).1 (h.own.lt g hg).2) (h.own.lt g hg).2)
theorem EntsE.held {w : World} {v : Value} {l : List Ent} {D : Nat → Prop} (h : EntsE w v l) (d : ∀ q, q < w.heap.size → D q) : Held D (fun u => EntsE u v l) w := fun u e => h.keep (Same.keep ⟨e.1, fun q _ hq => e.2 q (d q hq) hq⟩)
/-! ### Buckets that a call makes -/
def bCells : List (Value × Int) → List Value
  | [] => []
  | e :: r => e.1 :: .int .i64 e.2 :: bCells r
theorem bCells_len : ∀ l, (bCells l).length = l.length * 2
  | [] => rfl
  | e :: r => by simp only [bCells, List.length_cons, bCells_len r]; omega
theorem bCells_append : ∀ l m, bCells (l ++ m) = bCells l ++ bCells m
  | [], m => rfl
  | e :: r, m => by rw [List.cons_append, bCells, bCells, bCells_append r m]; rfl
theorem bCells_get : ∀ (l : List (Value × Int)) (i : Nat) (e : Value × Int), l[i]? = some e → (bCells l)[i * 2]? = some e.1 ∧ (bCells l)[i * 2 + 1]? = some (.int .i64 e.2)
  | [], i, e, h => by simp at h
  | y :: r, 0, e, h => by
    simp at h
    subst h
    exact ⟨rfl, rfl⟩
  | y :: r, i + 1, e, h => by
    rw [List.getElem?_cons_succ] at h
    obtain ⟨h1, h2⟩ := bCells_get r i e h
    rw [bCells, show (i + 1) * 2 = i * 2 + 1 + 1 by omega]
    simp only [List.getElem?_cons_succ]
    exact ⟨h1, h2⟩
/-- Buckets that the call makes: their row, and what each one's entries are wherever the row's block alone turns. -/
structure GrowB (t : TypeId) (w wr : World) (v : Value) (bs : List Bkt) : Prop where
  row : ∃ vs : List Value, vs.length = bs.length ∧ wr.ownsRow w.heap.size t 2 v bs.length (bCells (vs.zip (bs.map Bkt.ag))) ∧ ∀ (i : Nat) (x : Bkt) (ev : Value), bs[i]? = some x → vs[i]? = some ev → Held (fun q => some q ≠ v.ownBlock) (fun u => EntsE u ev x.es) wr
  since : Below w.heap.size w wr
theorem growB_start (t : TypeId) (w : World) : GrowB t w w (.slice none 0 0) [] := ⟨⟨[], rfl, World.ownsRow_nil w _ _ _, fun i x ev h => by simp at h⟩, Below.refl _ _⟩
theorem GrowB.bkts {t : TypeId} {w wr : World} {v : Value} {bs : List Bkt} (h : GrowB t w wr v bs) : BktsE wr v bs := by
  obtain ⟨vs, hl, own, hx⟩ := h.row
  have get : ∀ (i : Nat) (x : Bkt), bs[i]? = some x → ∃ ev, vs[i]? = some ev ∧ (vs.zip (bs.map Bkt.ag))[i]? = some (ev, x.ag) := fun i x hi => by
    have li := (List.getElem?_eq_some_iff.1 hi).1
    refine ⟨_, List.getElem?_eq_getElem (by omega), ?_⟩
    rw [List.getElem?_zip_eq_some, List.getElem?_map, hi]
    exact ⟨List.getElem?_eq_getElem (by omega), rfl⟩
  rcases own.2 with ⟨rfl, h0⟩ | ⟨g, cap, cur, rfl, _, hg, hn, _, _, _⟩
  · exact ⟨none, 0, 0, 0, by rw [h0], by omega, fun z => by omega, fun i x hi => by have := (List.getElem?_eq_some_iff.1 hi).1; omega⟩
  · refine ⟨_, cap, g, 0, rfl, hn, fun _ => rfl, fun i x hi => ?_⟩
    have li := (List.getElem?_eq_some_iff.1 hi).1
    obtain ⟨ev, e0, ez⟩ := get i x hi
    obtain ⟨g1, g2⟩ := bCells_get _ i _ ez
    have e1 := own.cellAt (j := i * 2) (by omega)
    have e2 := own.cellAt (j := i * 2 + 1) (by omega)
    rw [Nat.zero_add]
    exact ⟨ev, by rw [e1]; exact g1, by rw [e2]; exact g2, (hx i x ev hi e0).at⟩
theorem GrowB.step {t : TypeId} {w wr w1 : World} {v ev : Value} {g cap : Nat} {bs : List Bkt} {x : Bkt} {b : Obj} (h : GrowB t w wr v bs) (he : Held (fun q => some q ≠ v.ownBlock) (fun u => EntsE u ev x.es) wr)
    (hown : ∀ xs : List Value, wr.ownsRow w.heap.size t 2 v bs.length xs → w1.ownsRow w.heap.size t 2 (.slice (some ⟨g, 0, none⟩) (bs.length + 1) cap) (bs.length + 1) (xs ++ [ev, .int .i64 x.ag])) (hg : (wr.alloc b).grownBy w1 v.ownBlock) (hn : v.ownBlock = some g ∨ wr.heap.size ≤ g) : GrowB t w w1 (.slice (some ⟨g, 0, none⟩) (bs.length + 1) cap) (bs ++ [x]) := by
  obtain ⟨vs, hl, own, hx⟩ := h.row
  have z := h.since.size
  have sm : Same (fun q => some q ≠ v.ownBlock) wr w1 := ⟨by have := hg.size; simp at this; omega, fun q d hq => (hg.block q (by simp; omega) d).trans (Below.heap_alloc _ _ _ hq)⟩
  have to : ∀ {P : World → Prop}, Held (fun q => some q ≠ v.ownBlock) P wr → Held (fun q => some q ≠ (Value.slice (some ⟨g, 0, none⟩) (bs.length + 1) cap).ownBlock) P w1 := fun hp u e => hp u ⟨by have := e.1; have := sm.1; omega, fun q d hq => by
    have lt : q < w1.heap.size := by have := sm.1; omega
    rw [e.2 q (fun z => by
      have z2 : q = g := by simpa [Value.ownBlock] using z
      rcases hn with h1 | h1
      · exact d (by rw [h1, z2])
      · omega) lt]
    exact sm.2 q d hq⟩
  refine ⟨⟨vs ++ [ev], by simp [hl], ?_, fun i y ey hy hey => ?_⟩, (h.since.alloc z b).grown hg (by simp; omega) fun p e => (own.lt p e).1⟩
  · rw [List.map_append, List.zip_append (by simp [hl]), bCells_append, List.length_append, List.length_singleton]
    exact hown _ own
  · by_cases li : i < bs.length
    · rw [List.getElem?_append_left li] at hy
      rw [List.getElem?_append_left (by omega)] at hey
      exact to (hx i y ey hy hey)
    · have ei : i = bs.length := by
        have := (List.getElem?_eq_some_iff.1 hy).1
        simp at this
        omega
      subst ei
      rw [List.getElem?_append_right (Nat.le_refl _)] at hy
      rw [List.getElem?_append_right (by omega)] at hey
      simp [hl] at hy hey
      subst hy hey
      exact to he
theorem GrowB.keep {t : TypeId} {w wr w2 : World} {v : Value} {bs : List Bkt} (h : GrowB t w wr v bs) (s : Below wr.heap.size wr w2) : GrowB t w w2 v bs := by
  obtain ⟨vs, hl, own, hx⟩ := h.row
  exact ⟨⟨vs, hl, owns_at own fun g e => s.block g (own.lt g e).2, fun i x ev hi hv => (hx i x ev hi hv).since s⟩, bel_trans h.since s⟩
end Go.Proofs.Ytihealembikkiaa
