/-
  A frame as the document's: what the laws' own function makes of one; and that frames that are alike are told to be so.
-/
import Derived.Test.YtodjjjggjinliaaEthRight
namespace Go.Proofs.Ytodjjjggjinliaa
open Go.RowKit Oc Et Go.Deep
set_option linter.unusedVariables false

/-- A block that is known whole, nothing of it frozen. -/
def Blk (w : World) (g : Nat) (t : TypeId) (cs : Array Value) : Prop := w.heap[g]? = some (.cells cs t (0, 0))
theorem Blk.cell {w : World} {g : Nat} {t : TypeId} {cs : Array Value} (h : Blk w g t cs) (i : Nat) : w.cell? ⟨g, i, none⟩ = cs[i]? := cell_of_row w g i cs t (0, 0) h
theorem Blk.frozen {w : World} {g : Nat} {t : TypeId} {cs : Array Value} (h : Blk w g t cs) (i : Nat) : w.frozen? ⟨g, i, none⟩ = false := frozen_of_row w g i cs t h
theorem Blk.lt {w : World} {g : Nat} {t : TypeId} {cs : Array Value} (h : Blk w g t cs) : g < w.heap.size := by
  rcases Nat.lt_or_ge g w.heap.size with hlt | hge
  · exact hlt
  · unfold Blk at h; rw [Array.getElem?_eq_none hge] at h; cases h
theorem Blk.of {w w' : World} {g : Nat} {t : TypeId} {cs : Array Value} (h : Blk w g t cs) (e : w'.heap[g]? = w.heap[g]?) : Blk w' g t cs := by unfold Blk; rw [e]; exact h
theorem Blk.new (w : World) (t : TypeId) (cs : Array Value) : Blk (w.alloc (.cells cs t)) w.heap.size t cs := blk_alloc_new w _
theorem Blk.alloc {w : World} {g : Nat} {t : TypeId} {cs : Array Value} (h : Blk w g t cs) (o : Obj) : Blk (w.alloc o) g t cs := h.of (Below.heap_alloc w o g h.lt)
theorem Blk.other {w : World} {g : Nat} {t : TypeId} {cs : Array Value} (h : Blk w g t cs) {a : Addr} (ha : g ≠ a.block) (v : Value) : Blk (w.setCell a v) g t cs := h.of (Below.heap_setCell w a v g ha)
theorem Blk.set {w : World} {g : Nat} {t : TypeId} {cs : Array Value} (h : Blk w g t cs) (i : Nat) (v : Value) : Blk (w.setCell ⟨g, i, none⟩ v) g t (cs.setIfInBounds i v) := by
  unfold Blk at h ⊢
  simp [World.setCell, Array.getElem?_modify, h]
theorem Blk.grown {w w' : World} {g : Nat} {t : TypeId} {cs : Array Value} {row : Option Nat} (h : Blk w g t cs) (hg : w.grownBy w' row) (hr : some g ≠ row) : Blk w' g t cs := h.of (hg.block g h.lt hr)
theorem Blk.below {w w' : World} {B g : Nat} {t : TypeId} {cs : Array Value} (h : Blk w g t cs) (hb : Below B w w') (hr : g < B) : Blk w' g t cs := h.of (hb.block g hr)

/-- The cells of tags. -/
def tagCells (K V : Nat → Int) : Nat → List Value
  | 0 => []
  | k + 1 => tagCells K V k ++ [.int .i64 (K k), .int .i64 (V k)]
theorem tagCells_len (K V : Nat → Int) : ∀ k, (tagCells K V k).length = k * 2
  | 0 => rfl
  | k + 1 => by rw [tagCells, List.length_append, tagCells_len K V k]; simp; omega
theorem tagCells_get (K V : Nat → Int) : ∀ k i, i < k → (tagCells K V k)[i * 2]? = some (.int .i64 (K i)) ∧ (tagCells K V k)[i * 2 + 1]? = some (.int .i64 (V i))
  | 0, i, h => by omega
  | k + 1, i, h => by
    have l := tagCells_len K V k
    rw [tagCells]
    by_cases e : i = k
    · subst e
      rw [List.getElem?_append_right (by omega), List.getElem?_append_right (by omega), l, Nat.sub_self, show i * 2 + 1 - i * 2 = 1 by omega]
      exact ⟨rfl, rfl⟩
    · rw [List.getElem?_append_left (by omega), List.getElem?_append_left (by omega)]
      exact tagCells_get K V k i (by omega)
theorem owns_tags {w : World} {N : Nat} {t : TypeId} {v : Value} {k : Nat} {K V : Nat → Int} (h : w.ownsRow N t 2 v k (tagCells K V k)) : TagsAt w v k K V := by
  rcases h.2 with ⟨rfl, rfl⟩ | ⟨g, cap, cur, rfl, _, hg, hn, _, _, hx⟩
  · exact ⟨_, 0, 0, 0, rfl, Nat.le_refl _, fun h => by omega, fun c h => by omega⟩
  · refine ⟨_, cap, g, 0, rfl, hn, fun _ => rfl, fun i hi => ?_⟩
    obtain ⟨g1, g2⟩ := tagCells_get K V k i hi
    have e1 := h.cellAt (j := i * 2) (by omega)
    have e2 := h.cellAt (j := i * 2 + 1) (by omega)
    rw [Nat.zero_add, e1, e2]
    exact ⟨g1, g2⟩
theorem new_tag (w : World) (t : TypeId) (x y : Value) : ∀ (j : Nat) (u : Value), [x, y][j]? = some u → (w.alloc (.cells #[x, y] t)).cell? ((⟨w.heap.size, 0, none⟩ : Addr).add j) = some u :=
  World.news_of_block (w := w.alloc (.cells #[x, y] t)) (cs := #[x, y]) (t := t) (fr := (0, 0)) (blk_alloc_new w _)
theorem tag_cell (a b : Int) : ∀ u ∈ [Value.int .i64 a, Value.int .i64 b], u.oneCell' = true := fun u hu => by
  simp at hu
  rcases hu with rfl | rfl <;> rfl
theorem infoT (t : TypeId) (h : (Try.prog.info? t).map (fun i => (i.zero, i.size, i.bytes)) = some (some (.agg #[.int .i64 0, .int .i64 0]), 2, 16)) : ∃ i, Try.prog.info? t = some i ∧ i.zero = some (.agg #[.int .i64 0, .int .i64 0]) ∧ i.size = 2 ∧ i.bytes = 16 := by
  obtain ⟨i, hi, hzz⟩ := Option.map_eq_some_iff.1 h
  simp only [Prod.mk.injEq] at hzz
  exact ⟨i, hi, hzz⟩
theorem info53 : ∃ i, Try.prog.info? 53 = some i ∧ i.zero = some (.agg #[.int .i64 0, .int .i64 0]) ∧ i.size = 2 ∧ i.bytes = 16 := infoT 53 (by kernel_rfl)
theorem info45 : ∃ i, Try.prog.info? 45 = some i ∧ i.zero = some (.agg #[.int .i64 0, .int .i64 0]) ∧ i.size = 2 ∧ i.bytes = 16 := infoT 45 (by kernel_rfl)

/-- What the loop of 'ref' keeps. -/
structure RefIn (w wr : World) (ds ss v T : Value) (k : Nat) (K V : Nat → Int) : Prop where
  since : Below w.heap.size w wr
  size : w.heap.size + 3 ≤ wr.heap.size
  res : Blk wr (w.heap.size + 1) 31 #[.string ⟨#[]⟩, .string ⟨#[]⟩, .slice none 0 0, .int .i64 0]
  fr : Blk wr (w.heap.size + 1 + 1) 31 #[ds, ss, v, T]
  own : wr.ownsRow (w.heap.size + 3) 53 2 v k (tagCells K V k)

theorem RefIn.step {w wr w1 : World} {ds ss v T v' : Value} {k : Nat} {K V : Nat → Int} {a b : Obj} (h : RefIn w wr ds ss v T k K V)
    (hown : w1.ownsRow (w.heap.size + 3) 53 2 v' (k + 1) (tagCells K V k ++ [.int .i64 (K k), .int .i64 (V k)])) (hg : ((wr.alloc a).alloc b).grownBy w1 v.ownBlock) :
    Blk w1 (w.heap.size + 1 + 1) 31 #[ds, ss, v, T] ∧ RefIn w (w1.setCell ⟨w.heap.size + 1 + 1, 2, none⟩ v') ds ss v' T (k + 1) K V := by
  have far : ∀ q, v.ownBlock = some q → w.heap.size + 3 ≤ q := fun q e => (h.own.lt q e).1
  have sz := h.size
  have b1 : Blk w1 (w.heap.size + 1) 31 #[.string ⟨#[]⟩, .string ⟨#[]⟩, .slice none 0 0, .int .i64 0] := ((h.res.alloc a).alloc b).grown hg fun e => by have := far _ e.symm; omega
  have b2 : Blk w1 (w.heap.size + 1 + 1) 31 #[ds, ss, v, T] := ((h.fr.alloc a).alloc b).grown hg fun e => by have := far _ e.symm; omega
  have s1 : Below w.heap.size w w1 := ((h.since.alloc h.since.size a).alloc (by have := h.since.size; simp; omega) b).grown hg (by have := h.since.size; simp; omega) fun q e => by have := far q e; omega
  have z1 := hg.size
  simp only [World.size_alloc] at z1
  refine ⟨b2, s1.setCell (by show w.heap.size ≤ w.heap.size + 1 + 1; omega) _, ?_, b1.other (by show w.heap.size + 1 ≠ w.heap.size + 1 + 1; omega) _, b2.set 2 v', ownsRow_setCell_below hown (by show w.heap.size + 1 + 1 < w.heap.size + 3; omega) _⟩
  have : (w1.setCell ⟨w.heap.size + 1 + 1, 2, none⟩ v').heap.size = w1.heap.size := by simp [World.setCell]
  omega

/-- Four stores into a block of the call's own. -/
def put4 (w : World) (g : Nat) (a b c d : Value) : World := (((w.setCell ⟨g, 0, none⟩ a).setCell ⟨g, 1, none⟩ b).setCell ⟨g, 2, none⟩ c).setCell ⟨g, 3, none⟩ d
theorem put4_below {B : Nat} {w wr : World} {g : Nat} (h : Below B w wr) (hg : B ≤ g) (a b c d : Value) : Below B w (put4 wr g a b c d) :=
  (((h.setCell (by exact hg) a).setCell (by exact hg) b).setCell (by exact hg) c).setCell (by exact hg) d
theorem put4_owns {w : World} {g base : Nat} {e : TypeId} {size : Nat} {v : Value} {n : Nat} {xs : List Value} (h : w.ownsRow base e size v n xs) (hg : g < base) (a b c d : Value) : (put4 w g a b c d).ownsRow base e size v n xs :=
  ownsRow_setCell_below (ownsRow_setCell_below (ownsRow_setCell_below (ownsRow_setCell_below h (by exact hg) a) (by exact hg) b) (by exact hg) c) (by exact hg) d
theorem put4_blk {w : World} {g : Nat} {t : TypeId} {x y z u : Value} (h : Blk w g t #[x, y, z, u]) (a b c d : Value) : Blk (put4 w g a b c d) g t #[a, b, c, d] :=
  (((h.set 0 a).set 1 b).set 2 c).set 3 d
theorem RefIn.four {w wr : World} {ds ss v T : Value} {k : Nat} {K V : Nat → Int} (h : RefIn w wr ds ss v T k K V) (g : Nat) (h1 : w.heap.size ≤ g) (h2 : g < w.heap.size + 3) (a b c d : Value) {x y z u : Value} {t : TypeId} (hb : Blk wr g t #[x, y, z, u]) :
    Below w.heap.size w (put4 wr g a b c d) ∧ (put4 wr g a b c d).ownsRow (w.heap.size + 3) 53 2 v k (tagCells K V k) ∧ Blk (put4 wr g a b c d) g t #[a, b, c, d] :=
  ⟨put4_below h.since h1 a b c d, put4_owns h.own h2 a b c d, put4_blk hb a b c d⟩

/-- A frame that is made. -/
def NewF (w : World) (F : Fr) (e : Ending) (w' : World) : Prop := ∃ x, e = .returned x ∧ FrameAt w' x F ∧ Below w.heap.size w w'

set_option maxHeartbeats 3200000 in
theorem ref_any (w : World) (x : Value) (F : Fr) (h : FrameAt w x F) (hn : F.n ≤ 1000000) : Calls Try.prog 12 #[x] w (NewF w F) := by
  obtain ⟨d, s, n, K, V, T⟩ := F
  obtain ⟨v, rfl, A, cap, b, o, rfl, h2, h3, h4⟩ := h
  simp only at hn h2 h3 h4 ⊢
  have cell : Hid (∀ i, i < n → A = some ⟨b, o, none⟩ ∧ b < w.heap.size ∧ w.cell? ⟨b, o + i * 2, none⟩ = some (.int .i64 (K i)) ∧ w.cell? ⟨b, o + i * 2 + 1, none⟩ = some (.int .i64 (V i))) := fun i hi => ⟨h3 (by omega), World.block_lt_of_cell? _ _ (h4 i hi).1, (h4 i hi).1, (h4 i hi).2⟩
  clear h3 h4
  obtain ⟨i53, hi, hz, hs, hb⟩ := info53
  have HI : Hid (Try.prog.info? 53 = some i53 ∧ i53.zero = some (.agg #[.int .i64 0, .int .i64 0]) ∧ i53.size = 2 ∧ i53.bytes = 16) := ⟨hi, hz, hs, hb⟩
  clear hi hz hs hb
  go_enter Try.func12, Try.ntmps12
  go_wp2_with fail
  have START : Hid (RefIn w (((w.alloc (.cells #[.string (bsL d), .string (bsL s), .slice A n cap, .int .i64 T] 25)).alloc (.cells #[.string ⟨#[]⟩, .string ⟨#[]⟩, .slice none 0 0, .int .i64 0] 31)).alloc (.cells #[.string (bsL d), .string (bsL s), .slice none 0 0, .int .i64 T] 31)) (.string (bsL d)) (.string (bsL s)) (.slice none 0 0) (.int .i64 T) 0 K V) := by
    refine ⟨(((Below.refl _ _).alloc (Nat.le_refl _) _).alloc (by simp) _).alloc (by simp; omega) _, by simp, ?_, ?_, World.ownsRow_nil _ _ _ _⟩
    · have e := (Blk.new (w.alloc (.cells #[.string (bsL d), .string (bsL s), .slice A n cap, .int .i64 T] 25)) 31 #[.string ⟨#[]⟩, .string ⟨#[]⟩, .slice none 0 0, .int .i64 0]).alloc (.cells #[.string (bsL d), .string (bsL s), .slice none 0 0, .int .i64 T] 31)
      simpa using e
    · have e := Blk.new ((w.alloc (.cells #[.string (bsL d), .string (bsL s), .slice A n cap, .int .i64 T] 25)).alloc (.cells #[.string ⟨#[]⟩, .string ⟨#[]⟩, .slice none 0 0, .int .i64 0] 31)) 31 #[.string (bsL d), .string (bsL s), .slice none 0 0, .int .i64 T]
      simpa using e
  go_loopg [16] n (fun g i wr => ∃ (k : Nat) (ao : Option Addr) (cv : Nat), (g = n - k ∧ k ≤ n ∧ RefIn w wr (.string (bsL d)) (.string (bsL s)) (.slice ao k cv) (.int .i64 T) k K V) ∧ i = .int .i64 (k : Int))
  case atStart => exact ⟨0, none, 0, ⟨rfl, by omega, START.out⟩, rfl⟩
  case round =>
    clear START
    obtain ⟨k, ao, cv, ⟨hg, hk, hR⟩, rfl⟩ := hrel
    have HK : Hid (gk = n - k ∧ RefIn w wr (.string (bsL d)) (.string (bsL s)) (.slice ao k cv) (.int .i64 T) k K V) := ⟨hg, hR⟩
    have hsz := hR.size
    have f2 : wr.cell? ⟨w.heap.size + 1 + 1, 2, none⟩ = some (.slice ao k cv) := hR.fr.cell 2
    have hl2 : w.heap.size + 1 + 1 < wr.heap.size := by omega
    clear hg
    by_cases hz : k < n
    · obtain ⟨rfl, hb, e1, e2⟩ := cell.out k hz
      have t1 := (hR.since.cell (p := ⟨b, o + k * 2, none⟩) hb).trans e1
      have t2 := (hR.since.cell (p := ⟨b, o + k * 2 + 1, none⟩) hb).trans e2
      have bn : (k : Int) < n := by omega
      clear hR e1 e2
      have HO : Hid (wr.ownsRow (w.heap.size + 3) 53 2 (.slice ao k cv) k (tagCells K V k)) := HK.out.2.own
      have NW : Hid (∀ (j : Nat) (u : Value), [Value.int .i64 (K k), .int .i64 (V k)][j]? = some u → ((wr.alloc (.cells #[.int .i64 (K k), .int .i64 (V k)] 45)).alloc (.cells #[.int .i64 (K k), .int .i64 (V k)] 53)).cell? ((⟨wr.heap.size + 1, 0, none⟩ : Addr).add j) = some u) := by
        have e := new_tag (wr.alloc (.cells #[.int .i64 (K k), .int .i64 (V k)] 45)) 53 (.int .i64 (K k)) (.int .i64 (V k))
        simp only [World.size_alloc] at e
        exact e
      have STEP : Hid (∀ (g cap1 : Nat) (w1 : World), w1.ownsRow (w.heap.size + 3) 53 2 (.slice (some ⟨g, 0, none⟩) (k + 1) cap1) (k + 1) (tagCells K V k ++ [.int .i64 (K k), .int .i64 (V k)]) → ((wr.alloc (.cells #[.int .i64 (K k), .int .i64 (V k)] 45)).alloc (.cells #[.int .i64 (K k), .int .i64 (V k)] 53)).grownBy w1 (Value.slice ao k cv).ownBlock → Blk w1 (w.heap.size + 1 + 1) 31 #[.string (bsL d), .string (bsL s), .slice ao k cv, .int .i64 T] ∧ RefIn w (w1.setCell ⟨w.heap.size + 1 + 1, 2, none⟩ (.slice (some ⟨g, 0, none⟩) (k + 1) cap1)) (.string (bsL d)) (.string (bsL s)) (.slice (some ⟨g, 0, none⟩) (k + 1) cap1) (.int .i64 T) (k + 1) K V) := fun g cap1 w1 h1 h2 => HK.out.2.step h1 h2
      go_wp2_with (at_builtin; refine wpList_append_lies _ rfl _ _ _ rfl (w.heap.size + 3) 53 i53 (.agg #[.int .i64 0, .int .i64 0]) 2 16 Try.underlying29 HI.out.1 HI.out.2.1 HI.out.2.2.1 HI.out.2.2.2 rfl (by omega) (.slice ao k cv) k (tagCells K V k) (by rfl) ((HO.out.alloc _).alloc _) ⟨wr.heap.size + 1, 0, none⟩ 1 1 [.int .i64 (K k), .int .i64 (V k)] (by rfl) rfl NW.out (tag_cell _ _) (by omega) (by unfold maxLen; omega) (by omega) (by simp; omega) _ rfl ?_; intro g cap1 w1 hown1 hgrow hat hlt1; have ST : Hid (_ ∧ _) := STEP.out g cap1 w1 hown1 hgrow; have g2 : w1.cell? ⟨w.heap.size + 1 + 1, 2, none⟩ = some (.slice ao k cv) := ST.out.1.cell 2; have g3 := ST.out.1.frozen 2; clear hown1 hgrow hat hlt1)
      go_roundg (n - (k + 1))
      case measure => have := HK.out.1; omega
      case rel => exact ⟨k + 1, _, _, ⟨rfl, by omega, ST.out.2⟩, by go_num⟩
    · have f0 : wr.cell? ⟨w.heap.size + 1 + 1, 0, none⟩ = some (.string (bsL d)) := hR.fr.cell 0
      have f1 : wr.cell? ⟨w.heap.size + 1 + 1, 1, none⟩ = some (.string (bsL s)) := hR.fr.cell 1
      have f3 : wr.cell? ⟨w.heap.size + 1 + 1, 3, none⟩ = some (.int .i64 T) := hR.fr.cell 3
      have r0 : wr.cell? ⟨w.heap.size + 1, 0, none⟩ = some (.string ⟨#[]⟩) := hR.res.cell 0
      have r1 : wr.cell? ⟨w.heap.size + 1, 1, none⟩ = some (.string ⟨#[]⟩) := hR.res.cell 1
      have r2 : wr.cell? ⟨w.heap.size + 1, 2, none⟩ = some (.slice none 0 0) := hR.res.cell 2
      have r3 : wr.cell? ⟨w.heap.size + 1, 3, none⟩ = some (.int .i64 0) := hR.res.cell 3
      have z0 := hR.res.frozen 0
      have z1 := hR.res.frozen 1
      have z2 := hR.res.frozen 2
      have z3 := hR.res.frozen 3
      have e : k = n := by omega
      subst e
      clear hR
      go_wp2_with fail
      obtain ⟨b4, o4, r4⟩ := HK.out.2.four (w.heap.size + 1) (by omega) (by omega) (.string (bsL d)) (.string (bsL s)) (.slice ao k cv) (.int .i64 T) HK.out.2.res
      refine bodyPost_ret (v := .agg #[.string (bsL d), .string (bsL s), .slice ao k cv, .int .i64 T]) ?_ rfl ⟨_, rfl, ⟨_, rfl, owns_tags o4⟩, b4⟩
      have c0 := r4.cell 0
      have c1 := r4.cell 1
      have c2 := r4.cell 2
      have c3 := r4.cell 3
      change (results _ _).run _ (put4 wr (w.heap.size + 1) (.string (bsL d)) (.string (bsL s)) (.slice ao k cv) (.int .i64 T)) = .ok _ (put4 wr (w.heap.size + 1) (.string (bsL d)) (.string (bsL s)) (.slice ao k cv) (.int .i64 T))
      generalize put4 wr (w.heap.size + 1) (.string (bsL d)) (.string (bsL s)) (.slice ao k cv) (.int .i64 T) = W4 at c0 c1 c2 c3
      simp [results, Try.results12, go_sem, c0, c1, c2, c3]
end Go.Proofs.Ytodjjjggjinliaa
