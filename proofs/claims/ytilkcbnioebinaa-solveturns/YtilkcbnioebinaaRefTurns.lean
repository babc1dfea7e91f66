/-
  A slice of rows that a statement appends to, and ranks of rows in another order.
-/
import Derived.Test.YtilkcbnioebinaaRefOwn
namespace Go.Proofs.Ytilkcbnioebinaa
open Go.RowKit Fm Go.Deep

structure Back (w wr : World) (v : Value) (k : Nat) (V : Nat → Value) : Prop where
  own : wr.ownsRow w.heap.size 30 1 v k ((List.range k).map V)
  since : Below w.heap.size w wr
theorem back_start (w : World) (V : Nat → Value) : Back w (w.alloc (.cells #[V 0] 30)) (.slice (some ⟨w.heap.size, 0, none⟩) 1 1) 1 V :=
  ⟨World.ownsRow_lit (size := 1) w #[V 0] 1 (Nat.le_refl _) (by unfold maxLen; omega) rfl, (Below.refl _ _).alloc (Nat.le_refl _) _⟩
theorem Back.step {w wr w1 : World} {v x : Value} {k g cap : Nat} {V : Nat → Value} {o : Obj} (h : Back w wr v k V) (hx : x = V k)
    (hown : w1.ownsRow w.heap.size 30 1 (.slice (some ⟨g, 0, none⟩) (k + 1) cap) (k + 1) ((List.range k).map V ++ [x])) (hg : (wr.alloc o).grownBy w1 v.ownBlock) : Back w w1 (.slice (some ⟨g, 0, none⟩) (k + 1) cap) (k + 1) V := by
  have e : (List.range k).map V ++ [x] = (List.range (k + 1)).map V := by rw [hx, List.range_succ, List.map_append]; rfl
  rw [e] at hown
  have s := h.since.size
  exact ⟨hown, (h.since.alloc s o).grown hg (by simp; omega) fun q e => (h.own.lt q e).1⟩
theorem Back.cap {w wr : World} {k g cap : Nat} {V : Nat → Value} (h : Back w wr (.slice (some ⟨g, 0, none⟩) k cap) k V) : k ≤ cap := by
  rcases h.own.2 with ⟨e, _⟩ | ⟨g', cap', cur, e, _, hg, hn, _⟩
  · cases e
  · cases e; exact hn
theorem Back.rows {w wr : World} {k g cap : Nat} {V : Nat → Value} (h : Back w wr (.slice (some ⟨g, 0, none⟩) k cap) k V) {L : Nat → Nat} {Z : Nat → Nat → Int} (hi : ∀ i, i < k → IntsAt w (V i) (L i) (Z i)) (m c : Nat) (hm : m ≤ k) (hc : k - m ≤ c) :
    RowsAt wr (.slice (some ⟨g, m, none⟩) (k - m) c) (k - m) (fun i => L (m + i)) (fun i => Z (m + i)) := by
  refine ⟨_, c, g, m, fun i => V (m + i), rfl, hc, fun _ => rfl, fun r hr => ⟨?_, (hi (m + r) (by omega)).keep (keep_of_below h.since)⟩⟩
  have e := h.own.cellAt (j := m + r) (by omega)
  rw [e]; simp [show m + r < k by omega]
theorem new_row30 (w : World) (x : Value) : ∀ (j : Nat) (u : Value), [x][j]? = some u → (w.alloc (.cells #[x] 30)).cell? ((⟨w.heap.size, 0, none⟩ : Addr).add j) = some u :=
  World.news_of_block (w := w.alloc (.cells #[x] 30)) (cs := #[x]) (t := 30) (fr := (0, 0)) (blk_alloc_new w _)

/-! ### The mathematics -/
theorem rev_mut (R C : Nat) (Z : Nat → Nat → Int) : Mut R C Z (fun i => Z (R - 1 - i)) :=
  ⟨fun r hr => Sp.row (by omega), fun r hr => (Sp.row (Z := fun i => Z (R - 1 - i)) (r := R - 1 - r) (by omega)).congr fun j _ => by
    show oF (Z r j) = oF (Z (R - 1 - (R - 1 - r)) j)
    rw [show R - 1 - (R - 1 - r) = r by omega]⟩
def backZ (R : Nat) (M : Nat → Int) (Z : Nat → Nat → Int) : Nat → Nat → Int := fun i => if i = 0 then M else Z (R - i)
def backL (R m : Nat) (L : Nat → Nat) : Nat → Nat := fun i => if i = 0 then m else L (R - i)
theorem back_rk {R C n k : Nat} {M : Nat → Int} {Z : Nat → Nat → Int} (h : Rk R C Z n) (h' : Rk (R + 1) C (backZ R M Z) k) (hz : ∀ r, r < R → ∀ j, j < C → 0 ≤ Z r j) (hM : ∀ j, j < C → 0 ≤ M j) : n ≤ k ∧ k ≤ n + 1 := by
  have m1 : Mut R C Z (fun i => if i < R then Z i else M) := Mut.alike fun r hr j _ => by simp only [if_pos hr]
  have m2 : Mut (R + 1) C (backZ R M Z) (fun i => if i < R then Z i else M) := by
    refine ⟨fun r hr => ?_, fun r hr => ?_⟩
    · by_cases e : r < R
      · refine (Sp.row (Z := backZ R M Z) (r := R - r) (by omega)).congr fun j _ => ?_
        simp only [if_pos e, backZ, if_neg (show R - r ≠ 0 by omega), show R - (R - r) = r by omega]
      · refine (Sp.row (Z := backZ R M Z) (r := 0) (by omega)).congr fun j _ => ?_
        simp [backZ, e]
    · by_cases e : r = 0
      · refine (Sp.row (Z := fun i => if i < R then Z i else M) (r := R) (by omega)).congr fun j _ => ?_
        simp [backZ, e]
      · refine (Sp.row (Z := fun i => if i < R then Z i else M) (r := R - r) (by omega)).congr fun j _ => ?_
        simp only [backZ, if_neg e, if_pos (show R - r < R by omega)]
  refine (m1.rk h).succ (m2.rk h') fun r hr j hj => ?_
  try dsimp only
  split
  · exact hz r (by omega) j hj
  · exact hM j hj
theorem rev_sys {R : Nat} {L : Nat → Nat} (h : SysP R L) : SysP R (fun i => L (R - 1 - i)) ∧ colsF R (fun i => L (R - 1 - i)) = colsF R L := by
  have e : colsF R (fun i => L (R - 1 - i)) = colsF R L := by
    by_cases hR : R = 0
    · unfold colsF; rw [if_pos hR, if_pos hR]
    · rw [colsF_pos (fun i => L (R - 1 - i)) (by omega)]
      exact h.2.2 _ (by omega)
  refine ⟨⟨h.1, by rw [e]; exact h.2.1, fun r hr => ?_⟩, e⟩
  rw [e]; exact h.2.2 _ (by omega)
theorem back_sys {R m C : Nat} {L : Nat → Nat} (h : SysP R L) (hR : R ≤ 31) (hm : m ≤ 32) (hC : colsF R L = C) (hmC : 0 < R → m = C) : SysP (R + 1) (backL R m L) ∧ colsF (R + 1) (backL R m L) = m := by
  have e : colsF (R + 1) (backL R m L) = m := by rw [colsF_pos _ (by omega)]; rfl
  refine ⟨⟨by omega, by omega, fun r hr => ?_⟩, e⟩
  rw [e]
  unfold backL
  split
  · rfl
  · rw [h.2.2 _ (by omega), hC, hmC (by omega)]
theorem back_not {R m C : Nat} {L : Nat → Nat} (h : SysP R L) (hC : colsF R L = C) (hR : 0 < R) (hmC : m ≠ C) : ¬ SysP (R + 1) (backL R m L) := fun k => by
  have e : colsF (R + 1) (backL R m L) = m := by rw [colsF_pos _ (by omega)]; rfl
  have := k.2.2 R (by omega)
  rw [e] at this
  unfold backL at this
  rw [if_neg (by omega), h.2.2 _ (by omega), hC] at this
  exact hmC this.symm

end Go.Proofs.Ytilkcbnioebinaa
