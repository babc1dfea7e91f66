/-
  What the reference's Wide makes: each row with its number behind.
-/
import Derived.Test.YtilkcbnioebinaaRefRank
import Derived.Test.YtilkcbnioebinaaSolveSolve
import Derived.Deep.RegionLaw
namespace Go.Proofs.Ytilkcbnioebinaa
open Go.RowKit Fm Go.Deep
attribute [local go_sem ↓] Go.wp_at_zero Go.wp_at_succ

theorem wide_row (C : Nat) (Z : Nat → Nat → Int) (X : Nat → Int) (k : Nat) : cellsF C (Z k) ++ [.int .u64 (X k)] = cellsF (C + 1) (wideZ C Z X k) := by
  rw [← cellsF_succ]
  congr 1
  · unfold cellsF
    exact List.map_congr_left fun j hj => by rw [wideZ, if_pos (List.mem_range.1 hj)]
  · rw [wideZ, if_neg (Nat.lt_irrefl C)]
theorem lit_cell (w : World) (x : Value) (t : TypeId) : (w.alloc (.cells #[x] t)).cell? ⟨w.heap.size, 0, none⟩ = some x := by
  have h := World.rowIs_alloc w #[x] t (fun _ => x) (fun i hi => by
    have : i = 0 := by simp at hi; omega
    subst this; rfl)
  exact h.cell (i := 0) (by simp)
theorem news_cell {w : World} {b : Nat} {x : Value} (h : w.cell? ⟨b, 0, none⟩ = some x) : ∀ (j : Nat) (u : Value), [x][j]? = some u → w.cell? ((⟨b, 0, none⟩ : Addr).add j) = some u := fun j u hu => by
  cases j with
  | zero => simp at hu; subst hu; rw [Go.WideShapes.add_plain]; exact h
  | succ j => simp at hu

/-- The first append: a copy of the row. -/
structure Six (wr w1 : World) (g1 cap1 C : Nat) (z : Nat → Int) : Prop where
  own : w1.ownsRow wr.heap.size 36 1 (.slice (some ⟨g1, 0, none⟩) C cap1) C (cellsF C z)
  since : Below wr.heap.size wr w1
/-- The second: with the number behind. -/
structure Twelve (wr w2 : World) (g2 cap2 C : Nat) (z : Nat → Int) : Prop where
  out : OutAt w2 g2 cap2 C z
  le : wr.heap.size ≤ g2
  since : Below wr.heap.size wr w2
theorem six_a {wr w1 : World} {g1 cap1 C : Nat} {z : Nat → Int} (h : w1.ownsRow wr.heap.size 36 1 (.slice (some ⟨g1, 0, none⟩) (0 + C) cap1) (0 + C) ([] ++ cellsF C z)) (hg : wr.drew.grownBy w1 none) : Six wr w1 g1 cap1 C z := by
  rw [Nat.zero_add, List.nil_append] at h
  exact ⟨h, ⟨hg.os, hg.tape, hg.output, hg.size, fun k hk => hg.block k hk (by simp)⟩⟩
theorem six_b {wr w1 : World} {g1 cap1 C : Nat} {z : Nat → Int} {x : Value} (h : w1.ownsRow wr.heap.size 36 1 (.slice (some ⟨g1, 0, none⟩) (0 + C) cap1) (0 + C) ([] ++ cellsF C z)) (hg : (wr.alloc (.cells #[x] 36)).drew.grownBy w1 none) : Six wr w1 g1 cap1 C z ∧ w1.cell? ⟨wr.heap.size, 0, none⟩ = some x := by
  rw [Nat.zero_add, List.nil_append] at h
  have s : (wr.alloc (.cells #[x] 36)).drew.heap.size = wr.heap.size + 1 := by simp [World.drew]
  refine ⟨⟨h, ⟨hg.os, hg.tape, hg.output, by have := hg.size; omega, fun k hk => (hg.block k (by omega) (by simp)).trans (Below.heap_alloc wr _ k hk)⟩⟩, ?_⟩
  exact (hg.cell (a := ⟨wr.heap.size, 0, none⟩) (lit_cell wr x 36) (by simp))
theorem twelve_a {wr w1 w2 : World} {g1 cap1 g2 cap2 C : Nat} {Z : Nat → Nat → Int} {X : Nat → Int} {k : Nat} (h : Six wr w1 g1 cap1 C (Z k)) (hown : w2.ownsRow wr.heap.size 36 1 (.slice (some ⟨g2, 0, none⟩) (C + 1) cap2) (C + 1) (cellsF C (Z k) ++ [.int .u64 (X k)]))
    (hg : w1.grownBy w2 (some g1)) : Twelve wr w2 g2 cap2 (C + 1) (wideZ C Z X k) := by
  rw [wide_row] at hown
  obtain ⟨o1, o2⟩ := out_of_owns hown
  exact ⟨o1, o2, h.since.grown hg h.since.size fun q e => by cases e; exact (h.own.lt g1 rfl).1⟩
theorem twelve_b {wr w1 w2 : World} {g1 cap1 g2 cap2 C : Nat} {Z : Nat → Nat → Int} {X : Nat → Int} {k : Nat} {o : Obj} (h : Six wr w1 g1 cap1 C (Z k)) (hown : w2.ownsRow wr.heap.size 36 1 (.slice (some ⟨g2, 0, none⟩) (C + 1) cap2) (C + 1) (cellsF C (Z k) ++ [.int .u64 (X k)]))
    (hg : (w1.alloc o).grownBy w2 (some g1)) : Twelve wr w2 g2 cap2 (C + 1) (wideZ C Z X k) := by
  rw [wide_row] at hown
  obtain ⟨o1, o2⟩ := out_of_owns hown
  have s := h.since.size
  exact ⟨o1, o2, (h.since.alloc s o).grown hg (by simp; omega) fun q e => by cases e; exact (h.own.lt g1 rfl).1⟩
theorem twelve_c {wr w2 : World} {g2 cap2 : Nat} {Z : Nat → Nat → Int} {X : Nat → Int} {k : Nat} {o : Obj} (hown : w2.ownsRow wr.heap.size 36 1 (.slice (some ⟨g2, 0, none⟩) (0 + 1) cap2) (0 + 1) ([] ++ [.int .u64 (X k)]))
    (hg : (wr.alloc o).drew.grownBy w2 none) : Twelve wr w2 g2 cap2 (0 + 1) (wideZ 0 Z X k) := by
  have e : ([] : List Value) ++ [.int .u64 (X k)] = cellsF (0 + 1) (wideZ 0 Z X k) := wide_row 0 Z X k
  rw [e] at hown
  obtain ⟨o1, o2⟩ := out_of_owns hown
  have s : (wr.alloc o).drew.heap.size = wr.heap.size + 1 := by simp [World.drew]
  exact ⟨o1, o2, ⟨hg.os, hg.tape, hg.output, by have := hg.size; omega, fun q hq => (hg.block q (by omega) (by simp)).trans (Below.heap_alloc wr _ q hq)⟩⟩

theorem BaseAt.congr {w wr : World} {v : Value} {n C : Nat} {V : Nat → Value} {G K : Nat → Nat} {B B' : Nat → Nat → Int} (h : BaseAt w wr v n C V G K B) (e : ∀ i, i < n → B i = B' i) : BaseAt w wr v n C V G K B' :=
  ⟨h.own, fun i hi => by rw [← e i hi]; exact h.row i hi, fun i hi => by rw [← e i hi]; exact h.U i hi, h.since⟩
theorem wide_more {w wr w2 w3 : World} {v : Value} {n C g cap gr capr : Nat} {V : Nat → Value} {G K : Nat → Nat} {B : Nat → Nat → Int} {o : Obj} (h : BaseAt w wr v n C V G K B) (k : Twelve wr w2 gr capr C (B n)) (uz : ∀ j, j < C → Fm.U (B n j))
    (hown : w3.ownsRow w.heap.size 30 1 (.slice (some ⟨g, 0, none⟩) (n + 1) cap) (n + 1) ((List.range n).map V ++ [.slice (some ⟨gr, 0, none⟩) C capr])) (hg : (w2.alloc o).grownBy w3 v.ownBlock) (hat : v.ownBlock = some g ∨ g = w2.heap.size + 1) :
    BaseAt w w3 (.slice (some ⟨g, 0, none⟩) (n + 1) cap) (n + 1) C (fun i => if i < n then V i else .slice (some ⟨gr, 0, none⟩) C capr) (fun i => if i < n then G i else gr) (fun i => if i < n then K i else capr) B :=
  (h.more k.since k.le k.out uz hown hg hat).congr fun i hi => by
    by_cases e : i < n
    · rw [if_pos e]
    · rw [if_neg e, show i = n by omega]

def NewRows (w : World) (R C : Nat) (Z : Nat → Nat → Int) (e : Ending) (w' : World) : Prop := ∃ v, e = .returned v ∧ RowsAt w' v R (fun _ => C) Z ∧ Below w.heap.size w w'
set_option maxHeartbeats 3200000 in
theorem wide_some (w : World) (v x : Value) (R C : Nat) (L : Nat → Nat) (Z : Nat → Nat → Int) (X : Nat → Int) (h : RowsAt w v R L Z) (hx : IntsAt w x R X) (hR : R ≤ 60) (hC : C ≤ 60) (hC0 : 0 < C) (hL : ∀ r, r < R → L r = C) :
    Calls Try.prog 15 #[v, x] w (NewRows w R (C + 1) (wideZ C Z X)) := by
  obtain ⟨A, cap, b, o, V0, rfl, h2, h3, h4⟩ := h
  obtain ⟨Ax, capx, bx, ox, rfl, _, x3, x4⟩ := hx
  have cell : Hid (∀ r, r < R → A = some ⟨b, o, none⟩ ∧ Ax = some ⟨bx, ox, none⟩ ∧ w.cell? ⟨bx, ox + r, none⟩ = some (.int .u64 (X r)) ∧ U (X r) ∧ ∃ cap' b' o', w.cell? ⟨b, o + r, none⟩ = some (.slice (some ⟨b', o', none⟩) C cap') ∧ (∀ j u, (cellsF C (Z r))[j]? = some u → w.cell? ((⟨b', o', none⟩ : Addr).add j) = some u) ∧ ∀ j, j < C → U (Z r j)) := fun r hr => by
    obtain ⟨c1, i⟩ := h4 r hr
    rw [hL r hr] at i
    obtain ⟨A', cap', b', o', e, _, e2, i⟩ := i
    obtain rfl := e2 hC0
    rw [e] at c1
    refine ⟨h3 (by omega), x3 (by omega), (x4 r hr).1, (x4 r hr).2, cap', b', o', c1, fun j u hu => ?_, fun j hj => (i j hj).2⟩
    have hj : j < C := by
      rcases Nat.lt_or_ge j C with h | h
      · exact h
      · rw [List.getElem?_eq_none (by rw [cellsF_len]; exact h)] at hu; cases hu
    rw [cellsF_get C (Z r) j hj] at hu
    cases hu
    rw [Go.WideShapes.add_plain]; exact (i j hj).1
  have hone : Hid (∀ r, ∀ u ∈ cellsF C (Z r), u.oneCell' = true) := fun r u hu => by
    obtain ⟨j, _, rfl⟩ := List.mem_map.1 hu; rfl
  obtain ⟨i36, hi36, hz36, hs36, hb36⟩ := info36'
  have HI : Hid (Try.prog.info? 36 = some i36 ∧ i36.zero = some (.int .u64 0) ∧ i36.size = 1 ∧ i36.bytes = 8) := ⟨hi36, hz36, hs36, hb36⟩
  obtain ⟨i30, hi30, hz30, hs30, hb30⟩ := info30'
  have HJ : Hid (Try.prog.info? 30 = some i30 ∧ i30.zero = some (.slice none 0 0) ∧ i30.size = 1 ∧ i30.bytes = 24) := ⟨hi30, hz30, hs30, hb30⟩
  clear h3 h4 x3 x4 hL hi36 hz36 hs36 hb36 hi30 hz30 hs30 hb30
  go_enter Try.func15, Try.ntmps15
  go_wp2_with fail
  go_loopg [5, 6] R (fun g l i wr => ∃ (k : Nat) (ao : Option Addr) (cv : Nat), (g = R - k ∧ k ≤ R ∧ ∃ V G K, BaseAt w wr (.slice ao k cv) k (C + 1) V G K (wideZ C Z X)) ∧ l = .slice ao k cv ∧ i = .int .i64 (k : Int))
  case atStart => exact ⟨0, none, 0, ⟨rfl, by omega, fun _ => .slice none 0 0, fun _ => 0, fun _ => 0, base_start _ _ _ _ _ _⟩, rfl, rfl⟩
  case round =>
    obtain ⟨k, ao, cv, ⟨hg, hk, V, G, K, hA⟩, rfl, rfl⟩ := hrel
    have HK : Hid (gk = R - k ∧ BaseAt w wr (.slice ao k cv) k (C + 1) V G K (wideZ C Z X)) := ⟨hg, hA⟩
    clear hg
    by_cases hz : k < R
    · obtain ⟨rfl, rfl, x1, x2, cap', b', o', c1, c2, uz⟩ := cell.out k hz
      have d1 := keep_of_below hA.since _ _ c1
      have d2 := keep_of_below hA.since _ _ x1
      have N1 : Hid (∀ j u, (cellsF C (Z k))[j]? = some u → wr.cell? ((⟨b', o', none⟩ : Addr).add j) = some u) := fun j u hu => keep_of_below hA.since _ _ (c2 j u hu)
      have N2 : Hid (∀ ob j u, (cellsF C (Z k))[j]? = some u → (wr.alloc ob).drew.cell? ((⟨b', o', none⟩ : Addr).add j) = some u) := fun ob j u hu => keep_of_below ((Below.refl _ _).alloc (Nat.le_refl _) ob) _ _ (keep_of_below hA.since _ _ (c2 j u hu))
      have UZ : Hid (∀ j, j < C + 1 → U (wideZ C Z X k j)) := fun j hj => by
        unfold wideZ
        split
        · exact uz j (by assumption)
        · exact x2
      have hk1 : (∀ ob, (wr.alloc ob).cell? ⟨b, o + k, none⟩ = some (.slice (some ⟨b', o', none⟩) C cap')) := fun ob => keep_of_below ((Below.refl _ _).alloc (Nat.le_refl _) ob) _ _ d1
      have hsz : w.heap.size ≤ wr.heap.size := hA.since.size
      have b1 : (k : Int) < (R : Int) := by omega
      clear hA c1 c2 x1 uz
      go_wp2_with fail
      go_region_law (first
        | (refine step_append_lies _ rfl (.tmp 15) (.tmp 19) 30 rfl wr.heap.size 36 i36 (.int .u64 0) 1 8 Try.underlying30 HI.out.1 HI.out.2.1 HI.out.2.2.1 HI.out.2.2.2 rfl (by omega) (.slice none 0 0) 0 [] (by simp [Act.eval]) (World.ownsRow_nil _ _ _ _) ⟨b', o', none⟩ C cap' (cellsF C (Z k)) (by simp [Act.eval]) (by rw [cellsF_len]; omega) N1.out (hone.out k) hC0 (by unfold maxLen; omega) (by omega) (Nat.le_refl _) wr.heap.size rfl ?_; intro g1 cap1 w1 hown1 hgrow1 hat1 hlt1; have S6 : Hid (Six wr w1 g1 cap1 C (Z k)) := six_a hown1 hgrow1; have d3 := keep_of_below S6.out.since _ _ d2; have hs6 := S6.out.since.size; clear hown1 hgrow1 hat1 hlt1)
        | (refine step_append_lies _ rfl (.tmp 15) (.tmp 19) 30 rfl wr.heap.size 36 i36 (.int .u64 0) 1 8 Try.underlying30 HI.out.1 HI.out.2.1 HI.out.2.2.1 HI.out.2.2.2 rfl (by omega) (.slice none 0 0) 0 [] (by simp [Act.eval]) (World.ownsRow_nil _ _ _ _) ⟨b', o', none⟩ C cap' (cellsF C (Z k)) (by simp [Act.eval]) (by rw [cellsF_len]; omega) (N2.out _) (hone.out k) hC0 (by unfold maxLen; omega) (by omega) (by simp) (wr.heap.size + 1) (by simp) ?_; intro g1 cap1 w1 hown1 hgrow1 hat1 hlt1; have S6 : Hid (Six wr w1 g1 cap1 C (Z k)) := (six_b hown1 hgrow1).1; have L6 : Hid (w1.cell? ⟨wr.heap.size, 0, none⟩ = some (.int .u64 (X k))) := (six_b hown1 hgrow1).2; have d3 := keep_of_below S6.out.since _ _ d2; have hs6 := S6.out.since.size; clear hown1 hgrow1 hat1 hlt1)
        | (refine step_append_lies _ rfl (.tmp 20) (.tmp 25) 30 rfl wr.heap.size 36 i36 (.int .u64 0) 1 8 Try.underlying30 HI.out.1 HI.out.2.1 HI.out.2.2.1 HI.out.2.2.2 rfl (by omega) (.slice (some ⟨g1, 0, none⟩) C cap1) C (cellsF C (Z k)) (by simp [Act.eval]) S6.out.own ⟨wr.heap.size, 0, none⟩ 1 1 [.int .u64 (X k)] (by simp [Act.eval]) rfl (news_cell L6.out) (one_cell _) (by omega) (by unfold maxLen; omega) (by omega) hs6 w1.heap.size rfl ?_; intro g2 cap2 w2 hown2 hgrow2 hat2 hlt2; have S12 : Hid (Twelve wr w2 g2 cap2 (C + 1) (wideZ C Z X k)) := twelve_a S6.out hown2 hgrow2; have A12 : Hid (BaseAt w w2 (.slice ao k cv) k (C + 1) V G K (wideZ C Z X)) := HK.out.2.keep S12.out.since; have hs12 := S12.out.since.size; clear hown2 hgrow2 hat2 hlt2)
        | (refine step_append_lies _ rfl (.tmp 20) (.tmp 25) 30 rfl wr.heap.size 36 i36 (.int .u64 0) 1 8 Try.underlying30 HI.out.1 HI.out.2.1 HI.out.2.2.1 HI.out.2.2.2 rfl (by omega) (.slice (some ⟨g1, 0, none⟩) C cap1) C (cellsF C (Z k)) (by simp [Act.eval]) (S6.out.own.alloc _) ⟨w1.heap.size, 0, none⟩ 1 1 [.int .u64 (X k)] (by simp [Act.eval]) rfl (new_one' w1 _) (one_cell _) (by omega) (by unfold maxLen; omega) (by omega) (by simp; omega) (w1.heap.size + 1) (by simp) ?_; intro g2 cap2 w2 hown2 hgrow2 hat2 hlt2; have S12 : Hid (Twelve wr w2 g2 cap2 (C + 1) (wideZ C Z X k)) := twelve_b S6.out hown2 hgrow2; have A12 : Hid (BaseAt w w2 (.slice ao k cv) k (C + 1) V G K (wideZ C Z X)) := HK.out.2.keep S12.out.since; have hs12 := S12.out.since.size; clear hown2 hgrow2 hat2 hlt2)
        | (refine step_append_lies _ rfl (.tmp 14) (.tmp 27) 22 rfl w.heap.size 30 i30 (.slice none 0 0) 1 24 Try.underlying22 HJ.out.1 HJ.out.2.1 HJ.out.2.2.1 HJ.out.2.2.2 rfl (by omega) (.slice ao k cv) k ((List.range k).map V) (by simp [Act.eval]) (A12.out.own.alloc _) ⟨w2.heap.size, 0, none⟩ 1 1 [.slice (some ⟨g2, 0, none⟩) (C + 1) cap2] (by simp [Act.eval]) rfl (new_one30 w2 _) (fun u hu => by rw [List.mem_singleton.1 hu]; rfl) (by omega) (by unfold maxLen; omega) (by omega) (by simp; omega) (w2.heap.size + 1) (by simp) ?_; intro g3 cap3 w3 hown3 hgrow3 hat3 hlt3))
      all_goals go_wp2_with fail
      all_goals go_roundg (R - (k + 1))
      all_goals first | (have := HK.out.1; omega) | exact ⟨k + 1, _, _, ⟨rfl, by omega, _, _, _, wide_more HK.out.2 S12.out UZ.out hown3 hgrow3 hat3⟩, rfl, by go_num⟩
    · have e : k = R := by omega
      subst e
      clear hA
      go_wp2_with fail
      go_ret
      exact ⟨_, rfl, HK.out.2.rows, HK.out.2.since⟩
set_option maxHeartbeats 3200000 in
theorem wide_zero (w : World) (v x : Value) (R : Nat) (L : Nat → Nat) (Z : Nat → Nat → Int) (X : Nat → Int) (h : RowsAt w v R L Z) (hx : IntsAt w x R X) (hR : R ≤ 60) (hL : ∀ r, r < R → L r = 0) :
    Calls Try.prog 15 #[v, x] w (NewRows w R (0 + 1) (wideZ 0 Z X)) := by
  obtain ⟨A, cap, b, o, V0, rfl, h2, h3, h4⟩ := h
  obtain ⟨Ax, capx, bx, ox, rfl, _, x3, x4⟩ := hx
  have cell : Hid (∀ r, r < R → A = some ⟨b, o, none⟩ ∧ Ax = some ⟨bx, ox, none⟩ ∧ w.cell? ⟨bx, ox + r, none⟩ = some (.int .u64 (X r)) ∧ U (X r) ∧ ∃ A' cap', w.cell? ⟨b, o + r, none⟩ = some (.slice A' 0 cap')) := fun r hr => by
    obtain ⟨c1, i⟩ := h4 r hr
    rw [hL r hr] at i
    obtain ⟨A', cap', b', o', e, _⟩ := i
    rw [e] at c1
    exact ⟨h3 (by omega), x3 (by omega), (x4 r hr).1, (x4 r hr).2, A', cap', c1⟩
  obtain ⟨i36, hi36, hz36, hs36, hb36⟩ := info36'
  have HI : Hid (Try.prog.info? 36 = some i36 ∧ i36.zero = some (.int .u64 0) ∧ i36.size = 1 ∧ i36.bytes = 8) := ⟨hi36, hz36, hs36, hb36⟩
  obtain ⟨i30, hi30, hz30, hs30, hb30⟩ := info30'
  have HJ : Hid (Try.prog.info? 30 = some i30 ∧ i30.zero = some (.slice none 0 0) ∧ i30.size = 1 ∧ i30.bytes = 24) := ⟨hi30, hz30, hs30, hb30⟩
  clear h3 h4 x3 x4 hL hi36 hz36 hs36 hb36 hi30 hz30 hs30 hb30
  go_enter Try.func15, Try.ntmps15
  go_wp2_with fail
  go_loopg [5, 6] R (fun g l i wr => ∃ (k : Nat) (ao : Option Addr) (cv : Nat), (g = R - k ∧ k ≤ R ∧ ∃ V G K, BaseAt w wr (.slice ao k cv) k (0 + 1) V G K (wideZ 0 Z X)) ∧ l = .slice ao k cv ∧ i = .int .i64 (k : Int))
  case atStart => exact ⟨0, none, 0, ⟨rfl, by omega, fun _ => .slice none 0 0, fun _ => 0, fun _ => 0, base_start _ _ _ _ _ _⟩, rfl, rfl⟩
  case round =>
    obtain ⟨k, ao, cv, ⟨hg, hk, V, G, K, hA⟩, rfl, rfl⟩ := hrel
    have HK : Hid (gk = R - k ∧ BaseAt w wr (.slice ao k cv) k (0 + 1) V G K (wideZ 0 Z X)) := ⟨hg, hA⟩
    clear hg
    by_cases hz : k < R
    · obtain ⟨rfl, rfl, x1, x2, A', cap', c1⟩ := cell.out k hz
      have d1 := keep_of_below hA.since _ _ c1
      have d2 := keep_of_below hA.since _ _ x1
      have UZ : Hid (∀ j, j < 0 + 1 → U (wideZ 0 Z X k j)) := fun j hj => by
        unfold wideZ
        rw [if_neg (by omega)]
        exact x2
      have hk1 : (∀ ob, (wr.alloc ob).cell? ⟨b, o + k, none⟩ = some (.slice A' 0 cap')) := fun ob => keep_of_below ((Below.refl _ _).alloc (Nat.le_refl _) ob) _ _ d1
      have hsz : w.heap.size ≤ wr.heap.size := hA.since.size
      have b1 : (k : Int) < (R : Int) := by omega
      clear hA c1 x1
      rcases A' with _ | a'
      all_goals go_wp2_with fail
      all_goals go_region_law (first
        | (refine step_append_lies _ rfl (.tmp 20) (.tmp 25) 30 rfl wr.heap.size 36 i36 (.int .u64 0) 1 8 Try.underlying30 HI.out.1 HI.out.2.1 HI.out.2.2.1 HI.out.2.2.2 rfl (by omega) (.slice none 0 0) 0 [] (by simp [Act.eval]) (World.ownsRow_nil _ _ _ _) ⟨wr.heap.size, 0, none⟩ 1 1 [.int .u64 (X k)] (by simp [Act.eval]) rfl (new_one wr _) (one_cell _) (by omega) (by unfold maxLen; omega) (by omega) (by simp) (wr.heap.size + 1) (by simp) ?_; intro g2 cap2 w2 hown2 hgrow2 hat2 hlt2; have S12 : Hid (Twelve wr w2 g2 cap2 (0 + 1) (wideZ 0 Z X k)) := twelve_c hown2 hgrow2; have A12 : Hid (BaseAt w w2 (.slice ao k cv) k (0 + 1) V G K (wideZ 0 Z X)) := HK.out.2.keep S12.out.since; have hs12 := S12.out.since.size; clear hown2 hgrow2 hat2 hlt2)
        | (refine step_append_lies _ rfl (.tmp 14) (.tmp 27) 22 rfl w.heap.size 30 i30 (.slice none 0 0) 1 24 Try.underlying22 HJ.out.1 HJ.out.2.1 HJ.out.2.2.1 HJ.out.2.2.2 rfl (by omega) (.slice ao k cv) k ((List.range k).map V) (by simp [Act.eval]) (A12.out.own.alloc _) ⟨w2.heap.size, 0, none⟩ 1 1 [.slice (some ⟨g2, 0, none⟩) (0 + 1) cap2] (by simp [Act.eval]) rfl (new_one30 w2 _) (fun u hu => by rw [List.mem_singleton.1 hu]; rfl) (by omega) (by unfold maxLen; omega) (by omega) (by simp; omega) (w2.heap.size + 1) (by simp) ?_; intro g3 cap3 w3 hown3 hgrow3 hat3 hlt3))
      all_goals go_wp2_with fail
      all_goals go_roundg (R - (k + 1))
      all_goals first | (have := HK.out.1; omega) | exact ⟨k + 1, _, _, ⟨rfl, by omega, _, _, _, wide_more HK.out.2 S12.out UZ.out hown3 hgrow3 hat3⟩, rfl, by go_num⟩
    · have e : k = R := by omega
      subst e
      clear hA
      go_wp2_with fail
      go_ret
      exact ⟨_, rfl, HK.out.2.rows, HK.out.2.since⟩
theorem rwide_any (w : World) (v x : Value) (R C : Nat) (L : Nat → Nat) (Z : Nat → Nat → Int) (X : Nat → Int) (h : RowsAt w v R L Z) (hx : IntsAt w x R X) (hR : R ≤ 60) (hC : C ≤ 60) (hL : ∀ r, r < R → L r = C) :
    Calls Try.prog 15 #[v, x] w (NewRows w R (C + 1) (wideZ C Z X)) := by
  by_cases e : C = 0
  · subst e; exact wide_zero w v x R L Z X h hx hR hL
  · exact wide_some w v x R C L Z X h hx hR hC (by omega) hL

end Go.Proofs.Ytilkcbnioebinaa
