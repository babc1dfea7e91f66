/-
  Slices that grow by append, and what the reference's Times makes.
-/
import Derived.Test.YtilkcbnioebinaaRefRead
import Derived.OwnWalk
namespace Go.Proofs.Ytilkcbnioebinaa
open Go.RowKit Fm Go.Deep

theorem info36' : ∃ i, Try.prog.info? 36 = some i ∧ i.zero = some (.int .u64 0) ∧ i.size = 1 ∧ i.bytes = 8 := by
  obtain ⟨i, hi, hzz⟩ := Option.map_eq_some_iff.1 info36
  simp only [Prod.mk.injEq] at hzz
  exact ⟨i, hi, hzz⟩
theorem info30' : ∃ i, Try.prog.info? 30 = some i ∧ i.zero = some (.slice none 0 0) ∧ i.size = 1 ∧ i.bytes = 24 := by
  obtain ⟨i, hi, hzz⟩ := Option.map_eq_some_iff.1 info30
  simp only [Prod.mk.injEq] at hzz
  exact ⟨i, hi, hzz⟩

def cellsF (k : Nat) (z : Nat → Int) : List Value := (List.range k).map fun j => .int .u64 (z j)
theorem cellsF_len (k : Nat) (z : Nat → Int) : (cellsF k z).length = k := by simp [cellsF]
theorem cellsF_succ (k : Nat) (z : Nat → Int) : cellsF k z ++ [.int .u64 (z k)] = cellsF (k + 1) z := by simp [cellsF, List.range_succ]
theorem cellsF_get (k : Nat) (z : Nat → Int) (j : Nat) (h : j < k) : (cellsF k z)[j]? = some (.int .u64 (z j)) := by simp [cellsF, h]
/-- A slice of numbers that the call makes, from block B on. -/
structure Grow (w wr : World) (v : Value) (k : Nat) (z : Nat → Int) : Prop where
  own : wr.ownsRow w.heap.size 36 1 v k (cellsF k z)
  since : Below w.heap.size w wr
theorem grow_start (w : World) (z : Nat → Int) : Grow w w (.slice none 0 0) 0 z := ⟨World.ownsRow_nil w _ _ _, Below.refl _ _⟩
theorem owns_ints {w : World} {N : Nat} {v : Value} {k : Nat} {z : Nat → Int} (h : w.ownsRow N 36 1 v k (cellsF k z)) (u : ∀ j, j < k → U (z j)) : IntsAt w v k z := by
  rcases h.2 with ⟨rfl, rfl⟩ | ⟨g, cap, cur, rfl, _, hg, hn, _, _, hx⟩
  · exact ⟨_, 0, 0, 0, rfl, Nat.le_refl _, fun h => by omega, fun c h => by omega⟩
  · refine ⟨_, cap, g, 0, rfl, hn, fun _ => rfl, fun c hc => ⟨?_, u c hc⟩⟩
    have e := h.cellAt (j := c) (by omega)
    rw [Nat.zero_add, e]
    exact cellsF_get k z c hc
theorem Grow.drew {w wr : World} {v : Value} {k : Nat} {z : Nat → Int} (h : Grow w wr v k z) : Grow w wr.drew v k z := ⟨h.own, h.since.drew⟩
theorem Grow.drewN {w wr : World} {v : Value} {k : Nat} {z : Nat → Int} (h : Grow w wr v k z) (n : Nat) : Grow w (wr.drewN n) v k z := ⟨h.own, below_drewN h.since n⟩
theorem Grow.step {w wr w1 : World} {v : Value} {k g cap : Nat} {z : Nat → Int} {x : Int} {o : Obj} (h : Grow w wr v k z) (hx : x = z k)
    (hown : w1.ownsRow w.heap.size 36 1 (.slice (some ⟨g, 0, none⟩) (k + 1) cap) (k + 1) (cellsF k z ++ [.int .u64 x])) (hg : (wr.alloc o).grownBy w1 v.ownBlock) : Grow w w1 (.slice (some ⟨g, 0, none⟩) (k + 1) cap) (k + 1) z := by
  rw [hx, cellsF_succ] at hown
  have s := h.since.size
  exact ⟨hown, (h.since.alloc s o).grown hg (by simp; omega) fun q e => (h.own.lt q e).1⟩
theorem new_one' (w : World) (x : Value) : ∀ (j : Nat) (u : Value), [x][j]? = some u → (w.alloc (.cells #[x] 36)).cell? ((⟨w.heap.size, 0, none⟩ : Addr).add j) = some u :=
  World.news_of_block (w := w.alloc (.cells #[x] 36)) (cs := #[x]) (t := 36) (fr := (0, 0)) (blk_alloc_new w _)
theorem one_cell' (n : Int) : ∀ u ∈ [Value.int .u64 n], u.oneCell' = true := fun u hu => by
  rw [List.mem_singleton.1 hu]; rfl

def NewI (w : World) (n : Nat) (z : Nat → Int) (e : Ending) (w' : World) : Prop := ∃ v, e = .returned v ∧ IntsAt w' v n z ∧ Below w.heap.size w w'
set_option maxHeartbeats 3200000 in
theorem rtimes_any (w : World) (v x : Value) (R C : Nat) (L : Nat → Nat) (Z : Nat → Nat → Int) (X : Nat → Int) (h : RowsAt w v R L Z) (hx : IntsAt w x C X) (hR : R ≤ 100) (hC : C ≤ 100) (hL : ∀ r, r < R → L r = C) :
    Calls Try.prog 17 #[v, x] w (NewI w R (fun i => oF (dotN (Z i) X C))) := by
  obtain ⟨A, cap, b, o, V, rfl, h2, h3, h4⟩ := h
  obtain ⟨Ax, capx, bx, ox, rfl, _, x3, x4⟩ := hx
  have cell : Hid (∀ r, r < R → A = some ⟨b, o, none⟩ ∧ b < w.heap.size ∧ ∃ A' cap' b' o', w.cell? ⟨b, o + r, none⟩ = some (.slice A' C cap') ∧ ∀ c, c < C → A' = some ⟨b', o', none⟩ ∧ b' < w.heap.size ∧ w.cell? ⟨b', o' + c, none⟩ = some (.int .u64 (Z r c)) ∧ U (Z r c)) := fun r hr => by
    obtain ⟨c1, A', cap', b', o', e, _, e2, i⟩ := h4 r hr
    rw [hL r hr] at e e2 i
    exact ⟨h3 (by omega), World.block_lt_of_cell? _ _ c1, A', cap', b', o', by rw [c1, e], fun c hc => ⟨e2 (by omega), World.block_lt_of_cell? _ _ (i c hc).1, (i c hc).1, (i c hc).2⟩⟩
  have xcell : Hid (∀ c, c < C → Ax = some ⟨bx, ox, none⟩ ∧ bx < w.heap.size ∧ w.cell? ⟨bx, ox + c, none⟩ = some (.int .u64 (X c)) ∧ U (X c)) := fun c hc =>
    ⟨x3 (by omega), World.block_lt_of_cell? _ _ (x4 c (by omega)).1, (x4 c (by omega)).1, (x4 c (by omega)).2⟩
  obtain ⟨i36, hi36, hz36, hs36, hb36⟩ := info36'
  have HI : Hid (Try.prog.info? 36 = some i36 ∧ i36.zero = some (.int .u64 0) ∧ i36.size = 1 ∧ i36.bytes = 8) := ⟨hi36, hz36, hs36, hb36⟩
  clear h3 h4 x3 x4 hL hi36 hz36 hs36 hb36
  go_enter Try.func17, Try.ntmps17
  go_wp2_with fail
  go_loopg [5, 6] R (fun g l i wr => ∃ (k : Nat) (ao : Option Addr) (cv : Nat), (g = R - k ∧ k ≤ R ∧ Grow w wr (.slice ao k cv) k (fun i => oF (dotN (Z i) X C))) ∧ l = .slice ao k cv ∧ i = .int .i64 (k : Int))
  case atStart => exact ⟨0, none, 0, ⟨rfl, by omega, grow_start w _⟩, rfl, rfl⟩
  case round =>
    obtain ⟨k, ao, cv, ⟨hg, hk, hG⟩, rfl, rfl⟩ := hrel
    have HK : Hid (gk = R - k ∧ Grow w wr (.slice ao k cv) k (fun i => oF (dotN (Z i) X C))) := ⟨hg, hG⟩
    clear hg hG
    by_cases hz : k < R
    · obtain ⟨rfl, hb, A', cap', b', o', c1, c2⟩ := cell.out k hz
      have CC : Hid (w.cell? ⟨b, o + k, none⟩ = some (.slice A' C cap') ∧ ∀ c, c < C → A' = some ⟨b', o', none⟩ ∧ b' < w.heap.size ∧ w.cell? ⟨b', o' + c, none⟩ = some (.int .u64 (Z k c)) ∧ U (Z k c)) := ⟨c1, c2⟩
      clear c1 c2
      go_wp2_with fail
      go_loopg [7, 8] C (fun g s i wi => ∃ (c : Nat) (S : Int), (g = C - c ∧ c ≤ C ∧ S = oF (dotN (Z k) X c) ∧ Grow w wi (.slice ao k cv) k (fun i => oF (dotN (Z i) X C))) ∧ s = .int .u64 S ∧ i = .int .i64 (c : Int))
      case atStart => exact ⟨0, 0, ⟨rfl, by omega, rfl, HK.out.2⟩, rfl, rfl⟩
      case round =>
        obtain ⟨c, S, ⟨hg, hc, hS, hG⟩, rfl, rfl⟩ := hrel
        have HJ : Hid (gk = C - c ∧ S = oF (dotN (Z k) X c) ∧ Grow w wr (.slice ao k cv) k (fun i => oF (dotN (Z i) X C))) := ⟨hg, hS, hG⟩
        have uS : U S := by rw [hS]; exact oF_U _
        clear hS hg
        by_cases hlt : c < C
        · obtain ⟨c1, c2⟩ := CC.out
          obtain ⟨rfl, hb', e1, e2⟩ := c2 c hlt
          obtain ⟨rfl, hbx, x1, x2⟩ := xcell.out c hlt
          have d0 := (hG.since.cell (p := ⟨b, o + k, none⟩) hb).trans c1
          have d1 := (hG.since.cell (p := ⟨b', o' + c, none⟩) hb').trans e1
          have d2 := (hG.since.cell (p := ⟨bx, ox + c, none⟩) hbx).trans x1
          have b1 : (c : Int) < (C : Int) := by omega
          have b2 : (k : Int) < (R : Int) := by omega
          clear hG c1 c2 e1 x1
          go_wp2_with fail
          go_quiet ((first | (go_at_call 27; exact Calls.quiet_of_same (rmul_any (Z k c) (X c) _ e2 x2)) | (go_at_call 19; exact Calls.quiet_of_same (radd_any S (mulF (Z k c) (X c)) _ uS (mulF_U _ _)))))
          go_wp2_with fail
          go_roundg (C - (c + 1))
          case measure => have := HJ.out.1; omega
          case rel => exact ⟨c + 1, _, ⟨rfl, by omega, by rw [HJ.out.2.1]; exact dot_step (Z k) X c, HJ.out.2.2.drewN _⟩, rfl, by go_num⟩
        · have e : c = C := by omega
          have HE : Hid (c = C) := e
          have hown := HJ.out.2.2.own
          have HO : Hid (wr.ownsRow w.heap.size 36 1 (.slice ao k cv) k (cellsF k (fun i => oF (dotN (Z i) X C)))) := hown
          have hsz : w.heap.size ≤ wr.heap.size := HJ.out.2.2.since.size
          clear e hG hown
          go_wp2_with (at_builtin; refine wpList_append_lies _ rfl _ _ _ rfl w.heap.size 36 i36 (.int .u64 0) 1 8 Try.underlying30 HI.out.1 HI.out.2.1 HI.out.2.2.1 HI.out.2.2.2 rfl (by omega) (.slice ao k cv) k (cellsF k (fun i => oF (dotN (Z i) X C))) (by rfl) (HO.out.alloc _) ⟨wr.heap.size, 0, none⟩ 1 1 [.int .u64 S] (by rfl) rfl (new_one' wr _) (one_cell' _) (by omega) (by unfold maxLen; omega) (by omega) (by simp; omega) _ rfl ?_; intro g cap1 w1 hown1 hgrow hat hlt1)
          go_roundg (R - (k + 1))
          case measure => have := HK.out.1; omega
          case rel => exact ⟨k + 1, _, _, ⟨rfl, by omega, HJ.out.2.2.step (by rw [HJ.out.2.1, HE.out]) hown1 hgrow⟩, rfl, by go_num⟩
    · have e : k = R := by omega
      have HE : Hid (k = R) := e
      clear e
      go_wp2_with fail
      go_ret
      have g := HK.out.2
      exact ⟨_, rfl, by have := owns_ints g.own fun j _ => oF_U _; rw [HE.out] at this ⊢; exact this, g.since⟩

end Go.Proofs.Ytilkcbnioebinaa
