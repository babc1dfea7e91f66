/-
  What the reference's Base takes up, and how many that are: the rank.
-/
import Derived.Test.YtilkcbnioebinaaRefBase
namespace Go.Proofs.Ytilkcbnioebinaa
open Go.RowKit Fm Go.Deep

theorem OutAt.of_block {w w' : World} {g cap C : Nat} {z : Nat → Int} (h : OutAt w g cap C z) (e : w'.heap[g]? = w.heap[g]?) : OutAt w' g cap C z := by
  obtain ⟨f, h1, h2, h3⟩ := h
  exact ⟨f, h1.of_block e, h2, h3⟩
theorem less_any (w : World) (v vb : Value) (C n : Nat) (B : Nat → Nat → Int) (l : Nat → Nat) (z : Nat → Int) (hv : IntsAt w v C z) (hb : RowsAt w vb n (fun _ => C) B) (hs : Bs n C B l) (h0 : C = 0 → n = 0) (hC : C ≤ 100) (hn : n ≤ 100) :
    Calls Try.prog 33 #[v, vb] w (TellsLess w C (lessF B l z n)) := by
  by_cases e : C = 0
  · have e' := h0 e
    subst e e'
    obtain ⟨A, cap, rfl⟩ := hv.form
    exact less_none w A cap vb B l z hb
  · exact less_some w v vb C n B l z hv hb hs (by omega) hC hn

/-- Rows that the call has taken up. -/
structure BaseAt (w wr : World) (v : Value) (n C : Nat) (V : Nat → Value) (G K : Nat → Nat) (B : Nat → Nat → Int) : Prop where
  own : wr.ownsRow w.heap.size 30 1 v n ((List.range n).map V)
  row : ∀ i, i < n → V i = .slice (some ⟨G i, 0, none⟩) C (K i) ∧ w.heap.size ≤ G i ∧ v.ownBlock ≠ some (G i) ∧ OutAt wr (G i) (K i) C (B i)
  U : ∀ i, i < n → ∀ j, j < C → Fm.U (B i j)
  since : Below w.heap.size w wr
theorem base_start (w : World) (C : Nat) (V : Nat → Value) (G K : Nat → Nat) (B : Nat → Nat → Int) : BaseAt w w (.slice none 0 0) 0 C V G K B :=
  ⟨World.ownsRow_nil w _ _ _, fun i h => by omega, fun i h => by omega, Below.refl _ _⟩
theorem BaseAt.rows {w wr : World} {v : Value} {n C : Nat} {V : Nat → Value} {G K : Nat → Nat} {B : Nat → Nat → Int} (h : BaseAt w wr v n C V G K B) : RowsAt wr v n (fun _ => C) B := by
  rcases h.own.2 with ⟨rfl, rfl⟩ | ⟨g, cap, cur, rfl, _, hg, hn, _, _, hx⟩
  · exact ⟨_, 0, 0, 0, fun _ => .slice none 0 0, rfl, Nat.le_refl _, fun h => by omega, fun c h => by omega⟩
  · refine ⟨_, cap, g, 0, V, rfl, hn, fun _ => rfl, fun r hr => ⟨?_, ?_⟩⟩
    · have e := h.own.cellAt (j := r) (by omega)
      rw [Nat.zero_add, e]; simp [hr]
    · obtain ⟨e, _, _, o⟩ := h.row r hr
      rw [e]; exact o.ints (h.U r hr)
theorem grown_of_below {w w' : World} (h : Below w.heap.size w w') (row : Option Nat) : w.grownBy w' row := ⟨h.os, h.tape, h.output, h.size, fun k hk _ => h.block k hk⟩
theorem BaseAt.keep {w wr w2 : World} {v : Value} {n C : Nat} {V : Nat → Value} {G K : Nat → Nat} {B : Nat → Nat → Int} (h : BaseAt w wr v n C V G K B) (k : Below wr.heap.size wr w2) : BaseAt w w2 v n C V G K B :=
  ⟨h.own.kept (grown_of_below k none) (by cases v.ownBlock <;> simp), fun i hi => ⟨(h.row i hi).1, (h.row i hi).2.1, (h.row i hi).2.2.1, (h.row i hi).2.2.2.of_block (k.block _ (h.row i hi).2.2.2.lt)⟩, h.U, h.since.trans (k.mono h.since.size)⟩
theorem BaseAt.more {w wr w2 w3 : World} {v : Value} {n C g cap gr capr : Nat} {V : Nat → Value} {G K : Nat → Nat} {B : Nat → Nat → Int} {z : Nat → Int} {o : Obj} (h : BaseAt w wr v n C V G K B) (k : Below wr.heap.size wr w2)
    (hr : wr.heap.size ≤ gr) (ho : OutAt w2 gr capr C z) (uz : ∀ j, j < C → Fm.U (z j))
    (hown : w3.ownsRow w.heap.size 30 1 (.slice (some ⟨g, 0, none⟩) (n + 1) cap) (n + 1) ((List.range n).map V ++ [.slice (some ⟨gr, 0, none⟩) C capr])) (hg : (w2.alloc o).grownBy w3 v.ownBlock) (hat : v.ownBlock = some g ∨ g = w2.heap.size + 1) :
    BaseAt w w3 (.slice (some ⟨g, 0, none⟩) (n + 1) cap) (n + 1) C (fun i => if i < n then V i else .slice (some ⟨gr, 0, none⟩) C capr) (fun i => if i < n then G i else gr) (fun i => if i < n then K i else capr) (fun i => if i < n then B i else z) := by
  have own := h.own.lt
  have s1 := k.size
  have s0 := h.since.size
  have blk : ∀ q, q < w2.heap.size → v.ownBlock ≠ some q → w3.heap[q]? = w2.heap[q]? := fun q hq hne =>
    (hg.block q (by simp; omega) (fun e => hne e.symm)).trans (Below.heap_alloc _ _ _ hq)
  have grne : v.ownBlock ≠ some gr := fun e => by have := (own gr e).2; omega
  refine ⟨?_, fun i hi => ?_, fun i hi j hj => ?_, ?_⟩
  · have e : (List.range (n + 1)).map (fun i => if i < n then V i else .slice (some ⟨gr, 0, none⟩) C capr) = (List.range n).map V ++ [.slice (some ⟨gr, 0, none⟩) C capr] := by
      rw [List.range_succ, List.map_append, List.map_singleton, if_neg (Nat.lt_irrefl n)]
      congr 1
      exact List.map_congr_left fun i hi => if_pos (List.mem_range.1 hi)
    rw [e]; exact hown
  · by_cases e : i < n
    · simp only [if_pos e]
      obtain ⟨r1, r2, r3, r4⟩ := h.row i e
      have lt := r4.lt
      refine ⟨r1, r2, fun x => ?_, (r4.of_block (k.block _ lt)).of_block (blk _ (by omega) r3)⟩
      have x' : g = G i := by simpa [Value.ownBlock] using x
      rcases hat with a | a
      · exact r3 (by rw [a, x'])
      · omega
    · simp only [if_neg e]
      have lt := ho.lt
      refine ⟨trivial, by omega, fun x => ?_, ho.of_block (blk _ lt grne)⟩
      have x' : g = gr := by simpa [Value.ownBlock] using x
      rcases hat with a | a
      · exact grne (by rw [a, x'])
      · omega
  · try dsimp only
    split
    · exact h.U i (by omega) j hj
    · exact uz j hj
  · exact ((h.since.trans (k.mono s0)).alloc (by omega) o).grown hg (by simp; omega) fun q e => (own q e).1

theorem new_one30 (w : World) (x : Value) : ∀ (j : Nat) (u : Value), [x][j]? = some u → (w.alloc (.cells #[x] 30)).cell? ((⟨w.heap.size, 0, none⟩ : Addr).add j) = some u :=
  World.news_of_block (w := w.alloc (.cells #[x] 30)) (cs := #[x]) (t := 30) (fr := (0, 0)) (blk_alloc_new w _)
def NewBase (w : World) (R C : Nat) (Z : Nat → Nat → Int) (e : Ending) (w' : World) : Prop := ∃ (ao : Option Addr) (n cv : Nat), e = .returned (.slice ao n cv) ∧ Rk R C Z n ∧ n ≤ R ∧ Below w.heap.size w w'
set_option maxHeartbeats 3200000 in
theorem base_any (w : World) (v : Value) (R C : Nat) (L : Nat → Nat) (Z : Nat → Nat → Int) (h : RowsAt w v R L Z) (hR : R ≤ 60) (hC : C ≤ 60) (hL : ∀ r, r < R → L r = C) :
    Calls Try.prog 24 #[v] w (NewBase w R C Z) := by
  obtain ⟨A, cap, b, o, V0, rfl, h2, h3, h4⟩ := h
  have cell : Hid (∀ r, r < R → A = some ⟨b, o, none⟩ ∧ ∃ A' cap', w.cell? ⟨b, o + r, none⟩ = some (.slice A' C cap') ∧ IntsAt w (.slice A' C cap') C (Z r) ∧ ∀ j, j < C → U (Z r j)) := fun r hr => by
    obtain ⟨c1, i⟩ := h4 r hr
    rw [hL r hr] at i
    have i' := i
    obtain ⟨A', cap', b', o', e, _, _, u⟩ := i
    rw [e] at c1 i'
    exact ⟨h3 (by omega), A', cap', c1, i', fun j hj => (u j hj).2⟩
  obtain ⟨i30, hi30, hz30, hs30, hb30⟩ := info30'
  have HI : Hid (Try.prog.info? 30 = some i30 ∧ i30.zero = some (.slice none 0 0) ∧ i30.size = 1 ∧ i30.bytes = 24) := ⟨hi30, hz30, hs30, hb30⟩
  clear h3 h4 hL hi30 hz30 hs30 hb30
  go_enter Try.func24, Try.ntmps24
  go_wp2_with fail
  go_loopg [3, 4] R (fun g bs i wr => ∃ (k n : Nat) (ao : Option Addr) (cv : Nat), (g = R - k ∧ k ≤ R ∧ ∃ V G K B l, BaseAt w wr (.slice ao n cv) n C V G K B ∧ Based k n C B l Z) ∧ bs = .slice ao n cv ∧ i = .int .i64 (k : Int))
  case atStart => exact ⟨0, 0, none, 0, ⟨rfl, by omega, fun _ => .slice none 0 0, fun _ => 0, fun _ => 0, fun _ _ => 0, fun _ => 0, base_start _ _ _ _ _ _, Based.start _ _ _ _⟩, rfl, rfl⟩
  case round =>
    obtain ⟨k, n, ao, cv, ⟨hg, hk, V, G, K, B, l, hA, hBd⟩, rfl, rfl⟩ := hrel
    have HK : Hid (gk = R - k ∧ BaseAt w wr (.slice ao n cv) n C V G K B ∧ Based k n C B l Z) := ⟨hg, hA, hBd⟩
    have hnk : n ≤ k := hBd.le
    clear hg hBd
    by_cases hz : k < R
    · obtain ⟨rfl, A', cap', c1, c2, uz⟩ := cell.out k hz
      have d1 := (hA.since.cell (World.block_lt_of_cell? _ _ c1)).trans c1
      have hless := less_any wr (.slice A' C cap') (.slice ao n cv) C n B l (Z k) (c2.keep (keep_of_below hA.since)) hA.rows HK.out.2.2.bs (fun e => by have := HK.out.2.2.rk.cols; omega) (by omega) (by omega)
      have HL : Hid (Calls Try.prog 33 #[.slice A' C cap', .slice ao n cv] wr (TellsLess wr C (lessF B l (Z k) n))) := hless
      have UZ : Hid (∀ j, j < C → U (Z k j)) := uz
      have b1 : (k : Int) < (R : Int) := by omega
      clear c1 c2 uz hA hless
      go_wp2_with fail
      refine HL.out.mono ?_
      rintro e w2 ⟨ar, capr, gr, rfl, hr1, hr2, b2⟩
      have HR : Hid ((0 < C → ar = some ⟨gr, 0, none⟩ ∧ wr.heap.size ≤ gr ∧ OutAt w2 gr capr C (lessF B l (Z k) n)) ∧ IntsAt w2 (.slice ar C capr) C (lessF B l (Z k) n) ∧ Below wr.heap.size wr w2) := ⟨hr1, hr2, b2⟩
      clear hr1 hr2 b2 HL d1
      go_wp2_with fail
      refine (first_any w2 _ C _ HR.out.2.1 (by omega)).mono ?_
      rintro e w3 ⟨q, rfl, hq, hw3⟩
      have hw4 := hw3.symm
      subst hw4
      clear hw3
      have HB2 : Hid (BaseAt w w2 (.slice ao n cv) n C V G K B) := HK.out.2.1.keep HR.out.2.2
      by_cases hqC : q < C
      · have HQ : Hid (Ld C (lessF B l (Z k) n) q) := by
          rcases hq with ⟨_, h⟩ | ⟨h, _⟩
          · exact h
          · omega
        have hqC' : (q : Int) < (C : Int) := by omega
        obtain ⟨ha, hr3, hr4⟩ := HR.out.1 (by omega)
        subst ha
        have HR4 : Hid (wr.heap.size ≤ gr ∧ OutAt w2 gr capr C (lessF B l (Z k) n)) := ⟨hr3, hr4⟩
        have hsz : w.heap.size ≤ w2.heap.size := HB2.out.since.size
        clear hq hr3 hr4
        go_wp2_with (at_builtin; refine wpList_append_lies _ rfl _ _ _ rfl w.heap.size 30 i30 (.slice none 0 0) 1 24 Try.underlying22 HI.out.1 HI.out.2.1 HI.out.2.2.1 HI.out.2.2.2 rfl (by omega) (.slice ao n cv) n ((List.range n).map V) (by rfl) (HB2.out.own.alloc _) ⟨w2.heap.size, 0, none⟩ 1 1 [.slice (some ⟨gr, 0, none⟩) C capr] (by rfl) rfl (new_one30 w2 _) (fun u hu => by rw [List.mem_singleton.1 hu]; rfl) (by omega) (by unfold maxLen; omega) (by omega) (by simp; omega) (w2.heap.size + 1) (by simp) ?_; intro g cap1 w3 hown1 hgrow hat hlt1)
        go_roundg (R - (k + 1))
        case measure => have := HK.out.1; omega
        case rel => exact ⟨k + 1, n + 1, _, _, ⟨rfl, by omega, _, _, _, _, _, HK.out.2.1.more HR.out.2.2 HR4.out.1 HR4.out.2 (less_U UZ.out n) hown1 hgrow hat, HK.out.2.2.more (fun j hj => (UZ.out j hj).1) HQ.out⟩, rfl, by go_num⟩
      · have HQ : Hid (∀ j, j < C → oF (lessF B l (Z k) n j) = 0) := by
          rcases hq with ⟨h, _⟩ | ⟨_, h⟩
          · omega
          · exact h
        have hqC' : ¬ (q : Int) < (C : Int) := by omega
        clear hq
        go_wp2_with fail
        go_roundg (R - (k + 1))
        case measure => have := HK.out.1; omega
        case rel => exact ⟨k + 1, n, ao, cv, ⟨rfl, by omega, _, _, _, _, _, HB2.out, HK.out.2.2.none HQ.out⟩, rfl, by go_num⟩
    · have e : k = R := by omega
      have HE : Hid (k = R) := e
      clear e hA
      go_wp2_with fail
      go_ret
      have d := HK.out.2.2
      rw [HE.out] at d
      exact ⟨ao, n, cv, rfl, d.rk, d.le, HK.out.2.1.since⟩
def TellsRef (w : World) (R C : Nat) (Z : Nat → Nat → Int) (e : Ending) (w' : World) : Prop := ∃ n : Nat, e = .returned (.int .i64 (n : Int)) ∧ Rk R C Z n ∧ n ≤ R ∧ Below w.heap.size w w'
set_option maxHeartbeats 800000 in
theorem rrank_any (w : World) (v : Value) (R C : Nat) (L : Nat → Nat) (Z : Nat → Nat → Int) (h : RowsAt w v R L Z) (hR : R ≤ 60) (hC : C ≤ 60) (hL : ∀ r, r < R → L r = C) :
    Calls Try.prog 13 #[v] w (TellsRef w R C Z) := by
  have HB : Hid (Calls Try.prog 24 #[v] w (NewBase w R C Z)) := base_any w v R C L Z h hR hC hL
  obtain ⟨A, cap, rfl⟩ := h.form
  clear h hL
  go_enter Try.func13, Try.ntmps13
  go_wp2_with fail
  refine HB.out.mono ?_
  rintro e w1 ⟨ao, n, cv, rfl, hn, hle, hb⟩
  have HN : Hid (Rk R C Z n ∧ n ≤ R ∧ Below w.heap.size w w1) := ⟨hn, hle, hb⟩
  clear hn hle hb
  go_wp2_with fail
  go_ret
  exact ⟨n, rfl, HN.out.1, HN.out.2.1, HN.out.2.2⟩

end Go.Proofs.Ytilkcbnioebinaa
