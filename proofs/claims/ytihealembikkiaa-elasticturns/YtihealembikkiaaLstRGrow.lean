
/-
  Get, Add and Merge of the document (layer 11): what they answer.
-/
import Derived.Test.YtihealembikkiaaLstRef
import Derived.Test.YtihealembikkiaaLstAdd
import Derived.Deep.RegionLaw
namespace Go.Proofs.Ytihealembikkiaa
open Go.RowKit Fm Bl Lt L2 Go.Deep
set_option linter.unusedVariables false
set_option maxRecDepth 20000

def cellsI (k : Nat) (z : Nat → Int) : List Value := (List.range k).map fun j => .int .i64 (z j)
theorem cellsI_succ (k : Nat) (z : Nat → Int) : cellsI k z ++ [.int .i64 (z k)] = cellsI (k + 1) z := by simp [cellsI, List.range_succ]
/-- A slice of numbers that the call makes. -/
structure GrowI (w wr : World) (v : Value) (k : Nat) (z : Nat → Int) : Prop where
  own : wr.ownsRow w.heap.size 3 1 v k (cellsI k z)
  since : Below w.heap.size w wr
theorem growI_start (w : World) (z : Nat → Int) : GrowI w w (.slice none 0 0) 0 z := ⟨World.ownsRow_nil w _ _ _, Below.refl _ _⟩
theorem GrowI.step {w wr w1 : World} {v : Value} {k g cap : Nat} {z : Nat → Int} {x : Int} {o : Obj} (h : GrowI w wr v k z) (hx : x = z k)
    (hown : w1.ownsRow w.heap.size 3 1 (.slice (some ⟨g, 0, none⟩) (k + 1) cap) (k + 1) (cellsI k z ++ [.int .i64 x])) (hg : (wr.alloc o).grownBy w1 v.ownBlock) : GrowI w w1 (.slice (some ⟨g, 0, none⟩) (k + 1) cap) (k + 1) z := by
  rw [hx, cellsI_succ] at hown
  have s := h.since.size
  exact ⟨hown, (h.since.alloc s o).grown hg (by simp; omega) fun q e => (h.own.lt q e).1⟩
theorem GrowI.drew {w wr : World} {v : Value} {k : Nat} {z : Nat → Int} (h : GrowI w wr v k z) : GrowI w wr.drew v k z := ⟨h.own, h.since.drew⟩
/-- What has grown is a row. -/
theorem GrowI.row {w wr : World} {v : Value} {n : Nat} {z : Nat → Int} (h : GrowI w wr v n z) (hn : 1 ≤ n) : ∃ g cap, v = .slice (some ⟨g, 0, none⟩) n cap ∧ n ≤ cap ∧ w.heap.size ≤ g ∧ RowN wr g n z := by
  rcases h.own.2 with ⟨rfl, rfl⟩ | ⟨g, cap, cur, rfl, hb, hg, hl, _, _, hx⟩
  · omega
  · have hk : Blk wr g 3 cur := hg
    refine ⟨g, cap, rfl, hl, hb, cur, hk, fun i hi => ?_⟩
    have e := h.own.cellAt (j := i) (by omega)
    rw [← hk.cell i, e]
    simp [cellsI, hi]
theorem new_int (w : World) (x : Value) : ∀ (j : Nat) (u : Value), [x][j]? = some u → (w.alloc (.cells #[x] 3)).cell? ((⟨w.heap.size, 0, none⟩ : Addr).add j) = some u :=
  World.news_of_block (w := w.alloc (.cells #[x] 3)) (cs := #[x]) (t := 3) (fr := (0, 0)) (blk_alloc_new w _)
theorem new_row (w : World) (x : Value) : ∀ (j : Nat) (u : Value), [x][j]? = some u → (w.alloc (.cells #[x] 57)).cell? ((⟨w.heap.size, 0, none⟩ : Addr).add j) = some u :=
  World.news_of_block (w := w.alloc (.cells #[x] 57)) (cs := #[x]) (t := 57) (fr := (0, 0)) (blk_alloc_new w _)
theorem one_i64 (n : Int) : ∀ u ∈ [Value.int .i64 n], u.oneCell' = true := fun u hu => by
  rw [List.mem_singleton.1 hu]; rfl
/-- Rows that the call has made, in a slice that grows. -/
structure LinG (w wr : World) (v : Value) (k n : Nat) (V : Nat → Value) (G : Nat → Nat) (Z : Nat → Nat → Int) : Prop where
  own : wr.ownsRow w.heap.size 57 1 v k ((List.range k).map V)
  row : ∀ i, i < k → (∃ cap, V i = .slice (some ⟨G i, 0, none⟩) n cap ∧ n ≤ cap) ∧ w.heap.size ≤ G i ∧ v.ownBlock ≠ some (G i) ∧ RowN wr (G i) n (Z i)
  since : Below w.heap.size w wr
theorem lin_start (w : World) (n : Nat) (V : Nat → Value) (G : Nat → Nat) (Z : Nat → Nat → Int) : LinG w w (.slice none 0 0) 0 n V G Z :=
  ⟨World.ownsRow_nil w _ _ _, fun i h => by omega, Below.refl _ _⟩
theorem LinG.rows {w wr : World} {v : Value} {k n : Nat} {V : Nat → Value} {G : Nat → Nat} {Z : Nat → Nat → Int} (h : LinG w wr v k n V G Z) : RowsI wr v k (fun _ => n) Z := by
  rcases h.own.2 with ⟨rfl, rfl⟩ | ⟨g, cap, cur, rfl, _, hg, hn, _, _, hx⟩
  · exact ⟨_, 0, 0, 0, fun _ => .slice none 0 0, rfl, Nat.le_refl _, fun h => by omega, fun c h => by omega⟩
  · refine ⟨_, cap, g, 0, V, rfl, hn, fun _ => rfl, fun r hr => ⟨?_, ?_⟩⟩
    · have e := h.own.cellAt (j := r) (by omega)
      rw [Nat.zero_add, e]; simp [hr]
    · obtain ⟨⟨cap, e, l⟩, _, _, o⟩ := h.row r hr
      rw [e]; exact o.ints l
theorem grown_of_below {w w' : World} (h : Below w.heap.size w w') (row : Option Nat) : w.grownBy w' row := ⟨h.os, h.tape, h.output, h.size, fun k hk _ => h.block k hk⟩
theorem LinG.keep {w wr w2 : World} {v : Value} {k n : Nat} {V : Nat → Value} {G : Nat → Nat} {Z : Nat → Nat → Int} (h : LinG w wr v k n V G Z) (s : Below wr.heap.size wr w2) : LinG w w2 v k n V G Z :=
  ⟨h.own.kept (grown_of_below s none) (by cases v.ownBlock <;> simp), fun i hi => ⟨(h.row i hi).1, (h.row i hi).2.1, (h.row i hi).2.2.1, (h.row i hi).2.2.2.since s⟩, bel_trans h.since s⟩
theorem LinG.congr {w wr : World} {v : Value} {k n : Nat} {V : Nat → Value} {G : Nat → Nat} {Z Y : Nat → Nat → Int} (h : LinG w wr v k n V G Z) (e : ∀ i j, i < k → j < n → Z i j = Y i j) : LinG w wr v k n V G Y :=
  ⟨h.own, fun i hi => ⟨(h.row i hi).1, (h.row i hi).2.1, (h.row i hi).2.2.1, (h.row i hi).2.2.2.congr fun j hj => e i j hi hj⟩, h.since⟩
theorem LinG.more {w wr w2 w3 : World} {v : Value} {k n g cap gr capr : Nat} {V : Nat → Value} {G : Nat → Nat} {Z : Nat → Nat → Int} {o : Obj} (h : LinG w wr v k n V G Z) (s : Below wr.heap.size wr w2)
    (hr : wr.heap.size ≤ gr) (hl : n ≤ capr) (ho : RowN w2 gr n (Z k))
    (hown : w3.ownsRow w.heap.size 57 1 (.slice (some ⟨g, 0, none⟩) (k + 1) cap) (k + 1) ((List.range k).map V ++ [.slice (some ⟨gr, 0, none⟩) n capr])) (hg : (w2.alloc o).grownBy w3 v.ownBlock) (hat : v.ownBlock = some g ∨ g = w2.heap.size + 1) :
    LinG w w3 (.slice (some ⟨g, 0, none⟩) (k + 1) cap) (k + 1) n (fun i => if i < k then V i else .slice (some ⟨gr, 0, none⟩) n capr) (fun i => if i < k then G i else gr) Z := by
  have own := h.own.lt
  have s1 := s.size
  have s0 := h.since.size
  have blk : ∀ q, q < w2.heap.size → v.ownBlock ≠ some q → w3.heap[q]? = w2.heap[q]? := fun q hq hne =>
    (hg.block q (by simp; omega) (fun e => hne e.symm)).trans (Below.heap_alloc _ _ _ hq)
  have grne : v.ownBlock ≠ some gr := fun e => by have := (own gr e).2; omega
  refine ⟨?_, fun i hi => ?_, ?_⟩
  · have e : (List.range (k + 1)).map (fun i => if i < k then V i else .slice (some ⟨gr, 0, none⟩) n capr) = (List.range k).map V ++ [.slice (some ⟨gr, 0, none⟩) n capr] := by
      rw [List.range_succ, List.map_append, List.map_singleton, if_neg (Nat.lt_irrefl k)]
      congr 1
      exact List.map_congr_left fun i hi => if_pos (List.mem_range.1 hi)
    rw [e]; exact hown
  · by_cases e : i < k
    · simp only [if_pos e]
      obtain ⟨r1, r2, r3, r4⟩ := h.row i e
      have lt := r4.lt
      refine ⟨r1, r2, fun x => ?_, (r4.since s).of (blk _ (by omega) r3)⟩
      have x' : g = G i := by simpa [Value.ownBlock] using x
      rcases hat with a | a
      · exact r3 (by rw [a, x'])
      · omega
    · simp only [if_neg e]
      have lt := ho.lt
      have ik : i = k := by omega
      subst ik
      refine ⟨⟨capr, rfl, hl⟩, by omega, fun x => ?_, ho.of (blk _ lt grne)⟩
      have x' : g = gr := by simpa [Value.ownBlock] using x
      rcases hat with a | a
      · exact grne (by rw [a, x'])
      · omega
  · exact ((bel_trans h.since s).alloc (by omega) o).grown hg (by simp; omega) fun q e => (own q e).1
/-- A sketch that is told. -/
def Told (w : World) (S M : Int) (R n : Nat) (Z : Nat → Nat → Int) (e : Ending) (w' : World) : Prop := ∃ x, e = .returned x ∧ SkAt w' x S M R (fun _ => n) Z ∧ Below w.heap.size w w'
/-- Rows stand where a block below them, and not theirs, is written. -/
theorem LinG.other {w wr : World} {v : Value} {k n : Nat} {V : Nat → Value} {G : Nat → Nat} {Z : Nat → Nat → Int} (h : LinG w wr v k n V G Z) {a : Addr} (ha : a.block < w.heap.size) (y : Value) : RowsI (wr.setCell a y) v k (fun _ => n) Z := by
  rcases h.own.2 with ⟨rfl, rfl⟩ | ⟨g, cap, cur, rfl, hb, hg, hn, _, _, hx⟩
  · exact ⟨_, 0, 0, 0, fun _ => .slice none 0 0, rfl, Nat.le_refl _, fun h => by omega, fun c h => by omega⟩
  · have kg : Blk wr g 57 cur := hg
    refine ⟨_, cap, g, 0, V, rfl, hn, fun _ => rfl, fun r hr => ⟨?_, ?_⟩⟩
    · have e := h.own.cellAt (j := r) (by omega)
      rw [Nat.zero_add, (kg.other (a := a) (by omega) y).cell r, ← kg.cell r, e]; simp [hr]
    · obtain ⟨⟨cap, e, l⟩, q, _, o⟩ := h.row r hr
      rw [e]; exact (o.other (a := a) (by omega) y).ints l
theorem LinG.set {w wr : World} {v : Value} {k n : Nat} {V : Nat → Value} {G : Nat → Nat} {Z : Nat → Nat → Int} (h : LinG w wr v k n V G Z) {a b c d : Addr} (ha : a.block < w.heap.size) (hb : b.block = a.block) (hc : c.block = a.block) (x y z : Value) : True := trivial
theorem rows_put {w wr : World} {v : Value} {k n : Nat} {V : Nat → Value} {G : Nat → Nat} {Z : Nat → Nat → Int} (h : LinG w wr v k n V G Z) {w2 : World} (e : ∀ q, w.heap.size ≤ q → w2.heap[q]? = wr.heap[q]?) : RowsI w2 v k (fun _ => n) Z := by
  rcases h.own.2 with ⟨rfl, rfl⟩ | ⟨g, cap, cur, rfl, hb, hg, hn, _, _, hx⟩
  · exact ⟨_, 0, 0, 0, fun _ => .slice none 0 0, rfl, Nat.le_refl _, fun h => by omega, fun c h => by omega⟩
  · have kg : Blk wr g 57 cur := hg
    refine ⟨_, cap, g, 0, V, rfl, hn, fun _ => rfl, fun r hr => ⟨?_, ?_⟩⟩
    · have e2 := h.own.cellAt (j := r) (by omega)
      rw [Nat.zero_add, (kg.of (e g hb)).cell r, ← kg.cell r, e2]; simp [hr]
    · obtain ⟨⟨cap, e2, l⟩, q, _, o⟩ := h.row r hr
      rw [e2]; exact (o.of (e _ q)).ints l
theorem put3_heap (w : World) (g : Nat) (x y z : Value) (q : Nat) (h : q ≠ g) : (put3 w g x y z).heap[q]? = w.heap[q]? := by
  unfold put3
  rw [Below.heap_setCell _ _ _ q h, Below.heap_setCell _ _ _ q h, Below.heap_setCell _ _ _ q h]
set_option maxHeartbeats 3200000 in
theorem rget_ok (w : World) (x : Value) (S M : Int) (R n : Nat) (Z : Nat → Nat → Int) (s : ByteArray) (h : SkAt w x S M R (fun _ => n) Z) (ok : OkP M R n Z) (uS : U S) (hs : s.size ≤ 100000) :
    Calls Try.prog 42 #[x, .string s] w fun e w' => e = .returned (.int .i64 (getF M Z (placeN S s n) R)) ∧ Below w.heap.size w w' := by
  obtain ⟨v, rfl, hv⟩ := h
  have hR : R ≤ 7 := ok.2.2.2.1
  have n0 : 1 ≤ n := ok.2.2.2.2.1
  have n1 : n ≤ 256 := ok.2.2.2.2.2.1
  obtain ⟨A, cap, b, o, rfl, hc, hr⟩ := hv.read
  have RW : Hid (RowsCells w A R b o (fun _ => n) Z) := hr
  have BX : Hid (Below w.heap.size w (w.alloc (.cells #[.int .u64 S, .int .i64 M, .slice A R cap] 30))) := bel_alloc _ _
  have KX : Hid (Blk (w.alloc (.cells #[.int .u64 S, .int .i64 M, .slice A R cap] 30)) w.heap.size 30 #[.int .u64 S, .int .i64 M, .slice A R cap]) := Blk.new _ _ _
  clear hv hr ok
  go_enter Try.func42, Try.ntmps42
  go_wp2_with fail
  go_loopg [6, 5] R (fun gk i l wr => ∃ (k : Nat) (G : Int), (gk = R - k ∧ k ≤ R ∧ G = getF M Z (placeN S s n) k ∧ Below w.heap.size w wr ∧ Blk wr w.heap.size 30 #[.int .u64 S, .int .i64 M, .slice A R cap]) ∧ i = .int .i64 (k : Int) ∧ l = .int .i64 G)
  case atStart => exact ⟨0, M, ⟨rfl, by omega, rfl, BX.out, KX.out⟩, rfl, rfl⟩
  case round =>
    clear BX KX
    obtain ⟨k, G, ⟨hg, hk, hG, hB, hX⟩, rfl, rfl⟩ := hrel
    have HK : Hid (gk = R - k ∧ G = getF M Z (placeN S s n) k ∧ Below w.heap.size w wr ∧ Blk wr w.heap.size 30 #[.int .u64 S, .int .i64 M, .slice A R cap]) := ⟨hg, hG, hB, hX⟩
    have x0 : wr.cell? ⟨w.heap.size, 0, none⟩ = some (.int .u64 S) := hX.cell 0
    have x2 : wr.cell? ⟨w.heap.size, 2, none⟩ = some (.slice A R cap) := hX.cell 2
    by_cases hlt : k < R
    · obtain ⟨rfl, A', cap', b', o', ck0, lk, fk, gk'⟩ := RW.out k hlt
      obtain rfl := fk (by show 0 < n; omega)
      have ck := keep_of_below hB _ _ ck0
      have bk : (k : Int) < (R : Int) := by omega
      have b0 : (0 : Int) ≤ (k : Int) := by omega
      obtain ⟨P, hP⟩ : ∃ P, P = placeN S s n k := ⟨_, rfl⟩
      have pl : P < n := by rw [hP]; exact placeN_lt S s n k n0
      obtain ⟨z, hz⟩ : ∃ z, z = Z k P := ⟨_, rfl⟩
      have HZ : Hid (z = Z k P ∧ P = placeN S s n k) := ⟨hz, hP⟩
      have pb : (P : Int) < (n : Int) := by omega
      have CP : Hid (w.cell? ⟨b', o' + P, none⟩ = some (.int .i64 z)) := by rw [hz]; exact gk' P pl
      have CK0 : Hid (w.cell? ⟨b, o + k, none⟩ = some (.slice (some ⟨b', o', none⟩) n cap')) := ck0
      have CE : Hid (∀ w1, Calls Try.prog 25 #[.int .u64 S, .string s, .int .i64 (k : Int), .int .i64 (n : Int)] w1 fun e w' => e = .returned (.int .i64 (P : Int)) ∧ Below w1.heap.size w1 w') := fun w1 => by
        rw [hP]; exact rlcell_any S s k n w1 uS hs (by omega) n0 (by omega)
      have BD : Hid (Below w.heap.size w wr.drew) := hB.drew
      have KD : Hid (Blk wr.drew w.heap.size 30 #[.int .u64 S, .int .i64 M, .slice (some ⟨b, o, none⟩) R cap]) := hX
      clear hg hG hB hX hP hz gk' lk ck0 fk
      go_wp2_with fail
      clear x0 x2 ck
      refine wp_region_noPanic ?_
      refine wp_region_held_drew (S := (fun w' => Below w.heap.size w w' ∧ Blk w' w.heap.size 30 #[.int .u64 S, .int .i64 M, .slice (some ⟨b, o, none⟩) R cap])) (by kernel_rfl) ⟨BD.out, KD.out⟩ (fun hHeld => ?_)
      clear hHeld
      generalize wr.drew = v0 at BD KD  ⊢
      refine wpAnyH_take (i := 0) (v := ?_) rfl (by kernel_rfl) (by kernel_rfl) (by kernel_rfl) (fun _ _ _ h => h) (Or.inl ⟨by rfl, ?_⟩) ⟨BD.out, KD.out⟩ ?_
      rotate_left
      · intro wq hSw; go_simp; first | done | with_reducible rfl
      simp only [List.getElem_toArray, List.getElem_cons_zero, Act.put, List.setIfInBounds_toArray, List.set_cons_zero, List.set_cons_succ]
      refine wpAnyH_take (i := 1) (v := ?_) rfl (by kernel_rfl) (by kernel_rfl) (by kernel_rfl) (fun _ _ _ h => h) (Or.inl ⟨by rfl, ?_⟩) ⟨BD.out, KD.out⟩ ?_
      rotate_left
      · intro wq hSw; have x2 := hSw.2.cell 2; go_simp; first | done | with_reducible rfl
      simp only [List.getElem_toArray, List.getElem_cons_zero, List.getElem_cons_succ, Act.put, List.setIfInBounds_toArray, List.set_cons_zero, List.set_cons_succ]
      refine wpAnyH_take (i := 2) (v := ?_) rfl (by kernel_rfl) (by kernel_rfl) (by kernel_rfl) (fun _ _ _ h => h) (Or.inl ⟨by rfl, ?_⟩) ⟨BD.out, KD.out⟩ ?_
      rotate_left
      · intro wq hSw; go_simp; first | done | with_reducible rfl
      simp only [List.getElem_toArray, List.getElem_cons_zero, List.getElem_cons_succ, Act.put, List.setIfInBounds_toArray, List.set_cons_zero, List.set_cons_succ]
      refine wpAnyH_take (i := 3) (v := ?_) rfl (by kernel_rfl) (by kernel_rfl) (by kernel_rfl) (fun _ _ _ h => h) (Or.inl ⟨by rfl, ?_⟩) ⟨BD.out, KD.out⟩ ?_
      rotate_left
      · intro wq hSw; go_simp; first | done | with_reducible rfl
      simp only [List.getElem_toArray, List.getElem_cons_zero, List.getElem_cons_succ, Act.put, List.setIfInBounds_toArray, List.set_cons_zero, List.set_cons_succ]
      refine wpAnyH_take (i := 4) (v := ?_) rfl (by kernel_rfl) (by kernel_rfl) (by kernel_rfl) (fun _ _ _ h => h) (Or.inl ⟨by rfl, ?_⟩) ⟨BD.out, KD.out⟩ ?_
      rotate_left
      · intro wq hSw; have ck := keep_of_below hSw.1 _ _ CK0.out; go_simp; first | done | with_reducible rfl
      simp only [List.getElem_toArray, List.getElem_cons_zero, List.getElem_cons_succ, Act.put, List.setIfInBounds_toArray, List.set_cons_zero, List.set_cons_succ]
      refine wpAnyH_take (i := 5) (v := ?_) rfl (by kernel_rfl) (by kernel_rfl) (by kernel_rfl) (fun _ _ _ h => h) (Or.inl ⟨by rfl, ?_⟩) ⟨BD.out, KD.out⟩ ?_
      rotate_left
      · intro wq hSw; go_simp; first | done | with_reducible rfl
      simp only [List.getElem_toArray, List.getElem_cons_zero, List.getElem_cons_succ, Act.put, List.setIfInBounds_toArray, List.set_cons_zero, List.set_cons_succ]
      refine wpAnyH_take (i := 6) (v := ?_) rfl (by kernel_rfl) (by kernel_rfl) (by kernel_rfl) (fun _ _ _ h => h) (Or.inl ⟨by rfl, ?_⟩) ⟨BD.out, KD.out⟩ ?_
      rotate_left
      · intro wq hSw; have x0 := hSw.2.cell 0; go_simp; first | done | with_reducible rfl
      simp only [List.getElem_toArray, List.getElem_cons_zero, List.getElem_cons_succ, Act.put, List.setIfInBounds_toArray, List.set_cons_zero, List.set_cons_succ]
      refine wpAnyH_take (i := 7) (v := ?_) rfl (by kernel_rfl) (by kernel_rfl) (by kernel_rfl) (fun _ _ _ h => h) (Or.inl ⟨by rfl, ?_⟩) ⟨BD.out, KD.out⟩ ?_
      rotate_left
      · intro wq hSw; go_simp; first | done | with_reducible rfl
      simp only [List.getElem_toArray, List.getElem_cons_zero, List.getElem_cons_succ, Act.put, List.setIfInBounds_toArray, List.set_cons_zero, List.set_cons_succ]
      refine wpAnyH_take (i := 8) (v := ?_) rfl (by kernel_rfl) (by kernel_rfl) (by kernel_rfl) (fun _ _ _ h => h) (Or.inl ⟨by rfl, ?_⟩) ⟨BD.out, KD.out⟩ ?_
      rotate_left
      · intro wq hSw; go_simp; first | done | with_reducible rfl
      simp only [List.getElem_toArray, List.getElem_cons_zero, List.getElem_cons_succ, Act.put, List.setIfInBounds_toArray, List.set_cons_zero, List.set_cons_succ]
      refine wpAnyH_take (i := 9) (v := ?_) rfl (by kernel_rfl) (by kernel_rfl) (by kernel_rfl) (fun _ _ _ h => h) (Or.inl ⟨by rfl, ?_⟩) ⟨BD.out, KD.out⟩ ?_
      rotate_left
      · intro wq hSw; go_simp; first | done | with_reducible rfl
      simp only [List.getElem_toArray, List.getElem_cons_zero, List.getElem_cons_succ, Act.put, List.setIfInBounds_toArray, List.set_cons_zero, List.set_cons_succ]
      refine wpAnyH_take (i := 10) (v := ?_) rfl (by kernel_rfl) (by kernel_rfl) (by kernel_rfl) (fun _ _ _ h => h) (Or.inl ⟨by rfl, ?_⟩) ⟨BD.out, KD.out⟩ ?_
      rotate_left
      · intro wq hSw; have x2 := hSw.2.cell 2; go_simp; first | done | with_reducible rfl
      simp only [List.getElem_toArray, List.getElem_cons_zero, List.getElem_cons_succ, Act.put, List.setIfInBounds_toArray, List.set_cons_zero, List.set_cons_succ]
      refine wpAnyH_take (i := 11) (v := ?_) rfl (by kernel_rfl) (by kernel_rfl) (by kernel_rfl) (fun _ _ _ h => h) (Or.inl ⟨by rfl, ?_⟩) ⟨BD.out, KD.out⟩ ?_
      rotate_left
      · intro wq hSw; go_simp; first | done | with_reducible rfl
      simp only [List.getElem_toArray, List.getElem_cons_zero, List.getElem_cons_succ, Act.put, List.setIfInBounds_toArray, List.set_cons_zero, List.set_cons_succ]
      refine wpAnyH_take (i := 12) (v := ?_) rfl (by kernel_rfl) (by kernel_rfl) (by kernel_rfl) (fun _ _ _ h => h) (Or.inl ⟨by rfl, ?_⟩) ⟨BD.out, KD.out⟩ ?_
      rotate_left
      · intro wq hSw; go_simp; first | done | with_reducible rfl
      simp only [List.getElem_toArray, List.getElem_cons_zero, List.getElem_cons_succ, Act.put, List.setIfInBounds_toArray, List.set_cons_zero, List.set_cons_succ]
      refine wpAnyH_take (i := 13) (v := ?_) rfl (by kernel_rfl) (by kernel_rfl) (by kernel_rfl) (fun _ _ _ h => h) (Or.inl ⟨by rfl, ?_⟩) ⟨BD.out, KD.out⟩ ?_
      rotate_left
      · intro wq hSw; have ck := keep_of_below hSw.1 _ _ CK0.out; go_simp; first | done | with_reducible rfl
      simp only [List.getElem_toArray, List.getElem_cons_zero, List.getElem_cons_succ, Act.put, List.setIfInBounds_toArray, List.set_cons_zero, List.set_cons_succ]
      refine wpAnyH_take (i := 14) (v := ?_) rfl (by kernel_rfl) (by kernel_rfl) (by kernel_rfl) (fun _ _ _ h => h) (Or.inl ⟨by rfl, ?_⟩) ⟨BD.out, KD.out⟩ ?_
      rotate_left
      · intro wq hSw; go_simp; first | done | with_reducible rfl
      simp only [List.getElem_toArray, List.getElem_cons_zero, List.getElem_cons_succ, Act.put, List.setIfInBounds_toArray, List.set_cons_zero, List.set_cons_succ]
      refine wpAnyH_ready (rs := [15]) (by kernel_rfl) (by simp) ?_
      refine AllReadyH.cons rfl (fun K hK => ?_) ?_
      rotate_left
      · exact AllReadyH.nil
      go_simp
      refine (CE.out _).mono ?_
      rintro e w5 ⟨rfl, cb5⟩
      have B5 : Hid (Below w.heap.size w w5) := bel_trans BD.out cb5
      have K5 : Hid (Blk w5 w.heap.size 30 #[.int .u64 S, .int .i64 M, .slice (some ⟨b, o, none⟩) R cap]) := KD.out.since cb5
      clear cb5
      go_wp2_with fail
      refine hK.out _ _ (by exact ⟨B5.out, K5.out⟩) (fun hHeld => ?_)
      clear hK K hHeld
      refine wpAnyH_take (i := 16) (v := ?_) rfl (by kernel_rfl) (by kernel_rfl) (by kernel_rfl) (fun _ _ _ h => h) (Or.inl ⟨by rfl, ?_⟩) ⟨B5.out, K5.out⟩ ?_
      rotate_left
      · intro wq hSw; go_simp; first | done | with_reducible rfl
      simp only [List.getElem_toArray, List.getElem_cons_zero, List.getElem_cons_succ, Act.put, List.setIfInBounds_toArray, List.set_cons_zero, List.set_cons_succ]
      refine wpAnyH_take (i := 17) (v := ?_) rfl (by kernel_rfl) (by kernel_rfl) (by kernel_rfl) (fun _ _ _ h => h) (Or.inl ⟨by rfl, ?_⟩) ⟨B5.out, K5.out⟩ ?_
      rotate_left
      · intro wq hSw; have cp := keep_of_below hSw.1 _ _ CP.out; go_simp; first | done | with_reducible rfl
      simp only [List.getElem_toArray, List.getElem_cons_zero, List.getElem_cons_succ, Act.put, List.setIfInBounds_toArray, List.set_cons_zero, List.set_cons_succ]
      refine wpAnyH_take (i := 18) (v := ?_) rfl (by kernel_rfl) (by kernel_rfl) (by kernel_rfl) (fun _ _ _ h => h) (Or.inl ⟨by rfl, ?_⟩) ⟨B5.out, K5.out⟩ ?_
      rotate_left
      · intro wq hSw; go_simp; first | done | with_reducible rfl
      simp only [List.getElem_toArray, List.getElem_cons_zero, List.getElem_cons_succ, Act.put, List.setIfInBounds_toArray, List.set_cons_zero, List.set_cons_succ]
      refine wpAnyH_done (by kernel_rfl) ?_ _
      refine NoPanic.normal ?_
      by_cases hm : z < G
      · go_wp2_with fail
        go_roundg (R - (k + 1))
        case measure => have := HK.out.1; omega
        case rel =>
          refine ⟨k + 1, z, ⟨rfl, by omega, ?_, B5.out, K5.out⟩, by go_num, by first | rfl | go_num⟩
          show z = if Z k (placeN S s n k) < getF M Z (placeN S s n) k then Z k (placeN S s n k) else getF M Z (placeN S s n) k
          rw [← HK.out.2.1, ← HZ.out.2, ← HZ.out.1, if_pos hm]
      · go_wp2_with fail
        go_roundg (R - (k + 1))
        case measure => have := HK.out.1; omega
        case rel =>
          refine ⟨k + 1, G, ⟨rfl, by omega, ?_, B5.out, K5.out⟩, by go_num, by first | rfl | go_num⟩
          show G = if Z k (placeN S s n k) < getF M Z (placeN S s n) k then Z k (placeN S s n k) else getF M Z (placeN S s n) k
          rw [← HK.out.2.1, ← HZ.out.2, ← HZ.out.1, if_neg (by omega)]
    · have HE : Hid (k = R) := (by omega : k = R)
      have b1 : ¬ (k : Int) < (R : Int) := by omega
      clear hg hG hB hX
      go_wp2_with fail
      go_ret
      have e := HK.out.2.1
      rw [HE.out] at e
      exact ⟨by rw [← e]; rfl, HK.out.2.2.1⟩
set_option maxHeartbeats 6400000 in
theorem radd_ok (w : World) (x : Value) (S M : Int) (R n : Nat) (Z : Nat → Nat → Int) (s : ByteArray) (q : Int) (h : SkAt w x S M R (fun _ => n) Z) (ok : OkP M R n Z) (uS : U S) (hs : s.size ≤ 100000) (q0 : 0 ≤ q) (q1 : q ≤ 1099511627776) :
    Calls Try.prog 45 #[x, .string s, .int .i64 q] w (Told w S M R n (addZ S M n Z s q)) := by
  obtain ⟨v, rfl, hv⟩ := h
  have m0 : 1 ≤ M := ok.1
  have m1 : M ≤ 1099511627776 := ok.2.1
  have hR : R ≤ 7 := ok.2.2.2.1
  have n0 : 1 ≤ n := ok.2.2.2.2.1
  have n1 : n ≤ 256 := ok.2.2.2.2.2.1
  have OK : Hid (OkP M R n Z) := ok
  obtain ⟨A, cap, b, o, rfl, hc, hr⟩ := hv.read
  have RW : Hid (RowsCells w A R b o (fun _ => n) Z) := hr
  have BX : Hid (Below w.heap.size w ((w.alloc (.cells #[.int .u64 S, .int .i64 M, .slice A R cap] 30)).alloc (.cells #[.int .u64 0, .int .i64 0, .slice none 0 0] 30))) := (bel_alloc _ _).alloc (by simp) _
  have KX : Hid (Blk ((w.alloc (.cells #[.int .u64 S, .int .i64 M, .slice A R cap] 30)).alloc (.cells #[.int .u64 0, .int .i64 0, .slice none 0 0] 30)) w.heap.size 30 #[.int .u64 S, .int .i64 M, .slice A R cap]) := (Blk.new _ _ _).alloc _
  have KR : Hid (Blk ((w.alloc (.cells #[.int .u64 S, .int .i64 M, .slice A R cap] 30)).alloc (.cells #[.int .u64 0, .int .i64 0, .slice none 0 0] 30)) (w.heap.size + 1) 30 #[.int .u64 0, .int .i64 0, .slice none 0 0]) := by
    have e := Blk.new (w.alloc (.cells #[.int .u64 S, .int .i64 M, .slice A R cap] 30)) 30 #[.int .u64 0, .int .i64 0, .slice none 0 0]
    simp only [World.size_alloc] at e
    exact e
  obtain ⟨i3, hi3, hz3, hs3, hb3⟩ := info3'
  have HI : Hid (Try.prog.info? 3 = some i3 ∧ i3.zero = some (.int .i64 0) ∧ i3.size = 1 ∧ i3.bytes = 8) := ⟨hi3, hz3, hs3, hb3⟩
  obtain ⟨ir, hir, hzr, hsr, hbr⟩ := info33'
  have HR : Hid (Try.prog.info? 57 = some ir ∧ ir.zero = some (.slice none 0 0) ∧ ir.size = 1 ∧ ir.bytes = 24) := ⟨hir, hzr, hsr, hbr⟩
  clear hi3 hz3 hs3 hb3 hir hzr hsr hbr
  clear hv hr ok
  go_enter Try.func45, Try.ntmps45
  go_wp2_with fail
  generalize ((w.alloc (.cells #[.int .u64 S, .int .i64 M, .slice A R cap] 30)).alloc (.cells #[.int .u64 0, .int .i64 0, .slice none 0 0] 30)) = u0 at *
  have LS : Hid (w.heap.size + 1 < u0.heap.size) := KR.out.lt
  go_loopg [7, 8] R (fun gk l i wr => ∃ (k : Nat) (ao : Option Addr) (cv : Nat), (gk = R - k ∧ k ≤ R ∧ ∃ V G, LinG u0 wr (.slice ao k cv) k n V G (addZ S M n Z s q)) ∧ l = .slice ao k cv ∧ i = .int .i64 (k : Int))
  case atStart => exact ⟨0, none, 0, ⟨rfl, by omega, fun _ => .slice none 0 0, fun _ => 0, lin_start _ _ _ _ _⟩, rfl, rfl⟩
  case round =>
    obtain ⟨k, ao, cv, ⟨hg, hk, V, G, hA⟩, rfl, rfl⟩ := hrel
    have HK : Hid (gk = R - k ∧ LinG u0 wr (.slice ao k cv) k n V G (addZ S M n Z s q)) := ⟨hg, hA⟩
    have x0 : wr.cell? ⟨w.heap.size, 0, none⟩ = some (.int .u64 S) := (KX.out.since hA.since).cell 0
    have x2 : wr.cell? ⟨w.heap.size, 2, none⟩ = some (.slice A R cap) := (KX.out.since hA.since).cell 2
    by_cases hlt : k < R
    · obtain ⟨rfl, A', cap', b', o', ck0, lk, fk, gk'⟩ := RW.out k hlt
      obtain rfl := fk (by show 0 < n; omega)
      have ck := keep_of_below (bel_trans BX.out hA.since) _ _ ck0
      have bk : (k : Int) < (R : Int) := by omega
      have b0 : (0 : Int) ≤ (k : Int) := by omega
      obtain ⟨P, hP⟩ : ∃ P, P = placeN S s n k := ⟨_, rfl⟩
      have HP : Hid (P = placeN S s n k) := hP
      have D1 : Hid (w.cell? ⟨b, o + k, none⟩ = some (.slice (some ⟨b', o', none⟩) n cap')) := ck0
      have D2 : Hid (∀ j, j < n → w.cell? ⟨b', o' + j, none⟩ = some (.int .i64 (Z k j))) := gk'
      have CE : Hid (∀ w1, Calls Try.prog 25 #[.int .u64 S, .string s, .int .i64 (k : Int), .int .i64 (n : Int)] w1 fun e w' => e = .returned (.int .i64 (P : Int)) ∧ Below w1.heap.size w1 w') := fun w1 => by
        rw [hP]; exact rlcell_any S s k n w1 uS hs (by omega) n0 (by omega)
      have LD : Hid (LinG u0 wr.drew (.slice ao k cv) k n V G (addZ S M n Z s q)) := hA.keep ((Below.refl _ _).drew)
      have BD : Hid (Below w.heap.size w wr.drew) := bel_trans BX.out LD.out.since
      have KD : Hid (Blk wr.drew w.heap.size 30 #[.int .u64 S, .int .i64 M, .slice (some ⟨b, o, none⟩) R cap]) := KX.out.since LD.out.since
      have CK0 : Hid (w.cell? ⟨b, o + k, none⟩ = some (.slice (some ⟨b', o', none⟩) n cap')) := ck0
      clear hg hA hP gk' lk ck0 fk
      go_wp2_with fail
      clear x0 x2 ck
      refine wp_region_noPanic ?_
      refine wp_region_held_drew (S := (fun w' => Below w.heap.size w w' ∧ Blk w' w.heap.size 30 #[.int .u64 S, .int .i64 M, .slice (some ⟨b, o, none⟩) R cap])) (by kernel_rfl) ⟨BD.out, KD.out⟩ (fun hHeld => ?_)
      clear hHeld
      generalize wr.drew = v0 at BD KD LD ⊢
      refine wpAnyH_take (i := 0) (v := ?_) rfl (by kernel_rfl) (by kernel_rfl) (by kernel_rfl) (fun _ _ _ h => h) (Or.inl ⟨by rfl, ?_⟩) ⟨BD.out, KD.out⟩ ?_
      rotate_left
      · intro wq hSw; go_simp; first | done | with_reducible rfl
      simp only [List.getElem_toArray, List.getElem_cons_zero, Act.put, List.setIfInBounds_toArray, List.set_cons_zero, List.set_cons_succ]
      refine wpAnyH_take (i := 1) (v := ?_) rfl (by kernel_rfl) (by kernel_rfl) (by kernel_rfl) (fun _ _ _ h => h) (Or.inl ⟨by rfl, ?_⟩) ⟨BD.out, KD.out⟩ ?_
      rotate_left
      · intro wq hSw; have x0 := hSw.2.cell 0; go_simp; first | done | with_reducible rfl
      simp only [List.getElem_toArray, List.getElem_cons_zero, List.getElem_cons_succ, Act.put, List.setIfInBounds_toArray, List.set_cons_zero, List.set_cons_succ]
      refine wpAnyH_take (i := 2) (v := ?_) rfl (by kernel_rfl) (by kernel_rfl) (by kernel_rfl) (fun _ _ _ h => h) (Or.inl ⟨by rfl, ?_⟩) ⟨BD.out, KD.out⟩ ?_
      rotate_left
      · intro wq hSw; go_simp; first | done | with_reducible rfl
      simp only [List.getElem_toArray, List.getElem_cons_zero, List.getElem_cons_succ, Act.put, List.setIfInBounds_toArray, List.set_cons_zero, List.set_cons_succ]
      refine wpAnyH_take (i := 3) (v := ?_) rfl (by kernel_rfl) (by kernel_rfl) (by kernel_rfl) (fun _ _ _ h => h) (Or.inl ⟨by rfl, ?_⟩) ⟨BD.out, KD.out⟩ ?_
      rotate_left
      · intro wq hSw; go_simp; first | done | with_reducible rfl
      simp only [List.getElem_toArray, List.getElem_cons_zero, List.getElem_cons_succ, Act.put, List.setIfInBounds_toArray, List.set_cons_zero, List.set_cons_succ]
      refine wpAnyH_take (i := 4) (v := ?_) rfl (by kernel_rfl) (by kernel_rfl) (by kernel_rfl) (fun _ _ _ h => h) (Or.inl ⟨by rfl, ?_⟩) ⟨BD.out, KD.out⟩ ?_
      rotate_left
      · intro wq hSw; go_simp; first | done | with_reducible rfl
      simp only [List.getElem_toArray, List.getElem_cons_zero, List.getElem_cons_succ, Act.put, List.setIfInBounds_toArray, List.set_cons_zero, List.set_cons_succ]
      refine wpAnyH_take (i := 5) (v := ?_) rfl (by kernel_rfl) (by kernel_rfl) (by kernel_rfl) (fun _ _ _ h => h) (Or.inl ⟨by rfl, ?_⟩) ⟨BD.out, KD.out⟩ ?_
      rotate_left
      · intro wq hSw; have x2 := hSw.2.cell 2; go_simp; first | done | with_reducible rfl
      simp only [List.getElem_toArray, List.getElem_cons_zero, List.getElem_cons_succ, Act.put, List.setIfInBounds_toArray, List.set_cons_zero, List.set_cons_succ]
      refine wpAnyH_take (i := 6) (v := ?_) rfl (by kernel_rfl) (by kernel_rfl) (by kernel_rfl) (fun _ _ _ h => h) (Or.inl ⟨by rfl, ?_⟩) ⟨BD.out, KD.out⟩ ?_
      rotate_left
      · intro wq hSw; go_simp; first | done | with_reducible rfl
      simp only [List.getElem_toArray, List.getElem_cons_zero, List.getElem_cons_succ, Act.put, List.setIfInBounds_toArray, List.set_cons_zero, List.set_cons_succ]
      refine wpAnyH_take (i := 7) (v := ?_) rfl (by kernel_rfl) (by kernel_rfl) (by kernel_rfl) (fun _ _ _ h => h) (Or.inl ⟨by rfl, ?_⟩) ⟨BD.out, KD.out⟩ ?_
      rotate_left
      · intro wq hSw; go_simp; first | done | with_reducible rfl
      simp only [List.getElem_toArray, List.getElem_cons_zero, List.getElem_cons_succ, Act.put, List.setIfInBounds_toArray, List.set_cons_zero, List.set_cons_succ]
      refine wpAnyH_take (i := 8) (v := ?_) rfl (by kernel_rfl) (by kernel_rfl) (by kernel_rfl) (fun _ _ _ h => h) (Or.inl ⟨by rfl, ?_⟩) ⟨BD.out, KD.out⟩ ?_
      rotate_left
      · intro wq hSw; have ck := keep_of_below hSw.1 _ _ CK0.out; go_simp; first | done | with_reducible rfl
      simp only [List.getElem_toArray, List.getElem_cons_zero, List.getElem_cons_succ, Act.put, List.setIfInBounds_toArray, List.set_cons_zero, List.set_cons_succ]
      refine wpAnyH_take (i := 9) (v := ?_) rfl (by kernel_rfl) (by kernel_rfl) (by kernel_rfl) (fun _ _ _ h => h) (Or.inl ⟨by rfl, ?_⟩) ⟨BD.out, KD.out⟩ ?_
      rotate_left
      · intro wq hSw; go_simp; first | done | with_reducible rfl
      simp only [List.getElem_toArray, List.getElem_cons_zero, List.getElem_cons_succ, Act.put, List.setIfInBounds_toArray, List.set_cons_zero, List.set_cons_succ]
      refine wpAnyH_ready (rs := [10]) (by kernel_rfl) (by simp) ?_
      refine AllReadyH.cons rfl (fun K hK => ?_) ?_
      rotate_left
      · exact AllReadyH.nil
      go_simp
      refine (CE.out _).mono ?_
      rintro e w5 ⟨rfl, cb5⟩
      have B5 : Hid (Below w.heap.size w w5) := bel_trans BD.out cb5
      have K5 : Hid (Blk w5 w.heap.size 30 #[.int .u64 S, .int .i64 M, .slice (some ⟨b, o, none⟩) R cap]) := KD.out.since cb5
      have L5 : Hid (LinG u0 w5 (.slice ao k cv) k n V G (addZ S M n Z s q)) := LD.out.keep cb5
      clear cb5
      go_wp2_with fail
      refine hK.out _ _ (by exact ⟨B5.out, K5.out⟩) (fun hHeld => ?_)
      clear hK K hHeld
      refine wpAnyH_take (i := 11) (v := ?_) rfl (by kernel_rfl) (by kernel_rfl) (by kernel_rfl) (fun _ _ _ h => h) (Or.inl ⟨by rfl, ?_⟩) ⟨B5.out, K5.out⟩ ?_
      rotate_left
      · intro wq hSw; go_simp; first | done | with_reducible rfl
      simp only [List.getElem_toArray, List.getElem_cons_zero, List.getElem_cons_succ, Act.put, List.setIfInBounds_toArray, List.set_cons_zero, List.set_cons_succ]
      refine wpAnyH_done (by kernel_rfl) ?_ _
      refine NoPanic.normal ?_
      clear CE LD
      go_wp2_with fail
      go_loopg [9, 11] n (fun gj r i wi => ∃ (c : Nat) (ao' : Option Addr) (cv' : Nat), (gj = n - c ∧ c ≤ n ∧ GrowI w5 wi (.slice ao' c cv') c (addZ S M n Z s q k)) ∧ r = .slice ao' c cv' ∧ i = .int .i64 (c : Int))
      case atStart => exact ⟨0, none, 0, ⟨rfl, by omega, growI_start _ _⟩, rfl, rfl⟩
      case round =>
        obtain ⟨c, ai, ci, ⟨hg, hc2, hI⟩, rfl, rfl⟩ := hrel
        have HJ : Hid (gk = n - c ∧ GrowI w5 wr (.slice ai c ci) c (addZ S M n Z s q k)) := ⟨hg, hI⟩
        have x1 : wr.cell? ⟨w.heap.size, 1, none⟩ = some (.int .i64 M) := (K5.out.since hI.since).cell 1
        have x2 : wr.cell? ⟨w.heap.size, 2, none⟩ = some (.slice (some ⟨b, o, none⟩) R cap) := (K5.out.since hI.since).cell 2
        have ck : wr.cell? ⟨b, o + k, none⟩ = some (.slice (some ⟨b', o', none⟩) n cap') := keep_of_below (bel_trans B5.out hI.since) _ _ D1.out
        by_cases hcl : c < n
        · have bc : (c : Int) < (n : Int) := by omega
          have bc0 : (0 : Int) ≤ (c : Int) := by omega
          obtain ⟨z, hz⟩ : ∃ z, z = Z k c := ⟨_, rfl⟩
          have cc : wr.cell? ⟨b', o' + c, none⟩ = some (.int .i64 z) := by rw [hz]; exact keep_of_below (bel_trans B5.out hI.since) _ _ (D2.out c hcl)
          have zr := OK.out.2.2.2.2.2.2 k hlt c hcl
          rw [← hz] at zr
          obtain ⟨zr0, zr1⟩ := zr
          have HZ : Hid (z = Z k c) := hz
          have hsz : w5.heap.size ≤ wr.heap.size := hI.since.size
          clear hg hI hz
          by_cases d1 : c = P
          · have e1 : ((c : Int) == (P : Int)) = true := by simp; omega
            have EV : Hid (capF (z + q) M = addZ S M n Z s q k c) := by
              show capF (z + q) M = if c = placeN S s n k then capF (Z k c + q) M else Z k c
              rw [if_pos (by rw [← HP.out]; exact d1), HZ.out]
            have vr := capF_le (z + q) M
            clear d1
            go_wp2_with fail
            refine (capped_any _ _ _).mono ?_
            rintro e u6 ⟨rfl, rfl⟩
            generalize capF (z + q) M = vv at EV vr ⊢
            go_wp2_with (at_builtin; refine wpList_append_lies _ rfl _ _ _ rfl w5.heap.size 3 i3 (.int .i64 0) 1 8 Try.underlying57 HI.out.1 HI.out.2.1 HI.out.2.2.1 HI.out.2.2.2 rfl (by omega) (.slice ai c ci) c (cellsI c (addZ S M n Z s q k)) (by rfl) (HJ.out.2.own.alloc _) ⟨u6.heap.size, 0, none⟩ 1 1 [.int .i64 vv] (by rfl) rfl (new_int u6 _) (fun u hu => by rw [List.mem_singleton.1 hu]; rfl) (by omega) (by unfold maxLen; omega) (by omega) (by simp; omega) (u6.heap.size + 1) (by simp) ?_; intro g cap1 w3 hown1 hgrow hat hlt1)
            go_roundg (n - (c + 1))
            case measure => have := HJ.out.1; omega
            case rel => exact ⟨c + 1, _, _, ⟨rfl, by omega, HJ.out.2.step EV.out hown1 hgrow⟩, rfl, by go_num⟩
          · have e1 : ((c : Int) == (P : Int)) = false := by simp; omega
            have EV : Hid (z = addZ S M n Z s q k c) := by
              show z = if c = placeN S s n k then capF (Z k c + q) M else Z k c
              rw [if_neg (by rw [← HP.out]; exact d1), HZ.out]
            clear d1
            go_wp2_with (at_builtin; refine wpList_append_lies _ rfl _ _ _ rfl w5.heap.size 3 i3 (.int .i64 0) 1 8 Try.underlying57 HI.out.1 HI.out.2.1 HI.out.2.2.1 HI.out.2.2.2 rfl (by omega) (.slice ai c ci) c (cellsI c (addZ S M n Z s q k)) (by rfl) (HJ.out.2.own.alloc _) ⟨wr.heap.size, 0, none⟩ 1 1 [.int .i64 z] (by rfl) rfl (new_int wr _) (fun u hu => by rw [List.mem_singleton.1 hu]; rfl) (by omega) (by unfold maxLen; omega) (by omega) (by simp; omega) (wr.heap.size + 1) (by simp) ?_; intro g cap1 w3 hown1 hgrow hat hlt1)
            go_roundg (n - (c + 1))
            case measure => have := HJ.out.1; omega
            case rel => exact ⟨c + 1, _, _, ⟨rfl, by omega, HJ.out.2.step EV.out hown1 hgrow⟩, rfl, by go_num⟩
        · have HE : Hid (c = n) := (by omega : c = n)
          have bc : ¬ (c : Int) < (n : Int) := by omega
          have hn : c = n := by omega
          subst hn
          obtain ⟨gr, capr, ev, hcr, hgr, hrow⟩ := hI.row n0
          have HRW : Hid (c ≤ capr ∧ w5.heap.size ≤ gr ∧ RowN wr gr c (addZ S M c Z s q k) ∧ Below w5.heap.size w5 wr) := ⟨hcr, hgr, hrow, hI.since⟩
          have LW : Hid (LinG u0 wr (.slice ao k cv) k c V G (addZ S M c Z s q)) := L5.out.keep hI.since
          have hsz : u0.heap.size ≤ wr.heap.size := LW.out.since.size
          cases ev
          clear hg hI hcr hgr hrow
          go_wp2_with (at_builtin; refine wpList_append_lies _ rfl _ _ _ rfl u0.heap.size 57 ir (.slice none 0 0) 1 24 Try.underlying24 HR.out.1 HR.out.2.1 HR.out.2.2.1 HR.out.2.2.2 rfl (by omega) (.slice ao k cv) k ((List.range k).map V) (by rfl) (LW.out.own.alloc _) ⟨wr.heap.size, 0, none⟩ 1 1 [.slice (some ⟨gr, 0, none⟩) c ci] (by rfl) rfl (new_row wr _) (fun u hu => by rw [List.mem_singleton.1 hu]; rfl) (by omega) (by unfold maxLen; omega) (by omega) (by simp; omega) (wr.heap.size + 1) (by simp) ?_; intro g cap1 w3 hown1 hgrow hat hlt1)
          go_roundg (R - (k + 1))
          case measure => have := HK.out.1; omega
          case rel => exact ⟨k + 1, _, _, ⟨rfl, by omega, _, _, L5.out.more HRW.out.2.2.2 HRW.out.2.1 HRW.out.1 HRW.out.2.2.1 hown1 hgrow hat⟩, rfl, by go_num⟩
    · have e : k = R := by omega
      have HE : Hid (k = R) := e
      have b1 : ¬ (k : Int) < (R : Int) := by omega
      have kx := KX.out.since hA.since
      have kr := KR.out.since hA.since
      have x1 : wr.cell? ⟨w.heap.size, 1, none⟩ = some (.int .i64 M) := kx.cell 1
      have f2 : wr.frozen? ⟨w.heap.size, 2, none⟩ = false := kx.frozen 2
      have r0 : ∀ v, (wr.setCell ⟨w.heap.size, 2, none⟩ v).cell? ⟨w.heap.size + 1, 0, none⟩ = some (.int .u64 0) := fun v => (kr.other (a := ⟨w.heap.size, 2, none⟩) (by show w.heap.size + 1 ≠ w.heap.size; omega) v).cell 0
      have r1 : ∀ v, (wr.setCell ⟨w.heap.size, 2, none⟩ v).cell? ⟨w.heap.size + 1, 1, none⟩ = some (.int .i64 0) := fun v => (kr.other (a := ⟨w.heap.size, 2, none⟩) (by show w.heap.size + 1 ≠ w.heap.size; omega) v).cell 1
      have r2 : ∀ v, (wr.setCell ⟨w.heap.size, 2, none⟩ v).cell? ⟨w.heap.size + 1, 2, none⟩ = some (.slice none 0 0) := fun v => (kr.other (a := ⟨w.heap.size, 2, none⟩) (by show w.heap.size + 1 ≠ w.heap.size; omega) v).cell 2
      have z0 : ∀ v, (wr.setCell ⟨w.heap.size, 2, none⟩ v).frozen? ⟨w.heap.size + 1, 0, none⟩ = false := fun v => (kr.other (a := ⟨w.heap.size, 2, none⟩) (by show w.heap.size + 1 ≠ w.heap.size; omega) v).frozen 0
      have z1 : ∀ v, (wr.setCell ⟨w.heap.size, 2, none⟩ v).frozen? ⟨w.heap.size + 1, 1, none⟩ = false := fun v => (kr.other (a := ⟨w.heap.size, 2, none⟩) (by show w.heap.size + 1 ≠ w.heap.size; omega) v).frozen 1
      have z2 : ∀ v, (wr.setCell ⟨w.heap.size, 2, none⟩ v).frozen? ⟨w.heap.size + 1, 2, none⟩ = false := fun v => (kr.other (a := ⟨w.heap.size, 2, none⟩) (by show w.heap.size + 1 ≠ w.heap.size; omega) v).frozen 2
      have KK : Hid (Blk (wr.setCell ⟨w.heap.size, 2, none⟩ (.slice ao k cv)) (w.heap.size + 1) 30 #[.int .u64 0, .int .i64 0, .slice none 0 0] ∧ Blk (wr.setCell ⟨w.heap.size, 2, none⟩ (.slice ao k cv)) w.heap.size 30 #[.int .u64 S, .int .i64 M, .slice ao k cv]) := ⟨kr.other (a := ⟨w.heap.size, 2, none⟩) (by show w.heap.size + 1 ≠ w.heap.size; omega) _, kx.set 2 _⟩
      have y0 : (wr.setCell ⟨w.heap.size, 2, none⟩ (.slice ao k cv)).cell? ⟨w.heap.size, 0, none⟩ = some (.int .u64 S) := KK.out.2.cell 0
      have y1 : (wr.setCell ⟨w.heap.size, 2, none⟩ (.slice ao k cv)).cell? ⟨w.heap.size, 1, none⟩ = some (.int .i64 M) := KK.out.2.cell 1
      have y2 : (wr.setCell ⟨w.heap.size, 2, none⟩ (.slice ao k cv)).cell? ⟨w.heap.size, 2, none⟩ = some (.slice ao k cv) := KK.out.2.cell 2
      clear e hg hA hlt kx kr
      go_wp2_with fail
      refine bodyPost_ret (v := .agg #[.int .u64 S, .int .i64 M, .slice ao k cv]) ?_ rfl ?_
      rotate_left
      · exact ⟨_, rfl, ⟨_, rfl, by have t := rows_put HK.out.2 (w2 := put3 (wr.setCell ⟨w.heap.size, 2, none⟩ (.slice ao k cv)) (w.heap.size + 1) (.int .u64 S) (.int .i64 M) (.slice ao k cv)) (fun q hq => by have l := LS.out; rw [put3_heap _ _ _ _ _ q (by omega), Below.heap_setCell _ _ _ q (by show q ≠ w.heap.size; omega)]); rw [HE.out] at t ⊢; exact t⟩, put3_below ((bel_trans BX.out HK.out.2.since).setCell (p := ⟨w.heap.size, 2, none⟩) (Nat.le_refl _) _) (by omega) _ _ _⟩
      have c3 := put3_blk (t := 30) (KK.out.1) (.int .u64 S) (.int .i64 M) (.slice ao k cv)
      have c30 := c3.cell 0
      have c31 := c3.cell 1
      have c32 := c3.cell 2
      change (results _ _).run _ (put3 (wr.setCell ⟨w.heap.size, 2, none⟩ (.slice ao k cv)) (w.heap.size + 1) (.int .u64 S) (.int .i64 M) (.slice ao k cv)) = .ok _ (put3 (wr.setCell ⟨w.heap.size, 2, none⟩ (.slice ao k cv)) (w.heap.size + 1) (.int .u64 S) (.int .i64 M) (.slice ao k cv))
      generalize put3 (wr.setCell ⟨w.heap.size, 2, none⟩ (.slice ao k cv)) (w.heap.size + 1) (.int .u64 S) (.int .i64 M) (.slice ao k cv) = W5 at c30 c31 c32
      simp [results, Try.results45, go_sem, c30, c31, c32]
end Go.Proofs.Ytihealembikkiaa
