
/-
  Add of the document (layer 13): what it answers.
-/
import Derived.Test.YtkfhofgmjhnknaaDoorBtmRef
import Derived.Test.YtkfhofgmjhnknaaDoorBtmOwn
import Derived.Deep.AppendLies
namespace Go.Proofs.YtkfhofgmjhnknaaDoor
open Go.RowKit Fm Bl Bm L2 Go.Deep
set_option linter.unusedVariables false

def cellsB (k : Nat) (z : Nat → Bool) : List Value := (List.range k).map fun j => .bool (z j)
theorem cellsB_succ (k : Nat) (z : Nat → Bool) : cellsB k z ++ [.bool (z k)] = cellsB (k + 1) z := by simp [cellsB, List.range_succ]
/-- A slice of numbers that the call makes. -/
structure GrowB (w wr : World) (v : Value) (k : Nat) (z : Nat → Bool) : Prop where
  own : wr.ownsRow w.heap.size 4 1 v k (cellsB k z)
  since : Below w.heap.size w wr
theorem growB_start (w : World) (z : Nat → Bool) : GrowB w w (.slice none 0 0) 0 z := ⟨World.ownsRow_nil w _ _ _, Below.refl _ _⟩
theorem GrowB.step {w wr w1 : World} {v : Value} {k g cap : Nat} {z : Nat → Bool} {x : Bool} {o : Obj} (h : GrowB w wr v k z) (hx : x = z k)
    (hown : w1.ownsRow w.heap.size 4 1 (.slice (some ⟨g, 0, none⟩) (k + 1) cap) (k + 1) (cellsB k z ++ [.bool x])) (hg : (wr.alloc o).grownBy w1 v.ownBlock) : GrowB w w1 (.slice (some ⟨g, 0, none⟩) (k + 1) cap) (k + 1) z := by
  rw [hx, cellsB_succ] at hown
  have s := h.since.size
  exact ⟨hown, (h.since.alloc s o).grown hg (by simp; omega) fun q e => (h.own.lt q e).1⟩
theorem GrowB.drew {w wr : World} {v : Value} {k : Nat} {z : Nat → Bool} (h : GrowB w wr v k z) : GrowB w wr.drew v k z := ⟨h.own, h.since.drew⟩
/-- What has grown is a row. -/
theorem GrowB.row {w wr : World} {v : Value} {n : Nat} {z : Nat → Bool} (h : GrowB w wr v n z) (hn : 1 ≤ n) : ∃ g cap, v = .slice (some ⟨g, 0, none⟩) n cap ∧ n ≤ cap ∧ w.heap.size ≤ g ∧ RowB wr g n z := by
  rcases h.own.2 with ⟨rfl, rfl⟩ | ⟨g, cap, cur, rfl, hb, hg, hl, _, _, hx⟩
  · omega
  · have hk : Blk wr g 4 cur := hg
    refine ⟨g, cap, rfl, hl, hb, cur, hk, fun i hi => ?_⟩
    have e := h.own.cellAt (j := i) (by omega)
    rw [← hk.cell i, e]
    simp [cellsB, hi]
theorem new_bool (w : World) (x : Value) : ∀ (j : Nat) (u : Value), [x][j]? = some u → (w.alloc (.cells #[x] 4)).cell? ((⟨w.heap.size, 0, none⟩ : Addr).add j) = some u :=
  World.news_of_block (w := w.alloc (.cells #[x] 4)) (cs := #[x]) (t := 4) (fr := (0, 0)) (blk_alloc_new w _)
theorem new_row (w : World) (x : Value) : ∀ (j : Nat) (u : Value), [x][j]? = some u → (w.alloc (.cells #[x] 33)).cell? ((⟨w.heap.size, 0, none⟩ : Addr).add j) = some u :=
  World.news_of_block (w := w.alloc (.cells #[x] 33)) (cs := #[x]) (t := 33) (fr := (0, 0)) (blk_alloc_new w _)
theorem one_bool (n : Bool) : ∀ u ∈ [Value.bool n], u.oneCell' = true := fun u hu => by
  rw [List.mem_singleton.1 hu]; rfl
/-- Rows that the call has made, in a slice that grows. -/
structure LinG (w wr : World) (v : Value) (k n : Nat) (V : Nat → Value) (G : Nat → Nat) (Z : Nat → Nat → Bool) : Prop where
  own : wr.ownsRow w.heap.size 33 1 v k ((List.range k).map V)
  row : ∀ i, i < k → (∃ cap, V i = .slice (some ⟨G i, 0, none⟩) n cap ∧ n ≤ cap) ∧ w.heap.size ≤ G i ∧ v.ownBlock ≠ some (G i) ∧ RowB wr (G i) n (Z i)
  since : Below w.heap.size w wr
theorem lin_start (w : World) (n : Nat) (V : Nat → Value) (G : Nat → Nat) (Z : Nat → Nat → Bool) : LinG w w (.slice none 0 0) 0 n V G Z :=
  ⟨World.ownsRow_nil w _ _ _, fun i h => by omega, Below.refl _ _⟩
theorem LinG.rows {w wr : World} {v : Value} {k n : Nat} {V : Nat → Value} {G : Nat → Nat} {Z : Nat → Nat → Bool} (h : LinG w wr v k n V G Z) : RowsB wr v k (fun _ => n) Z := by
  rcases h.own.2 with ⟨rfl, rfl⟩ | ⟨g, cap, cur, rfl, _, hg, hn, _, _, hx⟩
  · exact ⟨_, 0, 0, 0, fun _ => .slice none 0 0, rfl, Nat.le_refl _, fun h => by omega, fun c h => by omega⟩
  · refine ⟨_, cap, g, 0, V, rfl, hn, fun _ => rfl, fun r hr => ⟨?_, ?_⟩⟩
    · have e := h.own.cellAt (j := r) (by omega)
      rw [Nat.zero_add, e]; simp [hr]
    · obtain ⟨⟨cap, e, l⟩, _, _, o⟩ := h.row r hr
      rw [e]; exact o.bits l
theorem grown_of_below {w w' : World} (h : Below w.heap.size w w') (row : Option Nat) : w.grownBy w' row := ⟨h.os, h.tape, h.output, h.size, fun k hk _ => h.block k hk⟩
theorem LinG.keep {w wr w2 : World} {v : Value} {k n : Nat} {V : Nat → Value} {G : Nat → Nat} {Z : Nat → Nat → Bool} (h : LinG w wr v k n V G Z) (s : Below wr.heap.size wr w2) : LinG w w2 v k n V G Z :=
  ⟨h.own.kept (grown_of_below s none) (by cases v.ownBlock <;> simp), fun i hi => ⟨(h.row i hi).1, (h.row i hi).2.1, (h.row i hi).2.2.1, (h.row i hi).2.2.2.since s⟩, bel_trans h.since s⟩
theorem LinG.congr {w wr : World} {v : Value} {k n : Nat} {V : Nat → Value} {G : Nat → Nat} {Z Y : Nat → Nat → Bool} (h : LinG w wr v k n V G Z) (e : ∀ i j, i < k → j < n → Z i j = Y i j) : LinG w wr v k n V G Y :=
  ⟨h.own, fun i hi => ⟨(h.row i hi).1, (h.row i hi).2.1, (h.row i hi).2.2.1, (h.row i hi).2.2.2.congr fun j hj => e i j hi hj⟩, h.since⟩
theorem LinG.more {w wr w2 w3 : World} {v : Value} {k n g cap gr capr : Nat} {V : Nat → Value} {G : Nat → Nat} {Z : Nat → Nat → Bool} {o : Obj} (h : LinG w wr v k n V G Z) (s : Below wr.heap.size wr w2)
    (hr : wr.heap.size ≤ gr) (hl : n ≤ capr) (ho : RowB w2 gr n (Z k))
    (hown : w3.ownsRow w.heap.size 33 1 (.slice (some ⟨g, 0, none⟩) (k + 1) cap) (k + 1) ((List.range k).map V ++ [.slice (some ⟨gr, 0, none⟩) n capr])) (hg : (w2.alloc o).grownBy w3 v.ownBlock) (hat : v.ownBlock = some g ∨ g = w2.heap.size + 1) :
    LinG w w3 (.slice (some ⟨g, 0, none⟩) (k + 1) cap) (k + 1) n (fun i => if i < k then V i else .slice (some ⟨gr, 0, none⟩) n capr) (fun i => if i < k then G i else gr) Z := by
  have own := h.own.lt
  have s1 := s.size
  have s0 := h.since.size
  have blk : ∀ q, q < w2.heap.size → v.ownBlock ≠ some q → w3.heap[q]? = w2.heap[q]? := fun q hq hne =>
    (hg.block q (by simp; omega) (fun e => hne e.symm)).trans (Below.heap_alloc _ _ _ hq)
  have grne : v.ownBlock ≠ some gr := fun e => by have := (own gr e).2; omega
  refine ⟨?_, fun i hi => ?_, ?_⟩
  · have e : (List.range (k + 1)).map (fun i => if i < k then V i else .slice (some ⟨gr, 0, none⟩) n capr) = (List.range k).map V ++ [.slice (some ⟨gr, 0, none⟩) n capr] := by
      rw [List.range_succ, List.map_append, List.map_singleton, if_neg (Nat.lt_irrefl k)]
      congr 1
      exact List.map_congr_left fun i hi => if_pos (List.mem_range.1 hi)
    rw [e]; exact hown
  · by_cases e : i < k
    · simp only [if_pos e]
      obtain ⟨r1, r2, r3, r4⟩ := h.row i e
      have lt := r4.lt
      refine ⟨r1, r2, fun x => ?_, (r4.since s).of (blk _ (by omega) r3)⟩
      have x' : g = G i := by simpa [Value.ownBlock] using x
      rcases hat with a | a
      · exact r3 (by rw [a, x'])
      · omega
    · simp only [if_neg e]
      have lt := ho.lt
      have ik : i = k := by omega
      subst ik
      refine ⟨⟨capr, rfl, hl⟩, by omega, fun x => ?_, ho.of (blk _ lt grne)⟩
      have x' : g = gr := by simpa [Value.ownBlock] using x
      rcases hat with a | a
      · exact grne (by rw [a, x'])
      · omega
  · exact ((bel_trans h.since s).alloc (by omega) o).grown hg (by simp; omega) fun q e => (own q e).1
theorem rows_put {w wr : World} {v : Value} {k n : Nat} {V : Nat → Value} {G : Nat → Nat} {Z : Nat → Nat → Bool} (h : LinG w wr v k n V G Z) {w2 : World} (e : ∀ q, w.heap.size ≤ q → w2.heap[q]? = wr.heap[q]?) : RowsB w2 v k (fun _ => n) Z := by
  rcases h.own.2 with ⟨rfl, rfl⟩ | ⟨g, cap, cur, rfl, hb, hg, hn, _, _, hx⟩
  · exact ⟨_, 0, 0, 0, fun _ => .slice none 0 0, rfl, Nat.le_refl _, fun h => by omega, fun c h => by omega⟩
  · have kg : Blk wr g 33 cur := hg
    refine ⟨_, cap, g, 0, V, rfl, hn, fun _ => rfl, fun r hr => ⟨?_, ?_⟩⟩
    · have e2 := h.own.cellAt (j := r) (by omega)
      rw [Nat.zero_add, (kg.of (e g hb)).cell r, ← kg.cell r, e2]; simp [hr]
    · obtain ⟨⟨cap, e2, l⟩, q, _, o⟩ := h.row r hr
      rw [e2]; exact (o.of (e _ q)).bits l
/-- A map that is told. -/
def ToldM (w : World) (S : Int) (R n : Nat) (Z : Nat → Nat → Bool) (e : Ending) (w' : World) : Prop := ∃ x, e = .returned x ∧ MpAt w' x S R (fun _ => n) Z ∧ Below w.heap.size w w'
set_option maxRecDepth 8000 in
set_option maxHeartbeats 6400000 in
theorem radd_any (w : World) (x : Value) (S : Int) (R n : Nat) (Z : Nat → Nat → Bool) (s : ByteArray) (h : MpAt w x S R (fun _ => n) Z) (ok : OkM R n) (uS : U S) (hs : s.size ≤ 100000) :
    Calls Tryd.prog 19 #[x, .string s] w (ToldM w S R n (addM S R n Z s)) := by
  obtain ⟨v, rfl, hv⟩ := h
  have hR : R ≤ 16 := ok.2.1
  have n0 : 1 ≤ n := ok.2.2.1
  have n1 : n ≤ 256 := ok.2.2.2
  obtain ⟨P, hP⟩ : ∃ P, P = lineN S s R := ⟨_, rfl⟩
  obtain ⟨Q, hQ⟩ : ∃ Q, Q = bitN S s n := ⟨_, rfl⟩
  have HPQ : Hid (P = lineN S s R ∧ Q = bitN S s n) := ⟨hP, hQ⟩
  have PC : Hid (∀ w1, Below w.heap.size w w1 → Calls Tryd.prog 18 #[.agg #[.int .u64 S, v], .string s] w1 fun e w' => e = .returned (.tuple #[.int .i64 (P : Int), .int .i64 (Q : Int)]) ∧ Below w1.heap.size w1 w') := fun w1 b1 => by
    rw [hP, hQ]; exact rplace_any w1 _ S R n Z s ⟨v, rfl, hv.keep (keep_of_below b1)⟩ ok uS hs
  obtain ⟨A, cap, b, o, rfl, hc, hr⟩ := hv.read
  have RW : Hid (RowsCells w A R b o (fun _ => n) Z) := hr
  have BX : Hid (Below w.heap.size w ((w.alloc (.cells #[.int .u64 S, .slice A R cap] 30)).alloc (.cells #[.int .u64 0, .slice none 0 0] 30))) := (bel_alloc _ _).alloc (by simp) _
  have KX : Hid (Blk ((w.alloc (.cells #[.int .u64 S, .slice A R cap] 30)).alloc (.cells #[.int .u64 0, .slice none 0 0] 30)) w.heap.size 30 #[.int .u64 S, .slice A R cap]) := (Blk.new _ _ _).alloc _
  have KR : Hid (Blk ((w.alloc (.cells #[.int .u64 S, .slice A R cap] 30)).alloc (.cells #[.int .u64 0, .slice none 0 0] 30)) (w.heap.size + 1) 30 #[.int .u64 0, .slice none 0 0]) := by
    have e := Blk.new (w.alloc (.cells #[.int .u64 S, .slice A R cap] 30)) 30 #[.int .u64 0, .slice none 0 0]
    simp only [World.size_alloc] at e
    exact e
  obtain ⟨i4, hi, hz0, hz1, hz2⟩ := info4'
  have HI : Hid (Tryd.prog.info? 4 = some i4 ∧ i4.zero = some (.bool false) ∧ i4.size = 1 ∧ i4.bytes = 1) := ⟨hi, hz0, hz1, hz2⟩
  clear hi hz0 hz1 hz2
  obtain ⟨ir, ri, rz0, rz1, rz2⟩ := info33'
  have HR : Hid (Tryd.prog.info? 33 = some ir ∧ ir.zero = some (.slice none 0 0) ∧ ir.size = 1 ∧ ir.bytes = 24) := ⟨ri, rz0, rz1, rz2⟩
  clear ri rz0 rz1 rz2
  clear hv hr ok hP hQ
  go_enter Tryd.func19, Tryd.ntmps19
  go_wp2_with fail
  generalize ((w.alloc (.cells #[.int .u64 S, .slice A R cap] 30)).alloc (.cells #[.int .u64 0, .slice none 0 0] 30)) = ua at BX KX KR ⊢
  have x0 : ua.cell? ⟨w.heap.size, 0, none⟩ = some (.int .u64 S) := KX.out.cell 0
  have x2 : ua.cell? ⟨w.heap.size, 1, none⟩ = some (.slice A R cap) := KX.out.cell 1
  go_wp2_with fail
  refine (PC.out _ BX.out).mono ?_
  rintro e u0 ⟨rfl, ba⟩
  have BX0 : Hid (Below w.heap.size w u0) := bel_trans BX.out ba
  have KX0 : Hid (Blk u0 w.heap.size 30 #[.int .u64 S, .slice A R cap]) := KX.out.since ba
  have KR0 : Hid (Blk u0 (w.heap.size + 1) 30 #[.int .u64 0, .slice none 0 0]) := KR.out.since ba
  clear BX KX KR ba x0 x2 PC
  have LS : Hid (w.heap.size + 1 < u0.heap.size) := KR0.out.lt
  go_wp2_with fail
  go_loopg [7, 8] R (fun gk l i wr => ∃ (k : Nat) (ao : Option Addr) (cv : Nat), (gk = R - k ∧ k ≤ R ∧ (∃ V G, LinG u0 wr (.slice ao k cv) k n V G (addM S R n Z s))) ∧ l = .slice ao k cv ∧ i = .int .i64 (k : Int))
  case atStart => exact ⟨0, none, 0, ⟨rfl, by omega, ⟨fun _ => .slice none 0 0, fun _ => 0, lin_start _ _ _ _ _⟩⟩, rfl, rfl⟩
  case round =>
    obtain ⟨k, ao, cv, ⟨hg, hk, ⟨V, G, hA⟩⟩, rfl, rfl⟩ := hrel
    have HK : Hid (gk = R - k ∧ LinG u0 wr (.slice ao k cv) k n V G (addM S R n Z s)) := ⟨hg, hA⟩
    have x2 : wr.cell? ⟨w.heap.size, 1, none⟩ = some (.slice A R cap) := (KX0.out.since hA.since).cell 1
    by_cases hlt : k < R
    · obtain ⟨rfl, A', cap', b', o', ck0, lk, fk, gk'⟩ := RW.out k hlt
      obtain rfl := fk (by show 0 < n; omega)
      have bk : (k : Int) < (R : Int) := by omega
      have b0 : (0 : Int) ≤ (k : Int) := by omega
      have D1 : Hid (w.cell? ⟨b, o + k, none⟩ = some (.slice (some ⟨b', o', none⟩) n cap')) := ck0
      have D2 : Hid (∀ j, j < n → w.cell? ⟨b', o' + j, none⟩ = some (.bool (Z k j))) := gk'
      obtain ⟨w5, hw5⟩ : ∃ w5, w5 = wr := ⟨_, rfl⟩
      rw [← hw5]
      have HW : Hid (w5 = wr) := hw5
      have L5 : Hid (LinG u0 w5 (.slice ao k cv) k n V G (addM S R n Z s)) := by rw [hw5]; exact hA
      have B5 : Hid (Below w.heap.size w w5) := bel_trans BX0.out L5.out.since
      have K5 : Hid (Blk w5 w.heap.size 30 #[.int .u64 S, .slice (some ⟨b, o, none⟩) R cap]) := KX0.out.since L5.out.since
      rw [← hw5] at x2
      clear hg hA gk' lk ck0 fk hw5
      go_wp2_with fail
      clear x2
      go_loopg [9, 10] n (fun gj r i wi => ∃ (c : Nat) (ao' : Option Addr) (cv' : Nat), (gj = n - c ∧ c ≤ n ∧ GrowB w5 wi (.slice ao' c cv') c ((addM S R n Z s) k)) ∧ r = .slice ao' c cv' ∧ i = .int .i64 (c : Int))
      case atStart => exact ⟨0, none, 0, ⟨rfl, by omega, growB_start _ _⟩, rfl, rfl⟩
      case round =>
        clear HW
        obtain ⟨c, ai, ci, ⟨hg, hc2, hI⟩, rfl, rfl⟩ := hrel
        have HJ : Hid (gk = n - c ∧ GrowB w5 wr (.slice ai c ci) c ((addM S R n Z s) k)) := ⟨hg, hI⟩
        have x2 : wr.cell? ⟨w.heap.size, 1, none⟩ = some (.slice (some ⟨b, o, none⟩) R cap) := (K5.out.since hI.since).cell 1
        have ck : wr.cell? ⟨b, o + k, none⟩ = some (.slice (some ⟨b', o', none⟩) n cap') := keep_of_below (bel_trans B5.out hI.since) _ _ D1.out
        by_cases hcl : c < n
        · have bc : (c : Int) < (n : Int) := by omega
          have bc0 : (0 : Int) ≤ (c : Int) := by omega
          obtain ⟨z, hz⟩ : ∃ z, z = Z k c := ⟨_, rfl⟩
          have cc : wr.cell? ⟨b', o' + c, none⟩ = some (.bool z) := by rw [hz]; exact keep_of_below (bel_trans B5.out hI.since) _ _ (D2.out c hcl)
          have HZ : Hid (z = Z k c) := hz
          have hsz : w5.heap.size ≤ wr.heap.size := hI.since.size
          clear hg hI hz
          cases z with
          | true =>
            have EV : Hid (true = (addM S R n Z s) k c) := by
              show true = if k = lineN S s R ∧ c = bitN S s n then true else Z k c
              rw [← HZ.out]; split <;> rfl
            go_wp2_with (at_builtin; refine wpList_append_lies _ rfl _ _ _ rfl w5.heap.size 4 i4 (.bool false) 1 1 Tryd.underlying33 HI.out.1 HI.out.2.1 HI.out.2.2.1 HI.out.2.2.2 rfl (by omega) (.slice ai c ci) c (cellsB c ((addM S R n Z s) k)) (by rfl) (HJ.out.2.own.alloc _) ⟨wr.heap.size, 0, none⟩ 1 1 [.bool true] (by rfl) rfl (new_bool wr _) (fun u hu => by rw [List.mem_singleton.1 hu]; rfl) (by omega) (by unfold maxLen; omega) (by omega) (by simp; omega) (wr.heap.size + 1) (by simp) ?_; intro g cap1 w3 hown1 hgrow hat hlt1)
            go_roundg (n - (c + 1))
            case measure => have := HJ.out.1; omega
            case rel => exact ⟨c + 1, _, _, ⟨rfl, by omega, HJ.out.2.step EV.out hown1 hgrow⟩, rfl, by go_num⟩
          | false =>
            by_cases d1 : k = P
            · have e1 : ((k : Int) == (P : Int)) = true := by simp; omega
              by_cases d2 : c = Q
              · have e2 : ((c : Int) == (Q : Int)) = true := by simp; omega
                have HD : Hid (k = P ∧ c = Q) := ⟨d1, d2⟩
                clear d1 d2
                have EV : Hid (true = (addM S R n Z s) k c) := by
                  show true = if k = lineN S s R ∧ c = bitN S s n then true else Z k c
                  rw [if_pos ⟨HD.out.1.trans HPQ.out.1, HD.out.2.trans HPQ.out.2⟩]
                go_wp2_with (at_builtin; refine wpList_append_lies _ rfl _ _ _ rfl w5.heap.size 4 i4 (.bool false) 1 1 Tryd.underlying33 HI.out.1 HI.out.2.1 HI.out.2.2.1 HI.out.2.2.2 rfl (by omega) (.slice ai c ci) c (cellsB c ((addM S R n Z s) k)) (by rfl) (HJ.out.2.own.alloc _) ⟨wr.heap.size, 0, none⟩ 1 1 [.bool true] (by rfl) rfl (new_bool wr _) (fun u hu => by rw [List.mem_singleton.1 hu]; rfl) (by omega) (by unfold maxLen; omega) (by omega) (by simp; omega) (wr.heap.size + 1) (by simp) ?_; intro g cap1 w3 hown1 hgrow hat hlt1)
                go_roundg (n - (c + 1))
                case measure => have := HJ.out.1; omega
                case rel => exact ⟨c + 1, _, _, ⟨rfl, by omega, HJ.out.2.step EV.out hown1 hgrow⟩, rfl, by go_num⟩
              · have e2 : ((c : Int) == (Q : Int)) = false := by simp; omega
                have HD : Hid (c ≠ Q) := d2
                clear d1 d2
                have EV : Hid (false = (addM S R n Z s) k c) := by
                  show false = if k = lineN S s R ∧ c = bitN S s n then true else Z k c
                  rw [if_neg (fun h => HD.out (h.2.trans HPQ.out.2.symm)), ← HZ.out]
                go_wp2_with (at_builtin; refine wpList_append_lies _ rfl _ _ _ rfl w5.heap.size 4 i4 (.bool false) 1 1 Tryd.underlying33 HI.out.1 HI.out.2.1 HI.out.2.2.1 HI.out.2.2.2 rfl (by omega) (.slice ai c ci) c (cellsB c ((addM S R n Z s) k)) (by rfl) (HJ.out.2.own.alloc _) ⟨wr.heap.size, 0, none⟩ 1 1 [.bool false] (by rfl) rfl (new_bool wr _) (fun u hu => by rw [List.mem_singleton.1 hu]; rfl) (by omega) (by unfold maxLen; omega) (by omega) (by simp; omega) (wr.heap.size + 1) (by simp) ?_; intro g cap1 w3 hown1 hgrow hat hlt1)
                go_roundg (n - (c + 1))
                case measure => have := HJ.out.1; omega
                case rel => exact ⟨c + 1, _, _, ⟨rfl, by omega, HJ.out.2.step EV.out hown1 hgrow⟩, rfl, by go_num⟩
            · have e1 : ((k : Int) == (P : Int)) = false := by simp; omega
              have HD : Hid (k ≠ P) := d1
              clear d1
              have EV : Hid (false = (addM S R n Z s) k c) := by
                show false = if k = lineN S s R ∧ c = bitN S s n then true else Z k c
                rw [if_neg (fun h => HD.out (h.1.trans HPQ.out.1.symm)), ← HZ.out]
              go_wp2_with (at_builtin; refine wpList_append_lies _ rfl _ _ _ rfl w5.heap.size 4 i4 (.bool false) 1 1 Tryd.underlying33 HI.out.1 HI.out.2.1 HI.out.2.2.1 HI.out.2.2.2 rfl (by omega) (.slice ai c ci) c (cellsB c ((addM S R n Z s) k)) (by rfl) (HJ.out.2.own.alloc _) ⟨wr.heap.size, 0, none⟩ 1 1 [.bool false] (by rfl) rfl (new_bool wr _) (fun u hu => by rw [List.mem_singleton.1 hu]; rfl) (by omega) (by unfold maxLen; omega) (by omega) (by simp; omega) (wr.heap.size + 1) (by simp) ?_; intro g cap1 w3 hown1 hgrow hat hlt1)
              go_roundg (n - (c + 1))
              case measure => have := HJ.out.1; omega
              case rel => exact ⟨c + 1, _, _, ⟨rfl, by omega, HJ.out.2.step EV.out hown1 hgrow⟩, rfl, by go_num⟩
        · have HE : Hid (c = n) := (by omega : c = n)
          have bc : ¬ (c : Int) < (n : Int) := by omega
          have hn : c = n := by omega
          subst hn
          obtain ⟨gr, capr, ev, hcr, hgr, hrow⟩ := hI.row n0
          have HRW : Hid (c ≤ capr ∧ w5.heap.size ≤ gr ∧ RowB wr gr c ((addM S R c Z s) k) ∧ Below w5.heap.size w5 wr) := ⟨hcr, hgr, hrow, hI.since⟩
          have LW : Hid (LinG u0 wr (.slice ao k cv) k c V G (addM S R c Z s)) := L5.out.keep hI.since
          have hsz : u0.heap.size ≤ wr.heap.size := LW.out.since.size
          cases ev
          clear hg hI hcr hgr hrow
          go_wp2_with (at_builtin; refine wpList_append_lies _ rfl _ _ _ rfl u0.heap.size 33 ir (.slice none 0 0) 1 24 Tryd.underlying23 HR.out.1 HR.out.2.1 HR.out.2.2.1 HR.out.2.2.2 rfl (by omega) (.slice ao k cv) k ((List.range k).map V) (by rfl) (LW.out.own.alloc _) ⟨wr.heap.size, 0, none⟩ 1 1 [.slice (some ⟨gr, 0, none⟩) c ci] (by rfl) rfl (new_row wr _) (fun u hu => by rw [List.mem_singleton.1 hu]; rfl) (by omega) (by unfold maxLen; omega) (by omega) (by simp; omega) (wr.heap.size + 1) (by simp) ?_; intro g cap1 w3 hown1 hgrow hat hlt1)
          go_roundg (R - (k + 1))
          case measure => have := HK.out.1; omega
          case rel => exact ⟨k + 1, _, _, ⟨rfl, by omega, ⟨_, _, L5.out.more HRW.out.2.2.2 HRW.out.2.1 HRW.out.1 HRW.out.2.2.1 hown1 hgrow hat⟩⟩, rfl, by go_num⟩
    · have e : k = R := by omega
      have HE : Hid (k = R) := e
      have b1 : ¬ (k : Int) < (R : Int) := by omega
      have kx := KX0.out.since hA.since
      have kr := KR0.out.since hA.since
      have f2 : wr.frozen? ⟨w.heap.size, 1, none⟩ = false := kx.frozen 1
      have r0 : ∀ v, (wr.setCell ⟨w.heap.size, 1, none⟩ v).cell? ⟨w.heap.size + 1, 0, none⟩ = some (.int .u64 0) := fun v => (kr.other (a := ⟨w.heap.size, 1, none⟩) (by show w.heap.size + 1 ≠ w.heap.size; omega) v).cell 0
      have z0 : ∀ v, (wr.setCell ⟨w.heap.size, 1, none⟩ v).frozen? ⟨w.heap.size + 1, 0, none⟩ = false := fun v => (kr.other (a := ⟨w.heap.size, 1, none⟩) (by show w.heap.size + 1 ≠ w.heap.size; omega) v).frozen 0
      have r1 : ∀ v, (wr.setCell ⟨w.heap.size, 1, none⟩ v).cell? ⟨w.heap.size + 1, 1, none⟩ = some (.slice none 0 0) := fun v => (kr.other (a := ⟨w.heap.size, 1, none⟩) (by show w.heap.size + 1 ≠ w.heap.size; omega) v).cell 1
      have z1 : ∀ v, (wr.setCell ⟨w.heap.size, 1, none⟩ v).frozen? ⟨w.heap.size + 1, 1, none⟩ = false := fun v => (kr.other (a := ⟨w.heap.size, 1, none⟩) (by show w.heap.size + 1 ≠ w.heap.size; omega) v).frozen 1
      have KK : Hid (Blk (wr.setCell ⟨w.heap.size, 1, none⟩ (.slice ao k cv)) (w.heap.size + 1) 30 #[.int .u64 0, .slice none 0 0] ∧ Blk (wr.setCell ⟨w.heap.size, 1, none⟩ (.slice ao k cv)) w.heap.size 30 #[.int .u64 S, .slice ao k cv]) := ⟨kr.other (a := ⟨w.heap.size, 1, none⟩) (by show w.heap.size + 1 ≠ w.heap.size; omega) _, kx.set 1 _⟩
      have y0 : (wr.setCell ⟨w.heap.size, 1, none⟩ (.slice ao k cv)).cell? ⟨w.heap.size, 0, none⟩ = some (.int .u64 S) := KK.out.2.cell 0
      have y1 : (wr.setCell ⟨w.heap.size, 1, none⟩ (.slice ao k cv)).cell? ⟨w.heap.size, 1, none⟩ = some (.slice ao k cv) := KK.out.2.cell 1
      clear e hg hA hlt kx kr
      go_wp2_with fail
      refine bodyPost_ret (v := .agg #[.int .u64 S, .slice ao k cv]) ?_ rfl ?_
      rotate_left
      · exact ⟨_, rfl, ⟨_, rfl, by have t := rows_put HK.out.2 (w2 := put2 (wr.setCell ⟨w.heap.size, 1, none⟩ (.slice ao k cv)) (w.heap.size + 1) (.int .u64 S) (.slice ao k cv)) (fun q hq => by have l := LS.out; rw [put2_heap _ _ _ _ q (by omega), Below.heap_setCell _ _ _ q (by show q ≠ w.heap.size; omega)]); rw [HE.out] at t ⊢; exact t⟩, put2_below ((bel_trans BX0.out HK.out.2.since).setCell (p := ⟨w.heap.size, 1, none⟩) (Nat.le_refl _) _) (by omega) _ _⟩
      have c3 := put2_blk (t := 30) (KK.out.1) (.int .u64 S) (.slice ao k cv)
      have c30 := c3.cell 0
      have c31 := c3.cell 1
      change (results _ _).run _ (put2 (wr.setCell ⟨w.heap.size, 1, none⟩ (.slice ao k cv)) (w.heap.size + 1) (.int .u64 S) (.slice ao k cv)) = .ok _ (put2 (wr.setCell ⟨w.heap.size, 1, none⟩ (.slice ao k cv)) (w.heap.size + 1) (.int .u64 S) (.slice ao k cv))
      generalize put2 (wr.setCell ⟨w.heap.size, 1, none⟩ (.slice ao k cv)) (w.heap.size + 1) (.int .u64 S) (.slice ao k cv) = W5 at c30 c31
      simp [results, Tryd.results19, go_sem, c30, c31]
end Go.Proofs.YtkfhofgmjhnknaaDoor
