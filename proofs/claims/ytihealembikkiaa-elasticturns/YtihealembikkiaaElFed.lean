
/-
  A sketch to which keys came, over the program's contracts (layer 15).
-/
import Derived.Test.YtihealembikkiaaElCtr
import Derived.Test.YtihealembikkiaaShortS
namespace Go.Proofs.Ytihealembikkiaa
open Go.RowKit Fm Bl Lt El L2 L10 L14 Go.Deep
set_option linter.unusedVariables false
set_option maxRecDepth 20000

/-- Keys fed, one behind the other. -/
def feedS (N room : Nat) (votes : Int) (pl : ByteArray → Nat) (q : Nat → ByteArray) : Nat → Fs
  | 0 => ⟨List.replicate N ⟨[], 0⟩, []⟩
  | k + 1 => (addS room votes (feedS N room votes pl q k) (pl (q k)) (q k)).getD (feedS N room votes pl q k)
theorem feed_inv {N room : Nat} {votes : Int} {pl : ByteArray → Nat} {q : Nat → ByteArray} (r1 : 1 ≤ room) : ∀ (t : Nat), t ≤ 1000000 → (∀ i, i < t → pl (q i) < N) → Inv N room pl q t (feedS N room votes pl q t)
  | 0, _, _ => inv_start pl q
  | t + 1, ht, h => by
    obtain ⟨st', e, i⟩ := inv_step (votes := votes) (feed_inv r1 t (by omega) fun i hi => h i (by omega)) r1 (h t (by omega)) (by omega)
    rw [feedS, e]
    exact i
theorem feed_next {N room : Nat} {votes : Int} {pl : ByteArray → Nat} {q : Nat → ByteArray} (r1 : 1 ≤ room) {t : Nat} (ht : t < 1000000) (h : ∀ i, i < t + 1 → pl (q i) < N) : addS room votes (feedS N room votes pl q t) (pl (q t)) (q t) = some (feedS N room votes pl q (t + 1)) := by
  obtain ⟨st', e, i⟩ := inv_step (votes := votes) (feed_inv r1 t (by omega) fun i hi => h i (by omega)) r1 (h t (by omega)) (by omega)
  rw [feedS, e]
  rfl
theorem feed_short {N room : Nat} {votes : Int} {pl : ByteArray → Nat} {q : Nat → ByteArray} : ∀ (t : Nat), (∀ i, i < t → (q i).size ≤ 100) → ShortE (feedS N room votes pl q t).bs
  | 0, _ => fun i b hb j e he => by
    change (List.replicate N (⟨[], 0⟩ : Bkt))[i]? = some b at hb
    rw [List.getElem?_replicate] at hb
    split at hb
    · cases hb; simp at he
    · cases hb
  | t + 1, h => fun i b hb j e he => by
    have ih := feed_short (N := N) (room := room) (votes := votes) (pl := pl) t fun i hi => h i (by omega)
    have ht := h t (by omega)
    rw [feedS] at hb
    generalize feedS N room votes pl q t = st at *
    cases g : addS room votes st (pl (q t)) (q t) with
    | none =>
      rw [g] at hb
      exact ih i b hb j e he
    | some st' =>
      rw [g] at hb
      change st'.bs[i]? = some b at hb
      unfold addS at g
      cases gb : st.bs[pl (q t)]? with
      | none => rw [gb] at g; cases g
      | some b0 =>
        rw [gb] at g
        simp only at g
        have key : ∀ b', (∃ o, El.addB room votes b0 (q t) = some (b', o)) → ∀ (j : Nat) (e : Ent), b'.es[j]? = some e → e.k.size ≤ 100 := by
          rintro b' ⟨o, hb'⟩ j e he
          have old := ih _ b0 gb
          cases ga : atE b0.es (q t) with
          | some i0 =>
            obtain ⟨e0, e1, e2⟩ := atE_some ga
            rw [El.addB_at ga e1] at hb'
            split at hb'
            · cases hb'
            · cases hb'
              rcases set_at he with ⟨_, rfl⟩ | ⟨_, h2⟩
              · exact old i0 e0 e1
              · exact old j e h2
          | none =>
            by_cases r : b0.es.length < room
            · rw [El.addB_room ga r] at hb'
              cases hb'
              have he : (b0.es ++ [⟨q t, 1, false⟩])[j]? = some e := he
              by_cases lj : j < b0.es.length
              · rw [List.getElem?_append_left lj] at he
                exact old j e he
              · rw [List.getElem?_append_right (by omega)] at he
                have : e = ⟨q t, 1, false⟩ := by
                  cases hz : j - b0.es.length with
                  | zero => rw [hz] at he; simpa using he.symm
                  | succ z => rw [hz] at he; simp at he
                rw [this]
                exact ht
            · unfold El.addB at hb'
              rw [ga] at hb'
              simp only [if_neg r] at hb'
              split at hb'
              · cases hb'
              · split at hb'
                · split at hb'
                  · cases hb'
                    rcases set_at he with ⟨_, rfl⟩ | ⟨_, h2⟩
                    · exact ht
                    · exact old j e h2
                  · cases hb'
                    exact old j e he
                · cases hb'
        cases gA : El.addB room votes b0 (q t) with
        | none => rw [gA] at g; cases g
        | some r =>
          obtain ⟨b', o⟩ := r
          rw [gA] at g
          have hk := key b' ⟨o, gA⟩
          cases o <;> (simp only at g; cases g; rcases set_at hb with ⟨_, rfl⟩ | ⟨_, h2⟩; exact hk j e he; exact ih i b h2 j e he)
/-- Seven cells written. -/
def put7 (w : World) (g : Nat) (a0 a1 a2 a3 a4 a5 a6 : Value) : World := ((((((w.setCell ⟨g, 0, none⟩ a0).setCell ⟨g, 1, none⟩ a1).setCell ⟨g, 2, none⟩ a2).setCell ⟨g, 3, none⟩ a3).setCell ⟨g, 4, none⟩ a4).setCell ⟨g, 5, none⟩ a5).setCell ⟨g, 6, none⟩ a6
theorem put7_eq (w : World) (g : Nat) (a0 a1 a2 a3 a4 a5 a6 : Value) : put7 w g a0 a1 a2 a3 a4 a5 a6 = putCells w g 0 [a0, a1, a2, a3, a4, a5, a6] := by simp only [putCells, put7]
theorem put7_below {Bd : Nat} {w wr : World} {g : Nat} (h : Below Bd w wr) (hg : Bd ≤ g) (a0 a1 a2 a3 a4 a5 a6 : Value) : Below Bd w (put7 wr g a0 a1 a2 a3 a4 a5 a6) := by
  rw [put7_eq]; exact putCells_below hg _ _ 0 h
theorem put7_blk {w : World} {g : Nat} {t : TypeId} {x0 x1 x2 x3 x4 x5 x6 : Value} (h : Blk w g t #[x0, x1, x2, x3, x4, x5, x6]) (a0 a1 a2 a3 a4 a5 a6 : Value) : Blk (put7 w g a0 a1 a2 a3 a4 a5 a6) g t #[a0, a1, a2, a3, a4, a5, a6] := by
  rw [put7_eq]; exact putCells_blk [a0, a1, a2, a3, a4, a5, a6] [x0, x1, x2, x3, x4, x5, x6] [] w 0 rfl rfl h
theorem put7_other {w : World} {g q : Nat} {t : TypeId} {cs : Array Value} (h : Blk w q t cs) (hq : q ≠ g) (a0 a1 a2 a3 a4 a5 a6 : Value) : Blk (put7 w g a0 a1 a2 a3 a4 a5 a6) q t cs := by
  rw [put7_eq]; exact h.of (putCells_heap _ w 0 q hq)
theorem put7_held {D : Nat → Prop} {P : World → Prop} {w : World} {g : Nat} (h : Held D P w) (k : ¬ D g) (a0 a1 a2 a3 a4 a5 a6 : Value) : Held D P (put7 w g a0 a1 a2 a3 a4 a5 a6) := by
  rw [put7_eq]; exact h.put k
theorem put7_size (w : World) (g : Nat) (a0 a1 a2 a3 a4 a5 a6 : Value) : (put7 w g a0 a1 a2 a3 a4 a5 a6).heap.size = w.heap.size := by
  rw [put7_eq]; exact putCells_size _ _ _
/-- What a size is. -/
def szv (S n room votes R c : Int) : Value := .agg #[.int .u64 S, .int .i64 n, .int .i64 room, .int .i64 votes, .int .i64 R, .int .i64 c]
set_option maxHeartbeats 3200000 in
theorem fed_bad (C : CtrE) (w : World) (S n room votes R c : Int) (lv : Value) (m : Nat) (Q : Nat → ByteArray) (uS : U S) (hn : I n) (hr : I room) (hv : I votes) (hR : I R) (hc : I c) (h : StrsAt w lv m Q) (hm : m ≤ 9223372036854775807) (hq : ∀ i, i < m → (Q i).size ≤ 9223372036854775807) (sh : shapeE n room votes R c = false) :
    Calls Try.prog 23 #[szv S n room votes R c, lv] w fun e w' => e = .returned (.tuple #[elz, .bool false]) ∧ Below w.heap.size w w' := by
  have BX : Hid (Below w.heap.size w ((w.alloc (.cells #[.int .u64 S, .int .i64 n, .int .i64 room, .int .i64 votes, .int .i64 R, .int .i64 c] 60)).alloc (.cells #[.int .u64 0, .int .i64 0, .int .i64 0, .slice none 0 0, .int .u64 0, .int .i64 0, .slice none 0 0] 28))) := (bel_alloc _ _).alloc (by simp) _
  have NW := hidE fun u => C.new_bad u S n room votes R c uS hn hr hv hR hc sh
  have KR : Hid (Blk ((w.alloc (.cells #[.int .u64 S, .int .i64 n, .int .i64 room, .int .i64 votes, .int .i64 R, .int .i64 c] 60)).alloc (.cells #[.int .u64 0, .int .i64 0, .int .i64 0, .slice none 0 0, .int .u64 0, .int .i64 0, .slice none 0 0] 28)) (w.heap.size + 1) 28 #[.int .u64 0, .int .i64 0, .int .i64 0, .slice none 0 0, .int .u64 0, .int .i64 0, .slice none 0 0]) := by
    have e := Blk.new (w.alloc (.cells #[.int .u64 S, .int .i64 n, .int .i64 room, .int .i64 votes, .int .i64 R, .int .i64 c] 60)) 28 #[.int .u64 0, .int .i64 0, .int .i64 0, .slice none 0 0, .int .u64 0, .int .i64 0, .slice none 0 0]
    rw [show (w.alloc (.cells #[.int .u64 S, .int .i64 n, .int .i64 room, .int .i64 votes, .int .i64 R, .int .i64 c] 60)).heap.size = w.heap.size + 1 by simp] at e
    exact e
  clear h hn hr hv hR hc
  unfold szv
  go_enter Try.func23, Try.ntmps23
  go_wp2_with fail
  generalize (w.alloc (.cells #[.int .u64 S, .int .i64 n, .int .i64 room, .int .i64 votes, .int .i64 R, .int .i64 c] 60)).alloc (.cells #[.int .u64 0, .int .i64 0, .int .i64 0, .slice none 0 0, .int .u64 0, .int .i64 0, .slice none 0 0] 28) = u1 at BX KR ⊢
  refine (NW.out u1).mono ?_
  rintro e u2 ⟨rfl, b2⟩
  have B2 : Hid (Below w.heap.size w u2) := bel_trans BX.out b2
  have K2 : Hid (Blk u2 (w.heap.size + 1) 28 #[.int .u64 0, .int .i64 0, .int .i64 0, .slice none 0 0, .int .u64 0, .int .i64 0, .slice none 0 0]) := KR.out.since b2
  clear b2 BX KR
  unfold elz
  have B3 : Hid (Below w.heap.size w (u2.alloc (.cells #[.int .u64 0, .int .i64 0, .int .i64 0, .slice none 0 0, .int .u64 0, .int .i64 0, .slice none 0 0] 28))) := bel_trans B2.out (bel_alloc _ _)
  have K3 : Hid (Blk (u2.alloc (.cells #[.int .u64 0, .int .i64 0, .int .i64 0, .slice none 0 0, .int .u64 0, .int .i64 0, .slice none 0 0] 28)) (w.heap.size + 1) 28 #[.int .u64 0, .int .i64 0, .int .i64 0, .slice none 0 0, .int .u64 0, .int .i64 0, .slice none 0 0]) := K2.out.alloc _
  have K4 : Hid (Blk (u2.alloc (.cells #[.int .u64 0, .int .i64 0, .int .i64 0, .slice none 0 0, .int .u64 0, .int .i64 0, .slice none 0 0] 28)) u2.heap.size 28 #[.int .u64 0, .int .i64 0, .int .i64 0, .slice none 0 0, .int .u64 0, .int .i64 0, .slice none 0 0]) := Blk.new _ _ _
  have x0 : (u2.alloc (.cells #[.int .u64 0, .int .i64 0, .int .i64 0, .slice none 0 0, .int .u64 0, .int .i64 0, .slice none 0 0] 28)).cell? ⟨w.heap.size + 1, 0, none⟩ = some (.int .u64 0) := K3.out.cell 0
  have y0 := K3.out.frozen 0
  have x1 : (u2.alloc (.cells #[.int .u64 0, .int .i64 0, .int .i64 0, .slice none 0 0, .int .u64 0, .int .i64 0, .slice none 0 0] 28)).cell? ⟨w.heap.size + 1, 1, none⟩ = some (.int .i64 0) := K3.out.cell 1
  have y1 := K3.out.frozen 1
  have x2 : (u2.alloc (.cells #[.int .u64 0, .int .i64 0, .int .i64 0, .slice none 0 0, .int .u64 0, .int .i64 0, .slice none 0 0] 28)).cell? ⟨w.heap.size + 1, 2, none⟩ = some (.int .i64 0) := K3.out.cell 2
  have y2 := K3.out.frozen 2
  have x3 : (u2.alloc (.cells #[.int .u64 0, .int .i64 0, .int .i64 0, .slice none 0 0, .int .u64 0, .int .i64 0, .slice none 0 0] 28)).cell? ⟨w.heap.size + 1, 3, none⟩ = some (.slice none 0 0) := K3.out.cell 3
  have y3 := K3.out.frozen 3
  have x4 : (u2.alloc (.cells #[.int .u64 0, .int .i64 0, .int .i64 0, .slice none 0 0, .int .u64 0, .int .i64 0, .slice none 0 0] 28)).cell? ⟨w.heap.size + 1, 4, none⟩ = some (.int .u64 0) := K3.out.cell 4
  have y4 := K3.out.frozen 4
  have x5 : (u2.alloc (.cells #[.int .u64 0, .int .i64 0, .int .i64 0, .slice none 0 0, .int .u64 0, .int .i64 0, .slice none 0 0] 28)).cell? ⟨w.heap.size + 1, 5, none⟩ = some (.int .i64 0) := K3.out.cell 5
  have y5 := K3.out.frozen 5
  have x6 : (u2.alloc (.cells #[.int .u64 0, .int .i64 0, .int .i64 0, .slice none 0 0, .int .u64 0, .int .i64 0, .slice none 0 0] 28)).cell? ⟨w.heap.size + 1, 6, none⟩ = some (.slice none 0 0) := K3.out.cell 6
  have y6 := K3.out.frozen 6
  go_wp2_with fail
  refine bodyPost_ret (v := .tuple #[.agg #[.int .u64 0, .int .i64 0, .int .i64 0, .slice none 0 0, .int .u64 0, .int .i64 0, .slice none 0 0], .bool false]) ?_ rfl ?_
  rotate_left
  · exact ⟨rfl, put7_below B3.out (by omega) _ _ _ _ _ _ _⟩
  have c7 := put7_blk (t := 28) K3.out (.int .u64 0) (.int .i64 0) (.int .i64 0) (.slice none 0 0) (.int .u64 0) (.int .i64 0) (.slice none 0 0)
  have c70 := c7.cell 0
  have c71 := c7.cell 1
  have c72 := c7.cell 2
  have c73 := c7.cell 3
  have c74 := c7.cell 4
  have c75 := c7.cell 5
  have c76 := c7.cell 6
  change (results _ _).run _ (put7 (u2.alloc (.cells #[.int .u64 0, .int .i64 0, .int .i64 0, .slice none 0 0, .int .u64 0, .int .i64 0, .slice none 0 0] 28)) (w.heap.size + 1) (.int .u64 0) (.int .i64 0) (.int .i64 0) (.slice none 0 0) (.int .u64 0) (.int .i64 0) (.slice none 0 0)) = .ok _ (put7 (u2.alloc (.cells #[.int .u64 0, .int .i64 0, .int .i64 0, .slice none 0 0, .int .u64 0, .int .i64 0, .slice none 0 0] 28)) (w.heap.size + 1) (.int .u64 0) (.int .i64 0) (.int .i64 0) (.slice none 0 0) (.int .u64 0) (.int .i64 0) (.slice none 0 0))
  generalize put7 (u2.alloc (.cells #[.int .u64 0, .int .i64 0, .int .i64 0, .slice none 0 0, .int .u64 0, .int .i64 0, .slice none 0 0] 28)) (w.heap.size + 1) (.int .u64 0) (.int .i64 0) (.int .i64 0) (.slice none 0 0) (.int .u64 0) (.int .i64 0) (.slice none 0 0) = W7 at c70 c71 c72 c73 c74 c75 c76
  simp [results, Try.results23, go_sem, c70, c71, c72, c73, c74, c75, c76]
set_option maxHeartbeats 4000000 in
/-- Keys that are too many, or too long. -/
theorem fed_long (C : CtrE) (w : World) (S votes : Int) (n room R c : Nat) (lv : Value) (m : Nat) (Q : Nat → ByteArray) (uS : U S) (h : StrsAt w lv m Q) (hm : m ≤ 9223372036854775807) (hq : ∀ i, i < m → (Q i).size ≤ 9223372036854775807) (sh : shapeE n room votes R c = true) (hs : ¬ (m ≤ 300 ∧ ∀ i, i < m → (Q i).size ≤ 100)) :
    Calls Try.prog 23 #[szv S n room votes R c, lv] w fun e w' => ∃ a0 c0 a1 c1, e = .returned (.tuple #[.agg #[.int .u64 S, .int .i64 (room : Int), .int .i64 votes, .slice a0 n c0, .int .u64 (rowF S 1), .int .i64 255, .slice a1 R c1], .bool false]) ∧ Below w.heap.size w w' := by
  have BX : Hid (Below w.heap.size w ((w.alloc (.cells #[.int .u64 S, .int .i64 (n : Int), .int .i64 (room : Int), .int .i64 votes, .int .i64 (R : Int), .int .i64 (c : Int)] 60)).alloc (.cells #[.int .u64 0, .int .i64 0, .int .i64 0, .slice none 0 0, .int .u64 0, .int .i64 0, .slice none 0 0] 28))) := (bel_alloc _ _).alloc (by simp) _
  have NW := hidE fun u => C.new_ok u S n room R c votes uS sh
  have KR : Hid (Blk ((w.alloc (.cells #[.int .u64 S, .int .i64 (n : Int), .int .i64 (room : Int), .int .i64 votes, .int .i64 (R : Int), .int .i64 (c : Int)] 60)).alloc (.cells #[.int .u64 0, .int .i64 0, .int .i64 0, .slice none 0 0, .int .u64 0, .int .i64 0, .slice none 0 0] 28)) (w.heap.size + 1) 28 #[.int .u64 0, .int .i64 0, .int .i64 0, .slice none 0 0, .int .u64 0, .int .i64 0, .slice none 0 0]) := by
    have e := Blk.new (w.alloc (.cells #[.int .u64 S, .int .i64 (n : Int), .int .i64 (room : Int), .int .i64 votes, .int .i64 (R : Int), .int .i64 (c : Int)] 60)) 28 #[.int .u64 0, .int .i64 0, .int .i64 0, .slice none 0 0, .int .u64 0, .int .i64 0, .slice none 0 0]
    rw [show (w.alloc (.cells #[.int .u64 S, .int .i64 (n : Int), .int .i64 (room : Int), .int .i64 votes, .int .i64 (R : Int), .int .i64 (c : Int)] 60)).heap.size = w.heap.size + 1 by simp] at e
    exact e
  have ZX : Hid (((w.alloc (.cells #[.int .u64 S, .int .i64 (n : Int), .int .i64 (room : Int), .int .i64 votes, .int .i64 (R : Int), .int .i64 (c : Int)] 60)).alloc (.cells #[.int .u64 0, .int .i64 0, .int .i64 0, .slice none 0 0, .int .u64 0, .int .i64 0, .slice none 0 0] 28)).heap.size = w.heap.size + 2) := by show _ = _; simp
  have HH := hidE h
  have HS := hidE hs
  have SH := hidE sh
  clear h hs sh
  unfold szv
  go_enter Try.func23, Try.ntmps23
  go_wp2_with fail
  generalize (w.alloc (.cells #[.int .u64 S, .int .i64 (n : Int), .int .i64 (room : Int), .int .i64 votes, .int .i64 (R : Int), .int .i64 (c : Int)] 60)).alloc (.cells #[.int .u64 0, .int .i64 0, .int .i64 0, .slice none 0 0, .int .u64 0, .int .i64 0, .slice none 0 0] 28) = u1 at BX KR ZX ⊢
  refine (NW.out u1).mono ?_
  rintro e u2 ⟨x, rfl, hx, b2⟩
  have B2 : Hid (Below w.heap.size w u2) := bel_trans BX.out b2
  have K2 : Hid (Blk u2 (w.heap.size + 1) 28 #[.int .u64 0, .int .i64 0, .int .i64 0, .slice none 0 0, .int .u64 0, .int .i64 0, .slice none 0 0]) := KR.out.since b2
  have Z2 : Hid (w.heap.size + 2 ≤ u2.heap.size) := by have := b2.size; rw [ZX.out] at this; exact this
  obtain ⟨a0, c0, a1, c1, hE⟩ := hx.at.form
  have LN : (elF S room votes (List.replicate n (⟨[], 0⟩ : Bkt)) R c (fun _ _ => 0)).bs.length = n := List.length_replicate
  rw [LN] at hE
  have hE2 : x = .agg #[.int .u64 S, .int .i64 (room : Int), .int .i64 votes, .slice a0 n c0, .int .u64 (rowF S 1), .int .i64 255, .slice a1 R c1] := hE
  clear hE
  subst hE2
  have XE : Hid (Held (fun q => w.heap.size + 2 ≤ q) (fun u => ElAt u (.agg #[.int .u64 S, .int .i64 (room : Int), .int .i64 votes, .slice a0 n c0, .int .u64 (rowF S 1), .int .i64 255, .slice a1 R c1]) (elF S room votes (List.replicate n ⟨[], 0⟩) R c (fun _ _ => 0))) u2) := by
    have e := hx
    rw [ZX.out] at e
    exact e
  clear b2 BX KR hx LN NW
  have SA : Hid (StrsAt u2 lv m Q) := HH.out.keep (keep_of_below B2.out)
  have B3 : Hid (Below w.heap.size w (u2.alloc (.cells #[.int .u64 S, .int .i64 (room : Int), .int .i64 votes, .slice a0 n c0, .int .u64 (rowF S 1), .int .i64 255, .slice a1 R c1] 28))) := bel_trans B2.out (bel_alloc _ _)
  have K3 : Hid (Blk (u2.alloc (.cells #[.int .u64 S, .int .i64 (room : Int), .int .i64 votes, .slice a0 n c0, .int .u64 (rowF S 1), .int .i64 255, .slice a1 R c1] 28)) (w.heap.size + 1) 28 #[.int .u64 0, .int .i64 0, .int .i64 0, .slice none 0 0, .int .u64 0, .int .i64 0, .slice none 0 0]) := K2.out.alloc _
  have K4 : Hid (Blk (u2.alloc (.cells #[.int .u64 S, .int .i64 (room : Int), .int .i64 votes, .slice a0 n c0, .int .u64 (rowF S 1), .int .i64 255, .slice a1 R c1] 28)) u2.heap.size 28 #[.int .u64 S, .int .i64 (room : Int), .int .i64 votes, .slice a0 n c0, .int .u64 (rowF S 1), .int .i64 255, .slice a1 R c1]) := Blk.new _ _ _
  have SC : Hid (Calls Try.prog 49 #[lv, .int .i64 300] (u2.alloc (.cells #[.int .u64 S, .int .i64 (room : Int), .int .i64 votes, .slice a0 n c0, .int .u64 (rowF S 1), .int .i64 255, .slice a1 R c1] 28)) (TellsB (u2.alloc (.cells #[.int .u64 S, .int .i64 (room : Int), .int .i64 votes, .slice a0 n c0, .int .u64 (rowF S 1), .int .i64 255, .slice a1 R c1] 28)) (m ≤ 300 ∧ ∀ i, i < m → (Q i).size ≤ 100))) := short_300 _ lv m Q (SA.out.keep (keep_of_below (bel_alloc _ _))) hm hq
  have XE3 : Hid (Held (fun q => w.heap.size + 2 ≤ q ∧ q ≠ u2.heap.size) (fun u => ElAt u (.agg #[.int .u64 S, .int .i64 (room : Int), .int .i64 votes, .slice a0 n c0, .int .u64 (rowF S 1), .int .i64 255, .slice a1 R c1]) (elF S room votes (List.replicate n ⟨[], 0⟩) R c (fun _ _ => 0))) (u2.alloc (.cells #[.int .u64 S, .int .i64 (room : Int), .int .i64 votes, .slice a0 n c0, .int .u64 (rowF S 1), .int .i64 255, .slice a1 R c1] 28))) := (XE.out.mono fun q hq d => ⟨d, by omega⟩).since (bel_alloc _ _)
  go_wp2_with fail
  generalize u2.alloc (.cells #[.int .u64 S, .int .i64 (room : Int), .int .i64 votes, .slice a0 n c0, .int .u64 (rowF S 1), .int .i64 255, .slice a1 R c1] 28) = u3 at B3 K3 K4 SC XE3 ⊢
  refine SC.out.mono ?_
  rintro e u4 ⟨B, rfl, hB, b4⟩
  obtain rfl : B = false := by
    cases B with
    | true => exact absurd (hB.1 rfl) HS.out
    | false => rfl
  have B5 := hidE (bel_trans B3.out b4)
  have K5 := hidE (K3.out.since b4)
  have K6 := hidE (K4.out.since b4)
  clear b4 hB B3 K3 K4 SC
  have x0 : u4.cell? ⟨w.heap.size + 1, 0, none⟩ = some (.int .u64 0) := K5.out.cell 0
  have y0 := K5.out.frozen 0
  have x1 : u4.cell? ⟨w.heap.size + 1, 1, none⟩ = some (.int .i64 0) := K5.out.cell 1
  have y1 := K5.out.frozen 1
  have x2 : u4.cell? ⟨w.heap.size + 1, 2, none⟩ = some (.int .i64 0) := K5.out.cell 2
  have y2 := K5.out.frozen 2
  have x3 : u4.cell? ⟨w.heap.size + 1, 3, none⟩ = some (.slice none 0 0) := K5.out.cell 3
  have y3 := K5.out.frozen 3
  have x4 : u4.cell? ⟨w.heap.size + 1, 4, none⟩ = some (.int .u64 0) := K5.out.cell 4
  have y4 := K5.out.frozen 4
  have x5 : u4.cell? ⟨w.heap.size + 1, 5, none⟩ = some (.int .i64 0) := K5.out.cell 5
  have y5 := K5.out.frozen 5
  have x6 : u4.cell? ⟨w.heap.size + 1, 6, none⟩ = some (.slice none 0 0) := K5.out.cell 6
  have y6 := K5.out.frozen 6
  have z0 : u4.cell? ⟨u2.heap.size, 0, none⟩ = some (.int .u64 S) := K6.out.cell 0
  have z1 : u4.cell? ⟨u2.heap.size, 1, none⟩ = some (.int .i64 (room : Int)) := K6.out.cell 1
  have z2 : u4.cell? ⟨u2.heap.size, 2, none⟩ = some (.int .i64 votes) := K6.out.cell 2
  have z3 : u4.cell? ⟨u2.heap.size, 3, none⟩ = some (.slice a0 n c0) := K6.out.cell 3
  have z4 : u4.cell? ⟨u2.heap.size, 4, none⟩ = some (.int .u64 (rowF S 1)) := K6.out.cell 4
  have z5 : u4.cell? ⟨u2.heap.size, 5, none⟩ = some (.int .i64 255) := K6.out.cell 5
  have z6 : u4.cell? ⟨u2.heap.size, 6, none⟩ = some (.slice a1 R c1) := K6.out.cell 6
  go_wp2_with fail
  refine bodyPost_ret (v := .tuple #[.agg #[.int .u64 S, .int .i64 (room : Int), .int .i64 votes, .slice a0 n c0, .int .u64 (rowF S 1), .int .i64 255, .slice a1 R c1], .bool false]) ?_ rfl ?_
  rotate_left
  · exact ⟨_, _, _, _, rfl, put7_below B5.out (by omega) _ _ _ _ _ _ _⟩
  have c7 := put7_blk (t := 28) K5.out (.int .u64 S) (.int .i64 (room : Int)) (.int .i64 votes) (.slice a0 n c0) (.int .u64 (rowF S 1)) (.int .i64 255) (.slice a1 R c1)
  have c70 := c7.cell 0
  have c71 := c7.cell 1
  have c72 := c7.cell 2
  have c73 := c7.cell 3
  have c74 := c7.cell 4
  have c75 := c7.cell 5
  have c76 := c7.cell 6
  change (results _ _).run _ (put7 (u4) (w.heap.size + 1) (.int .u64 S) (.int .i64 (room : Int)) (.int .i64 votes) (.slice a0 n c0) (.int .u64 (rowF S 1)) (.int .i64 255) (.slice a1 R c1)) = .ok _ (put7 (u4) (w.heap.size + 1) (.int .u64 S) (.int .i64 (room : Int)) (.int .i64 votes) (.slice a0 n c0) (.int .u64 (rowF S 1)) (.int .i64 255) (.slice a1 R c1))
  generalize put7 (u4) (w.heap.size + 1) (.int .u64 S) (.int .i64 (room : Int)) (.int .i64 votes) (.slice a0 n c0) (.int .u64 (rowF S 1)) (.int .i64 255) (.slice a1 R c1) = W7 at c70 c71 c72 c73 c74 c75 c76
  simp [results, Try.results23, go_sem, c70, c71, c72, c73, c74, c75, c76]
/-- What a sketch is to which keys came. -/
def fedF (S votes : Int) (n room R c : Nat) (Q : Nat → ByteArray) (k : Nat) : Elk := elF S room votes (feedS n room votes (fun s => placeN S s n 0) Q k).bs R c (lightZ (rowF S 1) 255 c (feedS n room votes (fun s => placeN S s n 0) Q k).li)
/-- A sketch told, to which keys came. -/
def FedE (w : World) (S votes : Int) (n room R c : Nat) (Q : Nat → ByteArray) (m : Nat) (e : Ending) (w' : World) : Prop := ∃ a0 c0 a1 c1, e = .returned (.tuple #[.agg #[.int .u64 S, .int .i64 (room : Int), .int .i64 votes, .slice a0 n c0, .int .u64 (rowF S 1), .int .i64 255, .slice a1 R c1], .bool true]) ∧ Held (fun q => w.heap.size ≤ q) (fun u => ElAt u (.agg #[.int .u64 S, .int .i64 (room : Int), .int .i64 votes, .slice a0 n c0, .int .u64 (rowF S 1), .int .i64 255, .slice a1 R c1]) (fedF S votes n room R c Q m)) w' ∧ Below w.heap.size w w'
/-- One key more. -/
theorem fed_next (C : CtrE) (S votes : Int) (n room R c : Nat) (Q : Nat → ByteArray) (uS : U S) (sh : shapeE n room votes R c = true) (k : Nat) (hk : k < 300) (hq : ∀ i, i < k + 1 → (Q i).size ≤ 100) (w : World) (x : Value) (D : Nat → Prop) (hD : ∀ q, w.heap.size ≤ q → D q) (h : Held D (fun u => ElAt u x (fedF S votes n room R c Q k)) w) :
    Calls Try.prog 11 #[x, .string (Q k)] w fun e w' => ∃ a0 c0 a1 c1, e = .returned (.tuple #[.agg #[.int .u64 S, .int .i64 (room : Int), .int .i64 votes, .slice a0 n c0, .int .u64 (rowF S 1), .int .i64 255, .slice a1 R c1], .int .i64 0]) ∧ Held D (fun u => ElAt u (.agg #[.int .u64 S, .int .i64 (room : Int), .int .i64 votes, .slice a0 n c0, .int .u64 (rowF S 1), .int .i64 255, .slice a1 R c1]) (fedF S votes n room R c Q (k + 1))) w' ∧ Below w.heap.size w w' := by
  have sh2 := sh
  rw [shapeE_iff] at sh2
  have r1 : 1 ≤ room := by omega
  have pl : ∀ i, i < k + 1 → placeN S (Q i) n 0 < n := fun i _ => placeN_lt S (Q i) n 0 (by omega)
  have inv := feed_inv (votes := votes) (pl := fun s => placeN S s n 0) r1 k (by omega) fun i hi => pl i (by omega)
  have nx := feed_next (votes := votes) (pl := fun s => placeN S s n 0) r1 (by omega) pl
  have so := feed_short (N := n) (room := room) (votes := votes) (pl := fun s => placeN S s n 0) k fun i hi => hq i (by omega)
  unfold fedF at h ⊢
  generalize feedS n room votes (fun s => placeN S s n 0) Q k = st at *
  generalize feedS n room votes (fun s => placeN S s n 0) Q (k + 1) = st' at *
  have ok : OkP 255 R c (lightZ (rowF S 1) 255 c st.li) := lightZ_ok (ok_zero sh) fun x m => (inv.light x m).1
  have rt := inv_right inv sh (by omega) ok
  have le := inv.len
  unfold addS at nx
  cases gb : st.bs[placeN S (Q k) n 0]? with
  | none => rw [gb] at nx; cases nx
  | some b =>
    rw [gb] at nx
    simp only at nx
    cases ga : El.addB room votes b (Q k) with
    | none => rw [ga] at nx; cases nx
    | some r =>
      obtain ⟨b', o⟩ := r
      rw [ga] at nx
      have gb2 : st.bs[placeN S (Q k) st.bs.length 0]? = some b := by rw [le]; exact gb
      refine (C.add_ok w x S room votes st.bs R c _ (Q k) b b' o D hD h uS rt so (hq k (by omega)) gb2 (by simpa using ga)).mono ?_
      rintro e w' ⟨x', rfl, hx, b1⟩
      have l2 : st'.bs.length = n := by
        cases o <;> (simp only at nx; cases nx; simp [le])
      have eF : elF S room votes (st.bs.set (placeN S (Q k) st.bs.length 0) b') R c (lightO S c (lightZ (rowF S 1) 255 c st.li) o) = elF S room votes st'.bs R c (lightZ (rowF S 1) 255 c st'.li) := by
        rw [le]
        cases o with
        | none => simp only at nx; cases nx; rfl
        | some y => simp only at nx; cases nx; rfl
      rw [eF] at hx
      obtain ⟨a0, c0, a1, c1, hE⟩ := hx.at.form
      have LN : (elF S room votes st'.bs R c (lightZ (rowF S 1) 255 c st'.li)).bs.length = n := l2
      rw [LN] at hE
      have hE2 : x' = .agg #[.int .u64 S, .int .i64 (room : Int), .int .i64 votes, .slice a0 n c0, .int .u64 (rowF S 1), .int .i64 255, .slice a1 R c1] := hE
      clear hE
      subst hE2
      exact ⟨a0, c0, a1, c1, rfl, hx, b1⟩
set_option maxHeartbeats 4000000 in
/-- Keys that come. -/
theorem fed_ok (C : CtrE) (w : World) (S votes : Int) (n room R c : Nat) (lv : Value) (m : Nat) (Q : Nat → ByteArray) (uS : U S) (h : StrsAt w lv m Q) (hm : m ≤ 9223372036854775807) (hq : ∀ i, i < m → (Q i).size ≤ 9223372036854775807) (sh : shapeE n room votes R c = true) (hs : m ≤ 300 ∧ ∀ i, i < m → (Q i).size ≤ 100) :
    Calls Try.prog 23 #[szv S n room votes R c, lv] w (FedE w S votes n room R c Q m) := by
  have BX : Hid (Below w.heap.size w ((w.alloc (.cells #[.int .u64 S, .int .i64 (n : Int), .int .i64 (room : Int), .int .i64 votes, .int .i64 (R : Int), .int .i64 (c : Int)] 60)).alloc (.cells #[.int .u64 0, .int .i64 0, .int .i64 0, .slice none 0 0, .int .u64 0, .int .i64 0, .slice none 0 0] 28))) := (bel_alloc _ _).alloc (by simp) _
  have NW := hidE fun u => C.new_ok u S n room R c votes uS sh
  have KR : Hid (Blk ((w.alloc (.cells #[.int .u64 S, .int .i64 (n : Int), .int .i64 (room : Int), .int .i64 votes, .int .i64 (R : Int), .int .i64 (c : Int)] 60)).alloc (.cells #[.int .u64 0, .int .i64 0, .int .i64 0, .slice none 0 0, .int .u64 0, .int .i64 0, .slice none 0 0] 28)) (w.heap.size + 1) 28 #[.int .u64 0, .int .i64 0, .int .i64 0, .slice none 0 0, .int .u64 0, .int .i64 0, .slice none 0 0]) := by
    have e := Blk.new (w.alloc (.cells #[.int .u64 S, .int .i64 (n : Int), .int .i64 (room : Int), .int .i64 votes, .int .i64 (R : Int), .int .i64 (c : Int)] 60)) 28 #[.int .u64 0, .int .i64 0, .int .i64 0, .slice none 0 0, .int .u64 0, .int .i64 0, .slice none 0 0]
    rw [show (w.alloc (.cells #[.int .u64 S, .int .i64 (n : Int), .int .i64 (room : Int), .int .i64 votes, .int .i64 (R : Int), .int .i64 (c : Int)] 60)).heap.size = w.heap.size + 1 by simp] at e
    exact e
  have ZX : Hid (((w.alloc (.cells #[.int .u64 S, .int .i64 (n : Int), .int .i64 (room : Int), .int .i64 votes, .int .i64 (R : Int), .int .i64 (c : Int)] 60)).alloc (.cells #[.int .u64 0, .int .i64 0, .int .i64 0, .slice none 0 0, .int .u64 0, .int .i64 0, .slice none 0 0] 28)).heap.size = w.heap.size + 2) := by show _ = _; simp
  have HH := hidE h
  have HS := hidE hs
  have SH := hidE sh
  clear h hs sh
  unfold szv
  go_enter Try.func23, Try.ntmps23
  go_wp2_with fail
  generalize (w.alloc (.cells #[.int .u64 S, .int .i64 (n : Int), .int .i64 (room : Int), .int .i64 votes, .int .i64 (R : Int), .int .i64 (c : Int)] 60)).alloc (.cells #[.int .u64 0, .int .i64 0, .int .i64 0, .slice none 0 0, .int .u64 0, .int .i64 0, .slice none 0 0] 28) = u1 at BX KR ZX ⊢
  refine (NW.out u1).mono ?_
  rintro e u2 ⟨x, rfl, hx, b2⟩
  have B2 : Hid (Below w.heap.size w u2) := bel_trans BX.out b2
  have K2 : Hid (Blk u2 (w.heap.size + 1) 28 #[.int .u64 0, .int .i64 0, .int .i64 0, .slice none 0 0, .int .u64 0, .int .i64 0, .slice none 0 0]) := KR.out.since b2
  have Z2 : Hid (w.heap.size + 2 ≤ u2.heap.size) := by have := b2.size; rw [ZX.out] at this; exact this
  obtain ⟨a0, c0, a1, c1, hE⟩ := hx.at.form
  have LN : (elF S room votes (List.replicate n (⟨[], 0⟩ : Bkt)) R c (fun _ _ => 0)).bs.length = n := List.length_replicate
  rw [LN] at hE
  have hE2 : x = .agg #[.int .u64 S, .int .i64 (room : Int), .int .i64 votes, .slice a0 n c0, .int .u64 (rowF S 1), .int .i64 255, .slice a1 R c1] := hE
  clear hE
  subst hE2
  have XE : Hid (Held (fun q => w.heap.size + 2 ≤ q) (fun u => ElAt u (.agg #[.int .u64 S, .int .i64 (room : Int), .int .i64 votes, .slice a0 n c0, .int .u64 (rowF S 1), .int .i64 255, .slice a1 R c1]) (elF S room votes (List.replicate n ⟨[], 0⟩) R c (fun _ _ => 0))) u2) := by
    have e := hx
    rw [ZX.out] at e
    exact e
  clear b2 BX KR hx LN NW
  have SA : Hid (StrsAt u2 lv m Q) := HH.out.keep (keep_of_below B2.out)
  have B3 : Hid (Below w.heap.size w (u2.alloc (.cells #[.int .u64 S, .int .i64 (room : Int), .int .i64 votes, .slice a0 n c0, .int .u64 (rowF S 1), .int .i64 255, .slice a1 R c1] 28))) := bel_trans B2.out (bel_alloc _ _)
  have K3 : Hid (Blk (u2.alloc (.cells #[.int .u64 S, .int .i64 (room : Int), .int .i64 votes, .slice a0 n c0, .int .u64 (rowF S 1), .int .i64 255, .slice a1 R c1] 28)) (w.heap.size + 1) 28 #[.int .u64 0, .int .i64 0, .int .i64 0, .slice none 0 0, .int .u64 0, .int .i64 0, .slice none 0 0]) := K2.out.alloc _
  have K4 : Hid (Blk (u2.alloc (.cells #[.int .u64 S, .int .i64 (room : Int), .int .i64 votes, .slice a0 n c0, .int .u64 (rowF S 1), .int .i64 255, .slice a1 R c1] 28)) u2.heap.size 28 #[.int .u64 S, .int .i64 (room : Int), .int .i64 votes, .slice a0 n c0, .int .u64 (rowF S 1), .int .i64 255, .slice a1 R c1]) := Blk.new _ _ _
  have SC : Hid (Calls Try.prog 49 #[lv, .int .i64 300] (u2.alloc (.cells #[.int .u64 S, .int .i64 (room : Int), .int .i64 votes, .slice a0 n c0, .int .u64 (rowF S 1), .int .i64 255, .slice a1 R c1] 28)) (TellsB (u2.alloc (.cells #[.int .u64 S, .int .i64 (room : Int), .int .i64 votes, .slice a0 n c0, .int .u64 (rowF S 1), .int .i64 255, .slice a1 R c1] 28)) (m ≤ 300 ∧ ∀ i, i < m → (Q i).size ≤ 100))) := short_300 _ lv m Q (SA.out.keep (keep_of_below (bel_alloc _ _))) hm hq
  have XE3 : Hid (Held (fun q => w.heap.size + 2 ≤ q ∧ q ≠ u2.heap.size) (fun u => ElAt u (.agg #[.int .u64 S, .int .i64 (room : Int), .int .i64 votes, .slice a0 n c0, .int .u64 (rowF S 1), .int .i64 255, .slice a1 R c1]) (elF S room votes (List.replicate n ⟨[], 0⟩) R c (fun _ _ => 0))) (u2.alloc (.cells #[.int .u64 S, .int .i64 (room : Int), .int .i64 votes, .slice a0 n c0, .int .u64 (rowF S 1), .int .i64 255, .slice a1 R c1] 28))) := (XE.out.mono fun q hq d => ⟨d, by omega⟩).since (bel_alloc _ _)
  go_wp2_with fail
  generalize u2.alloc (.cells #[.int .u64 S, .int .i64 (room : Int), .int .i64 votes, .slice a0 n c0, .int .u64 (rowF S 1), .int .i64 255, .slice a1 R c1] 28) = u3 at B3 K3 K4 SC XE3 ⊢
  refine SC.out.mono ?_
  rintro e u4 ⟨B, rfl, hB, b4⟩
  obtain rfl : B = true := hB.2 HS.out
  have B5 := hidE (bel_trans B3.out b4)
  have K5 := hidE (K3.out.since b4)
  have K6 := hidE (K4.out.since b4)
  have X5 : Hid (Held (fun q => w.heap.size + 2 ≤ q ∧ q ≠ u2.heap.size) (fun u => ElAt u (.agg #[.int .u64 S, .int .i64 (room : Int), .int .i64 votes, .slice a0 n c0, .int .u64 (rowF S 1), .int .i64 255, .slice a1 R c1]) (fedF S votes n room R c Q 0)) u4) := XE3.out.since b4
  obtain ⟨A, cap, lb, lo, rfl, hcap, hA, hL⟩ := HH.out
  have HA := hidE hA
  have HLc := hidE hL
  obtain ⟨g, hg⟩ : ∃ g, g = u2.heap.size := ⟨_, rfl⟩
  have GZ : Hid (w.heap.size + 2 ≤ g) := by rw [hg]; exact Z2.out
  have m3 : m ≤ 300 := HS.out.1
  rw [← hg] at K6 X5
  rw [← hg]
  clear b4 hB B3 K3 K4 SC XE3 hA hL SA K2 B2 XE hg Z2 HH
  go_wp2_with fail
  go_loopg [36] m (fun gk i wr => ∃ (k : Nat) (a0 : Option Addr) (c0 : Nat) (a1 : Option Addr) (c1 : Nat), (gk = m - k ∧ k ≤ m ∧ Held (fun q => w.heap.size + 2 ≤ q ∧ q ≠ g) (fun u => ElAt u (.agg #[.int .u64 S, .int .i64 (room : Int), .int .i64 votes, .slice a0 n c0, .int .u64 (rowF S 1), .int .i64 255, .slice a1 R c1]) (fedF S votes n room R c Q k)) wr ∧ Blk wr g 28 #[.int .u64 S, .int .i64 (room : Int), .int .i64 votes, .slice a0 n c0, .int .u64 (rowF S 1), .int .i64 255, .slice a1 R c1] ∧ Blk wr (w.heap.size + 1) 28 #[.int .u64 0, .int .i64 0, .int .i64 0, .slice none 0 0, .int .u64 0, .int .i64 0, .slice none 0 0] ∧ Below w.heap.size w wr ∧ g < wr.heap.size) ∧ i = .int .i64 (k : Int))
  case atStart => exact ⟨0, a0, c0, a1, c1, ⟨rfl, by omega, X5.out, K6.out, K5.out, B5.out, K6.out.lt⟩, rfl⟩
  case round =>
    clear X5 K6 K5 B5
    obtain ⟨k, a0, c0, a1, c1, ⟨hgk, hk, hX, hK, hR, hB, hgl⟩, rfl⟩ := hrel
    have XK := hidE hX
    have KG := hidE hK
    have KR := hidE hR
    have BB := hidE hB
    have HG := hidE hgk
    have GL := hidE hgl
    clear hX hK hR hB hgk hgl
    have z0 : wr.cell? ⟨g, 0, none⟩ = some (.int .u64 S) := KG.out.cell 0
    have z1 : wr.cell? ⟨g, 1, none⟩ = some (.int .i64 (room : Int)) := KG.out.cell 1
    have z2 : wr.cell? ⟨g, 2, none⟩ = some (.int .i64 votes) := KG.out.cell 2
    have z3 : wr.cell? ⟨g, 3, none⟩ = some (.slice a0 n c0) := KG.out.cell 3
    have z4 : wr.cell? ⟨g, 4, none⟩ = some (.int .u64 (rowF S 1)) := KG.out.cell 4
    have z5 : wr.cell? ⟨g, 5, none⟩ = some (.int .i64 255) := KG.out.cell 5
    have z6 : wr.cell? ⟨g, 6, none⟩ = some (.slice a1 R c1) := KG.out.cell 6
    by_cases kz : k < m
    · obtain rfl := HA.out (by omega)
      have bk : (k : Int) < (m : Int) := by omega
      have bk0 : (0 : Int) ≤ (k : Int) := by omega
      have cl : wr.cell? ⟨lb, lo + k, none⟩ = some (.string (Q k)) := keep_of_below BB.out _ _ (HLc.out k kz)
      have AD : Hid (Calls Try.prog 11 #[.agg #[.int .u64 S, .int .i64 (room : Int), .int .i64 votes, .slice a0 n c0, .int .u64 (rowF S 1), .int .i64 255, .slice a1 R c1], .string (Q k)] wr fun e w' => ∃ a0 c0 a1 c1, e = .returned (.tuple #[.agg #[.int .u64 S, .int .i64 (room : Int), .int .i64 votes, .slice a0 n c0, .int .u64 (rowF S 1), .int .i64 255, .slice a1 R c1], .int .i64 0]) ∧ Held (fun q => w.heap.size + 2 ≤ q ∧ q ≠ g) (fun u => ElAt u (.agg #[.int .u64 S, .int .i64 (room : Int), .int .i64 votes, .slice a0 n c0, .int .u64 (rowF S 1), .int .i64 255, .slice a1 R c1]) (fedF S votes n room R c Q (k + 1))) w' ∧ Below wr.heap.size wr w') := fed_next C S votes n room R c Q uS SH.out k (by omega) (fun i hi => HS.out.2 i (by omega)) wr _ _ (fun q hq => ⟨by have := BB.out.size; have := GZ.out; have := GL.out; omega, by have := GL.out; omega⟩) XK.out
      generalize Q k = s at cl AD
      go_wp2_with fail
      refine AD.out.mono ?_
      rintro e u5 ⟨a2, c2, a3, c3, rfl, hX, b5⟩
      have X6 := hidE hX
      have KG6 := hidE (KG.out.since b5)
      have KR6 := hidE (KR.out.since b5)
      have BB6 := hidE (bel_trans BB.out b5)
      have GL6 : Hid (g < u5.heap.size) := by have := b5.size; have := GL.out; show _ < _; omega
      clear hX b5 XK KG KR BB GL z0 z1 z2 z3 z4 z5 z6 cl AD
      have z0 : u5.cell? ⟨g, 0, none⟩ = some (.int .u64 S) := KG6.out.cell 0
      have f0 := KG6.out.frozen 0
      have z1 : u5.cell? ⟨g, 1, none⟩ = some (.int .i64 (room : Int)) := KG6.out.cell 1
      have f1 := KG6.out.frozen 1
      have z2 : u5.cell? ⟨g, 2, none⟩ = some (.int .i64 votes) := KG6.out.cell 2
      have f2 := KG6.out.frozen 2
      have z3 : u5.cell? ⟨g, 3, none⟩ = some (.slice a0 n c0) := KG6.out.cell 3
      have f3 := KG6.out.frozen 3
      have z4 : u5.cell? ⟨g, 4, none⟩ = some (.int .u64 (rowF S 1)) := KG6.out.cell 4
      have f4 := KG6.out.frozen 4
      have z5 : u5.cell? ⟨g, 5, none⟩ = some (.int .i64 255) := KG6.out.cell 5
      have f5 := KG6.out.frozen 5
      have z6 : u5.cell? ⟨g, 6, none⟩ = some (.slice a1 R c1) := KG6.out.cell 6
      have f6 := KG6.out.frozen 6
      go_wp2_with fail
      go_roundg (m - (k + 1))
      case measure => have := HG.out; omega
      case rel =>
        refine ⟨k + 1, a2, c2, a3, c3, ⟨rfl, by omega, put7_held X6.out (fun d => d.2 rfl) _ _ _ _ _ _ _, put7_blk KG6.out _ _ _ _ _ _ _, put7_other KR6.out (by have := GZ.out; omega) _ _ _ _ _ _ _, put7_below BB6.out (by have := GZ.out; omega) _ _ _ _ _ _ _, ?_⟩, by go_num⟩
        have e := put7_size u5 g (.int .u64 S) (.int .i64 (room : Int)) (.int .i64 votes) (.slice a2 n c2) (.int .u64 (rowF S 1)) (.int .i64 255) (.slice a3 R c3)
        exact Nat.lt_of_lt_of_eq GL6.out e.symm
    · have bk : ¬ (k : Int) < (m : Int) := by omega
      obtain rfl : k = m := by omega
      have x0 : wr.cell? ⟨w.heap.size + 1, 0, none⟩ = some (.int .u64 0) := KR.out.cell 0
      have y0 := KR.out.frozen 0
      have x1 : wr.cell? ⟨w.heap.size + 1, 1, none⟩ = some (.int .i64 0) := KR.out.cell 1
      have y1 := KR.out.frozen 1
      have x2 : wr.cell? ⟨w.heap.size + 1, 2, none⟩ = some (.int .i64 0) := KR.out.cell 2
      have y2 := KR.out.frozen 2
      have x3 : wr.cell? ⟨w.heap.size + 1, 3, none⟩ = some (.slice none 0 0) := KR.out.cell 3
      have y3 := KR.out.frozen 3
      have x4 : wr.cell? ⟨w.heap.size + 1, 4, none⟩ = some (.int .u64 0) := KR.out.cell 4
      have y4 := KR.out.frozen 4
      have x5 : wr.cell? ⟨w.heap.size + 1, 5, none⟩ = some (.int .i64 0) := KR.out.cell 5
      have y5 := KR.out.frozen 5
      have x6 : wr.cell? ⟨w.heap.size + 1, 6, none⟩ = some (.slice none 0 0) := KR.out.cell 6
      have y6 := KR.out.frozen 6
      go_wp2_with fail
      refine bodyPost_ret (v := .tuple #[.agg #[.int .u64 S, .int .i64 (room : Int), .int .i64 votes, .slice a0 n c0, .int .u64 (rowF S 1), .int .i64 255, .slice a1 R c1], .bool true]) ?_ rfl ?_
      rotate_left
      · exact ⟨a0, c0, a1, c1, rfl, (put7_held XK.out (fun d => by have := d.1; omega) _ _ _ _ _ _ _).mono fun q _ d => by have := d.1; omega, put7_below BB.out (by omega) _ _ _ _ _ _ _⟩
      have c7 := put7_blk (t := 28) KR.out (.int .u64 S) (.int .i64 (room : Int)) (.int .i64 votes) (.slice a0 n c0) (.int .u64 (rowF S 1)) (.int .i64 255) (.slice a1 R c1)
      have c70 := c7.cell 0
      have c71 := c7.cell 1
      have c72 := c7.cell 2
      have c73 := c7.cell 3
      have c74 := c7.cell 4
      have c75 := c7.cell 5
      have c76 := c7.cell 6
      change (results _ _).run _ (put7 (wr) (w.heap.size + 1) (.int .u64 S) (.int .i64 (room : Int)) (.int .i64 votes) (.slice a0 n c0) (.int .u64 (rowF S 1)) (.int .i64 255) (.slice a1 R c1)) = .ok _ (put7 (wr) (w.heap.size + 1) (.int .u64 S) (.int .i64 (room : Int)) (.int .i64 votes) (.slice a0 n c0) (.int .u64 (rowF S 1)) (.int .i64 255) (.slice a1 R c1))
      generalize put7 (wr) (w.heap.size + 1) (.int .u64 S) (.int .i64 (room : Int)) (.int .i64 votes) (.slice a0 n c0) (.int .u64 (rowF S 1)) (.int .i64 255) (.slice a1 R c1) = W7 at c70 c71 c72 c73 c74 c75 c76
      simp [results, Try.results23, go_sem, c70, c71, c72, c73, c74, c75, c76]
end Go.Proofs.Ytihealembikkiaa
