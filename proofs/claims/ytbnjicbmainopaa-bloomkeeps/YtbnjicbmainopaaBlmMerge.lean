
/-
  Merge of layer 10 (bloom): what it answers.
-/
import Derived.Test.YtbnjicbmainopaaBlmRow
namespace Go.Proofs.Ytbnjicbmainopaa
open Go.RowKit Fm Bl L2 Go.Deep
set_option linter.unusedVariables false

set_option maxHeartbeats 3200000 in
theorem merge_bad (w : World) (x y : Value) (S H S' H' : Int) (n m : Nat) (B C : Nat → Bool) (h : FilterAt w x S H n B) (k : FilterAt w y S' H' m C) (hn : n ≤ 100000) (hw : ¬ (fitsB n H = true ∧ fitsB m H' = true ∧ alikeB S H n S' H' m = true)) :
    Calls Try.prog 24 #[x, y] w fun e w' => e = .returned (.tuple #[.agg #[.int .u64 0, .int .i64 0, .slice none 0 0], .int .i64 1]) ∧ Below w.heap.size w w' := by
  obtain ⟨v, rfl, hb⟩ := h
  obtain ⟨v', rfl, hc⟩ := k
  have RA : Hid (∀ w1, Below w.heap.size w w1 → Calls Try.prog 14 #[.agg #[.int .u64 S, .int .i64 H, v]] w1 fun e w' => e = .returned (.bool (fitsB n H)) ∧ Below w1.heap.size w1 w') := fun w1 b1 => right_any w1 _ S H n B ⟨v, rfl, hb.keep (keep_of_below b1)⟩
  have RB : Hid (∀ w1, Below w.heap.size w w1 → Calls Try.prog 14 #[.agg #[.int .u64 S', .int .i64 H', v']] w1 fun e w' => e = .returned (.bool (fitsB m H')) ∧ Below w1.heap.size w1 w') := fun w1 b1 => right_any w1 _ S' H' m C ⟨v', rfl, hc.keep (keep_of_below b1)⟩
  have AK : Hid (∀ w1, Below w.heap.size w w1 → Calls Try.prog 36 #[.agg #[.int .u64 S, .int .i64 H, v], .agg #[.int .u64 S', .int .i64 H', v']] w1 fun e w' => e = .returned (.bool (alikeB S H n S' H' m)) ∧ Below w1.heap.size w1 w') := fun w1 b1 => alike_any w1 _ _ S H S' H' n m B C ⟨v, rfl, hb.keep (keep_of_below b1)⟩ ⟨v', rfl, hc.keep (keep_of_below b1)⟩
  have CC : Hid (∀ w1, Below w.heap.size w w1 → Calls Try.prog 28 #[v] w1 (Cloned w1 n B)) := fun w1 b1 => clone_any w1 v n B (hb.keep (keep_of_below b1)) hn
  obtain ⟨A, cap, bv, ov, rfl, hx1, hx2, hx3⟩ := hb
  clear hx1 hx2 hx3
  obtain ⟨A', cap', b', o', rfl, hx1, q3, q4⟩ := hc
  clear hx1
  have Q3 : Hid (0 < m → A' = some ⟨b', o', none⟩) := q3
  have Q4 : Hid (∀ i, i < m → w.cell? ⟨b', o' + i, none⟩ = some (.bool (C i))) := q4
  clear q3 q4
  have B0 : Hid (Below w.heap.size w (((w.alloc (.cells #[.int .u64 S, .int .i64 H, .slice A n cap] 25)).alloc (.cells #[.int .u64 S', .int .i64 H', .slice A' m cap'] 25)).alloc (.cells #[.int .u64 0, .int .i64 0, .slice none 0 0] 25))) := ((bel_alloc _ _).alloc (by simp) _).alloc (by simp; omega) _
  have KX : Hid (Blk (((w.alloc (.cells #[.int .u64 S, .int .i64 H, .slice A n cap] 25)).alloc (.cells #[.int .u64 S', .int .i64 H', .slice A' m cap'] 25)).alloc (.cells #[.int .u64 0, .int .i64 0, .slice none 0 0] 25)) w.heap.size 25 #[.int .u64 S, .int .i64 H, .slice A n cap]) := ((Blk.new _ _ _).alloc _).alloc _
  have KY : Hid (Blk (((w.alloc (.cells #[.int .u64 S, .int .i64 H, .slice A n cap] 25)).alloc (.cells #[.int .u64 S', .int .i64 H', .slice A' m cap'] 25)).alloc (.cells #[.int .u64 0, .int .i64 0, .slice none 0 0] 25)) (w.heap.size + 1) 25 #[.int .u64 S', .int .i64 H', .slice A' m cap']) := by
    have e := (Blk.new (w.alloc (.cells #[.int .u64 S, .int .i64 H, .slice A n cap] 25)) 25 #[.int .u64 S', .int .i64 H', .slice A' m cap']).alloc (.cells #[.int .u64 0, .int .i64 0, .slice none 0 0] 25)
    simp only [World.size_alloc] at e
    exact e
  have KR : Hid (Blk (((w.alloc (.cells #[.int .u64 S, .int .i64 H, .slice A n cap] 25)).alloc (.cells #[.int .u64 S', .int .i64 H', .slice A' m cap'] 25)).alloc (.cells #[.int .u64 0, .int .i64 0, .slice none 0 0] 25)) (w.heap.size + 2) 25 #[.int .u64 0, .int .i64 0, .slice none 0 0]) := by
    have e := Blk.new ((w.alloc (.cells #[.int .u64 S, .int .i64 H, .slice A n cap] 25)).alloc (.cells #[.int .u64 S', .int .i64 H', .slice A' m cap'] 25)) 25 #[.int .u64 0, .int .i64 0, .slice none 0 0]
    simp only [World.size_alloc] at e
    exact e
  by_cases c1 : fitsB n H = true
  rotate_left
  · have q1 : fitsB n H = false := by simpa using c1
    clear c1 hw
    go_enter Try.func24, Try.ntmps24
    go_wp2_with fail
    refine (RA.out _ B0.out).mono ?_
    rintro e u1 ⟨rfl, b1⟩
    have BU1 : Hid (Below w.heap.size w u1) := bel_trans B0.out b1
    have KX1 : Hid (Blk u1 w.heap.size 25 #[.int .u64 S, .int .i64 H, .slice A n cap]) := KX.out.since b1
    have KY1 : Hid (Blk u1 (w.heap.size + 1) 25 #[.int .u64 S', .int .i64 H', .slice A' m cap']) := KY.out.since b1
    have KR1 : Hid (Blk u1 (w.heap.size + 2) 25 #[.int .u64 0, .int .i64 0, .slice none 0 0]) := KR.out.since b1
    clear b1 KX KY KR
    have x0 : u1.cell? ⟨w.heap.size, 0, none⟩ = some (.int .u64 S) := KX1.out.cell 0
    have x1 : u1.cell? ⟨w.heap.size, 1, none⟩ = some (.int .i64 H) := KX1.out.cell 1
    have x2 : u1.cell? ⟨w.heap.size, 2, none⟩ = some (.slice A n cap) := KX1.out.cell 2
    have y0 : u1.cell? ⟨w.heap.size + 1, 0, none⟩ = some (.int .u64 S') := KY1.out.cell 0
    have y1 : u1.cell? ⟨w.heap.size + 1, 1, none⟩ = some (.int .i64 H') := KY1.out.cell 1
    have y2 : u1.cell? ⟨w.heap.size + 1, 2, none⟩ = some (.slice A' m cap') := KY1.out.cell 2
    have r0 : u1.cell? ⟨w.heap.size + 2, 0, none⟩ = some (.int .u64 0) := KR1.out.cell 0
    have z0 := KR1.out.frozen 0
    have r1 : u1.cell? ⟨w.heap.size + 2, 1, none⟩ = some (.int .i64 0) := KR1.out.cell 1
    have z1 := KR1.out.frozen 1
    have r2 : u1.cell? ⟨w.heap.size + 2, 2, none⟩ = some (.slice none 0 0) := KR1.out.cell 2
    have z2 := KR1.out.frozen 2
    go_wp2_with fail
    refine bodyPost_ret (v := .tuple #[.agg #[.int .u64 0, .int .i64 0, .slice none 0 0], .int .i64 1]) ?_ rfl ?_
    rotate_left
    · exact ⟨rfl, put3_below BU1.out (by omega) _ _ _⟩
    have c3 := put3_blk (t := 25) (KR1.out) (.int .u64 0) (.int .i64 0) (.slice none 0 0)
    have c30 := c3.cell 0
    have c31 := c3.cell 1
    have c32 := c3.cell 2
    change (results _ _).run _ (put3 (u1) (w.heap.size + 2) (.int .u64 0) (.int .i64 0) (.slice none 0 0)) = .ok _ (put3 (u1) (w.heap.size + 2) (.int .u64 0) (.int .i64 0) (.slice none 0 0))
    generalize put3 (u1) (w.heap.size + 2) (.int .u64 0) (.int .i64 0) (.slice none 0 0) = W5 at c30 c31 c32
    simp [results, Try.results24, go_sem, c30, c31, c32]
  by_cases c2 : fitsB m H' = true
  rotate_left
  · have q1 : fitsB m H' = false := by simpa using c2
    clear c2 hw
    go_enter Try.func24, Try.ntmps24
    go_wp2_with fail
    refine (RA.out _ B0.out).mono ?_
    rintro e u1 ⟨rfl, b1⟩
    have BU1 : Hid (Below w.heap.size w u1) := bel_trans B0.out b1
    have KX1 : Hid (Blk u1 w.heap.size 25 #[.int .u64 S, .int .i64 H, .slice A n cap]) := KX.out.since b1
    have KY1 : Hid (Blk u1 (w.heap.size + 1) 25 #[.int .u64 S', .int .i64 H', .slice A' m cap']) := KY.out.since b1
    have KR1 : Hid (Blk u1 (w.heap.size + 2) 25 #[.int .u64 0, .int .i64 0, .slice none 0 0]) := KR.out.since b1
    clear b1 KX KY KR
    have x0 : u1.cell? ⟨w.heap.size, 0, none⟩ = some (.int .u64 S) := KX1.out.cell 0
    have x1 : u1.cell? ⟨w.heap.size, 1, none⟩ = some (.int .i64 H) := KX1.out.cell 1
    have x2 : u1.cell? ⟨w.heap.size, 2, none⟩ = some (.slice A n cap) := KX1.out.cell 2
    have y0 : u1.cell? ⟨w.heap.size + 1, 0, none⟩ = some (.int .u64 S') := KY1.out.cell 0
    have y1 : u1.cell? ⟨w.heap.size + 1, 1, none⟩ = some (.int .i64 H') := KY1.out.cell 1
    have y2 : u1.cell? ⟨w.heap.size + 1, 2, none⟩ = some (.slice A' m cap') := KY1.out.cell 2
    go_wp2_with fail
    refine (RB.out _ BU1.out).mono ?_
    rintro e u2 ⟨rfl, b2⟩
    have BU2 : Hid (Below w.heap.size w u2) := bel_trans BU1.out b2
    have KX2 : Hid (Blk u2 w.heap.size 25 #[.int .u64 S, .int .i64 H, .slice A n cap]) := KX1.out.since b2
    have KY2 : Hid (Blk u2 (w.heap.size + 1) 25 #[.int .u64 S', .int .i64 H', .slice A' m cap']) := KY1.out.since b2
    have KR2 : Hid (Blk u2 (w.heap.size + 2) 25 #[.int .u64 0, .int .i64 0, .slice none 0 0]) := KR1.out.since b2
    clear b2 KX1 KY1 KR1
    clear x0 x1 x2 y0 y1 y2
    have x0 : u2.cell? ⟨w.heap.size, 0, none⟩ = some (.int .u64 S) := KX2.out.cell 0
    have x1 : u2.cell? ⟨w.heap.size, 1, none⟩ = some (.int .i64 H) := KX2.out.cell 1
    have x2 : u2.cell? ⟨w.heap.size, 2, none⟩ = some (.slice A n cap) := KX2.out.cell 2
    have y0 : u2.cell? ⟨w.heap.size + 1, 0, none⟩ = some (.int .u64 S') := KY2.out.cell 0
    have y1 : u2.cell? ⟨w.heap.size + 1, 1, none⟩ = some (.int .i64 H') := KY2.out.cell 1
    have y2 : u2.cell? ⟨w.heap.size + 1, 2, none⟩ = some (.slice A' m cap') := KY2.out.cell 2
    have r0 : u2.cell? ⟨w.heap.size + 2, 0, none⟩ = some (.int .u64 0) := KR2.out.cell 0
    have z0 := KR2.out.frozen 0
    have r1 : u2.cell? ⟨w.heap.size + 2, 1, none⟩ = some (.int .i64 0) := KR2.out.cell 1
    have z1 := KR2.out.frozen 1
    have r2 : u2.cell? ⟨w.heap.size + 2, 2, none⟩ = some (.slice none 0 0) := KR2.out.cell 2
    have z2 := KR2.out.frozen 2
    go_wp2_with fail
    refine bodyPost_ret (v := .tuple #[.agg #[.int .u64 0, .int .i64 0, .slice none 0 0], .int .i64 1]) ?_ rfl ?_
    rotate_left
    · exact ⟨rfl, put3_below BU2.out (by omega) _ _ _⟩
    have c3 := put3_blk (t := 25) (KR2.out) (.int .u64 0) (.int .i64 0) (.slice none 0 0)
    have c30 := c3.cell 0
    have c31 := c3.cell 1
    have c32 := c3.cell 2
    change (results _ _).run _ (put3 (u2) (w.heap.size + 2) (.int .u64 0) (.int .i64 0) (.slice none 0 0)) = .ok _ (put3 (u2) (w.heap.size + 2) (.int .u64 0) (.int .i64 0) (.slice none 0 0))
    generalize put3 (u2) (w.heap.size + 2) (.int .u64 0) (.int .i64 0) (.slice none 0 0) = W5 at c30 c31 c32
    simp [results, Try.results24, go_sem, c30, c31, c32]
  have q1 : alikeB S H n S' H' m = false := by
    cases e : alikeB S H n S' H' m with
    | false => rfl
    | true => exact absurd ⟨c1, c2, e⟩ hw
  clear hw
  go_enter Try.func24, Try.ntmps24
  go_wp2_with fail
  refine (RA.out _ B0.out).mono ?_
  rintro e u1 ⟨rfl, b1⟩
  have BU1 : Hid (Below w.heap.size w u1) := bel_trans B0.out b1
  have KX1 : Hid (Blk u1 w.heap.size 25 #[.int .u64 S, .int .i64 H, .slice A n cap]) := KX.out.since b1
  have KY1 : Hid (Blk u1 (w.heap.size + 1) 25 #[.int .u64 S', .int .i64 H', .slice A' m cap']) := KY.out.since b1
  have KR1 : Hid (Blk u1 (w.heap.size + 2) 25 #[.int .u64 0, .int .i64 0, .slice none 0 0]) := KR.out.since b1
  clear b1 KX KY KR
  have x0 : u1.cell? ⟨w.heap.size, 0, none⟩ = some (.int .u64 S) := KX1.out.cell 0
  have x1 : u1.cell? ⟨w.heap.size, 1, none⟩ = some (.int .i64 H) := KX1.out.cell 1
  have x2 : u1.cell? ⟨w.heap.size, 2, none⟩ = some (.slice A n cap) := KX1.out.cell 2
  have y0 : u1.cell? ⟨w.heap.size + 1, 0, none⟩ = some (.int .u64 S') := KY1.out.cell 0
  have y1 : u1.cell? ⟨w.heap.size + 1, 1, none⟩ = some (.int .i64 H') := KY1.out.cell 1
  have y2 : u1.cell? ⟨w.heap.size + 1, 2, none⟩ = some (.slice A' m cap') := KY1.out.cell 2
  go_wp2_with fail
  refine (RB.out _ BU1.out).mono ?_
  rintro e u2 ⟨rfl, b2⟩
  have BU2 : Hid (Below w.heap.size w u2) := bel_trans BU1.out b2
  have KX2 : Hid (Blk u2 w.heap.size 25 #[.int .u64 S, .int .i64 H, .slice A n cap]) := KX1.out.since b2
  have KY2 : Hid (Blk u2 (w.heap.size + 1) 25 #[.int .u64 S', .int .i64 H', .slice A' m cap']) := KY1.out.since b2
  have KR2 : Hid (Blk u2 (w.heap.size + 2) 25 #[.int .u64 0, .int .i64 0, .slice none 0 0]) := KR1.out.since b2
  clear b2 KX1 KY1 KR1
  clear x0 x1 x2 y0 y1 y2
  have x0 : u2.cell? ⟨w.heap.size, 0, none⟩ = some (.int .u64 S) := KX2.out.cell 0
  have x1 : u2.cell? ⟨w.heap.size, 1, none⟩ = some (.int .i64 H) := KX2.out.cell 1
  have x2 : u2.cell? ⟨w.heap.size, 2, none⟩ = some (.slice A n cap) := KX2.out.cell 2
  have y0 : u2.cell? ⟨w.heap.size + 1, 0, none⟩ = some (.int .u64 S') := KY2.out.cell 0
  have y1 : u2.cell? ⟨w.heap.size + 1, 1, none⟩ = some (.int .i64 H') := KY2.out.cell 1
  have y2 : u2.cell? ⟨w.heap.size + 1, 2, none⟩ = some (.slice A' m cap') := KY2.out.cell 2
  go_wp2_with fail
  refine (AK.out _ BU2.out).mono ?_
  rintro e u3 ⟨rfl, b3⟩
  have BU3 : Hid (Below w.heap.size w u3) := bel_trans BU2.out b3
  have KX3 : Hid (Blk u3 w.heap.size 25 #[.int .u64 S, .int .i64 H, .slice A n cap]) := KX2.out.since b3
  have KY3 : Hid (Blk u3 (w.heap.size + 1) 25 #[.int .u64 S', .int .i64 H', .slice A' m cap']) := KY2.out.since b3
  have KR3 : Hid (Blk u3 (w.heap.size + 2) 25 #[.int .u64 0, .int .i64 0, .slice none 0 0]) := KR2.out.since b3
  clear b3 KX2 KY2 KR2
  clear x0 x1 x2 y0 y1 y2
  have x0 : u3.cell? ⟨w.heap.size, 0, none⟩ = some (.int .u64 S) := KX3.out.cell 0
  have x1 : u3.cell? ⟨w.heap.size, 1, none⟩ = some (.int .i64 H) := KX3.out.cell 1
  have x2 : u3.cell? ⟨w.heap.size, 2, none⟩ = some (.slice A n cap) := KX3.out.cell 2
  have y0 : u3.cell? ⟨w.heap.size + 1, 0, none⟩ = some (.int .u64 S') := KY3.out.cell 0
  have y1 : u3.cell? ⟨w.heap.size + 1, 1, none⟩ = some (.int .i64 H') := KY3.out.cell 1
  have y2 : u3.cell? ⟨w.heap.size + 1, 2, none⟩ = some (.slice A' m cap') := KY3.out.cell 2
  have r0 : u3.cell? ⟨w.heap.size + 2, 0, none⟩ = some (.int .u64 0) := KR3.out.cell 0
  have z0 := KR3.out.frozen 0
  have r1 : u3.cell? ⟨w.heap.size + 2, 1, none⟩ = some (.int .i64 0) := KR3.out.cell 1
  have z1 := KR3.out.frozen 1
  have r2 : u3.cell? ⟨w.heap.size + 2, 2, none⟩ = some (.slice none 0 0) := KR3.out.cell 2
  have z2 := KR3.out.frozen 2
  go_wp2_with fail
  refine bodyPost_ret (v := .tuple #[.agg #[.int .u64 0, .int .i64 0, .slice none 0 0], .int .i64 1]) ?_ rfl ?_
  rotate_left
  · exact ⟨rfl, put3_below BU3.out (by omega) _ _ _⟩
  have c3 := put3_blk (t := 25) (KR3.out) (.int .u64 0) (.int .i64 0) (.slice none 0 0)
  have c30 := c3.cell 0
  have c31 := c3.cell 1
  have c32 := c3.cell 2
  change (results _ _).run _ (put3 (u3) (w.heap.size + 2) (.int .u64 0) (.int .i64 0) (.slice none 0 0)) = .ok _ (put3 (u3) (w.heap.size + 2) (.int .u64 0) (.int .i64 0) (.slice none 0 0))
  generalize put3 (u3) (w.heap.size + 2) (.int .u64 0) (.int .i64 0) (.slice none 0 0) = W5 at c30 c31 c32
  simp [results, Try.results24, go_sem, c30, c31, c32]
/-- A filter that is told, and no error. -/
def GaveM (w : World) (S H : Int) (n : Nat) (C : Nat → Bool) (e : Ending) (w' : World) : Prop := ∃ x, e = .returned (.tuple #[x, .int .i64 0]) ∧ FilterAt w' x S H n C ∧ Below w.heap.size w w'
def orN (B C : Nat → Bool) (k i : Nat) : Bool := if i < k then (B i || C i) else B i
theorem orN_next (B C : Nat → Bool) (k : Nat) (b : Bool) (hb : b = (B k || C k)) (i : Nat) : (if i = k then b else orN B C k i) = orN B C (k + 1) i := by
  unfold orN
  by_cases h1 : i = k
  · subst h1
    rw [if_pos rfl, if_pos (by omega), hb]
  · rw [if_neg h1]
    by_cases h2 : i < k
    · rw [if_pos h2, if_pos (by omega)]
    · rw [if_neg h2, if_neg (by omega)]
set_option maxHeartbeats 3200000 in
theorem merge_ok (w : World) (x y : Value) (S H : Int) (n : Nat) (B C : Nat → Bool) (h : FilterAt w x S H n B) (k : FilterAt w y S H n C) (hf : fitsB n H = true) :
    Calls Try.prog 24 #[x, y] w (GaveM w S H n (fun i => B i || C i)) := by
  have hR := (fitsB_iff _ _).1 hf
  have hn : n ≤ 100000 := by omega
  have n1 : 0 < n := by omega
  clear hR
  have ha : alikeB S H n S H n = true := decide_eq_true ⟨rfl, rfl, rfl⟩
  obtain ⟨v, rfl, hb⟩ := h
  obtain ⟨v', rfl, hc⟩ := k
  have RA : Hid (∀ w1, Below w.heap.size w w1 → Calls Try.prog 14 #[.agg #[.int .u64 S, .int .i64 H, v]] w1 fun e w' => e = .returned (.bool (fitsB n H)) ∧ Below w1.heap.size w1 w') := fun w1 b1 => right_any w1 _ S H n B ⟨v, rfl, hb.keep (keep_of_below b1)⟩
  have RB : Hid (∀ w1, Below w.heap.size w w1 → Calls Try.prog 14 #[.agg #[.int .u64 S, .int .i64 H, v']] w1 fun e w' => e = .returned (.bool (fitsB n H)) ∧ Below w1.heap.size w1 w') := fun w1 b1 => right_any w1 _ S H n C ⟨v', rfl, hc.keep (keep_of_below b1)⟩
  have AK : Hid (∀ w1, Below w.heap.size w w1 → Calls Try.prog 36 #[.agg #[.int .u64 S, .int .i64 H, v], .agg #[.int .u64 S, .int .i64 H, v']] w1 fun e w' => e = .returned (.bool (alikeB S H n S H n)) ∧ Below w1.heap.size w1 w') := fun w1 b1 => alike_any w1 _ _ S H S H n n B C ⟨v, rfl, hb.keep (keep_of_below b1)⟩ ⟨v', rfl, hc.keep (keep_of_below b1)⟩
  have CC : Hid (∀ w1, Below w.heap.size w w1 → Calls Try.prog 28 #[v] w1 (Cloned w1 n B)) := fun w1 b1 => clone_any w1 v n B (hb.keep (keep_of_below b1)) hn
  obtain ⟨A, cap, bv, ov, rfl, hx1, hx2, hx3⟩ := hb
  clear hx1 hx2 hx3
  obtain ⟨A', cap', b', o', rfl, hx1, q3, q4⟩ := hc
  clear hx1
  have Q3 : Hid (0 < n → A' = some ⟨b', o', none⟩) := q3
  have Q4 : Hid (∀ i, i < n → w.cell? ⟨b', o' + i, none⟩ = some (.bool (C i))) := q4
  clear q3 q4
  have B0 : Hid (Below w.heap.size w (((w.alloc (.cells #[.int .u64 S, .int .i64 H, .slice A n cap] 25)).alloc (.cells #[.int .u64 S, .int .i64 H, .slice A' n cap'] 25)).alloc (.cells #[.int .u64 0, .int .i64 0, .slice none 0 0] 25))) := ((bel_alloc _ _).alloc (by simp) _).alloc (by simp; omega) _
  have KX : Hid (Blk (((w.alloc (.cells #[.int .u64 S, .int .i64 H, .slice A n cap] 25)).alloc (.cells #[.int .u64 S, .int .i64 H, .slice A' n cap'] 25)).alloc (.cells #[.int .u64 0, .int .i64 0, .slice none 0 0] 25)) w.heap.size 25 #[.int .u64 S, .int .i64 H, .slice A n cap]) := ((Blk.new _ _ _).alloc _).alloc _
  have KY : Hid (Blk (((w.alloc (.cells #[.int .u64 S, .int .i64 H, .slice A n cap] 25)).alloc (.cells #[.int .u64 S, .int .i64 H, .slice A' n cap'] 25)).alloc (.cells #[.int .u64 0, .int .i64 0, .slice none 0 0] 25)) (w.heap.size + 1) 25 #[.int .u64 S, .int .i64 H, .slice A' n cap']) := by
    have e := (Blk.new (w.alloc (.cells #[.int .u64 S, .int .i64 H, .slice A n cap] 25)) 25 #[.int .u64 S, .int .i64 H, .slice A' n cap']).alloc (.cells #[.int .u64 0, .int .i64 0, .slice none 0 0] 25)
    simp only [World.size_alloc] at e
    exact e
  have KR : Hid (Blk (((w.alloc (.cells #[.int .u64 S, .int .i64 H, .slice A n cap] 25)).alloc (.cells #[.int .u64 S, .int .i64 H, .slice A' n cap'] 25)).alloc (.cells #[.int .u64 0, .int .i64 0, .slice none 0 0] 25)) (w.heap.size + 2) 25 #[.int .u64 0, .int .i64 0, .slice none 0 0]) := by
    have e := Blk.new ((w.alloc (.cells #[.int .u64 S, .int .i64 H, .slice A n cap] 25)).alloc (.cells #[.int .u64 S, .int .i64 H, .slice A' n cap'] 25)) 25 #[.int .u64 0, .int .i64 0, .slice none 0 0]
    simp only [World.size_alloc] at e
    exact e
  go_enter Try.func24, Try.ntmps24
  go_wp2_with fail
  refine (RA.out _ B0.out).mono ?_
  rintro e u1 ⟨rfl, b1⟩
  have BU1 : Hid (Below w.heap.size w u1) := bel_trans B0.out b1
  have KX1 : Hid (Blk u1 w.heap.size 25 #[.int .u64 S, .int .i64 H, .slice A n cap]) := KX.out.since b1
  have KY1 : Hid (Blk u1 (w.heap.size + 1) 25 #[.int .u64 S, .int .i64 H, .slice A' n cap']) := KY.out.since b1
  have KR1 : Hid (Blk u1 (w.heap.size + 2) 25 #[.int .u64 0, .int .i64 0, .slice none 0 0]) := KR.out.since b1
  clear b1 KX KY KR
  have x0 : u1.cell? ⟨w.heap.size, 0, none⟩ = some (.int .u64 S) := KX1.out.cell 0
  have x1 : u1.cell? ⟨w.heap.size, 1, none⟩ = some (.int .i64 H) := KX1.out.cell 1
  have x2 : u1.cell? ⟨w.heap.size, 2, none⟩ = some (.slice A n cap) := KX1.out.cell 2
  have y0 : u1.cell? ⟨w.heap.size + 1, 0, none⟩ = some (.int .u64 S) := KY1.out.cell 0
  have y1 : u1.cell? ⟨w.heap.size + 1, 1, none⟩ = some (.int .i64 H) := KY1.out.cell 1
  have y2 : u1.cell? ⟨w.heap.size + 1, 2, none⟩ = some (.slice A' n cap') := KY1.out.cell 2
  go_wp2_with fail
  refine (RB.out _ BU1.out).mono ?_
  rintro e u2 ⟨rfl, b2⟩
  have BU2 : Hid (Below w.heap.size w u2) := bel_trans BU1.out b2
  have KX2 : Hid (Blk u2 w.heap.size 25 #[.int .u64 S, .int .i64 H, .slice A n cap]) := KX1.out.since b2
  have KY2 : Hid (Blk u2 (w.heap.size + 1) 25 #[.int .u64 S, .int .i64 H, .slice A' n cap']) := KY1.out.since b2
  have KR2 : Hid (Blk u2 (w.heap.size + 2) 25 #[.int .u64 0, .int .i64 0, .slice none 0 0]) := KR1.out.since b2
  clear b2 KX1 KY1 KR1
  clear x0 x1 x2 y0 y1 y2
  have x0 : u2.cell? ⟨w.heap.size, 0, none⟩ = some (.int .u64 S) := KX2.out.cell 0
  have x1 : u2.cell? ⟨w.heap.size, 1, none⟩ = some (.int .i64 H) := KX2.out.cell 1
  have x2 : u2.cell? ⟨w.heap.size, 2, none⟩ = some (.slice A n cap) := KX2.out.cell 2
  have y0 : u2.cell? ⟨w.heap.size + 1, 0, none⟩ = some (.int .u64 S) := KY2.out.cell 0
  have y1 : u2.cell? ⟨w.heap.size + 1, 1, none⟩ = some (.int .i64 H) := KY2.out.cell 1
  have y2 : u2.cell? ⟨w.heap.size + 1, 2, none⟩ = some (.slice A' n cap') := KY2.out.cell 2
  go_wp2_with fail
  refine (AK.out _ BU2.out).mono ?_
  rintro e u3 ⟨rfl, b3⟩
  have BU3 : Hid (Below w.heap.size w u3) := bel_trans BU2.out b3
  have KX3 : Hid (Blk u3 w.heap.size 25 #[.int .u64 S, .int .i64 H, .slice A n cap]) := KX2.out.since b3
  have KY3 : Hid (Blk u3 (w.heap.size + 1) 25 #[.int .u64 S, .int .i64 H, .slice A' n cap']) := KY2.out.since b3
  have KR3 : Hid (Blk u3 (w.heap.size + 2) 25 #[.int .u64 0, .int .i64 0, .slice none 0 0]) := KR2.out.since b3
  clear b3 KX2 KY2 KR2
  clear x0 x1 x2 y0 y1 y2
  have x0 : u3.cell? ⟨w.heap.size, 0, none⟩ = some (.int .u64 S) := KX3.out.cell 0
  have x1 : u3.cell? ⟨w.heap.size, 1, none⟩ = some (.int .i64 H) := KX3.out.cell 1
  have x2 : u3.cell? ⟨w.heap.size, 2, none⟩ = some (.slice A n cap) := KX3.out.cell 2
  have y0 : u3.cell? ⟨w.heap.size + 1, 0, none⟩ = some (.int .u64 S) := KY3.out.cell 0
  have y1 : u3.cell? ⟨w.heap.size + 1, 1, none⟩ = some (.int .i64 H) := KY3.out.cell 1
  have y2 : u3.cell? ⟨w.heap.size + 1, 2, none⟩ = some (.slice A' n cap') := KY3.out.cell 2
  go_wp2_with fail
  refine (CC.out _ BU3.out).mono ?_
  rintro e u4 ⟨A0, cap0, g, rfl, le, row, b4⟩
  have AI : Hid (AddIn w (u4.setCell ⟨w.heap.size, 2, none⟩ (.slice A0 n cap0)) w.heap.size (w.heap.size + 2) S H A0 cap0 g n B) := add_start BU3.out b4 KX3.out KR3.out ⟨by omega, by omega, by omega⟩ le row
  have s2 : u4.cell? ⟨w.heap.size, 2, none⟩ = some (.slice A n cap) := (KX3.out.since b4).cell 2
  have f2 : u4.frozen? ⟨w.heap.size, 2, none⟩ = false := (KX3.out.since b4).frozen 2
  have t2 : (u4.setCell ⟨w.heap.size, 2, none⟩ (.slice A0 n cap0)).cell? ⟨w.heap.size + 1, 2, none⟩ = some (.slice A' n cap') := ((KY3.out.since b4).other (a := ⟨w.heap.size, 2, none⟩) (by show w.heap.size + 1 ≠ w.heap.size; omega) _).cell 2
  clear le row b4 CC x0 x1 x2 y0 y1 y2 KX3 KY3 KR3 BU3 BU2 BU1 B0 RA RB AK
  obtain rfl := Q3.out n1
  go_wp2_with fail
  clear s2 f2 t2
  generalize u4.setCell ⟨w.heap.size, 2, none⟩ (.slice A0 n cap0) = u5 at AI ⊢
  go_loopg [30] n (fun gk i wr => ∃ k : Nat, (gk = n - k ∧ k ≤ n ∧ AddIn w wr w.heap.size (w.heap.size + 2) S H A0 cap0 g n (orN B C k)) ∧ i = .int .i64 (k : Int))
  case atStart => exact ⟨0, ⟨rfl, by omega, AI.out.congr fun i _ => rfl⟩, rfl⟩
  case round =>
    clear AI
    obtain ⟨k, ⟨hg, hk, hA⟩, rfl⟩ := hrel
    have HK : Hid (gk = n - k ∧ AddIn w wr w.heap.size (w.heap.size + 2) S H A0 cap0 g n (orN B C k)) := ⟨hg, hA⟩
    have x2 : wr.cell? ⟨w.heap.size, 2, none⟩ = some (.slice A0 n cap0) := hA.box.cell 2
    by_cases hlt : k < n
    · obtain ⟨rfl, r2, r3, r4, r5⟩ := hA.row (by omega)
      have cp := r5.cell hlt
      have fp := r5.frozen k
      have ck : wr.cell? ⟨b', o' + k, none⟩ = some (.bool (C k)) := keep_of_below hA.since _ _ (Q4.out k hlt)
      have eB : orN B C k k = B k := if_neg (by omega)
      rw [eB] at cp
      have hb1 : (k : Int) < (n : Int) := by omega
      by_cases hB : B k = true
      · have NX : Hid (AddIn w (wr.setCell ⟨g, k, none⟩ (.bool true)) w.heap.size (w.heap.size + 2) S H (some ⟨g, 0, none⟩) cap0 g n (orN B C (k + 1))) := (hA.set hlt true).congr fun i _ => orN_next B C k _ (by rw [hB]; rfl) i
        rw [hB] at cp
        generalize C k = c at ck
        clear hg hA r5 r2 r3 r4 eB hB
        go_wp2_with fail
        go_region
        go_wp2_with fail
        go_roundg (n - (k + 1))
        case measure => have := HK.out.1; omega
        case rel => exact ⟨k + 1, ⟨rfl, by omega, NX.out.drew⟩, by go_num⟩
      · have hB' : B k = false := by simpa using hB
        have NX : Hid (AddIn w (wr.setCell ⟨g, k, none⟩ (.bool (C k))) w.heap.size (w.heap.size + 2) S H (some ⟨g, 0, none⟩) cap0 g n (orN B C (k + 1))) := (hA.set hlt (C k)).congr fun i _ => orN_next B C k _ (by rw [hB']; rfl) i
        rw [hB'] at cp
        generalize C k = c at ck NX
        clear hg hA r5 r2 r3 r4 eB hB hB'
        go_wp2_with fail
        go_region
        go_wp2_with fail
        go_roundg (n - (k + 1))
        case measure => have := HK.out.1; omega
        case rel => exact ⟨k + 1, ⟨rfl, by omega, NX.out.drew⟩, by go_num⟩
    · have e : k = n := by omega
      have HE : Hid (k = n) := e
      have b1 : ¬ (k : Int) < (n : Int) := by omega
      have x0 : wr.cell? ⟨w.heap.size, 0, none⟩ = some (.int .u64 S) := hA.box.cell 0
      have x1 : wr.cell? ⟨w.heap.size, 1, none⟩ = some (.int .i64 H) := hA.box.cell 1
      have r0 : wr.cell? ⟨w.heap.size + 2, 0, none⟩ = some (.int .u64 0) := hA.res.cell 0
      have r1 : wr.cell? ⟨w.heap.size + 2, 1, none⟩ = some (.int .i64 0) := hA.res.cell 1
      have r2 : wr.cell? ⟨w.heap.size + 2, 2, none⟩ = some (.slice none 0 0) := hA.res.cell 2
      have z0 := hA.res.frozen 0
      have z1 := hA.res.frozen 1
      have z2 := hA.res.frozen 2
      clear e hlt hg hA hk
      go_wp2_with fail
      have DN := HK.out.2.done (.int .u64 S) (.int .i64 H) (.slice A0 n cap0)
      have DF := DN.1.congr (C := fun i => B i || C i) fun i hi => if_pos (by rw [HE.out]; exact hi)
      refine bodyPost_ret (v := .tuple #[.agg #[.int .u64 S, .int .i64 H, .slice A0 n cap0], .int .i64 0]) ?_ rfl ?_
      rotate_left
      · exact ⟨_, rfl, DF, DN.2⟩
      have c3 := put3_blk (t := 25) (HK.out.2.res) (.int .u64 S) (.int .i64 H) (.slice A0 n cap0)
      have c30 := c3.cell 0
      have c31 := c3.cell 1
      have c32 := c3.cell 2
      change (results _ _).run _ (put3 (wr) (w.heap.size + 2) (.int .u64 S) (.int .i64 H) (.slice A0 n cap0)) = .ok _ (put3 (wr) (w.heap.size + 2) (.int .u64 S) (.int .i64 H) (.slice A0 n cap0))
      generalize put3 (wr) (w.heap.size + 2) (.int .u64 S) (.int .i64 H) (.slice A0 n cap0) = W5 at c30 c31 c32
      simp [results, Try.results24, go_sem, c30, c31, c32]
end Go.Proofs.Ytbnjicbmainopaa
