
/-
  Merge of layer 13 (bitmap): what it answers.
-/
import Derived.Test.YtkfhofgmjhnknaaDoorBtmAdd
import Derived.BigRegion
namespace Go.Proofs.YtkfhofgmjhnknaaDoor
open Go.RowKit Fm Bl Bm L2 Go.Deep
set_option linter.unusedVariables false

set_option maxHeartbeats 3200000 in
theorem mmerge_bad (w : World) (x y : Value) (S S' : Int) (R R' : Nat) (L L' : Nat → Nat) (Z Y : Nat → Nat → Bool) (h : MpAt w x S R L Z) (h' : MpAt w y S' R' L' Y) (hR : R ≤ 1000) (hL : ∀ i, i < R → L i ≤ 1000) (hR' : R' ≤ 1000) (hL' : ∀ i, i < R' → L' i ≤ 1000)
    (r : ¬ (RightM R L ∧ RightM R' L' ∧ AlikeM S R (L 0) S' R' (L' 0))) :
    Calls Tryd.prog 21 #[x, y] w (GaveE 1 w) := by
  obtain ⟨v, rfl, hv⟩ := h
  obtain ⟨v', rfl, hv'⟩ := h'
  by_cases rp : RightM R L
  rotate_left
  · have RA : Hid (∀ w1, Below w.heap.size w w1 → Calls Tryd.prog 13 #[.agg #[.int .u64 S, v]] w1 fun e w' => e = .returned (.bool false) ∧ Below w1.heap.size w1 w') := fun w1 b1 => mright_no ⟨v, rfl, hv.keep (keep_of_below b1)⟩ hR hL rp
    obtain ⟨A, cap, b, o, rfl, hc, hr⟩ := hv.read
    obtain ⟨A', cap', b', o', rfl, hc', hr'⟩ := hv'.read
    have BX : Hid (Below w.heap.size w (((w.alloc (.cells #[.int .u64 S, .slice A R cap] 25)).alloc (.cells #[.int .u64 S', .slice A' R' cap'] 25)).alloc (.cells #[.int .u64 0, .slice none 0 0] 25))) := ((bel_alloc _ _).alloc (by simp) _).alloc (by simp; omega) _
    have KX : Hid (Blk (((w.alloc (.cells #[.int .u64 S, .slice A R cap] 25)).alloc (.cells #[.int .u64 S', .slice A' R' cap'] 25)).alloc (.cells #[.int .u64 0, .slice none 0 0] 25)) w.heap.size 25 #[.int .u64 S, .slice A R cap]) := ((Blk.new _ _ _).alloc _).alloc _
    have KY : Hid (Blk (((w.alloc (.cells #[.int .u64 S, .slice A R cap] 25)).alloc (.cells #[.int .u64 S', .slice A' R' cap'] 25)).alloc (.cells #[.int .u64 0, .slice none 0 0] 25)) (w.heap.size + 1) 25 #[.int .u64 S', .slice A' R' cap']) := by
      have e := (Blk.new (w.alloc (.cells #[.int .u64 S, .slice A R cap] 25)) 25 #[.int .u64 S', .slice A' R' cap']).alloc (.cells #[.int .u64 0, .slice none 0 0] 25)
      simp only [World.size_alloc] at e
      exact e
    have KR : Hid (Blk (((w.alloc (.cells #[.int .u64 S, .slice A R cap] 25)).alloc (.cells #[.int .u64 S', .slice A' R' cap'] 25)).alloc (.cells #[.int .u64 0, .slice none 0 0] 25)) (w.heap.size + 2) 25 #[.int .u64 0, .slice none 0 0]) := by
      have e := Blk.new ((w.alloc (.cells #[.int .u64 S, .slice A R cap] 25)).alloc (.cells #[.int .u64 S', .slice A' R' cap'] 25)) 25 #[.int .u64 0, .slice none 0 0]
      simp only [World.size_alloc] at e
      exact e
    clear hv hr hv' hr' hL hL' r rp
    go_enter Tryd.func21, Tryd.ntmps21
    go_wp2_with fail
    refine (RA.out _ BX.out).mono ?_
    rintro e u1 ⟨rfl, b1⟩
    have BX1 : Hid (Below w.heap.size w u1) := bel_trans BX.out b1
    have KX1 : Hid (Blk u1 w.heap.size 25 #[.int .u64 S, .slice A R cap]) := KX.out.since b1
    have KY1 : Hid (Blk u1 (w.heap.size + 1) 25 #[.int .u64 S', .slice A' R' cap']) := KY.out.since b1
    have KR1 : Hid (Blk u1 (w.heap.size + 2) 25 #[.int .u64 0, .slice none 0 0]) := KR.out.since b1
    clear b1 BX KX KY KR
    have x0 : u1.cell? ⟨w.heap.size, 0, none⟩ = some (.int .u64 S) := KX1.out.cell 0
    have x2 : u1.cell? ⟨w.heap.size, 1, none⟩ = some (.slice A R cap) := KX1.out.cell 1
    have y0 : u1.cell? ⟨w.heap.size + 1, 0, none⟩ = some (.int .u64 S') := KY1.out.cell 0
    have y2 : u1.cell? ⟨w.heap.size + 1, 1, none⟩ = some (.slice A' R' cap') := KY1.out.cell 1
    clear RA
    have r0 : u1.cell? ⟨w.heap.size + 2, 0, none⟩ = some (.int .u64 0) := KR1.out.cell 0
    have r2 : u1.cell? ⟨w.heap.size + 2, 1, none⟩ = some (.slice none 0 0) := KR1.out.cell 1
    have z0 := KR1.out.frozen 0
    have z1 := KR1.out.frozen 1
    go_wp2_with fail
    refine bodyPost_ret (v := .tuple #[.agg #[.int .u64 0, .slice none 0 0], .int .i64 1]) ?_ rfl ?_
    rotate_left
    · exact ⟨rfl, put2_below BX1.out (by omega) _ _⟩
    have c3 := put2_blk (t := 25) (KR1.out) (.int .u64 0) (.slice none 0 0)
    have c30 := c3.cell 0
    have c31 := c3.cell 1
    change (results _ _).run _ (put2 (u1) (w.heap.size + 2) (.int .u64 0) (.slice none 0 0)) = .ok _ (put2 (u1) (w.heap.size + 2) (.int .u64 0) (.slice none 0 0))
    generalize put2 (u1) (w.heap.size + 2) (.int .u64 0) (.slice none 0 0) = W5 at c30 c31
    simp [results, Tryd.results21, go_sem, c30, c31]
  have RA : Hid (∀ w1, Below w.heap.size w w1 → Calls Tryd.prog 13 #[.agg #[.int .u64 S, v]] w1 fun e w' => e = .returned (.bool true) ∧ Below w1.heap.size w1 w') := fun w1 b1 => mright_yes ⟨v, rfl, hv.keep (keep_of_below b1)⟩ rp
  by_cases rq : RightM R' L'
  rotate_left
  · have RB : Hid (∀ w1, Below w.heap.size w w1 → Calls Tryd.prog 13 #[.agg #[.int .u64 S', v']] w1 fun e w' => e = .returned (.bool false) ∧ Below w1.heap.size w1 w') := fun w1 b1 => mright_no ⟨v', rfl, hv'.keep (keep_of_below b1)⟩ hR' hL' rq
    obtain ⟨A, cap, b, o, rfl, hc, hr⟩ := hv.read
    obtain ⟨A', cap', b', o', rfl, hc', hr'⟩ := hv'.read
    have BX : Hid (Below w.heap.size w (((w.alloc (.cells #[.int .u64 S, .slice A R cap] 25)).alloc (.cells #[.int .u64 S', .slice A' R' cap'] 25)).alloc (.cells #[.int .u64 0, .slice none 0 0] 25))) := ((bel_alloc _ _).alloc (by simp) _).alloc (by simp; omega) _
    have KX : Hid (Blk (((w.alloc (.cells #[.int .u64 S, .slice A R cap] 25)).alloc (.cells #[.int .u64 S', .slice A' R' cap'] 25)).alloc (.cells #[.int .u64 0, .slice none 0 0] 25)) w.heap.size 25 #[.int .u64 S, .slice A R cap]) := ((Blk.new _ _ _).alloc _).alloc _
    have KY : Hid (Blk (((w.alloc (.cells #[.int .u64 S, .slice A R cap] 25)).alloc (.cells #[.int .u64 S', .slice A' R' cap'] 25)).alloc (.cells #[.int .u64 0, .slice none 0 0] 25)) (w.heap.size + 1) 25 #[.int .u64 S', .slice A' R' cap']) := by
      have e := (Blk.new (w.alloc (.cells #[.int .u64 S, .slice A R cap] 25)) 25 #[.int .u64 S', .slice A' R' cap']).alloc (.cells #[.int .u64 0, .slice none 0 0] 25)
      simp only [World.size_alloc] at e
      exact e
    have KR : Hid (Blk (((w.alloc (.cells #[.int .u64 S, .slice A R cap] 25)).alloc (.cells #[.int .u64 S', .slice A' R' cap'] 25)).alloc (.cells #[.int .u64 0, .slice none 0 0] 25)) (w.heap.size + 2) 25 #[.int .u64 0, .slice none 0 0]) := by
      have e := Blk.new ((w.alloc (.cells #[.int .u64 S, .slice A R cap] 25)).alloc (.cells #[.int .u64 S', .slice A' R' cap'] 25)) 25 #[.int .u64 0, .slice none 0 0]
      simp only [World.size_alloc] at e
      exact e
    clear hv hr hv' hr' hL hL' r rp rq
    go_enter Tryd.func21, Tryd.ntmps21
    go_wp2_with fail
    refine (RA.out _ BX.out).mono ?_
    rintro e u1 ⟨rfl, b1⟩
    have BX1 : Hid (Below w.heap.size w u1) := bel_trans BX.out b1
    have KX1 : Hid (Blk u1 w.heap.size 25 #[.int .u64 S, .slice A R cap]) := KX.out.since b1
    have KY1 : Hid (Blk u1 (w.heap.size + 1) 25 #[.int .u64 S', .slice A' R' cap']) := KY.out.since b1
    have KR1 : Hid (Blk u1 (w.heap.size + 2) 25 #[.int .u64 0, .slice none 0 0]) := KR.out.since b1
    clear b1 BX KX KY KR
    have x0 : u1.cell? ⟨w.heap.size, 0, none⟩ = some (.int .u64 S) := KX1.out.cell 0
    have x2 : u1.cell? ⟨w.heap.size, 1, none⟩ = some (.slice A R cap) := KX1.out.cell 1
    have y0 : u1.cell? ⟨w.heap.size + 1, 0, none⟩ = some (.int .u64 S') := KY1.out.cell 0
    have y2 : u1.cell? ⟨w.heap.size + 1, 1, none⟩ = some (.slice A' R' cap') := KY1.out.cell 1
    go_wp2_with fail
    refine (RB.out _ BX1.out).mono ?_
    rintro e u2 ⟨rfl, b2⟩
    have BX2 : Hid (Below w.heap.size w u2) := bel_trans BX1.out b2
    have KX2 : Hid (Blk u2 w.heap.size 25 #[.int .u64 S, .slice A R cap]) := KX1.out.since b2
    have KY2 : Hid (Blk u2 (w.heap.size + 1) 25 #[.int .u64 S', .slice A' R' cap']) := KY1.out.since b2
    have KR2 : Hid (Blk u2 (w.heap.size + 2) 25 #[.int .u64 0, .slice none 0 0]) := KR1.out.since b2
    clear b2 BX1 KX1 KY1 KR1 x0 x2 y0 y2
    have x0 : u2.cell? ⟨w.heap.size, 0, none⟩ = some (.int .u64 S) := KX2.out.cell 0
    have x2 : u2.cell? ⟨w.heap.size, 1, none⟩ = some (.slice A R cap) := KX2.out.cell 1
    have y0 : u2.cell? ⟨w.heap.size + 1, 0, none⟩ = some (.int .u64 S') := KY2.out.cell 0
    have y2 : u2.cell? ⟨w.heap.size + 1, 1, none⟩ = some (.slice A' R' cap') := KY2.out.cell 1
    clear RA RB
    have r0 : u2.cell? ⟨w.heap.size + 2, 0, none⟩ = some (.int .u64 0) := KR2.out.cell 0
    have r2 : u2.cell? ⟨w.heap.size + 2, 1, none⟩ = some (.slice none 0 0) := KR2.out.cell 1
    have z0 := KR2.out.frozen 0
    have z1 := KR2.out.frozen 1
    go_wp2_with fail
    refine bodyPost_ret (v := .tuple #[.agg #[.int .u64 0, .slice none 0 0], .int .i64 1]) ?_ rfl ?_
    rotate_left
    · exact ⟨rfl, put2_below BX2.out (by omega) _ _⟩
    have c3 := put2_blk (t := 25) (KR2.out) (.int .u64 0) (.slice none 0 0)
    have c30 := c3.cell 0
    have c31 := c3.cell 1
    change (results _ _).run _ (put2 (u2) (w.heap.size + 2) (.int .u64 0) (.slice none 0 0)) = .ok _ (put2 (u2) (w.heap.size + 2) (.int .u64 0) (.slice none 0 0))
    generalize put2 (u2) (w.heap.size + 2) (.int .u64 0) (.slice none 0 0) = W5 at c30 c31
    simp [results, Tryd.results21, go_sem, c30, c31]
  have RB : Hid (∀ w1, Below w.heap.size w w1 → Calls Tryd.prog 13 #[.agg #[.int .u64 S', v']] w1 fun e w' => e = .returned (.bool true) ∧ Below w1.heap.size w1 w') := fun w1 b1 => mright_yes ⟨v', rfl, hv'.keep (keep_of_below b1)⟩ rq
  have AK : Hid (∀ w1, Below w.heap.size w w1 → Calls Tryd.prog 33 #[.agg #[.int .u64 S, v], .agg #[.int .u64 S', v']] w1 fun e w' => e = .returned (.bool false) ∧ Below w1.heap.size w1 w') := fun w1 b1 => by
    refine (malike_any w1 _ _ S S' R R' (L 0) (L' 0) Z Y (MpAt.one ⟨v, rfl, hv.keep (keep_of_below b1)⟩ rp) (MpAt.one ⟨v', rfl, hv'.keep (keep_of_below b1)⟩ rq) rp.1 rq.1).mono ?_
    rintro e w' ⟨B, rfl, hB, bb⟩
    refine ⟨?_, bb⟩
    cases B with
    | false => rfl
    | true => exact absurd ⟨rp, rq, hB.1 rfl⟩ r
  obtain ⟨A, cap, b, o, rfl, hc, hr⟩ := hv.read
  obtain ⟨A', cap', b', o', rfl, hc', hr'⟩ := hv'.read
  have BX : Hid (Below w.heap.size w (((w.alloc (.cells #[.int .u64 S, .slice A R cap] 25)).alloc (.cells #[.int .u64 S', .slice A' R' cap'] 25)).alloc (.cells #[.int .u64 0, .slice none 0 0] 25))) := ((bel_alloc _ _).alloc (by simp) _).alloc (by simp; omega) _
  have KX : Hid (Blk (((w.alloc (.cells #[.int .u64 S, .slice A R cap] 25)).alloc (.cells #[.int .u64 S', .slice A' R' cap'] 25)).alloc (.cells #[.int .u64 0, .slice none 0 0] 25)) w.heap.size 25 #[.int .u64 S, .slice A R cap]) := ((Blk.new _ _ _).alloc _).alloc _
  have KY : Hid (Blk (((w.alloc (.cells #[.int .u64 S, .slice A R cap] 25)).alloc (.cells #[.int .u64 S', .slice A' R' cap'] 25)).alloc (.cells #[.int .u64 0, .slice none 0 0] 25)) (w.heap.size + 1) 25 #[.int .u64 S', .slice A' R' cap']) := by
    have e := (Blk.new (w.alloc (.cells #[.int .u64 S, .slice A R cap] 25)) 25 #[.int .u64 S', .slice A' R' cap']).alloc (.cells #[.int .u64 0, .slice none 0 0] 25)
    simp only [World.size_alloc] at e
    exact e
  have KR : Hid (Blk (((w.alloc (.cells #[.int .u64 S, .slice A R cap] 25)).alloc (.cells #[.int .u64 S', .slice A' R' cap'] 25)).alloc (.cells #[.int .u64 0, .slice none 0 0] 25)) (w.heap.size + 2) 25 #[.int .u64 0, .slice none 0 0]) := by
    have e := Blk.new ((w.alloc (.cells #[.int .u64 S, .slice A R cap] 25)).alloc (.cells #[.int .u64 S', .slice A' R' cap'] 25)) 25 #[.int .u64 0, .slice none 0 0]
    simp only [World.size_alloc] at e
    exact e
  clear hv hr hv' hr' hL hL' r rp rq
  go_enter Tryd.func21, Tryd.ntmps21
  go_wp2_with fail
  refine (RA.out _ BX.out).mono ?_
  rintro e u1 ⟨rfl, b1⟩
  have BX1 : Hid (Below w.heap.size w u1) := bel_trans BX.out b1
  have KX1 : Hid (Blk u1 w.heap.size 25 #[.int .u64 S, .slice A R cap]) := KX.out.since b1
  have KY1 : Hid (Blk u1 (w.heap.size + 1) 25 #[.int .u64 S', .slice A' R' cap']) := KY.out.since b1
  have KR1 : Hid (Blk u1 (w.heap.size + 2) 25 #[.int .u64 0, .slice none 0 0]) := KR.out.since b1
  clear b1 BX KX KY KR
  have x0 : u1.cell? ⟨w.heap.size, 0, none⟩ = some (.int .u64 S) := KX1.out.cell 0
  have x2 : u1.cell? ⟨w.heap.size, 1, none⟩ = some (.slice A R cap) := KX1.out.cell 1
  have y0 : u1.cell? ⟨w.heap.size + 1, 0, none⟩ = some (.int .u64 S') := KY1.out.cell 0
  have y2 : u1.cell? ⟨w.heap.size + 1, 1, none⟩ = some (.slice A' R' cap') := KY1.out.cell 1
  go_wp2_with fail
  refine (RB.out _ BX1.out).mono ?_
  rintro e u2 ⟨rfl, b2⟩
  have BX2 : Hid (Below w.heap.size w u2) := bel_trans BX1.out b2
  have KX2 : Hid (Blk u2 w.heap.size 25 #[.int .u64 S, .slice A R cap]) := KX1.out.since b2
  have KY2 : Hid (Blk u2 (w.heap.size + 1) 25 #[.int .u64 S', .slice A' R' cap']) := KY1.out.since b2
  have KR2 : Hid (Blk u2 (w.heap.size + 2) 25 #[.int .u64 0, .slice none 0 0]) := KR1.out.since b2
  clear b2 BX1 KX1 KY1 KR1 x0 x2 y0 y2
  have x0 : u2.cell? ⟨w.heap.size, 0, none⟩ = some (.int .u64 S) := KX2.out.cell 0
  have x2 : u2.cell? ⟨w.heap.size, 1, none⟩ = some (.slice A R cap) := KX2.out.cell 1
  have y0 : u2.cell? ⟨w.heap.size + 1, 0, none⟩ = some (.int .u64 S') := KY2.out.cell 0
  have y2 : u2.cell? ⟨w.heap.size + 1, 1, none⟩ = some (.slice A' R' cap') := KY2.out.cell 1
  go_wp2_with fail
  refine (AK.out _ BX2.out).mono ?_
  rintro e u3 ⟨rfl, b3⟩
  have BX3 : Hid (Below w.heap.size w u3) := bel_trans BX2.out b3
  have KX3 : Hid (Blk u3 w.heap.size 25 #[.int .u64 S, .slice A R cap]) := KX2.out.since b3
  have KY3 : Hid (Blk u3 (w.heap.size + 1) 25 #[.int .u64 S', .slice A' R' cap']) := KY2.out.since b3
  have KR3 : Hid (Blk u3 (w.heap.size + 2) 25 #[.int .u64 0, .slice none 0 0]) := KR2.out.since b3
  clear b3 BX2 KX2 KY2 KR2 x0 x2 y0 y2
  have x0 : u3.cell? ⟨w.heap.size, 0, none⟩ = some (.int .u64 S) := KX3.out.cell 0
  have x2 : u3.cell? ⟨w.heap.size, 1, none⟩ = some (.slice A R cap) := KX3.out.cell 1
  have y0 : u3.cell? ⟨w.heap.size + 1, 0, none⟩ = some (.int .u64 S') := KY3.out.cell 0
  have y2 : u3.cell? ⟨w.heap.size + 1, 1, none⟩ = some (.slice A' R' cap') := KY3.out.cell 1
  clear RA RB AK
  have r0 : u3.cell? ⟨w.heap.size + 2, 0, none⟩ = some (.int .u64 0) := KR3.out.cell 0
  have r2 : u3.cell? ⟨w.heap.size + 2, 1, none⟩ = some (.slice none 0 0) := KR3.out.cell 1
  have z0 := KR3.out.frozen 0
  have z1 := KR3.out.frozen 1
  go_wp2_with fail
  refine bodyPost_ret (v := .tuple #[.agg #[.int .u64 0, .slice none 0 0], .int .i64 1]) ?_ rfl ?_
  rotate_left
  · exact ⟨rfl, put2_below BX3.out (by omega) _ _⟩
  have c3 := put2_blk (t := 25) (KR3.out) (.int .u64 0) (.slice none 0 0)
  have c30 := c3.cell 0
  have c31 := c3.cell 1
  change (results _ _).run _ (put2 (u3) (w.heap.size + 2) (.int .u64 0) (.slice none 0 0)) = .ok _ (put2 (u3) (w.heap.size + 2) (.int .u64 0) (.slice none 0 0))
  generalize put2 (u3) (w.heap.size + 2) (.int .u64 0) (.slice none 0 0) = W5 at c30 c31
  simp [results, Tryd.results21, go_sem, c30, c31]
/-- What the loops of Merge keep. -/
structure MgM (w wr : World) (S : Int) (A : Option Addr) (cap B b R n : Nat) (E : Nat → Option Addr) (G C : Nat → Nat) (Z : Nat → Nat → Bool) : Prop where
  since : Below w.heap.size w wr
  box : Blk wr w.heap.size 25 #[.int .u64 S, .slice (some ⟨b, 0, none⟩) R R]
  boy : Blk wr (w.heap.size + 1) 25 #[.int .u64 S, .slice A R cap]
  res : Blk wr (w.heap.size + 2) 25 #[.int .u64 0, .slice none 0 0]
  base : w.heap.size + 2 < B
  tab : TabB wr B b R R (fun _ => n) E G C Z
theorem MgM.drew {w wr : World} {S : Int} {A : Option Addr} {cap B b R n : Nat} {E : Nat → Option Addr} {G C : Nat → Nat} {Z : Nat → Nat → Bool} (h : MgM w wr S A cap B b R n E G C Z) : MgM w wr.drew S A cap B b R n E G C Z := ⟨h.since.drew, h.box, h.boy, h.res, h.base, h.tab.drew⟩
theorem MgM.congr {Y : Nat → Nat → Bool} {w wr : World} {S : Int} {A : Option Addr} {cap B b R n : Nat} {E : Nat → Option Addr} {G C : Nat → Nat} {Z : Nat → Nat → Bool} (h : MgM w wr S A cap B b R n E G C Z) (e : ∀ i j, i < R → j < n → Z i j = Y i j) : MgM w wr S A cap B b R n E G C Y := ⟨h.since, h.box, h.boy, h.res, h.base, h.tab.congr e⟩
theorem MgM.set {w wr : World} {S : Int} {A : Option Addr} {cap B b R n : Nat} {E : Nat → Option Addr} {G C : Nat → Nat} {Z : Nat → Nat → Bool} (h : MgM w wr S A cap B b R n E G C Z) {i : Nat} (hi : i < R) (hl : 0 < n) (p : Nat) (x : Bool) :
    MgM w (wr.setCell ⟨G i, p, none⟩ (.bool x)) S A cap B b R n E G C (fun r j => if r = i then (if j = p then x else Z r j) else Z r j) := by
  have g := ((h.tab.row i hi).2 hl).2.1
  have k := h.base
  exact ⟨h.since.setCell (p := ⟨G i, p, none⟩) (by show w.heap.size ≤ G i; omega) _, h.box.other (a := ⟨G i, p, none⟩) (by show w.heap.size ≠ G i; omega) _, h.boy.other (a := ⟨G i, p, none⟩) (by show w.heap.size + 1 ≠ G i; omega) _, h.res.other (a := ⟨G i, p, none⟩) (by show w.heap.size + 2 ≠ G i; omega) _, h.base, h.tab.set hi hl p x⟩
theorem mgM_start {w u1 u2 : World} {S : Int} {v : Value} {A : Option Addr} {cap b R n : Nat} {E : Nat → Option Addr} {G C : Nat → Nat} {Z : Nat → Nat → Bool} (b1 : Below w.heap.size w u1) (b2 : Below u1.heap.size u1 u2) (hX : Blk u1 w.heap.size 25 #[.int .u64 S, v]) (hY : Blk u1 (w.heap.size + 1) 25 #[.int .u64 S, .slice A R cap]) (hR : Blk u1 (w.heap.size + 2) 25 #[.int .u64 0, .slice none 0 0]) (ht : TabB u2 u1.heap.size b R R (fun _ => n) E G C Z) :
    MgM w (u2.setCell ⟨w.heap.size, 1, none⟩ (.slice (some ⟨b, 0, none⟩) R R)) S A cap u1.heap.size b R n E G C Z := by
  have l := hR.lt
  exact ⟨(bel_trans b1 b2).setCell (p := ⟨w.heap.size, 1, none⟩) (Nat.le_refl _) _, (hX.since b2).set 1 _, (hY.since b2).other (a := ⟨w.heap.size, 1, none⟩) (by show w.heap.size + 1 ≠ w.heap.size; omega) _, (hR.since b2).other (a := ⟨w.heap.size, 1, none⟩) (by show w.heap.size + 2 ≠ w.heap.size; omega) _, l, ht.other (a := ⟨w.heap.size, 1, none⟩) (by show w.heap.size < u1.heap.size; omega) _⟩
/-- The first k rows, and c numbers of the next, are both. -/
def mgMK (Z Y : Nat → Nat → Bool) (k c : Nat) : Nat → Nat → Bool := fun i j => if i < k ∨ (i = k ∧ j < c) then mergeM Z Y i j else Z i j
theorem mgMK_start (Z Y : Nat → Nat → Bool) (i j : Nat) : Z i j = mgMK Z Y 0 0 i j := by
  unfold mgMK; rw [if_neg (by omega)]
theorem mgMK_next (Z Y : Nat → Nat → Bool) (k n i j : Nat) (hj : j < n) : mgMK Z Y k n i j = mgMK Z Y (k + 1) 0 i j := by
  unfold mgMK
  by_cases e : i < k ∨ (i = k ∧ j < n)
  · rw [if_pos e, if_pos (by omega)]
  · rw [if_neg e, if_neg (by omega)]
theorem mgMK_step (Z Y : Nat → Nat → Bool) (k c i j : Nat) : (if i = k then (if j = c then (Z k c || Y k c) else mgMK Z Y k c i j) else mgMK Z Y k c i j) = mgMK Z Y k (c + 1) i j := by
  unfold mgMK
  by_cases ei : i = k
  · subst ei
    rw [if_pos rfl]
    by_cases ej : j = c
    · subst ej
      rw [if_pos rfl, if_pos (by omega)]; rfl
    · rw [if_neg ej]
      by_cases e2 : j < c
      · rw [if_pos (Or.inr ⟨rfl, e2⟩), if_pos (Or.inr ⟨rfl, by omega⟩)]
      · rw [if_neg (by omega), if_neg (by omega)]
  · rw [if_neg ei]
    by_cases e2 : i < k
    · rw [if_pos (Or.inl e2), if_pos (Or.inl e2)]
    · rw [if_neg (by omega), if_neg (by omega)]
theorem mgMK_done (Z Y : Nat → Nat → Bool) (R i j : Nat) (hi : i < R) : mgMK Z Y R 0 i j = mergeM Z Y i j := if_pos (Or.inl hi)
set_option maxHeartbeats 6400000 in
theorem mmerge_any (w : World) (x y : Value) (S : Int) (R n : Nat) (Z Y : Nat → Nat → Bool) (h : MpAt w x S R (fun _ => n) Z) (h' : MpAt w y S R (fun _ => n) Y) (ok : OkM R n) :
    Calls Tryd.prog 21 #[x, y] w (GaveM w S R n (mergeM Z Y)) := by
  obtain ⟨v, rfl, hv⟩ := h
  obtain ⟨v', rfl, hv'⟩ := h'
  have RA : Hid (∀ w1, Below w.heap.size w w1 → Calls Tryd.prog 13 #[.agg #[.int .u64 S, v]] w1 fun e w' => e = .returned (.bool true) ∧ Below w1.heap.size w1 w') := fun w1 b1 => mright_yes ⟨v, rfl, hv.keep (keep_of_below b1)⟩ ok.right
  have RB : Hid (∀ w1, Below w.heap.size w w1 → Calls Tryd.prog 13 #[.agg #[.int .u64 S, v']] w1 fun e w' => e = .returned (.bool true) ∧ Below w1.heap.size w1 w') := fun w1 b1 => mright_yes ⟨v', rfl, hv'.keep (keep_of_below b1)⟩ ok.right
  have AK : Hid (∀ w1, Below w.heap.size w w1 → Calls Tryd.prog 33 #[.agg #[.int .u64 S, v], .agg #[.int .u64 S, v']] w1 fun e w' => e = .returned (.bool true) ∧ Below w1.heap.size w1 w') := fun w1 b1 => by
    refine (malike_any w1 _ _ S S R R n n Z Y ⟨v, rfl, hv.keep (keep_of_below b1)⟩ ⟨v', rfl, hv'.keep (keep_of_below b1)⟩ ok.1 ok.1).mono ?_
    rintro e w' ⟨B, rfl, hB, bb⟩
    exact ⟨by rw [hB.2 ⟨rfl, rfl, rfl⟩], bb⟩
  have hR : R ≤ 16 := ok.2.1
  have n0 : 1 ≤ n := ok.2.2.1
  have n1 : n ≤ 256 := ok.2.2.2
  have CC : Hid (∀ w1, Below w.heap.size w w1 → Calls Tryd.prog 25 #[v] w1 (CopiedM w1 R (fun _ => n) Z)) := fun w1 b1 => mcopied_any w1 v R (fun _ => n) Z (hv.keep (keep_of_below b1)) (by omega) (fun i _ => by show n ≤ 1000; omega)
  obtain ⟨A, cap, b, o, rfl, hc, hr⟩ := hv.read
  obtain ⟨A', cap', b', o', rfl, hc', hr'⟩ := hv'.read
  have BX : Hid (Below w.heap.size w (((w.alloc (.cells #[.int .u64 S, .slice A R cap] 25)).alloc (.cells #[.int .u64 S, .slice A' R cap'] 25)).alloc (.cells #[.int .u64 0, .slice none 0 0] 25))) := ((bel_alloc _ _).alloc (by simp) _).alloc (by simp; omega) _
  have KX : Hid (Blk (((w.alloc (.cells #[.int .u64 S, .slice A R cap] 25)).alloc (.cells #[.int .u64 S, .slice A' R cap'] 25)).alloc (.cells #[.int .u64 0, .slice none 0 0] 25)) w.heap.size 25 #[.int .u64 S, .slice A R cap]) := ((Blk.new _ _ _).alloc _).alloc _
  have KY : Hid (Blk (((w.alloc (.cells #[.int .u64 S, .slice A R cap] 25)).alloc (.cells #[.int .u64 S, .slice A' R cap'] 25)).alloc (.cells #[.int .u64 0, .slice none 0 0] 25)) (w.heap.size + 1) 25 #[.int .u64 S, .slice A' R cap']) := by
    have e := (Blk.new (w.alloc (.cells #[.int .u64 S, .slice A R cap] 25)) 25 #[.int .u64 S, .slice A' R cap']).alloc (.cells #[.int .u64 0, .slice none 0 0] 25)
    simp only [World.size_alloc] at e
    exact e
  have KR : Hid (Blk (((w.alloc (.cells #[.int .u64 S, .slice A R cap] 25)).alloc (.cells #[.int .u64 S, .slice A' R cap'] 25)).alloc (.cells #[.int .u64 0, .slice none 0 0] 25)) (w.heap.size + 2) 25 #[.int .u64 0, .slice none 0 0]) := by
    have e := Blk.new ((w.alloc (.cells #[.int .u64 S, .slice A R cap] 25)).alloc (.cells #[.int .u64 S, .slice A' R cap'] 25)) 25 #[.int .u64 0, .slice none 0 0]
    simp only [World.size_alloc] at e
    exact e
  have RY : Hid (RowsCells w A' R b' o' (fun _ => n) Y) := hr'
  clear hv hr hv' hr' ok
  go_enter Tryd.func21, Tryd.ntmps21
  go_wp2_with fail
  refine (RA.out _ BX.out).mono ?_
  rintro e u1 ⟨rfl, b1⟩
  have BX1 : Hid (Below w.heap.size w u1) := bel_trans BX.out b1
  have KX1 : Hid (Blk u1 w.heap.size 25 #[.int .u64 S, .slice A R cap]) := KX.out.since b1
  have KY1 : Hid (Blk u1 (w.heap.size + 1) 25 #[.int .u64 S, .slice A' R cap']) := KY.out.since b1
  have KR1 : Hid (Blk u1 (w.heap.size + 2) 25 #[.int .u64 0, .slice none 0 0]) := KR.out.since b1
  clear b1 BX KX KY KR
  have x0 : u1.cell? ⟨w.heap.size, 0, none⟩ = some (.int .u64 S) := KX1.out.cell 0
  have x2 : u1.cell? ⟨w.heap.size, 1, none⟩ = some (.slice A R cap) := KX1.out.cell 1
  have y0 : u1.cell? ⟨w.heap.size + 1, 0, none⟩ = some (.int .u64 S) := KY1.out.cell 0
  have y2 : u1.cell? ⟨w.heap.size + 1, 1, none⟩ = some (.slice A' R cap') := KY1.out.cell 1
  go_wp2_with fail
  refine (RB.out _ BX1.out).mono ?_
  rintro e u2 ⟨rfl, b2⟩
  have BX2 : Hid (Below w.heap.size w u2) := bel_trans BX1.out b2
  have KX2 : Hid (Blk u2 w.heap.size 25 #[.int .u64 S, .slice A R cap]) := KX1.out.since b2
  have KY2 : Hid (Blk u2 (w.heap.size + 1) 25 #[.int .u64 S, .slice A' R cap']) := KY1.out.since b2
  have KR2 : Hid (Blk u2 (w.heap.size + 2) 25 #[.int .u64 0, .slice none 0 0]) := KR1.out.since b2
  clear b2 BX1 KX1 KY1 KR1 x0 x2 y0 y2
  have x0 : u2.cell? ⟨w.heap.size, 0, none⟩ = some (.int .u64 S) := KX2.out.cell 0
  have x2 : u2.cell? ⟨w.heap.size, 1, none⟩ = some (.slice A R cap) := KX2.out.cell 1
  have y0 : u2.cell? ⟨w.heap.size + 1, 0, none⟩ = some (.int .u64 S) := KY2.out.cell 0
  have y2 : u2.cell? ⟨w.heap.size + 1, 1, none⟩ = some (.slice A' R cap') := KY2.out.cell 1
  go_wp2_with fail
  refine (AK.out _ BX2.out).mono ?_
  rintro e u3 ⟨rfl, b3⟩
  have BX3 : Hid (Below w.heap.size w u3) := bel_trans BX2.out b3
  have KX3 : Hid (Blk u3 w.heap.size 25 #[.int .u64 S, .slice A R cap]) := KX2.out.since b3
  have KY3 : Hid (Blk u3 (w.heap.size + 1) 25 #[.int .u64 S, .slice A' R cap']) := KY2.out.since b3
  have KR3 : Hid (Blk u3 (w.heap.size + 2) 25 #[.int .u64 0, .slice none 0 0]) := KR2.out.since b3
  clear b3 BX2 KX2 KY2 KR2 x0 x2 y0 y2
  have x0 : u3.cell? ⟨w.heap.size, 0, none⟩ = some (.int .u64 S) := KX3.out.cell 0
  have x2 : u3.cell? ⟨w.heap.size, 1, none⟩ = some (.slice A R cap) := KX3.out.cell 1
  have y0 : u3.cell? ⟨w.heap.size + 1, 0, none⟩ = some (.int .u64 S) := KY3.out.cell 0
  have y2 : u3.cell? ⟨w.heap.size + 1, 1, none⟩ = some (.slice A' R cap') := KY3.out.cell 1
  clear RA RB AK
  go_wp2_with fail
  refine (CC.out _ BX3.out).mono ?_
  rintro e u4 ⟨bt, E, G, C, rfl, ht, b4⟩
  have AI : Hid (MgM w (u4.setCell ⟨w.heap.size, 1, none⟩ (.slice (some ⟨bt, 0, none⟩) R R)) S A' cap' u3.heap.size bt R n E G C Z) := mgM_start BX3.out b4 KX3.out KY3.out KR3.out ht
  clear x0 x2 y0 y2
  have y2 : u4.cell? ⟨w.heap.size, 1, none⟩ = some (.slice A R cap) := (KX3.out.since b4).cell 1
  have f2 : u4.frozen? ⟨w.heap.size, 1, none⟩ = false := (KX3.out.since b4).frozen 1
  clear b4 ht KX3 KY3 KR3 BX3 CC
  go_wp2_with fail
  clear y2 f2
  generalize u4.setCell ⟨w.heap.size, 1, none⟩ (.slice (some ⟨bt, 0, none⟩) R R) = u5 at AI ⊢
  go_loopg [32] R (fun gk i wr => ∃ k : Nat, (gk = R - k ∧ k ≤ R ∧ MgM w wr S A' cap' u3.heap.size bt R n E G C (mgMK Z Y k 0)) ∧ i = .int .i64 (k : Int))
  case atStart => exact ⟨0, ⟨rfl, by omega, AI.out.congr fun i j _ _ => mgMK_start Z Y i j⟩, rfl⟩
  case round =>
    clear AI
    obtain ⟨k, ⟨hg, hk, hA⟩, rfl⟩ := hrel
    have HK : Hid (gk = R - k ∧ MgM w wr S A' cap' u3.heap.size bt R n E G C (mgMK Z Y k 0)) := ⟨hg, hA⟩
    by_cases hlt : k < R
    · have ck := hA.tab.cell hlt hlt
      have bk : (k : Int) < (R : Int) := by omega
      have b0 : (0 : Int) ≤ (k : Int) := by omega
      obtain ⟨rfl, A2, cap2, b2, o2, d1, l2, f2, g2⟩ := RY.out k hlt
      obtain rfl := f2 (by show 0 < n; omega)
      have D1 : Hid (w.cell? ⟨b', o' + k, none⟩ = some (.slice (some ⟨b2, o2, none⟩) n cap2)) := d1
      have D2 : Hid (∀ j, j < n → w.cell? ⟨b2, o2 + j, none⟩ = some (.bool (Y k j))) := g2
      obtain ⟨eE, -, -, -⟩ := (hA.tab.row k hlt).2 (by show 0 < n; omega)
      rw [eE] at ck
      have y2 : wr.cell? ⟨w.heap.size + 1, 1, none⟩ = some (.slice (some ⟨b', o', none⟩) R cap') := hA.boy.cell 1
      have d9 : wr.cell? ⟨b', o' + k, none⟩ = some (.slice (some ⟨b2, o2, none⟩) n cap2) := keep_of_below hA.since _ _ D1.out
      generalize hGk : G k = g at ck
      have HG : Hid (G k = g) := hGk
      generalize C k = cg at ck
      clear hg hA hGk eE d1 g2 l2 f2
      go_wp2_with fail
      clear ck y2 d9
      go_loopg [43] n (fun gj i wi => ∃ c : Nat, (gj = n - c ∧ c ≤ n ∧ MgM w wi S (some ⟨b', o', none⟩) cap' u3.heap.size bt R n E G C (mgMK Z Y k c)) ∧ i = .int .i64 (c : Int))
      case atStart => exact ⟨0, ⟨rfl, by omega, HK.out.2⟩, rfl⟩
      case round =>
        obtain ⟨c, ⟨hg, hc, hI⟩, rfl⟩ := hrel
        have HJ : Hid (gk = n - c ∧ MgM w wr S (some ⟨b', o', none⟩) cap' u3.heap.size bt R n E G C (mgMK Z Y k c)) := ⟨hg, hI⟩
        by_cases hcl : c < n
        · have y2 : wr.cell? ⟨w.heap.size + 1, 1, none⟩ = some (.slice (some ⟨b', o', none⟩) R cap') := hI.boy.cell 1
          have d1 : wr.cell? ⟨b', o' + k, none⟩ = some (.slice (some ⟨b2, o2, none⟩) n cap2) := keep_of_below hI.since _ _ D1.out
          obtain ⟨yy, hyy⟩ : ∃ yy, yy = Y k c := ⟨_, rfl⟩
          obtain ⟨zz, hzz⟩ : ∃ zz, zz = Z k c := ⟨_, rfl⟩
          have d2 : wr.cell? ⟨b2, o2 + c, none⟩ = some (.bool yy) := by rw [hyy]; exact keep_of_below hI.since _ _ (D2.out c hcl)
          have cp : wr.cell? ⟨g, c, none⟩ = some (.bool zz) := by
            have := ((hI.tab.row k hlt).2 (by show 0 < n; omega)).2.2.2.cell hcl
            rw [HG.out] at this
            rw [this, hzz]
            simp [mgMK]
          have fp : wr.frozen? ⟨g, c, none⟩ = false := by
            have := ((hI.tab.row k hlt).2 (by show 0 < n; omega)).2.2.2.frozen c
            rw [HG.out] at this
            exact this
          have NX : Hid (MgM w (wr.setCell ⟨g, c, none⟩ (.bool (zz || yy))) S (some ⟨b', o', none⟩) cap' u3.heap.size bt R n E G C (mgMK Z Y k (c + 1))) := by
            have e := hI.set hlt (by omega) c (zz || yy)
            rw [HG.out] at e
            refine e.congr fun i j hi hj => ?_
            rw [← mgMK_step, hzz, hyy]
          have bc : (c : Int) < (n : Int) := by omega
          have bc0 : (0 : Int) ≤ (c : Int) := by omega
          clear hg hI hyy hzz
          cases zz with
          | true =>
            go_wp2_with fail
            go_roundg (n - (c + 1))
            case measure => have := HJ.out.1; omega
            case rel => exact ⟨c + 1, ⟨rfl, by omega, NX.out⟩, by go_num⟩
          | false =>
            go_wp2_with fail
            go_roundg (n - (c + 1))
            case measure => have := HJ.out.1; omega
            case rel => exact ⟨c + 1, ⟨rfl, by omega, NX.out⟩, by go_num⟩
        · have HE : Hid (c = n) := (by omega : c = n)
          have bc : ¬ (c : Int) < (n : Int) := by omega
          clear hg hI
          go_wp2_with fail
          go_roundg (R - (k + 1))
          case measure => have := HK.out.1; omega
          case rel => exact ⟨k + 1, ⟨rfl, by omega, by have t := HJ.out.2; rw [HE.out] at t; exact t.congr fun i j _ hj => mgMK_next Z Y k n i j hj⟩, by go_num⟩
    · have e : k = R := by omega
      have HE : Hid (k = R) := e
      have b1 : ¬ (k : Int) < (R : Int) := by omega
      have x0 : wr.cell? ⟨w.heap.size, 0, none⟩ = some (.int .u64 S) := hA.box.cell 0
      have x2 : wr.cell? ⟨w.heap.size, 1, none⟩ = some (.slice (some ⟨bt, 0, none⟩) R R) := hA.box.cell 1
      have r0 : wr.cell? ⟨w.heap.size + 2, 0, none⟩ = some (.int .u64 0) := hA.res.cell 0
      have r2 : wr.cell? ⟨w.heap.size + 2, 1, none⟩ = some (.slice none 0 0) := hA.res.cell 1
      have z0 := hA.res.frozen 0
      have z1 := hA.res.frozen 1
      clear e hg hA hlt
      go_wp2_with fail
      refine bodyPost_ret (v := .tuple #[.agg #[.int .u64 S, .slice (some ⟨bt, 0, none⟩) R R], .int .i64 0]) ?_ rfl ?_
      rotate_left
      · exact ⟨_, rfl, fun u eu => MpAt.congr (L := fun _ => n) (Z := mgMK Z Y k 0) ⟨_, rfl, rowsB_far2 HK.out.2.tab (Nat.le_refl _) HK.out.2.base (by have := HK.out.2.base; omega) eu⟩ (fun _ _ => rfl) (fun i j hi _ => by rw [HE.out, mgMK_done Z Y R i j hi]), put2_below HK.out.2.since (by omega) _ _⟩
      have c3 := put2_blk (t := 25) (HK.out.2.res) (.int .u64 S) (.slice (some ⟨bt, 0, none⟩) R R)
      have c30 := c3.cell 0
      have c31 := c3.cell 1
      change (results _ _).run _ (put2 (wr) (w.heap.size + 2) (.int .u64 S) (.slice (some ⟨bt, 0, none⟩) R R)) = .ok _ (put2 (wr) (w.heap.size + 2) (.int .u64 S) (.slice (some ⟨bt, 0, none⟩) R R))
      generalize put2 (wr) (w.heap.size + 2) (.int .u64 S) (.slice (some ⟨bt, 0, none⟩) R R) = W5 at c30 c31
      simp [results, Tryd.results21, go_sem, c30, c31]
end Go.Proofs.YtkfhofgmjhnknaaDoor
