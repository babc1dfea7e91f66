
/-
  New and Add of layer 11 (least): what they answer.
-/
import Derived.Test.YtihealembikkiaaLstOwn
import Derived.Test.YtihealembikkiaaHeldKit
namespace Go.Proofs.Ytihealembikkiaa
open Go.RowKit Fm Bl Lt L2 Go.Deep
set_option linter.unusedVariables false
set_option maxRecDepth 20000

/-- A sketch that is told, with no error. -/
def GaveS (w : World) (S M : Int) (R n : Nat) (Z : Nat → Nat → Int) (e : Ending) (w' : World) : Prop := ∃ x, e = .returned (.tuple #[x, .int .i64 0]) ∧ Held (fun q => w.heap.size ≤ q) (fun u => SkAt u x S M R (fun _ => n) Z) w' ∧ Below w.heap.size w w'
/-- Nothing, and an error. -/
def GaveNone (w : World) (e : Ending) (w' : World) : Prop := e = .returned (.tuple #[.agg #[.int .u64 0, .int .i64 0, .slice none 0 0], .int .i64 1]) ∧ Below w.heap.size w w'
theorem skAt_none (w : World) (L : Nat → Nat) (Z : Nat → Nat → Int) : SkAt w (.agg #[.int .u64 0, .int .i64 0, .slice none 0 0]) 0 0 0 L Z := ⟨_, rfl, none, 0, 0, 0, fun _ => .slice none 0 0, rfl, Nat.le_refl _, fun h => by omega, fun r hr => by omega⟩
theorem RowsI.put3 {w : World} {B b R n cap q : Nat} {G C : Nat → Nat} {Z : Nat → Nat → Int} (h : TabIn w B b R n R G C Z) (hc : R ≤ cap) (hq : q < B) (x y z : Value) : RowsI (put3 w q x y z) (.slice (some ⟨b, 0, none⟩) R cap) R (fun _ => n) Z :=
  (((h.other (a := ⟨q, 0, none⟩) hq x).other (a := ⟨q, 1, none⟩) hq y).other (a := ⟨q, 2, none⟩) hq z).rows hc
/-- A table of the call's own stands where blocks below it are written. -/
theorem rowsI_far {w u : World} {B b R n cap q base : Nat} {G C : Nat → Nat} {Z : Nat → Nat → Int} {x y z : Value} (h : TabIn w B b R n R G C Z) (hc : R ≤ cap) (hq : q < B) (hb : base ≤ B) (e : Same (fun p => base ≤ p) (put3 w q x y z) u) : RowsI u (.slice (some ⟨b, 0, none⟩) R cap) R (fun _ => n) Z :=
  (h.of fun p h1 h2 => by
    rw [put3_eq] at e
    rw [e.2 p (by omega) (by rw [putCells_size]; exact h2), putCells_heap _ _ _ _ (by omega)]).rows hc
theorem row_made (w : World) (n : Nat) : RowN (w.alloc (.cells (madeCells #[.int .i64 0] n) 3)) w.heap.size n (fun _ => 0) := by
  obtain ⟨c, q1, q2, q3⟩ := World.rowIs_made w (.int .i64 0) n 3
  exact ⟨c, q1, fun i hi => q3 i hi⟩
set_option maxHeartbeats 800000 in
theorem new_bad (S r c m : Int) (w : World) (hf : fitsL r c m = false) :
    Calls Try.prog 47 #[.int .u64 S, .int .i64 r, .int .i64 c, .int .i64 m] w (GaveNone w) := by
  go_enter Try.func47, Try.ntmps47
  go_wp2_with fail
  refine (fits_any _ _ _ _).mono ?_
  rintro e u1 ⟨rfl, rfl⟩
  go_wp2_with fail
  go_returns
  exact ⟨rfl, bel_alloc _ _⟩
structure NewIn (w wr : World) (S M : Int) (R n k : Nat) (G C : Nat → Nat) : Prop where
  since : Below w.heap.size w wr
  box : Blk wr (w.heap.size + 2) 26 #[.int .u64 S, .int .i64 M, .slice (some ⟨w.heap.size + 1, 0, none⟩) R R]
  res : Blk wr w.heap.size 26 #[.int .u64 0, .int .i64 0, .slice none 0 0]
  tab : TabIn wr (w.heap.size + 1) (w.heap.size + 1) R n k G C (fun _ _ => 0)
theorem NewIn.more {w wr : World} {S M : Int} {R n k : Nat} {G C : Nat → Nat} (h : NewIn w wr S M R n k G C) : NewIn w ((wr.alloc (.cells (madeCells #[.int .i64 0] n) 3)).setCell ⟨w.heap.size + 1, k, none⟩ (.slice (some ⟨wr.heap.size, 0, none⟩) n n)) S M R n (k + 1) (fun i => if i = k then wr.heap.size else G i) (fun i => if i = k then n else C i) := by
  have l := h.box.lt
  exact ⟨(h.since.alloc h.since.size _).setCell (p := ⟨w.heap.size + 1, k, none⟩) (by show w.heap.size ≤ w.heap.size + 1; omega) _, (h.box.alloc _).other (a := ⟨w.heap.size + 1, k, none⟩) (by show w.heap.size + 2 ≠ w.heap.size + 1; omega) _, (h.res.alloc _).other (a := ⟨w.heap.size + 1, k, none⟩) (by show w.heap.size ≠ w.heap.size + 1; omega) _,
    h.tab.more (by omega) (bel_alloc _ _) (Nat.le_refl _) (Nat.le_refl _) (row_made wr n)⟩
theorem NewIn.drew {w wr : World} {S M : Int} {R n k : Nat} {G C : Nat → Nat} (h : NewIn w wr S M R n k G C) : NewIn w wr.drew S M R n k G C := ⟨h.since.drew, h.box, h.res, h.tab.drew⟩
set_option maxHeartbeats 3200000 in
theorem new_ok (S M : Int) (R n : Nat) (w : World) (hf : fitsL R n M = true) :
    Calls Try.prog 47 #[.int .u64 S, .int .i64 (R : Int), .int .i64 (n : Int), .int .i64 M] w (GaveS w S M R n (fun _ _ => 0)) := by
  have hR := (fitsL_iff _ _ _).1 hf
  have r1 : R ≤ 7 := by omega
  have n1 : n ≤ 256 := by omega
  clear hR
  obtain ⟨W, hW⟩ : ∃ W, W = w.alloc (.cells #[.int .u64 0, .int .i64 0, .slice none 0 0] 26) := ⟨_, rfl⟩
  have z : W.heap.size = w.heap.size + 1 := by rw [hW]; simp
  have hmk : (Instr.makeSlice 24 (.int .i64 (R : Int)) (.int .i64 (R : Int))).run Try.prog (w.alloc (.cells #[.int .u64 0, .int .i64 0, .slice none 0 0] 26)) = .ok (.slice (some ⟨w.heap.size + 1, 0, none⟩) R R) ((w.alloc (.cells #[.int .u64 0, .int .i64 0, .slice none 0 0] 26)).alloc (.cells (madeCells #[.slice none 0 0] R) 57)) := by
    have e := run_make_full (P := Try.prog) 24 57 (.slice none 0 0) 24 Try.underlying24 info33 rfl .i64 .i64 R (by omega) (by omega) W
    rw [z, hW] at e
    exact e
  have NI : Hid (NewIn w (((w.alloc (.cells #[.int .u64 0, .int .i64 0, .slice none 0 0] 26)).alloc (.cells (madeCells #[.slice none 0 0] R) 57)).alloc (.cells #[.int .u64 S, .int .i64 M, .slice (some ⟨w.heap.size + 1, 0, none⟩) R R] 26)) S M R n 0 (fun _ => 0) (fun _ => 0)) := by
    have t := tab_start W R n (fun _ => 0) (fun _ => 0) (fun _ _ => 0)
    rw [z] at t
    have bb := Blk.new (W.alloc (.cells (madeCells #[.slice none 0 0] R) 57)) 26 #[.int .u64 S, .int .i64 M, .slice (some ⟨w.heap.size + 1, 0, none⟩) R R]
    simp only [World.size_alloc, z] at bb
    have rr : Blk W w.heap.size 26 #[.int .u64 0, .int .i64 0, .slice none 0 0] := by rw [hW]; exact Blk.new _ _ _
    have bw : Below w.heap.size w W := by rw [hW]; exact bel_alloc _ _
    have b1 := (bw.alloc bw.size (.cells (madeCells #[.slice none 0 0] R) 57))
    rw [← hW]
    exact ⟨b1.alloc b1.size _, bb, (rr.alloc _).alloc _, t.alloc _⟩
  clear hW z W
  go_enter Try.func47, Try.ntmps47
  go_wp2_with fail
  refine (fits_any _ _ _ _).mono ?_
  rintro e u0 ⟨rfl, rfl⟩
  go_wp2_with fail
  clear hmk
  go_loopg [26] R (fun gk i wr => ∃ k : Nat, (gk = R - k ∧ k ≤ R ∧ ∃ G C, NewIn w wr S M R n k G C) ∧ i = .int .i64 (k : Int))
  case atStart => exact ⟨0, ⟨rfl, by omega, _, _, NI.out⟩, rfl⟩
  case round =>
    clear NI
    obtain ⟨k, ⟨hg, hk, G, C, hN⟩, rfl⟩ := hrel
    have HK : Hid (gk = R - k ∧ NewIn w wr S M R n k G C) := ⟨hg, hN⟩
    by_cases hlt : k < R
    · have NX : Hid (NewIn w ((wr.alloc (.cells (madeCells #[.int .i64 0] n) 3)).setCell ⟨w.heap.size + 1, k, none⟩ (.slice (some ⟨wr.heap.size, 0, none⟩) n n)).drew S M R n (k + 1) (fun i => if i = k then wr.heap.size else G i) (fun i => if i = k then n else C i)) := hN.more.drew
      have hmk : (Instr.makeSlice 57 (.int .i64 (n : Int)) (.int .i64 (n : Int))).run Try.prog wr.drew = .ok (.slice (some ⟨wr.heap.size, 0, none⟩) n n) (wr.drew.alloc (.cells (madeCells #[.int .i64 0] n) 3)) := run_make_full (P := Try.prog) 57 3 (.int .i64 0) 8 Try.underlying57 info3 rfl .i64 .i64 n (by omega) (by omega) wr.drew
      have x2 : wr.cell? ⟨w.heap.size + 2, 2, none⟩ = some (.slice (some ⟨w.heap.size + 1, 0, none⟩) R R) := hN.box.cell 2
      have y2 : ∀ o, (wr.alloc o).cell? ⟨w.heap.size + 2, 2, none⟩ = some (.slice (some ⟨w.heap.size + 1, 0, none⟩) R R) := fun o => (hN.box.alloc o).cell 2
      have s1 : ∀ o, (wr.alloc o).cell? ⟨w.heap.size + 1, k, none⟩ = some (.slice none 0 0) := fun o => (hN.tab.alloc o).next hlt
      have s2 : ∀ o, (wr.alloc o).frozen? ⟨w.heap.size + 1, k, none⟩ = false := fun o => World.rowIs.frozen (hN.tab.alloc o).top k
      have bk : (k : Int) < (R : Int) := by omega
      have b0 : (0 : Int) ≤ (k : Int) := by omega
      clear hg hN
      go_wp2_with fail
      go_region_with fail
      all_goals go_wp2_with fail
      all_goals go_roundg (R - (k + 1))
      all_goals first | (have := HK.out.1; omega) | exact ⟨k + 1, ⟨rfl, by omega, _, _, NX.out⟩, by go_num⟩
    · have e : k = R := by omega
      have HE : Hid (k = R) := e
      have b1 : ¬ (k : Int) < (R : Int) := by omega
      have x0 : wr.cell? ⟨w.heap.size + 2, 0, none⟩ = some (.int .u64 S) := hN.box.cell 0
      have x1 : wr.cell? ⟨w.heap.size + 2, 1, none⟩ = some (.int .i64 M) := hN.box.cell 1
      have x2 : wr.cell? ⟨w.heap.size + 2, 2, none⟩ = some (.slice (some ⟨w.heap.size + 1, 0, none⟩) R R) := hN.box.cell 2
      have r0 : wr.cell? ⟨w.heap.size, 0, none⟩ = some (.int .u64 0) := hN.res.cell 0
      have r1 : wr.cell? ⟨w.heap.size, 1, none⟩ = some (.int .i64 0) := hN.res.cell 1
      have r2 : wr.cell? ⟨w.heap.size, 2, none⟩ = some (.slice none 0 0) := hN.res.cell 2
      have z0 := hN.res.frozen 0
      have z1 := hN.res.frozen 1
      have z2 := hN.res.frozen 2
      clear e hg hN hlt
      go_wp2_with fail
      refine bodyPost_ret (v := .tuple #[.agg #[.int .u64 S, .int .i64 M, .slice (some ⟨w.heap.size + 1, 0, none⟩) R R], .int .i64 0]) ?_ rfl ?_
      rotate_left
      · exact ⟨_, rfl, fun u eu => ⟨_, rfl, rowsI_far (by have t := HK.out.2.tab; rw [HE.out] at t; exact t) (Nat.le_refl _) (by omega) (by omega) eu⟩, put3_below HK.out.2.since (Nat.le_refl _) _ _ _⟩
      have c3 := put3_blk (t := 26) (HK.out.2.res) (.int .u64 S) (.int .i64 M) (.slice (some ⟨w.heap.size + 1, 0, none⟩) R R)
      have c30 := c3.cell 0
      have c31 := c3.cell 1
      have c32 := c3.cell 2
      change (results _ _).run _ (put3 (wr) (w.heap.size) (.int .u64 S) (.int .i64 M) (.slice (some ⟨w.heap.size + 1, 0, none⟩) R R)) = .ok _ (put3 (wr) (w.heap.size) (.int .u64 S) (.int .i64 M) (.slice (some ⟨w.heap.size + 1, 0, none⟩) R R))
      generalize put3 (wr) (w.heap.size) (.int .u64 S) (.int .i64 M) (.slice (some ⟨w.heap.size + 1, 0, none⟩) R R) = W5 at c30 c31 c32
      simp [results, Try.results47, go_sem, c30, c31, c32]
set_option maxHeartbeats 1600000 in
theorem add_bad (w : World) (x : Value) (S M : Int) (R : Nat) (L : Nat → Nat) (Z : Nat → Nat → Int) (s : ByteArray) (q : Int) (h : SkAt w x S M R L Z) (hR : R ≤ 1000) (hL : ∀ i, i < R → L i ≤ 1000) (r : ¬ (RightP M R L Z ∧ 0 ≤ q ∧ q ≤ 1099511627776)) :
    Calls Try.prog 30 #[x, .string s, .int .i64 q] w (GaveNone w) := by
  obtain ⟨v, rfl, hv⟩ := h
  by_cases rp : RightP M R L Z
  rotate_left
  · have RC : Hid (∀ w1, Below w.heap.size w w1 → Calls Try.prog 57 #[.agg #[.int .u64 S, .int .i64 M, v]] w1 fun e w' => e = .returned (.bool false) ∧ Below w1.heap.size w1 w') := fun w1 b1 => right_no ⟨v, rfl, hv.keep (keep_of_below b1)⟩ hR hL rp
    obtain ⟨A, cap, b, o, rfl, hc, hr⟩ := hv.read
    have BX : Hid (Below w.heap.size w ((w.alloc (.cells #[.int .u64 S, .int .i64 M, .slice A R cap] 26)).alloc (.cells #[.int .u64 0, .int .i64 0, .slice none 0 0] 26))) := (bel_alloc _ _).alloc (by simp) _
    have KX : Hid (Blk ((w.alloc (.cells #[.int .u64 S, .int .i64 M, .slice A R cap] 26)).alloc (.cells #[.int .u64 0, .int .i64 0, .slice none 0 0] 26)) w.heap.size 26 #[.int .u64 S, .int .i64 M, .slice A R cap]) := (Blk.new _ _ _).alloc _
    have KR : Hid (Blk ((w.alloc (.cells #[.int .u64 S, .int .i64 M, .slice A R cap] 26)).alloc (.cells #[.int .u64 0, .int .i64 0, .slice none 0 0] 26)) (w.heap.size + 1) 26 #[.int .u64 0, .int .i64 0, .slice none 0 0]) := by
      have e := Blk.new (w.alloc (.cells #[.int .u64 S, .int .i64 M, .slice A R cap] 26)) 26 #[.int .u64 0, .int .i64 0, .slice none 0 0]
      simp only [World.size_alloc] at e
      exact e
    clear hv hr hL r rp
    go_enter Try.func30, Try.ntmps30
    go_wp2_with fail
    refine (RC.out _ BX.out).mono ?_
    rintro e u1 ⟨rfl, b1⟩
    have B1 : Hid (Below w.heap.size w u1) := bel_trans BX.out b1
    have K1 : Hid (Blk u1 w.heap.size 26 #[.int .u64 S, .int .i64 M, .slice A R cap]) := KX.out.since b1
    have R1 : Hid (Blk u1 (w.heap.size + 1) 26 #[.int .u64 0, .int .i64 0, .slice none 0 0]) := KR.out.since b1
    clear b1 BX KX KR RC
    have r0 : u1.cell? ⟨w.heap.size + 1, 0, none⟩ = some (.int .u64 0) := R1.out.cell 0
    have r1 : u1.cell? ⟨w.heap.size + 1, 1, none⟩ = some (.int .i64 0) := R1.out.cell 1
    have r2 : u1.cell? ⟨w.heap.size + 1, 2, none⟩ = some (.slice none 0 0) := R1.out.cell 2
    have z0 := R1.out.frozen 0
    have z1 := R1.out.frozen 1
    have z2 := R1.out.frozen 2
    go_wp2_with fail
    refine bodyPost_ret (v := .tuple #[.agg #[.int .u64 0, .int .i64 0, .slice none 0 0], .int .i64 1]) ?_ rfl ?_
    rotate_left
    · exact ⟨rfl, put3_below B1.out (by omega) _ _ _⟩
    have c3 := put3_blk (t := 26) (R1.out) (.int .u64 0) (.int .i64 0) (.slice none 0 0)
    have c30 := c3.cell 0
    have c31 := c3.cell 1
    have c32 := c3.cell 2
    change (results _ _).run _ (put3 (u1) (w.heap.size + 1) (.int .u64 0) (.int .i64 0) (.slice none 0 0)) = .ok _ (put3 (u1) (w.heap.size + 1) (.int .u64 0) (.int .i64 0) (.slice none 0 0))
    generalize put3 (u1) (w.heap.size + 1) (.int .u64 0) (.int .i64 0) (.slice none 0 0) = W5 at c30 c31 c32
    simp [results, Try.results30, go_sem, c30, c31, c32]
  have RC : Hid (∀ w1, Below w.heap.size w w1 → Calls Try.prog 57 #[.agg #[.int .u64 S, .int .i64 M, v]] w1 fun e w' => e = .returned (.bool true) ∧ Below w1.heap.size w1 w') := fun w1 b1 => right_yes ⟨v, rfl, hv.keep (keep_of_below b1)⟩ rp
  by_cases q0 : q < 0
  · obtain ⟨A, cap, b, o, rfl, hc, hr⟩ := hv.read
    have BX : Hid (Below w.heap.size w ((w.alloc (.cells #[.int .u64 S, .int .i64 M, .slice A R cap] 26)).alloc (.cells #[.int .u64 0, .int .i64 0, .slice none 0 0] 26))) := (bel_alloc _ _).alloc (by simp) _
    have KX : Hid (Blk ((w.alloc (.cells #[.int .u64 S, .int .i64 M, .slice A R cap] 26)).alloc (.cells #[.int .u64 0, .int .i64 0, .slice none 0 0] 26)) w.heap.size 26 #[.int .u64 S, .int .i64 M, .slice A R cap]) := (Blk.new _ _ _).alloc _
    have KR : Hid (Blk ((w.alloc (.cells #[.int .u64 S, .int .i64 M, .slice A R cap] 26)).alloc (.cells #[.int .u64 0, .int .i64 0, .slice none 0 0] 26)) (w.heap.size + 1) 26 #[.int .u64 0, .int .i64 0, .slice none 0 0]) := by
      have e := Blk.new (w.alloc (.cells #[.int .u64 S, .int .i64 M, .slice A R cap] 26)) 26 #[.int .u64 0, .int .i64 0, .slice none 0 0]
      simp only [World.size_alloc] at e
      exact e
    clear hv hr hL r rp
    go_enter Try.func30, Try.ntmps30
    go_wp2_with fail
    refine (RC.out _ BX.out).mono ?_
    rintro e u1 ⟨rfl, b1⟩
    have B1 : Hid (Below w.heap.size w u1) := bel_trans BX.out b1
    have K1 : Hid (Blk u1 w.heap.size 26 #[.int .u64 S, .int .i64 M, .slice A R cap]) := KX.out.since b1
    have R1 : Hid (Blk u1 (w.heap.size + 1) 26 #[.int .u64 0, .int .i64 0, .slice none 0 0]) := KR.out.since b1
    clear b1 BX KX KR RC
    have r0 : u1.cell? ⟨w.heap.size + 1, 0, none⟩ = some (.int .u64 0) := R1.out.cell 0
    have r1 : u1.cell? ⟨w.heap.size + 1, 1, none⟩ = some (.int .i64 0) := R1.out.cell 1
    have r2 : u1.cell? ⟨w.heap.size + 1, 2, none⟩ = some (.slice none 0 0) := R1.out.cell 2
    have z0 := R1.out.frozen 0
    have z1 := R1.out.frozen 1
    have z2 := R1.out.frozen 2
    go_wp2_with fail
    refine bodyPost_ret (v := .tuple #[.agg #[.int .u64 0, .int .i64 0, .slice none 0 0], .int .i64 1]) ?_ rfl ?_
    rotate_left
    · exact ⟨rfl, put3_below B1.out (by omega) _ _ _⟩
    have c3 := put3_blk (t := 26) (R1.out) (.int .u64 0) (.int .i64 0) (.slice none 0 0)
    have c30 := c3.cell 0
    have c31 := c3.cell 1
    have c32 := c3.cell 2
    change (results _ _).run _ (put3 (u1) (w.heap.size + 1) (.int .u64 0) (.int .i64 0) (.slice none 0 0)) = .ok _ (put3 (u1) (w.heap.size + 1) (.int .u64 0) (.int .i64 0) (.slice none 0 0))
    generalize put3 (u1) (w.heap.size + 1) (.int .u64 0) (.int .i64 0) (.slice none 0 0) = W5 at c30 c31 c32
    simp [results, Try.results30, go_sem, c30, c31, c32]
  have q1 : q > 1099511627776 := by
    by_cases h : q > 1099511627776
    · exact h
    · exact absurd ⟨rp, by omega, by omega⟩ r
  obtain ⟨A, cap, b, o, rfl, hc, hr⟩ := hv.read
  have BX : Hid (Below w.heap.size w ((w.alloc (.cells #[.int .u64 S, .int .i64 M, .slice A R cap] 26)).alloc (.cells #[.int .u64 0, .int .i64 0, .slice none 0 0] 26))) := (bel_alloc _ _).alloc (by simp) _
  have KX : Hid (Blk ((w.alloc (.cells #[.int .u64 S, .int .i64 M, .slice A R cap] 26)).alloc (.cells #[.int .u64 0, .int .i64 0, .slice none 0 0] 26)) w.heap.size 26 #[.int .u64 S, .int .i64 M, .slice A R cap]) := (Blk.new _ _ _).alloc _
  have KR : Hid (Blk ((w.alloc (.cells #[.int .u64 S, .int .i64 M, .slice A R cap] 26)).alloc (.cells #[.int .u64 0, .int .i64 0, .slice none 0 0] 26)) (w.heap.size + 1) 26 #[.int .u64 0, .int .i64 0, .slice none 0 0]) := by
    have e := Blk.new (w.alloc (.cells #[.int .u64 S, .int .i64 M, .slice A R cap] 26)) 26 #[.int .u64 0, .int .i64 0, .slice none 0 0]
    simp only [World.size_alloc] at e
    exact e
  clear hv hr hL r rp
  go_enter Try.func30, Try.ntmps30
  go_wp2_with fail
  refine (RC.out _ BX.out).mono ?_
  rintro e u1 ⟨rfl, b1⟩
  have B1 : Hid (Below w.heap.size w u1) := bel_trans BX.out b1
  have K1 : Hid (Blk u1 w.heap.size 26 #[.int .u64 S, .int .i64 M, .slice A R cap]) := KX.out.since b1
  have R1 : Hid (Blk u1 (w.heap.size + 1) 26 #[.int .u64 0, .int .i64 0, .slice none 0 0]) := KR.out.since b1
  clear b1 BX KX KR RC
  have r0 : u1.cell? ⟨w.heap.size + 1, 0, none⟩ = some (.int .u64 0) := R1.out.cell 0
  have r1 : u1.cell? ⟨w.heap.size + 1, 1, none⟩ = some (.int .i64 0) := R1.out.cell 1
  have r2 : u1.cell? ⟨w.heap.size + 1, 2, none⟩ = some (.slice none 0 0) := R1.out.cell 2
  have z0 := R1.out.frozen 0
  have z1 := R1.out.frozen 1
  have z2 := R1.out.frozen 2
  go_wp2_with fail
  refine bodyPost_ret (v := .tuple #[.agg #[.int .u64 0, .int .i64 0, .slice none 0 0], .int .i64 1]) ?_ rfl ?_
  rotate_left
  · exact ⟨rfl, put3_below B1.out (by omega) _ _ _⟩
  have c3 := put3_blk (t := 26) (R1.out) (.int .u64 0) (.int .i64 0) (.slice none 0 0)
  have c30 := c3.cell 0
  have c31 := c3.cell 1
  have c32 := c3.cell 2
  change (results _ _).run _ (put3 (u1) (w.heap.size + 1) (.int .u64 0) (.int .i64 0) (.slice none 0 0)) = .ok _ (put3 (u1) (w.heap.size + 1) (.int .u64 0) (.int .i64 0) (.slice none 0 0))
  generalize put3 (u1) (w.heap.size + 1) (.int .u64 0) (.int .i64 0) (.slice none 0 0) = W5 at c30 c31 c32
  simp [results, Try.results30, go_sem, c30, c31, c32]
/-- What the loop of Add keeps: the sketch in its box, the place of the answer, the table. -/
structure AddIn (w wr : World) (S M : Int) (B b R n : Nat) (G C : Nat → Nat) (Z : Nat → Nat → Int) : Prop where
  since : Below w.heap.size w wr
  box : Blk wr w.heap.size 26 #[.int .u64 S, .int .i64 M, .slice (some ⟨b, 0, none⟩) R R]
  res : Blk wr (w.heap.size + 1) 26 #[.int .u64 0, .int .i64 0, .slice none 0 0]
  base : w.heap.size + 1 < B
  tab : TabIn wr B b R n R G C Z
theorem AddIn.below {w wr w2 : World} {S M : Int} {B b R n : Nat} {G C : Nat → Nat} {Z : Nat → Nat → Int} (h : AddIn w wr S M B b R n G C Z) (s : Below wr.heap.size wr w2) : AddIn w w2 S M B b R n G C Z := ⟨bel_trans h.since s, h.box.since s, h.res.since s, h.base, h.tab.since s⟩
theorem AddIn.drew {w wr : World} {S M : Int} {B b R n : Nat} {G C : Nat → Nat} {Z : Nat → Nat → Int} (h : AddIn w wr S M B b R n G C Z) : AddIn w wr.drew S M B b R n G C Z := ⟨h.since.drew, h.box, h.res, h.base, h.tab.drew⟩
theorem AddIn.congr {w wr : World} {S M : Int} {B b R n : Nat} {G C : Nat → Nat} {Z Y : Nat → Nat → Int} (h : AddIn w wr S M B b R n G C Z) (e : ∀ i j, i < R → j < n → Z i j = Y i j) : AddIn w wr S M B b R n G C Y := ⟨h.since, h.box, h.res, h.base, h.tab.congr e⟩
theorem AddIn.set {w wr : World} {S M : Int} {B b R n : Nat} {G C : Nat → Nat} {Z : Nat → Nat → Int} (h : AddIn w wr S M B b R n G C Z) {i : Nat} (hi : i < R) (p : Nat) (x : Int) :
    AddIn w (wr.setCell ⟨G i, p, none⟩ (.int .i64 x)) S M B b R n G C (fun r j => if r = i then (if j = p then x else Z r j) else Z r j) := by
  have g := (h.tab.row i hi).1
  have k := h.base
  exact ⟨h.since.setCell (p := ⟨G i, p, none⟩) (by show w.heap.size ≤ G i; omega) _, h.box.other (a := ⟨G i, p, none⟩) (by show w.heap.size ≠ G i; omega) _, h.res.other (a := ⟨G i, p, none⟩) (by show w.heap.size + 1 ≠ G i; omega) _, h.base, h.tab.set hi p x⟩
theorem add_start {w u1 u2 : World} {S M : Int} {v : Value} {b R n : Nat} {G C : Nat → Nat} {Z : Nat → Nat → Int} (b1 : Below w.heap.size w u1) (b2 : Below u1.heap.size u1 u2) (hX : Blk u1 w.heap.size 26 #[.int .u64 S, .int .i64 M, v]) (hR : Blk u1 (w.heap.size + 1) 26 #[.int .u64 0, .int .i64 0, .slice none 0 0]) (ht : TabIn u2 u1.heap.size b R n R G C Z) :
    AddIn w (u2.setCell ⟨w.heap.size, 2, none⟩ (.slice (some ⟨b, 0, none⟩) R R)) S M u1.heap.size b R n G C Z := by
  have l := hR.lt
  exact ⟨(bel_trans b1 b2).setCell (p := ⟨w.heap.size, 2, none⟩) (Nat.le_refl _) _, (hX.since b2).set 2 _, (hR.since b2).other (a := ⟨w.heap.size, 2, none⟩) (by show w.heap.size + 1 ≠ w.heap.size; omega) _, l, ht.other (a := ⟨w.heap.size, 2, none⟩) (by show w.heap.size < u1.heap.size; omega) _⟩
theorem AddIn.sk {w wr : World} {S M : Int} {B b R n : Nat} {G C : Nat → Nat} {Z : Nat → Nat → Int} (h : AddIn w wr S M B b R n G C Z) : SkAt wr (.agg #[.int .u64 S, .int .i64 M, .slice (some ⟨b, 0, none⟩) R R]) S M R (fun _ => n) Z := ⟨_, rfl, h.tab.rows (Nat.le_refl _)⟩
def addK (S M : Int) (n : Nat) (Z : Nat → Nat → Int) (s : ByteArray) (q : Int) (k : Nat) : Nat → Nat → Int := fun i j => if i < k then addZ S M n Z s q i j else Z i j
theorem addK_step (S M : Int) (n : Nat) (Z : Nat → Nat → Int) (s : ByteArray) (q : Int) (k i j : Nat) : (if i = k then (if j = placeN S s n k then capF (Z k (placeN S s n k) + q) M else addK S M n Z s q k i j) else addK S M n Z s q k i j) = addK S M n Z s q (k + 1) i j := by
  unfold addK addZ
  by_cases ei : i = k
  · subst ei
    rw [if_pos rfl, if_neg (Nat.lt_irrefl i), if_pos (Nat.lt_succ_self i)]
    by_cases ej : j = placeN S s n i
    · rw [if_pos ej, if_pos ej, ej]
    · rw [if_neg ej, if_neg ej]
  · rw [if_neg ei]
    by_cases e2 : i < k
    · rw [if_pos e2, if_pos (show i < k + 1 by omega)]
    · rw [if_neg e2, if_neg (show ¬ i < k + 1 by omega)]
set_option maxHeartbeats 3200000 in
theorem add_ok (w : World) (x : Value) (S M : Int) (R n : Nat) (Z : Nat → Nat → Int) (s : ByteArray) (q : Int) (h : SkAt w x S M R (fun _ => n) Z) (ok : OkP M R n Z) (uS : U S) (hs : s.size ≤ 100000) (q0 : 0 ≤ q) (q1 : q ≤ 1099511627776) :
    Calls Try.prog 30 #[x, .string s, .int .i64 q] w (GaveS w S M R n (addZ S M n Z s q)) := by
  obtain ⟨v, rfl, hv⟩ := h
  have RC : Hid (∀ w1, Below w.heap.size w w1 → Calls Try.prog 57 #[.agg #[.int .u64 S, .int .i64 M, v]] w1 fun e w' => e = .returned (.bool true) ∧ Below w1.heap.size w1 w') := fun w1 b1 => right_yes ⟨v, rfl, hv.keep (keep_of_below b1)⟩ ok.right
  have m0 : 1 ≤ M := ok.1
  have m1 : M ≤ 1099511627776 := ok.2.1
  have hR : R ≤ 7 := ok.2.2.2.1
  have n0 : 1 ≤ n := ok.2.2.2.2.1
  have n1 : n ≤ 256 := ok.2.2.2.2.2.1
  have OK : Hid (OkP M R n Z) := ok
  have CC : Hid (∀ w1, Below w.heap.size w w1 → Calls Try.prog 58 #[v] w1 (Copied w1 R n Z)) := fun w1 b1 => copied_any w1 v R n Z (hv.keep (keep_of_below b1)) (by omega) n0 (by omega)
  obtain ⟨A, cap, b, o, rfl, hc, hr⟩ := hv.read
  have BX : Hid (Below w.heap.size w ((w.alloc (.cells #[.int .u64 S, .int .i64 M, .slice A R cap] 26)).alloc (.cells #[.int .u64 0, .int .i64 0, .slice none 0 0] 26))) := (bel_alloc _ _).alloc (by simp) _
  have KX : Hid (Blk ((w.alloc (.cells #[.int .u64 S, .int .i64 M, .slice A R cap] 26)).alloc (.cells #[.int .u64 0, .int .i64 0, .slice none 0 0] 26)) w.heap.size 26 #[.int .u64 S, .int .i64 M, .slice A R cap]) := (Blk.new _ _ _).alloc _
  have KR : Hid (Blk ((w.alloc (.cells #[.int .u64 S, .int .i64 M, .slice A R cap] 26)).alloc (.cells #[.int .u64 0, .int .i64 0, .slice none 0 0] 26)) (w.heap.size + 1) 26 #[.int .u64 0, .int .i64 0, .slice none 0 0]) := by
    have e := Blk.new (w.alloc (.cells #[.int .u64 S, .int .i64 M, .slice A R cap] 26)) 26 #[.int .u64 0, .int .i64 0, .slice none 0 0]
    simp only [World.size_alloc] at e
    exact e
  clear hv hr ok
  go_enter Try.func30, Try.ntmps30
  go_wp2_with fail
  refine (RC.out _ BX.out).mono ?_
  rintro e u1 ⟨rfl, b1⟩
  have B1 : Hid (Below w.heap.size w u1) := bel_trans BX.out b1
  have K1 : Hid (Blk u1 w.heap.size 26 #[.int .u64 S, .int .i64 M, .slice A R cap]) := KX.out.since b1
  have R1 : Hid (Blk u1 (w.heap.size + 1) 26 #[.int .u64 0, .int .i64 0, .slice none 0 0]) := KR.out.since b1
  clear b1 BX KX KR
  clear RC
  have x2 : u1.cell? ⟨w.heap.size, 2, none⟩ = some (.slice A R cap) := K1.out.cell 2
  have nq0 : ¬ q < 0 := by omega
  have nq1 : ¬ q > 1099511627776 := by omega
  go_wp2_with fail
  refine (CC.out _ B1.out).mono ?_
  rintro e u2 ⟨bt, G, C, rfl, ht, b2⟩
  have AI : Hid (AddIn w (u2.setCell ⟨w.heap.size, 2, none⟩ (.slice (some ⟨bt, 0, none⟩) R R)) S M u1.heap.size bt R n G C Z) := add_start B1.out b2 K1.out R1.out ht
  have y2 : u2.cell? ⟨w.heap.size, 2, none⟩ = some (.slice A R cap) := (K1.out.since b2).cell 2
  have f2 : u2.frozen? ⟨w.heap.size, 2, none⟩ = false := (K1.out.since b2).frozen 2
  clear b2 ht K1 R1 B1 CC x2
  go_wp2_with fail
  clear y2 f2
  generalize u2.setCell ⟨w.heap.size, 2, none⟩ (.slice (some ⟨bt, 0, none⟩) R R) = u3 at AI ⊢
  go_loopg [30] R (fun gk i wr => ∃ k : Nat, (gk = R - k ∧ k ≤ R ∧ AddIn w wr S M u1.heap.size bt R n G C (addK S M n Z s q k)) ∧ i = .int .i64 (k : Int))
  case atStart => exact ⟨0, ⟨rfl, by omega, AI.out.congr fun i j _ _ => by simp [addK]⟩, rfl⟩
  case round =>
    clear AI
    obtain ⟨k, ⟨hg, hk, hA⟩, rfl⟩ := hrel
    have HK : Hid (gk = R - k ∧ AddIn w wr S M u1.heap.size bt R n G C (addK S M n Z s q k)) := ⟨hg, hA⟩
    have x0 : wr.cell? ⟨w.heap.size, 0, none⟩ = some (.int .u64 S) := hA.box.cell 0
    have x1 : wr.cell? ⟨w.heap.size, 1, none⟩ = some (.int .i64 M) := hA.box.cell 1
    have x2 : wr.cell? ⟨w.heap.size, 2, none⟩ = some (.slice (some ⟨bt, 0, none⟩) R R) := hA.box.cell 2
    by_cases hlt : k < R
    · have ck := hA.tab.cell hlt hlt
      have bk : (k : Int) < (R : Int) := by omega
      have b0 : (0 : Int) ≤ (k : Int) := by omega
      obtain ⟨P, hP⟩ : ∃ P, P = placeN S s n k := ⟨_, rfl⟩
      have pl : P < n := by rw [hP]; exact placeN_lt S s n k n0
      have pb : (P : Int) < (n : Int) := by omega
      have p0 : (0 : Int) ≤ (P : Int) := by omega
      have CE := lcell_any wr _ S M R n (addK S M n Z s q k) s k hA.sk uS hs hlt (by omega) n0 (by omega)
      rw [← hP] at CE
      have CE : Hid (Calls Try.prog 59 #[.agg #[.int .u64 S, .int .i64 M, .slice (some ⟨bt, 0, none⟩) R R], .string s, .int .i64 (k : Int)] wr fun e w' => e = .returned (.int .i64 (P : Int)) ∧ Below wr.heap.size wr w') := CE
      obtain ⟨zz, hzz⟩ : ∃ zz, zz = Z k P := ⟨_, rfl⟩
      have zr := OK.out.2.2.2.2.2.2 k hlt P pl
      rw [← hzz] at zr
      obtain ⟨zr0, zr1⟩ := zr
      have HZ : Hid (zz = Z k P ∧ P = placeN S s n k) := ⟨hzz, hP⟩
      generalize hGk : G k = g at ck
      have HG : Hid (G k = g) := hGk
      generalize C k = cg at ck
      clear hg hA hP hzz hGk
      go_wp2_with fail
      refine CE.out.mono ?_
      rintro e u4 ⟨rfl, b4⟩
      have A4 : Hid (AddIn w u4 S M u1.heap.size bt R n G C (addK S M n Z s q k)) := HK.out.2.below b4
      have cp : u4.cell? ⟨g, P, none⟩ = some (.int .i64 zz) := by
        have := (A4.out.tab.row k hlt).2.2.2.cell pl
        rw [HG.out] at this
        rw [this, HZ.out.1]
        simp [addK]
      have fp : u4.frozen? ⟨g, P, none⟩ = false := by
        have := (A4.out.tab.row k hlt).2.2.2.frozen P
        rw [HG.out] at this
        exact this
      have y1 : u4.cell? ⟨w.heap.size, 1, none⟩ = some (.int .i64 M) := A4.out.box.cell 1
      have NX : ∀ v, v = capF (zz + q) M → Hid (AddIn w (u4.setCell ⟨g, P, none⟩ (.int .i64 v)) S M u1.heap.size bt R n G C (addK S M n Z s q (k + 1))) := fun v hv => by
        have e := A4.out.set hlt P v
        rw [HG.out] at e
        refine e.congr fun i j hi hj => ?_
        rw [← addK_step, hv, HZ.out.1, HZ.out.2]
      clear b4 x0 x1 x2 ck CE
      by_cases hm : zz + q ≤ M
      · have NX : Hid (AddIn w (u4.setCell ⟨g, P, none⟩ (.int .i64 (zz + q))) S M u1.heap.size bt R n G C (addK S M n Z s q (k + 1))) := NX _ (by unfold capF; rw [if_pos hm])
        go_wp2_with fail
        go_region_with fail
        all_goals go_wp2_with fail
        all_goals go_roundg (R - (k + 1))
        all_goals first | (have := HK.out.1; omega) | exact ⟨k + 1, ⟨rfl, by omega, NX.out.drew⟩, by go_num⟩
      · have hm' : M < zz + q := by omega
        have NX : Hid (AddIn w (u4.setCell ⟨g, P, none⟩ (.int .i64 M)) S M u1.heap.size bt R n G C (addK S M n Z s q (k + 1))) := NX _ (by unfold capF; rw [if_neg hm])
        go_wp2_with fail
        go_region_with fail
        all_goals go_wp2_with fail
        all_goals go_roundg (R - (k + 1))
        all_goals first | (have := HK.out.1; omega) | exact ⟨k + 1, ⟨rfl, by omega, NX.out.drew⟩, by go_num⟩
    · have e : k = R := by omega
      have HE : Hid (k = R) := e
      have b1 : ¬ (k : Int) < (R : Int) := by omega
      have r0 : wr.cell? ⟨w.heap.size + 1, 0, none⟩ = some (.int .u64 0) := hA.res.cell 0
      have r1 : wr.cell? ⟨w.heap.size + 1, 1, none⟩ = some (.int .i64 0) := hA.res.cell 1
      have r2 : wr.cell? ⟨w.heap.size + 1, 2, none⟩ = some (.slice none 0 0) := hA.res.cell 2
      have z0 := hA.res.frozen 0
      have z1 := hA.res.frozen 1
      have z2 := hA.res.frozen 2
      clear e hg hA hlt
      go_wp2_with fail
      refine bodyPost_ret (v := .tuple #[.agg #[.int .u64 S, .int .i64 M, .slice (some ⟨bt, 0, none⟩) R R], .int .i64 0]) ?_ rfl ?_
      rotate_left
      · exact ⟨_, rfl, fun u eu => SkAt.congr (L := fun _ => n) (Z := addK S M n Z s q k) ⟨_, rfl, rowsI_far HK.out.2.tab (Nat.le_refl _) HK.out.2.base (by have := HK.out.2.base; omega) eu⟩ (fun _ _ => rfl) (fun i j hi _ => by unfold addK; rw [HE.out, if_pos hi]), put3_below HK.out.2.since (by omega) _ _ _⟩
      have c3 := put3_blk (t := 26) (HK.out.2.res) (.int .u64 S) (.int .i64 M) (.slice (some ⟨bt, 0, none⟩) R R)
      have c30 := c3.cell 0
      have c31 := c3.cell 1
      have c32 := c3.cell 2
      change (results _ _).run _ (put3 (wr) (w.heap.size + 1) (.int .u64 S) (.int .i64 M) (.slice (some ⟨bt, 0, none⟩) R R)) = .ok _ (put3 (wr) (w.heap.size + 1) (.int .u64 S) (.int .i64 M) (.slice (some ⟨bt, 0, none⟩) R R))
      generalize put3 (wr) (w.heap.size + 1) (.int .u64 S) (.int .i64 M) (.slice (some ⟨bt, 0, none⟩) R R) = W5 at c30 c31 c32
      simp [results, Try.results30, go_sem, c30, c31, c32]
end Go.Proofs.Ytihealembikkiaa
