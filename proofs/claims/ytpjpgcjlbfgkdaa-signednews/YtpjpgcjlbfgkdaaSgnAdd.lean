
/-
  copied, New and Add of layer 12 (signed): what they answer.
-/
import Derived.Test.YtpjpgcjlbfgkdaaLstOwn
import Derived.Test.YtpjpgcjlbfgkdaaSgnRead
import Derived.Test.YtpjpgcjlbfgkdaaHeldKit
import Derived.Deep.RegionWith
namespace Go.Proofs.Ytpjpgcjlbfgkdaa
open Go.RowKit Fm Bl Sg L2 Go.Deep
set_option linter.unusedVariables false

/-- A sketch that is told, with no error. -/
def GaveG (w : World) (S : Int) (R n : Nat) (Z : Nat → Nat → Int) (e : Ending) (w' : World) : Prop := ∃ x, e = .returned (.tuple #[x, .int .i64 0]) ∧ Held (fun q => w.heap.size ≤ q) (fun u => SgAt u x S R (fun _ => n) Z) w' ∧ Below w.heap.size w w'
/-- Nothing, and an error. -/
def GaveE (c : Int) (w : World) (e : Ending) (w' : World) : Prop := e = .returned (.tuple #[.agg #[.int .u64 0, .slice none 0 0], .int .i64 c]) ∧ Below w.heap.size w w'
theorem sgAt_none (w : World) (L : Nat → Nat) (Z : Nat → Nat → Int) : SgAt w (.agg #[.int .u64 0, .slice none 0 0]) 0 0 L Z := ⟨_, rfl, none, 0, 0, 0, fun _ => .slice none 0 0, rfl, Nat.le_refl _, fun h => by omega, fun r hr => by omega⟩
/-- A table of the call's own stands where blocks below it are written. -/
theorem rowsI_far2 {w u : World} {B b R n cap q base : Nat} {G C : Nat → Nat} {Z : Nat → Nat → Int} {x y : Value} (h : TabIn w B b R n R G C Z) (hc : R ≤ cap) (hq : q < B) (hb : base ≤ B) (e : Same (fun p => base ≤ p) (put2 w q x y) u) : RowsI u (.slice (some ⟨b, 0, none⟩) R cap) R (fun _ => n) Z :=
  (h.of fun p h1 h2 => by
    rw [put2_eq] at e
    rw [e.2 p (by omega) (by rw [putCells_size]; exact h2), putCells_heap _ _ _ _ (by omega)]).rows hc
theorem grow_made (w : World) (n : Nat) : RowN (w.alloc (.cells (madeCells #[.int .i64 0] n) 3)) w.heap.size n (fun _ => 0) := by
  obtain ⟨c, q1, q2, q3⟩ := World.rowIs_made w (.int .i64 0) n 3
  exact ⟨c, q1, fun i hi => q3 i hi⟩
def CopiedG (w : World) (R n : Nat) (Z : Nat → Nat → Int) (e : Ending) (w' : World) : Prop := ∃ b G C, e = .returned (.slice (some ⟨b, 0, none⟩) R R) ∧ TabIn w' w.heap.size b R n R G C Z ∧ Below w.heap.size w w'
set_option maxHeartbeats 3200000 in
theorem gcopied_any (w : World) (v : Value) (R n : Nat) (Z : Nat → Nat → Int) (h : RowsI w v R (fun _ => n) Z) (hR : R ≤ 100) (hn0 : 1 ≤ n) (hn : n ≤ 1000) : Calls Try.prog 30 #[v] w (CopiedG w R n Z) := by
  obtain ⟨A, cap, b, o, rfl, hc, hr⟩ := h.read
  have RW : Hid (RowsCells w A R b o (fun _ => n) Z) := hr
  have hmk : (Instr.makeSlice 23 (.int .i64 (R : Int)) (.int .i64 (R : Int))).run Try.prog w = .ok (.slice (some ⟨w.heap.size, 0, none⟩) R R) (w.alloc (.cells (madeCells #[.slice none 0 0] R) 33)) := run_make_full (P := Try.prog) 23 33 (.slice none 0 0) 24 Try.underlying23 info33 rfl .i64 .i64 R (by omega) (by omega) w
  have B1 : Hid (Below w.heap.size w (w.alloc (.cells (madeCells #[.slice none 0 0] R) 33))) := bel_alloc _ _
  have T1 : Hid (TabIn (w.alloc (.cells (madeCells #[.slice none 0 0] R) 33)) w.heap.size w.heap.size R n 0 (fun _ => 0) (fun _ => 0) Z) := tab_start w R n _ _ Z
  clear h hr
  go_enter Try.func30, Try.ntmps30
  go_wp2_with fail
  clear hmk
  go_loopg [11] R (fun gk i wr => ∃ k : Nat, (gk = R - k ∧ k ≤ R ∧ Below w.heap.size w wr ∧ ∃ G C, TabIn wr w.heap.size w.heap.size R n k G C Z) ∧ i = .int .i64 (k : Int))
  case atStart => exact ⟨0, ⟨rfl, by omega, B1.out, _, _, T1.out⟩, rfl⟩
  case round =>
    clear B1 T1
    obtain ⟨k, ⟨hg, hk, hB, G, C, hT⟩, rfl⟩ := hrel
    have HK : Hid (gk = R - k ∧ Below w.heap.size w wr ∧ TabIn wr w.heap.size w.heap.size R n k G C Z) := ⟨hg, hB, hT⟩
    by_cases hlt : k < R
    · obtain ⟨rfl, A', cap', b', o', ck, lk, fk, gk'⟩ := RW.out k hlt
      have CL : Hid (Calls Try.prog 39 #[.slice A' n cap'] wr (Cloned wr n (Z k))) := clone_any wr _ n (Z k) ⟨A', cap', b', o', rfl, lk, fk, fun j hj => keep_of_below hB _ _ (gk' j hj)⟩ (by omega)
      have ck := keep_of_below hB _ _ ck
      have bk : (k : Int) < (R : Int) := by omega
      have b0 : (0 : Int) ≤ (k : Int) := by omega
      clear hg hB hT lk fk gk'
      go_wp2_with fail
      refine CL.out.mono ?_
      rintro e u2 ⟨A2, cap2, g, rfl, le, row, b2⟩
      obtain ⟨rfl, r2, r3, r4⟩ := row (by omega)
      have T2 : Hid (TabIn (u2.setCell ⟨w.heap.size, k, none⟩ (.slice (some ⟨g, 0, none⟩) n cap2)) w.heap.size w.heap.size R n (k + 1) (fun i => if i = k then g else G i) (fun i => if i = k then cap2 else C i) Z) := HK.out.2.2.more HK.out.2.1.size b2 r2 le r4
      have BB : Hid (Below w.heap.size w (u2.setCell ⟨w.heap.size, k, none⟩ (.slice (some ⟨g, 0, none⟩) n cap2))) := (bel_trans HK.out.2.1 b2).setCell (p := ⟨w.heap.size, k, none⟩) (Nat.le_refl _) _
      have c2 : u2.cell? ⟨w.heap.size, k, none⟩ = some (.slice none 0 0) := (HK.out.2.2.since b2).next hlt
      have f2 : u2.frozen? ⟨w.heap.size, k, none⟩ = false := World.rowIs.frozen (HK.out.2.2.since b2).top k
      clear row b2 r2 r3 r4 le ck CL
      go_wp2_with fail
      go_roundg (R - (k + 1))
      case measure => have := HK.out.1; omega
      case rel => exact ⟨k + 1, ⟨rfl, by omega, BB.out, _, _, T2.out⟩, by go_num⟩
    · have e : k = R := by omega
      have HE : Hid (k = R) := e
      have b1 : ¬ (k : Int) < (R : Int) := by omega
      clear e hg hB hT hlt
      go_wp2_with fail
      go_ret
      have t := HK.out.2.2
      rw [HE.out] at t
      exact ⟨_, G, C, rfl, t, HK.out.2.1⟩
set_option maxHeartbeats 800000 in
theorem gnew_bad (S r c : Int) (w : World) (hf : fitsS r c = false) :
    Calls Try.prog 9 #[.int .u64 S, .int .i64 r, .int .i64 c] w (GaveE 1 w) := by
  go_enter Try.func9, Try.ntmps9
  go_wp2_with fail
  refine (gfits_any _ _ _).mono ?_
  rintro e u1 ⟨rfl, rfl⟩
  go_wp2_with fail
  go_returns
  exact ⟨rfl, bel_alloc _ _⟩
structure NewG (w wr : World) (S : Int) (R n k : Nat) (G C : Nat → Nat) : Prop where
  since : Below w.heap.size w wr
  box : Blk wr (w.heap.size + 2) 25 #[.int .u64 S, .slice (some ⟨w.heap.size + 1, 0, none⟩) R R]
  res : Blk wr w.heap.size 25 #[.int .u64 0, .slice none 0 0]
  tab : TabIn wr (w.heap.size + 1) (w.heap.size + 1) R n k G C (fun _ _ => 0)
theorem NewG.more {w wr : World} {S : Int} {R n k : Nat} {G C : Nat → Nat} (h : NewG w wr S R n k G C) : NewG w ((wr.alloc (.cells (madeCells #[.int .i64 0] n) 3)).setCell ⟨w.heap.size + 1, k, none⟩ (.slice (some ⟨wr.heap.size, 0, none⟩) n n)) S R n (k + 1) (fun i => if i = k then wr.heap.size else G i) (fun i => if i = k then n else C i) := by
  have l := h.box.lt
  exact ⟨(h.since.alloc h.since.size _).setCell (p := ⟨w.heap.size + 1, k, none⟩) (by show w.heap.size ≤ w.heap.size + 1; omega) _, (h.box.alloc _).other (a := ⟨w.heap.size + 1, k, none⟩) (by show w.heap.size + 2 ≠ w.heap.size + 1; omega) _, (h.res.alloc _).other (a := ⟨w.heap.size + 1, k, none⟩) (by show w.heap.size ≠ w.heap.size + 1; omega) _,
    h.tab.more (by omega) (bel_alloc _ _) (Nat.le_refl _) (Nat.le_refl _) (grow_made wr n)⟩
theorem NewG.drew {w wr : World} {S : Int} {R n k : Nat} {G C : Nat → Nat} (h : NewG w wr S R n k G C) : NewG w wr.drew S R n k G C := ⟨h.since.drew, h.box, h.res, h.tab.drew⟩
set_option maxHeartbeats 3200000 in
theorem gnew_ok (S : Int) (R n : Nat) (w : World) (hf : fitsS R n = true) :
    Calls Try.prog 9 #[.int .u64 S, .int .i64 (R : Int), .int .i64 (n : Int)] w (GaveG w S R n (fun _ _ => 0)) := by
  have hR := (fitsS_iff _ _).1 hf
  have r1 : R ≤ 7 := by omega
  have n1 : n ≤ 256 := by omega
  clear hR
  obtain ⟨W, hW⟩ : ∃ W, W = w.alloc (.cells #[.int .u64 0, .slice none 0 0] 25) := ⟨_, rfl⟩
  have z : W.heap.size = w.heap.size + 1 := by rw [hW]; simp
  have hmk : (Instr.makeSlice 23 (.int .i64 (R : Int)) (.int .i64 (R : Int))).run Try.prog (w.alloc (.cells #[.int .u64 0, .slice none 0 0] 25)) = .ok (.slice (some ⟨w.heap.size + 1, 0, none⟩) R R) ((w.alloc (.cells #[.int .u64 0, .slice none 0 0] 25)).alloc (.cells (madeCells #[.slice none 0 0] R) 33)) := by
    have e := run_make_full (P := Try.prog) 23 33 (.slice none 0 0) 24 Try.underlying23 info33 rfl .i64 .i64 R (by omega) (by omega) W
    rw [z, hW] at e
    exact e
  have NI : Hid (NewG w (((w.alloc (.cells #[.int .u64 0, .slice none 0 0] 25)).alloc (.cells (madeCells #[.slice none 0 0] R) 33)).alloc (.cells #[.int .u64 S, .slice (some ⟨w.heap.size + 1, 0, none⟩) R R] 25)) S R n 0 (fun _ => 0) (fun _ => 0)) := by
    have t := tab_start W R n (fun _ => 0) (fun _ => 0) (fun _ _ => 0)
    rw [z] at t
    have bb := Blk.new (W.alloc (.cells (madeCells #[.slice none 0 0] R) 33)) 25 #[.int .u64 S, .slice (some ⟨w.heap.size + 1, 0, none⟩) R R]
    simp only [World.size_alloc, z] at bb
    have rr : Blk W w.heap.size 25 #[.int .u64 0, .slice none 0 0] := by rw [hW]; exact Blk.new _ _ _
    have bw : Below w.heap.size w W := by rw [hW]; exact bel_alloc _ _
    have b1 := (bw.alloc bw.size (.cells (madeCells #[.slice none 0 0] R) 33))
    rw [← hW]
    exact ⟨b1.alloc b1.size _, bb, (rr.alloc _).alloc _, t.alloc _⟩
  clear hW z W
  go_enter Try.func9, Try.ntmps9
  go_wp2_with fail
  refine (gfits_any _ _ _).mono ?_
  rintro e u0 ⟨rfl, rfl⟩
  go_wp2_with fail
  clear hmk
  go_loopg [22] R (fun gk i wr => ∃ k : Nat, (gk = R - k ∧ k ≤ R ∧ ∃ G C, NewG w wr S R n k G C) ∧ i = .int .i64 (k : Int))
  case atStart => exact ⟨0, ⟨rfl, by omega, _, _, NI.out⟩, rfl⟩
  case round =>
    clear NI
    obtain ⟨k, ⟨hg, hk, G, C, hN⟩, rfl⟩ := hrel
    have HK : Hid (gk = R - k ∧ NewG w wr S R n k G C) := ⟨hg, hN⟩
    by_cases hlt : k < R
    · have NX : Hid (NewG w ((wr.alloc (.cells (madeCells #[.int .i64 0] n) 3)).setCell ⟨w.heap.size + 1, k, none⟩ (.slice (some ⟨wr.heap.size, 0, none⟩) n n)).drew S R n (k + 1) (fun i => if i = k then wr.heap.size else G i) (fun i => if i = k then n else C i)) := hN.more.drew
      have hmk : (Instr.makeSlice 33 (.int .i64 (n : Int)) (.int .i64 (n : Int))).run Try.prog wr.drew = .ok (.slice (some ⟨wr.heap.size, 0, none⟩) n n) (wr.drew.alloc (.cells (madeCells #[.int .i64 0] n) 3)) := run_make_full (P := Try.prog) 33 3 (.int .i64 0) 8 Try.underlying33 info3 rfl .i64 .i64 n (by omega) (by omega) wr.drew
      have x2 : wr.cell? ⟨w.heap.size + 2, 1, none⟩ = some (.slice (some ⟨w.heap.size + 1, 0, none⟩) R R) := hN.box.cell 1
      have y2 : ∀ o, (wr.alloc o).cell? ⟨w.heap.size + 2, 1, none⟩ = some (.slice (some ⟨w.heap.size + 1, 0, none⟩) R R) := fun o => (hN.box.alloc o).cell 1
      have s1 : ∀ o, (wr.alloc o).cell? ⟨w.heap.size + 1, k, none⟩ = some (.slice none 0 0) := fun o => (hN.tab.alloc o).next hlt
      have s2 : ∀ o, (wr.alloc o).frozen? ⟨w.heap.size + 1, k, none⟩ = false := fun o => World.rowIs.frozen (hN.tab.alloc o).top k
      have bk : (k : Int) < (R : Int) := by omega
      have b0 : (0 : Int) ≤ (k : Int) := by omega
      clear hg hN
      go_wp2_with fail
      go_region_with fail
      all_goals go_wp2_with fail
      all_goals go_roundg (R - (k + 1))
      all_goals first | (have := HK.out.1; omega) | exact ⟨k + 1, ⟨rfl, by omega, _, _, NX.out⟩, by go_num⟩
    · have e : k = R := by omega
      have HE : Hid (k = R) := e
      have b1 : ¬ (k : Int) < (R : Int) := by omega
      have x0 : wr.cell? ⟨w.heap.size + 2, 0, none⟩ = some (.int .u64 S) := hN.box.cell 0
      have x2 : wr.cell? ⟨w.heap.size + 2, 1, none⟩ = some (.slice (some ⟨w.heap.size + 1, 0, none⟩) R R) := hN.box.cell 1
      have r0 : wr.cell? ⟨w.heap.size, 0, none⟩ = some (.int .u64 0) := hN.res.cell 0
      have r2 : wr.cell? ⟨w.heap.size, 1, none⟩ = some (.slice none 0 0) := hN.res.cell 1
      have z0 := hN.res.frozen 0
      have z1 := hN.res.frozen 1
      clear e hg hN hlt
      go_wp2_with fail
      refine bodyPost_ret (v := .tuple #[.agg #[.int .u64 S, .slice (some ⟨w.heap.size + 1, 0, none⟩) R R], .int .i64 0]) ?_ rfl ?_
      rotate_left
      · exact ⟨_, rfl, fun u eu => ⟨_, rfl, rowsI_far2 (by have t := HK.out.2.tab; rw [HE.out] at t; exact t) (Nat.le_refl _) (by omega) (by omega) eu⟩, put2_below HK.out.2.since (Nat.le_refl _) _ _⟩
      have c3 := put2_blk (t := 25) (HK.out.2.res) (.int .u64 S) (.slice (some ⟨w.heap.size + 1, 0, none⟩) R R)
      have c30 := c3.cell 0
      have c31 := c3.cell 1
      change (results _ _).run _ (put2 (wr) (w.heap.size) (.int .u64 S) (.slice (some ⟨w.heap.size + 1, 0, none⟩) R R)) = .ok _ (put2 (wr) (w.heap.size) (.int .u64 S) (.slice (some ⟨w.heap.size + 1, 0, none⟩) R R))
      generalize put2 (wr) (w.heap.size) (.int .u64 S) (.slice (some ⟨w.heap.size + 1, 0, none⟩) R R) = W5 at c30 c31
      simp [results, Try.results9, go_sem, c30, c31]
set_option maxHeartbeats 1600000 in
theorem gadd_bad (w : World) (x : Value) (S : Int) (R : Nat) (L : Nat → Nat) (Z : Nat → Nat → Int) (s : ByteArray) (q : Int) (h : SgAt w x S R L Z) (hR : R ≤ 1000) (hL : ∀ i, i < R → L i ≤ 1000) (r : ¬ (RightG R L Z ∧ FitsI q)) :
    Calls Try.prog 15 #[x, .string s, .int .i64 q] w (GaveE 1 w) := by
  obtain ⟨v, rfl, hv⟩ := h
  by_cases rp : RightG R L Z
  rotate_left
  · have RC : Hid (∀ w1, Below w.heap.size w w1 → Calls Try.prog 17 #[.agg #[.int .u64 S, v]] w1 fun e w' => e = .returned (.bool false) ∧ Below w1.heap.size w1 w') := fun w1 b1 => gright_no ⟨v, rfl, hv.keep (keep_of_below b1)⟩ hR hL rp
    obtain ⟨A, cap, b, o, rfl, hc, hr⟩ := hv.read
    have BX : Hid (Below w.heap.size w ((w.alloc (.cells #[.int .u64 S, .slice A R cap] 25)).alloc (.cells #[.int .u64 0, .slice none 0 0] 25))) := (bel_alloc _ _).alloc (by simp) _
    have KX : Hid (Blk ((w.alloc (.cells #[.int .u64 S, .slice A R cap] 25)).alloc (.cells #[.int .u64 0, .slice none 0 0] 25)) w.heap.size 25 #[.int .u64 S, .slice A R cap]) := (Blk.new _ _ _).alloc _
    have KR : Hid (Blk ((w.alloc (.cells #[.int .u64 S, .slice A R cap] 25)).alloc (.cells #[.int .u64 0, .slice none 0 0] 25)) (w.heap.size + 1) 25 #[.int .u64 0, .slice none 0 0]) := by
      have e := Blk.new (w.alloc (.cells #[.int .u64 S, .slice A R cap] 25)) 25 #[.int .u64 0, .slice none 0 0]
      simp only [World.size_alloc] at e
      exact e
    clear hv hr hL r rp
    go_enter Try.func15, Try.ntmps15
    go_wp2_with fail
    refine (RC.out _ BX.out).mono ?_
    rintro e u1 ⟨rfl, b1⟩
    have B1 : Hid (Below w.heap.size w u1) := bel_trans BX.out b1
    have K1 : Hid (Blk u1 w.heap.size 25 #[.int .u64 S, .slice A R cap]) := KX.out.since b1
    have R1 : Hid (Blk u1 (w.heap.size + 1) 25 #[.int .u64 0, .slice none 0 0]) := KR.out.since b1
    clear b1 BX KX KR RC
    have r0 : u1.cell? ⟨w.heap.size + 1, 0, none⟩ = some (.int .u64 0) := R1.out.cell 0
    have r2 : u1.cell? ⟨w.heap.size + 1, 1, none⟩ = some (.slice none 0 0) := R1.out.cell 1
    have z0 := R1.out.frozen 0
    have z1 := R1.out.frozen 1
    go_wp2_with fail
    refine bodyPost_ret (v := .tuple #[.agg #[.int .u64 0, .slice none 0 0], .int .i64 1]) ?_ rfl ?_
    rotate_left
    · exact ⟨rfl, put2_below B1.out (by omega) _ _⟩
    have c3 := put2_blk (t := 25) (R1.out) (.int .u64 0) (.slice none 0 0)
    have c30 := c3.cell 0
    have c31 := c3.cell 1
    change (results _ _).run _ (put2 (u1) (w.heap.size + 1) (.int .u64 0) (.slice none 0 0)) = .ok _ (put2 (u1) (w.heap.size + 1) (.int .u64 0) (.slice none 0 0))
    generalize put2 (u1) (w.heap.size + 1) (.int .u64 0) (.slice none 0 0) = W5 at c30 c31
    simp [results, Try.results15, go_sem, c30, c31]
  have RC : Hid (∀ w1, Below w.heap.size w w1 → Calls Try.prog 17 #[.agg #[.int .u64 S, v]] w1 fun e w' => e = .returned (.bool true) ∧ Below w1.heap.size w1 w') := fun w1 b1 => gright_yes ⟨v, rfl, hv.keep (keep_of_below b1)⟩ rp
  have nf : ¬ FitsI q := fun h => r ⟨rp, h⟩
  have FW : Hid (∀ w1, Calls Try.prog 29 #[.int .i64 q] w1 fun e w' => e = .returned (.bool false) ∧ w' = w1) := fun w1 => by have := gwithin_any q w1; rw [fitsB1_no nf] at this; exact this
  obtain ⟨A, cap, b, o, rfl, hc, hr⟩ := hv.read
  have BX : Hid (Below w.heap.size w ((w.alloc (.cells #[.int .u64 S, .slice A R cap] 25)).alloc (.cells #[.int .u64 0, .slice none 0 0] 25))) := (bel_alloc _ _).alloc (by simp) _
  have KX : Hid (Blk ((w.alloc (.cells #[.int .u64 S, .slice A R cap] 25)).alloc (.cells #[.int .u64 0, .slice none 0 0] 25)) w.heap.size 25 #[.int .u64 S, .slice A R cap]) := (Blk.new _ _ _).alloc _
  have KR : Hid (Blk ((w.alloc (.cells #[.int .u64 S, .slice A R cap] 25)).alloc (.cells #[.int .u64 0, .slice none 0 0] 25)) (w.heap.size + 1) 25 #[.int .u64 0, .slice none 0 0]) := by
    have e := Blk.new (w.alloc (.cells #[.int .u64 S, .slice A R cap] 25)) 25 #[.int .u64 0, .slice none 0 0]
    simp only [World.size_alloc] at e
    exact e
  clear hv hr hL r rp nf
  go_enter Try.func15, Try.ntmps15
  go_wp2_with fail
  refine (RC.out _ BX.out).mono ?_
  rintro e u1 ⟨rfl, b1⟩
  have B1 : Hid (Below w.heap.size w u1) := bel_trans BX.out b1
  have K1 : Hid (Blk u1 w.heap.size 25 #[.int .u64 S, .slice A R cap]) := KX.out.since b1
  have R1 : Hid (Blk u1 (w.heap.size + 1) 25 #[.int .u64 0, .slice none 0 0]) := KR.out.since b1
  clear b1 BX KX KR RC
  have r0 : u1.cell? ⟨w.heap.size + 1, 0, none⟩ = some (.int .u64 0) := R1.out.cell 0
  have r2 : u1.cell? ⟨w.heap.size + 1, 1, none⟩ = some (.slice none 0 0) := R1.out.cell 1
  have z0 := R1.out.frozen 0
  have z1 := R1.out.frozen 1
  go_wp2_with fail
  refine (FW.out _).mono ?_
  rintro e u1 ⟨rfl, rfl⟩
  go_wp2_with fail
  refine bodyPost_ret (v := .tuple #[.agg #[.int .u64 0, .slice none 0 0], .int .i64 1]) ?_ rfl ?_
  rotate_left
  · exact ⟨rfl, put2_below B1.out (by omega) _ _⟩
  have c3 := put2_blk (t := 25) (R1.out) (.int .u64 0) (.slice none 0 0)
  have c30 := c3.cell 0
  have c31 := c3.cell 1
  change (results _ _).run _ (put2 (u1) (w.heap.size + 1) (.int .u64 0) (.slice none 0 0)) = .ok _ (put2 (u1) (w.heap.size + 1) (.int .u64 0) (.slice none 0 0))
  generalize put2 (u1) (w.heap.size + 1) (.int .u64 0) (.slice none 0 0) = W5 at c30 c31
  simp [results, Try.results15, go_sem, c30, c31]
/-- What the loop of Add keeps: the sketch in its box, the place of the answer, the table. -/
structure AddG (w wr : World) (S : Int) (B b R n : Nat) (G C : Nat → Nat) (Z : Nat → Nat → Int) : Prop where
  since : Below w.heap.size w wr
  box : Blk wr w.heap.size 25 #[.int .u64 S, .slice (some ⟨b, 0, none⟩) R R]
  res : Blk wr (w.heap.size + 1) 25 #[.int .u64 0, .slice none 0 0]
  base : w.heap.size + 1 < B
  tab : TabIn wr B b R n R G C Z
theorem AddG.below {w wr w2 : World} {S : Int} {B b R n : Nat} {G C : Nat → Nat} {Z : Nat → Nat → Int} (h : AddG w wr S B b R n G C Z) (s : Below wr.heap.size wr w2) : AddG w w2 S B b R n G C Z := ⟨bel_trans h.since s, h.box.since s, h.res.since s, h.base, h.tab.since s⟩
theorem AddG.drew {w wr : World} {S : Int} {B b R n : Nat} {G C : Nat → Nat} {Z : Nat → Nat → Int} (h : AddG w wr S B b R n G C Z) : AddG w wr.drew S B b R n G C Z := ⟨h.since.drew, h.box, h.res, h.base, h.tab.drew⟩
theorem AddG.congr {w wr : World} {S : Int} {B b R n : Nat} {G C : Nat → Nat} {Z Y : Nat → Nat → Int} (h : AddG w wr S B b R n G C Z) (e : ∀ i j, i < R → j < n → Z i j = Y i j) : AddG w wr S B b R n G C Y := ⟨h.since, h.box, h.res, h.base, h.tab.congr e⟩
theorem AddG.set {w wr : World} {S : Int} {B b R n : Nat} {G C : Nat → Nat} {Z : Nat → Nat → Int} (h : AddG w wr S B b R n G C Z) {i : Nat} (hi : i < R) (p : Nat) (x : Int) :
    AddG w (wr.setCell ⟨G i, p, none⟩ (.int .i64 x)) S B b R n G C (fun r j => if r = i then (if j = p then x else Z r j) else Z r j) := by
  have g := (h.tab.row i hi).1
  have k := h.base
  exact ⟨h.since.setCell (p := ⟨G i, p, none⟩) (by show w.heap.size ≤ G i; omega) _, h.box.other (a := ⟨G i, p, none⟩) (by show w.heap.size ≠ G i; omega) _, h.res.other (a := ⟨G i, p, none⟩) (by show w.heap.size + 1 ≠ G i; omega) _, h.base, h.tab.set hi p x⟩
theorem addG_start {w u1 u2 : World} {S : Int} {v : Value} {b R n : Nat} {G C : Nat → Nat} {Z : Nat → Nat → Int} (b1 : Below w.heap.size w u1) (b2 : Below u1.heap.size u1 u2) (hX : Blk u1 w.heap.size 25 #[.int .u64 S, v]) (hR : Blk u1 (w.heap.size + 1) 25 #[.int .u64 0, .slice none 0 0]) (ht : TabIn u2 u1.heap.size b R n R G C Z) :
    AddG w (u2.setCell ⟨w.heap.size, 1, none⟩ (.slice (some ⟨b, 0, none⟩) R R)) S u1.heap.size b R n G C Z := by
  have l := hR.lt
  exact ⟨(bel_trans b1 b2).setCell (p := ⟨w.heap.size, 1, none⟩) (Nat.le_refl _) _, (hX.since b2).set 1 _, (hR.since b2).other (a := ⟨w.heap.size, 1, none⟩) (by show w.heap.size + 1 ≠ w.heap.size; omega) _, l, ht.other (a := ⟨w.heap.size, 1, none⟩) (by show w.heap.size < u1.heap.size; omega) _⟩
theorem AddG.sk {w wr : World} {S : Int} {B b R n : Nat} {G C : Nat → Nat} {Z : Nat → Nat → Int} (h : AddG w wr S B b R n G C Z) : SgAt wr (.agg #[.int .u64 S, .slice (some ⟨b, 0, none⟩) R R]) S R (fun _ => n) Z := ⟨_, rfl, h.tab.rows (Nat.le_refl _)⟩
def addGK (S : Int) (n : Nat) (Z : Nat → Nat → Int) (s : ByteArray) (q : Int) (k : Nat) : Nat → Nat → Int := fun i j => if i < k then addG S n Z s q i j else Z i j
theorem addGK_step (S : Int) (n : Nat) (Z : Nat → Nat → Int) (s : ByteArray) (q : Int) (k i j : Nat) : (if i = k then (if j = cellN S s n k then Z k (cellN S s n k) + q * sgnN S s k else addGK S n Z s q k i j) else addGK S n Z s q k i j) = addGK S n Z s q (k + 1) i j := by
  unfold addGK addG
  by_cases ei : i = k
  · subst ei
    rw [if_pos rfl, if_neg (Nat.lt_irrefl i), if_pos (Nat.lt_succ_self i)]
    by_cases ej : j = cellN S s n i
    · rw [if_pos ej, if_pos ej, ej]
    · rw [if_neg ej, if_neg ej]
  · rw [if_neg ei]
    by_cases e2 : i < k
    · rw [if_pos e2, if_pos (show i < k + 1 by omega)]
    · rw [if_neg e2, if_neg (show ¬ i < k + 1 by omega)]
/-- What Add tells: the sketch, or that it goes over. -/
def AddedG (w : World) (S : Int) (R n : Nat) (Y : Nat → Nat → Int) (e : Ending) (w' : World) : Prop := (OkG R n Y → GaveG w S R n Y e w') ∧ (¬ OkG R n Y → GaveE 5 w e w')
set_option maxHeartbeats 4000000 in
theorem gadd_any (w : World) (x : Value) (S : Int) (R n : Nat) (Z : Nat → Nat → Int) (s : ByteArray) (q : Int) (h : SgAt w x S R (fun _ => n) Z) (ok : OkG R n Z) (uS : U S) (hs : s.size ≤ 100000) (hq : FitsI q) :
    Calls Try.prog 15 #[x, .string s, .int .i64 q] w (AddedG w S R n (addG S n Z s q)) := by
  obtain ⟨v, rfl, hv⟩ := h
  have RC : Hid (∀ w1, Below w.heap.size w w1 → Calls Try.prog 17 #[.agg #[.int .u64 S, v]] w1 fun e w' => e = .returned (.bool true) ∧ Below w1.heap.size w1 w') := fun w1 b1 => gright_yes ⟨v, rfl, hv.keep (keep_of_below b1)⟩ ok.right
  have FW : Hid (∀ w1, Calls Try.prog 29 #[.int .i64 q] w1 fun e w' => e = .returned (.bool true) ∧ w' = w1) := fun w1 => by have := gwithin_any q w1; rw [fitsB1_yes hq] at this; exact this
  have hR : R ≤ 7 := ok.2.1
  have n0 : 1 ≤ n := ok.2.2.2.1
  have n1 : n ≤ 256 := ok.2.2.2.2.1
  have OK : Hid (OkG R n Z) := ok
  obtain ⟨q0, q1⟩ := hq
  have CC : Hid (∀ w1, Below w.heap.size w w1 → Calls Try.prog 30 #[v] w1 (CopiedG w1 R n Z)) := fun w1 b1 => gcopied_any w1 v R n Z (hv.keep (keep_of_below b1)) (by omega) n0 (by omega)
  obtain ⟨A, cap, b, o, rfl, hc, hr⟩ := hv.read
  have BX : Hid (Below w.heap.size w ((w.alloc (.cells #[.int .u64 S, .slice A R cap] 25)).alloc (.cells #[.int .u64 0, .slice none 0 0] 25))) := (bel_alloc _ _).alloc (by simp) _
  have KX : Hid (Blk ((w.alloc (.cells #[.int .u64 S, .slice A R cap] 25)).alloc (.cells #[.int .u64 0, .slice none 0 0] 25)) w.heap.size 25 #[.int .u64 S, .slice A R cap]) := (Blk.new _ _ _).alloc _
  have KR : Hid (Blk ((w.alloc (.cells #[.int .u64 S, .slice A R cap] 25)).alloc (.cells #[.int .u64 0, .slice none 0 0] 25)) (w.heap.size + 1) 25 #[.int .u64 0, .slice none 0 0]) := by
    have e := Blk.new (w.alloc (.cells #[.int .u64 S, .slice A R cap] 25)) 25 #[.int .u64 0, .slice none 0 0]
    simp only [World.size_alloc] at e
    exact e
  clear hv hr ok
  go_enter Try.func15, Try.ntmps15
  go_wp2_with fail
  refine (RC.out _ BX.out).mono ?_
  rintro e u1 ⟨rfl, b1⟩
  have B1 : Hid (Below w.heap.size w u1) := bel_trans BX.out b1
  have K1 : Hid (Blk u1 w.heap.size 25 #[.int .u64 S, .slice A R cap]) := KX.out.since b1
  have R1 : Hid (Blk u1 (w.heap.size + 1) 25 #[.int .u64 0, .slice none 0 0]) := KR.out.since b1
  clear b1 BX KX KR
  clear RC
  have x2 : u1.cell? ⟨w.heap.size, 1, none⟩ = some (.slice A R cap) := K1.out.cell 1
  go_wp2_with fail
  refine (FW.out _).mono ?_
  rintro e u1 ⟨rfl, rfl⟩
  clear FW
  go_wp2_with fail
  refine (CC.out _ B1.out).mono ?_
  rintro e u2 ⟨bt, G, C, rfl, ht, b2⟩
  have AI : Hid (AddG w (u2.setCell ⟨w.heap.size, 1, none⟩ (.slice (some ⟨bt, 0, none⟩) R R)) S u1.heap.size bt R n G C Z) := addG_start B1.out b2 K1.out R1.out ht
  have y2 : u2.cell? ⟨w.heap.size, 1, none⟩ = some (.slice A R cap) := (K1.out.since b2).cell 1
  have f2 : u2.frozen? ⟨w.heap.size, 1, none⟩ = false := (K1.out.since b2).frozen 1
  clear b2 ht K1 R1 B1 CC x2
  go_wp2_with fail
  clear y2 f2
  generalize u2.setCell ⟨w.heap.size, 1, none⟩ (.slice (some ⟨bt, 0, none⟩) R R) = u3 at AI ⊢
  go_loopg [27] R (fun gk i wr => ∃ k : Nat, (gk = R - k ∧ k ≤ R ∧ AddG w wr S u1.heap.size bt R n G C (addGK S n Z s q k) ∧ ∀ r, r < k → FitsI (Z r (cellN S s n r) + q * sgnN S s r)) ∧ i = .int .i64 (k : Int))
  case atStart => exact ⟨0, ⟨rfl, by omega, AI.out.congr fun i j _ _ => by simp [addGK], fun r hr => by omega⟩, rfl⟩
  case round =>
    clear AI
    obtain ⟨k, ⟨hg, hk, hA, hF⟩, rfl⟩ := hrel
    have HK : Hid (gk = R - k ∧ AddG w wr S u1.heap.size bt R n G C (addGK S n Z s q k) ∧ ∀ r, r < k → FitsI (Z r (cellN S s n r) + q * sgnN S s r)) := ⟨hg, hA, hF⟩
    have x0 : wr.cell? ⟨w.heap.size, 0, none⟩ = some (.int .u64 S) := hA.box.cell 0
    have x2 : wr.cell? ⟨w.heap.size, 1, none⟩ = some (.slice (some ⟨bt, 0, none⟩) R R) := hA.box.cell 1
    by_cases hlt : k < R
    · have ck := hA.tab.cell hlt hlt
      have bk : (k : Int) < (R : Int) := by omega
      have b0 : (0 : Int) ≤ (k : Int) := by omega
      obtain ⟨P, hP⟩ : ∃ P, P = cellN S s n k := ⟨_, rfl⟩
      have pl : P < n := by rw [hP]; exact cellN_lt S s n k n0
      have pb : (P : Int) < (n : Int) := by omega
      have p0 : (0 : Int) ≤ (P : Int) := by omega
      have CE := gcell_any wr _ S R n (addGK S n Z s q k) s k hA.sk uS hs hlt (by omega) n0 (by omega)
      rw [← hP] at CE
      have CE : Hid (Calls Try.prog 31 #[.agg #[.int .u64 S, .slice (some ⟨bt, 0, none⟩) R R], .string s, .int .i64 (k : Int)] wr fun e w' => e = .returned (.int .i64 (P : Int)) ∧ Below wr.heap.size wr w') := CE
      obtain ⟨zz, hzz⟩ : ∃ zz, zz = Z k P := ⟨_, rfl⟩
      have zr := OK.out.fits hlt pl
      rw [← hzz] at zr
      obtain ⟨zr0, zr1⟩ := zr
      obtain ⟨sg, hsg⟩ : ∃ sg, sg = sgnN S s k := ⟨_, rfl⟩
      obtain ⟨qs, hqs⟩ : ∃ qs, qs = q * sg := ⟨_, rfl⟩
      have qr := sgn_fits (sgnN_is S s k) q0 q1
      rw [← hsg, ← hqs] at qr
      obtain ⟨qr0, qr1⟩ := qr
      have HZ : Hid (zz = Z k P ∧ P = cellN S s n k ∧ sg = sgnN S s k ∧ qs = q * sg) := ⟨hzz, hP, hsg, hqs⟩
      have QS : q * sg = qs := hqs.symm
      have sgr : -1 ≤ sg ∧ sg ≤ 1 := by rcases sgnN_is S s k with h | h <;> rw [← hsg] at h <;> omega
      generalize hGk : G k = g at ck
      have HG : Hid (G k = g) := hGk
      generalize C k = cg at ck
      clear hg hA hF hP hzz hGk hqs
      have SI : Hid (∀ w1, Below wr.heap.size wr w1 → Calls Try.prog 32 #[.agg #[.int .u64 S, .slice (some ⟨bt, 0, none⟩) R R], .string s, .int .i64 (k : Int)] w1 fun e w' => e = .returned (.int .i64 sg) ∧ Below w1.heap.size w1 w') := fun w1 b1 => by rw [hsg]; exact gsign_any w1 _ S R n (addGK S n Z s q k) s k (HK.out.2.1.sk.keep (keep_of_below b1)) uS hs (by omega)
      clear hsg
      go_wp2_with fail
      refine CE.out.mono ?_
      rintro e u4 ⟨rfl, b4⟩
      have A4 : Hid (AddG w u4 S u1.heap.size bt R n G C (addGK S n Z s q k)) := HK.out.2.1.below b4
      have B4 : Hid (Below wr.heap.size wr u4) := b4
      have cells : ∀ u, AddG w u S u1.heap.size bt R n G C (addGK S n Z s q k) → u.cell? ⟨g, P, none⟩ = some (.int .i64 zz) ∧ u.frozen? ⟨g, P, none⟩ = false := fun u hu => by
        constructor
        · have := (hu.tab.row k hlt).2.2.2.cell pl
          rw [HG.out] at this
          rw [this, HZ.out.1]
          simp [addGK]
        · have := (hu.tab.row k hlt).2.2.2.frozen P
          rw [HG.out] at this
          exact this
      have CL : Hid (∀ u, AddG w u S u1.heap.size bt R n G C (addGK S n Z s q k) → u.cell? ⟨g, P, none⟩ = some (.int .i64 zz) ∧ u.frozen? ⟨g, P, none⟩ = false) := cells
      have NX : Hid (∀ u, AddG w u S u1.heap.size bt R n G C (addGK S n Z s q k) → AddG w (u.setCell ⟨g, P, none⟩ (.int .i64 (zz + qs))) S u1.heap.size bt R n G C (addGK S n Z s q (k + 1))) := fun u hu => by
        have e := hu.set hlt P (zz + qs)
        rw [HG.out] at e
        refine e.congr fun i j hi hj => ?_
        rw [← addGK_step, HZ.out.2.2.2, HZ.out.2.2.1, HZ.out.1, HZ.out.2.1]
      have cp := (CL.out u4 A4.out).1
      have fp := (CL.out u4 A4.out).2
      clear cells b4 x0 x2 ck CE
      have y0 : u4.cell? ⟨w.heap.size, 0, none⟩ = some (.int .u64 S) := A4.out.box.cell 0
      have y2 : u4.cell? ⟨w.heap.size, 1, none⟩ = some (.slice (some ⟨bt, 0, none⟩) R R) := A4.out.box.cell 1
      have wq1 : IntKind.i64.wrap qs = qs := by rw [IntKind.wrap_i64]; omega
      have wq2 : IntKind.i64.wrap (zz + qs) = zz + qs := by rw [IntKind.wrap_i64]; omega
      go_wp2_with fail
      go_region_with (go_at_call 32; refine (SI.out _ B4.out.drew).mono ?_; rintro e u5 ⟨rfl, b5⟩; have A5 : Hid (AddG w u5 S u1.heap.size bt R n G C (addGK S n Z s q k)) := A4.out.drew.below b5; have cc5 := (CL.out u5 A5.out).1; have cf5 := (CL.out u5 A5.out).2; clear b5)
      all_goals have N5 : Hid (AddG w (u5.setCell ⟨g, P, none⟩ (.int .i64 (zz + qs))) S u1.heap.size bt R n G C (addGK S n Z s q (k + 1))) := NX.out _ A5.out
      all_goals have C6 : Hid ((u5.setCell ⟨g, P, none⟩ (.int .i64 (zz + qs))).cell? ⟨g, P, none⟩ = some (.int .i64 (zz + qs))) := (by
        have := (N5.out.tab.row k hlt).2.2.2.cell pl
        rw [HG.out] at this
        rw [this, ← addGK_step, if_pos rfl, if_pos HZ.out.2.1, HZ.out.2.2.2, HZ.out.2.2.1, HZ.out.1, HZ.out.2.1]; exact rfl : _)
      all_goals clear cp fp y0 y2 cc5 cf5 A5 A4 B4 CL NX SI QS wq1 wq2
      all_goals generalize u5.setCell ⟨g, P, none⟩ (.int .i64 (zz + qs)) = u6 at N5 C6 ⊢
      all_goals have HV : Hid (zz + qs = Z k (cellN S s n k) + q * sgnN S s k) := (by rw [HZ.out.2.2.2, HZ.out.2.2.1, HZ.out.1, HZ.out.2.1]; exact rfl : _)
      all_goals generalize zz + qs = vv at C6 HV ⊢
      all_goals have c6 := C6.out
      all_goals
        by_cases hf : FitsI vv
        · have ft := fitsB1_yes hf
          have HF : Hid (FitsI vv) := hf
          clear hf
          go_wp2_with fail
          refine (gwithin_any _ _).mono ?_
          rw [ft]
          clear ft
          rintro e u7 ⟨rfl, rfl⟩
          go_wp2_with fail
          go_roundg (R - (k + 1))
          case measure => have := HK.out.1; omega
          case rel =>
            refine ⟨k + 1, ⟨rfl, by omega, N5.out, fun r hr => ?_⟩, by go_num⟩
            by_cases er : r = k
            · rw [er, ← HV.out]; exact HF.out
            · exact HK.out.2.2 r (by omega)
        · have ft := fitsB1_no hf
          have HN : Hid (¬ OkG R n (addG S n Z s q)) := fun h => hf (by rw [HV.out]; exact h.add_cell hlt)
          clear hf
          go_wp2_with fail
          refine (gwithin_any _ _).mono ?_
          rw [ft]
          clear ft
          rintro e u7 ⟨rfl, rfl⟩
          have r0 : u7.cell? ⟨w.heap.size + 1, 0, none⟩ = some (.int .u64 0) := N5.out.res.cell 0
          have r2 : u7.cell? ⟨w.heap.size + 1, 1, none⟩ = some (.slice none 0 0) := N5.out.res.cell 1
          have z0 := N5.out.res.frozen 0
          have z1 := N5.out.res.frozen 1
          go_wp2_with fail
          refine bodyPost_ret (v := .tuple #[.agg #[.int .u64 0, .slice none 0 0], .int .i64 5]) ?_ rfl ?_
          rotate_left
          · exact ⟨fun h => absurd h HN.out, fun _ => ⟨rfl, put2_below N5.out.since (by omega) _ _⟩⟩
          have c3 := put2_blk (t := 25) (N5.out.res) (.int .u64 0) (.slice none 0 0)
          have c30 := c3.cell 0
          have c31 := c3.cell 1
          change (results _ _).run _ (put2 (u7) (w.heap.size + 1) (.int .u64 0) (.slice none 0 0)) = .ok _ (put2 (u7) (w.heap.size + 1) (.int .u64 0) (.slice none 0 0))
          generalize put2 (u7) (w.heap.size + 1) (.int .u64 0) (.slice none 0 0) = W5 at c30 c31
          simp [results, Try.results15, go_sem, c30, c31]
    · have e : k = R := by omega
      have HE : Hid (k = R) := e
      have b1 : ¬ (k : Int) < (R : Int) := by omega
      have r0 : wr.cell? ⟨w.heap.size + 1, 0, none⟩ = some (.int .u64 0) := hA.res.cell 0
      have r2 : wr.cell? ⟨w.heap.size + 1, 1, none⟩ = some (.slice none 0 0) := hA.res.cell 1
      have z0 := hA.res.frozen 0
      have z1 := hA.res.frozen 1
      have OKY : Hid (OkG R n (addG S n Z s q)) := OK.out.adds_ok fun i hi => hF i (by omega)
      clear e hg hA hF hlt
      go_wp2_with fail
      refine bodyPost_ret (v := .tuple #[.agg #[.int .u64 S, .slice (some ⟨bt, 0, none⟩) R R], .int .i64 0]) ?_ rfl ?_
      rotate_left
      · exact ⟨fun _ => ⟨_, rfl, fun u eu => SgAt.congr (L := fun _ => n) (Z := addGK S n Z s q k) ⟨_, rfl, rowsI_far2 HK.out.2.1.tab (Nat.le_refl _) HK.out.2.1.base (by have := HK.out.2.1.base; omega) eu⟩ (fun _ _ => rfl) (fun i j hi _ => by unfold addGK; rw [HE.out, if_pos hi]), put2_below HK.out.2.1.since (by omega) _ _⟩, fun h => absurd OKY.out h⟩
      have c3 := put2_blk (t := 25) (HK.out.2.1.res) (.int .u64 S) (.slice (some ⟨bt, 0, none⟩) R R)
      have c30 := c3.cell 0
      have c31 := c3.cell 1
      change (results _ _).run _ (put2 (wr) (w.heap.size + 1) (.int .u64 S) (.slice (some ⟨bt, 0, none⟩) R R)) = .ok _ (put2 (wr) (w.heap.size + 1) (.int .u64 S) (.slice (some ⟨bt, 0, none⟩) R R))
      generalize put2 (wr) (w.heap.size + 1) (.int .u64 S) (.slice (some ⟨bt, 0, none⟩) R R) = W5 at c30 c31
      simp [results, Try.results15, go_sem, c30, c31]
end Go.Proofs.Ytpjpgcjlbfgkdaa
