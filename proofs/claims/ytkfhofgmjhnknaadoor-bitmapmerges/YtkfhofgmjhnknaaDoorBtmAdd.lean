
/-
  New and Add of layer 13 (bitmap): what they answer.
-/
import Derived.Test.YtkfhofgmjhnknaaDoorBtmOwn
import Derived.Test.YtkfhofgmjhnknaaDoorBtmRead
import Derived.Deep.RegionWith
namespace Go.Proofs.YtkfhofgmjhnknaaDoor
open Go.RowKit Fm Bl Bm L2 Go.Deep
set_option linter.unusedVariables false

/-- A map that is told, with no error. -/
def GaveM (w : World) (S : Int) (R n : Nat) (Z : Nat → Nat → Bool) (e : Ending) (w' : World) : Prop := ∃ x, e = .returned (.tuple #[x, .int .i64 0]) ∧ Held (fun q => w.heap.size ≤ q) (fun u => MpAt u x S R (fun _ => n) Z) w' ∧ Below w.heap.size w w'
/-- Nothing, and an error. -/
def GaveE (c : Int) (w : World) (e : Ending) (w' : World) : Prop := e = .returned (.tuple #[.agg #[.int .u64 0, .slice none 0 0], .int .i64 c]) ∧ Below w.heap.size w w'
/-- A map that is told. -/
def GaveA (w : World) (S : Int) (R : Nat) (L : Nat → Nat) (Z : Nat → Nat → Bool) (e : Ending) (w' : World) : Prop := ∃ x, e = .returned x ∧ Held (fun q => w.heap.size ≤ q) (fun u => MpAt u x S R L Z) w' ∧ Below w.heap.size w w'
theorem mpAt_none (w : World) (L : Nat → Nat) (Z : Nat → Nat → Bool) : MpAt w (.agg #[.int .u64 0, .slice none 0 0]) 0 0 L Z := ⟨_, rfl, none, 0, 0, 0, fun _ => .slice none 0 0, rfl, Nat.le_refl _, fun h => by omega, fun r hr => by omega⟩
/-- A table of the call's own stands where blocks below it are written. -/
theorem rowsB_far2 {w u : World} {B b R cap q base : Nat} {L : Nat → Nat} {A : Nat → Option Addr} {G C : Nat → Nat} {Z : Nat → Nat → Bool} {x y : Value} (h : TabB w B b R R L A G C Z) (hc : R ≤ cap) (hq : q < B) (hb : base ≤ B) (e : Same (fun p => base ≤ p) (put2 w q x y) u) : RowsB u (.slice (some ⟨b, 0, none⟩) R cap) R L Z :=
  (h.of fun p h1 h2 => by
    rw [put2_eq] at e
    rw [e.2 p (by omega) (by rw [putCells_size]; exact h2), putCells_heap _ _ _ _ (by omega)]).rows hc
set_option maxHeartbeats 800000 in
theorem mnew_bad (S r c : Int) (w : World) (hf : fitsM r c = false) :
    Calls Tryd.prog 8 #[.int .u64 S, .int .i64 r, .int .i64 c] w (GaveE 1 w) := by
  go_enter Tryd.func8, Tryd.ntmps8
  go_wp2_with fail
  refine (mfits_any _ _ _).mono ?_
  rintro e u1 ⟨rfl, rfl⟩
  go_wp2_with fail
  go_returns
  exact ⟨rfl, bel_alloc _ _⟩
structure NewM (w wr : World) (S : Int) (R n k : Nat) (A : Nat → Option Addr) (G C : Nat → Nat) : Prop where
  since : Below w.heap.size w wr
  box : Blk wr (w.heap.size + 2) 25 #[.int .u64 S, .slice (some ⟨w.heap.size + 1, 0, none⟩) R R]
  res : Blk wr w.heap.size 25 #[.int .u64 0, .slice none 0 0]
  tab : TabB wr (w.heap.size + 1) (w.heap.size + 1) R k (fun _ => n) A G C (fun _ _ => false)
theorem NewM.more {w wr : World} {S : Int} {R n k : Nat} {A : Nat → Option Addr} {G C : Nat → Nat} (h : NewM w wr S R n k A G C) : NewM w ((wr.alloc (.cells (madeCells #[.bool false] n) 4)).setCell ⟨w.heap.size + 1, k, none⟩ (.slice (some ⟨wr.heap.size, 0, none⟩) n n)) S R n (k + 1) (fun i => if i = k then some ⟨wr.heap.size, 0, none⟩ else A i) (fun i => if i = k then wr.heap.size else G i) (fun i => if i = k then n else C i) := by
  have l := h.box.lt
  exact ⟨(h.since.alloc h.since.size _).setCell (p := ⟨w.heap.size + 1, k, none⟩) (by show w.heap.size ≤ w.heap.size + 1; omega) _, (h.box.alloc _).other (a := ⟨w.heap.size + 1, k, none⟩) (by show w.heap.size + 2 ≠ w.heap.size + 1; omega) _, (h.res.alloc _).other (a := ⟨w.heap.size + 1, k, none⟩) (by show w.heap.size ≠ w.heap.size + 1; omega) _,
    h.tab.more (by omega) (bel_alloc _ _) (Nat.le_refl _) (fun _ => ⟨rfl, Nat.le_refl _, grow_made wr n⟩)⟩
theorem NewM.drew {w wr : World} {S : Int} {R n k : Nat} {A : Nat → Option Addr} {G C : Nat → Nat} (h : NewM w wr S R n k A G C) : NewM w wr.drew S R n k A G C := ⟨h.since.drew, h.box, h.res, h.tab.drew⟩
set_option maxHeartbeats 3200000 in
theorem mnew_ok (S : Int) (R n : Nat) (w : World) (hf : fitsM R n = true) :
    Calls Tryd.prog 8 #[.int .u64 S, .int .i64 (R : Int), .int .i64 (n : Int)] w (GaveM w S R n (fun _ _ => false)) := by
  have hR := (fitsM_iff _ _).1 hf
  have r1 : R ≤ 16 := by omega
  have n1 : n ≤ 256 := by omega
  clear hR
  obtain ⟨W, hW⟩ : ∃ W, W = w.alloc (.cells #[.int .u64 0, .slice none 0 0] 25) := ⟨_, rfl⟩
  have z : W.heap.size = w.heap.size + 1 := by rw [hW]; simp
  have hmk : (Instr.makeSlice 23 (.int .i64 (R : Int)) (.int .i64 (R : Int))).run Tryd.prog (w.alloc (.cells #[.int .u64 0, .slice none 0 0] 25)) = .ok (.slice (some ⟨w.heap.size + 1, 0, none⟩) R R) ((w.alloc (.cells #[.int .u64 0, .slice none 0 0] 25)).alloc (.cells (madeCells #[.slice none 0 0] R) 33)) := by
    have e := run_make_full (P := Tryd.prog) 23 33 (.slice none 0 0) 24 Tryd.underlying23 info33 rfl .i64 .i64 R (by omega) (by omega) W
    rw [z, hW] at e
    exact e
  have NI : Hid (NewM w (((w.alloc (.cells #[.int .u64 0, .slice none 0 0] 25)).alloc (.cells (madeCells #[.slice none 0 0] R) 33)).alloc (.cells #[.int .u64 S, .slice (some ⟨w.heap.size + 1, 0, none⟩) R R] 25)) S R n 0 (fun _ => none) (fun _ => 0) (fun _ => 0)) := by
    have t := tab_start W R (fun _ => n) (fun _ => none) (fun _ => 0) (fun _ => 0) (fun _ _ => false)
    rw [z] at t
    have bb := Blk.new (W.alloc (.cells (madeCells #[.slice none 0 0] R) 33)) 25 #[.int .u64 S, .slice (some ⟨w.heap.size + 1, 0, none⟩) R R]
    simp only [World.size_alloc, z] at bb
    have rr : Blk W w.heap.size 25 #[.int .u64 0, .slice none 0 0] := by rw [hW]; exact Blk.new _ _ _
    have bw : Below w.heap.size w W := by rw [hW]; exact bel_alloc _ _
    have b1 := (bw.alloc bw.size (.cells (madeCells #[.slice none 0 0] R) 33))
    rw [← hW]
    exact ⟨b1.alloc b1.size _, bb, (rr.alloc _).alloc _, t.alloc _⟩
  clear hW z W
  go_enter Tryd.func8, Tryd.ntmps8
  go_wp2_with fail
  refine (mfits_any _ _ _).mono ?_
  rintro e u0 ⟨rfl, rfl⟩
  go_wp2_with fail
  clear hmk
  go_loopg [22] R (fun gk i wr => ∃ k : Nat, (gk = R - k ∧ k ≤ R ∧ ∃ A G C, NewM w wr S R n k A G C) ∧ i = .int .i64 (k : Int))
  case atStart => exact ⟨0, ⟨rfl, by omega, _, _, _, NI.out⟩, rfl⟩
  case round =>
    clear NI
    obtain ⟨k, ⟨hg, hk, A, G, C, hN⟩, rfl⟩ := hrel
    have HK : Hid (gk = R - k ∧ NewM w wr S R n k A G C) := ⟨hg, hN⟩
    by_cases hlt : k < R
    · have NX : Hid (NewM w ((wr.alloc (.cells (madeCells #[.bool false] n) 4)).setCell ⟨w.heap.size + 1, k, none⟩ (.slice (some ⟨wr.heap.size, 0, none⟩) n n)).drew S R n (k + 1) (fun i => if i = k then some ⟨wr.heap.size, 0, none⟩ else A i) (fun i => if i = k then wr.heap.size else G i) (fun i => if i = k then n else C i)) := hN.more.drew
      have hmk : (Instr.makeSlice 33 (.int .i64 (n : Int)) (.int .i64 (n : Int))).run Tryd.prog wr.drew = .ok (.slice (some ⟨wr.heap.size, 0, none⟩) n n) (wr.drew.alloc (.cells (madeCells #[.bool false] n) 4)) := run_make_full (P := Tryd.prog) 33 4 (.bool false) 1 Tryd.underlying33 info4 rfl .i64 .i64 n (by omega) (by omega) wr.drew
      have x2 : wr.cell? ⟨w.heap.size + 2, 1, none⟩ = some (.slice (some ⟨w.heap.size + 1, 0, none⟩) R R) := hN.box.cell 1
      have y2 : ∀ o, (wr.alloc o).cell? ⟨w.heap.size + 2, 1, none⟩ = some (.slice (some ⟨w.heap.size + 1, 0, none⟩) R R) := fun o => (hN.box.alloc o).cell 1
      have s1 : ∀ o, (wr.alloc o).cell? ⟨w.heap.size + 1, k, none⟩ = some (.slice none 0 0) := fun o => (hN.tab.alloc o).next hlt
      have s2 : ∀ o, (wr.alloc o).frozen? ⟨w.heap.size + 1, k, none⟩ = false := fun o => World.rowIs.frozen (hN.tab.alloc o).top k
      have bk : (k : Int) < (R : Int) := by omega
      have b0 : (0 : Int) ≤ (k : Int) := by omega
      clear hg hN
      go_wp2_with fail
      go_region_with fail
      all_goals go_wp2_with fail
      all_goals go_roundg (R - (k + 1))
      all_goals first | (have := HK.out.1; omega) | exact ⟨k + 1, ⟨rfl, by omega, _, _, _, NX.out⟩, by go_num⟩
    · have e : k = R := by omega
      have HE : Hid (k = R) := e
      have b1 : ¬ (k : Int) < (R : Int) := by omega
      have x0 : wr.cell? ⟨w.heap.size + 2, 0, none⟩ = some (.int .u64 S) := hN.box.cell 0
      have x2 : wr.cell? ⟨w.heap.size + 2, 1, none⟩ = some (.slice (some ⟨w.heap.size + 1, 0, none⟩) R R) := hN.box.cell 1
      have r0 : wr.cell? ⟨w.heap.size, 0, none⟩ = some (.int .u64 0) := hN.res.cell 0
      have r2 : wr.cell? ⟨w.heap.size, 1, none⟩ = some (.slice none 0 0) := hN.res.cell 1
      have z0 := hN.res.frozen 0
      have z1 := hN.res.frozen 1
      clear e hg hN hlt
      go_wp2_with fail
      refine bodyPost_ret (v := .tuple #[.agg #[.int .u64 S, .slice (some ⟨w.heap.size + 1, 0, none⟩) R R], .int .i64 0]) ?_ rfl ?_
      rotate_left
      · exact ⟨_, rfl, fun u eu => ⟨_, rfl, rowsB_far2 (by have t := HK.out.2.tab; rw [HE.out] at t; exact t) (Nat.le_refl _) (by omega) (by omega) eu⟩, put2_below HK.out.2.since (Nat.le_refl _) _ _⟩
      have c3 := put2_blk (t := 25) (HK.out.2.res) (.int .u64 S) (.slice (some ⟨w.heap.size + 1, 0, none⟩) R R)
      have c30 := c3.cell 0
      have c31 := c3.cell 1
      change (results _ _).run _ (put2 (wr) (w.heap.size) (.int .u64 S) (.slice (some ⟨w.heap.size + 1, 0, none⟩) R R)) = .ok _ (put2 (wr) (w.heap.size) (.int .u64 S) (.slice (some ⟨w.heap.size + 1, 0, none⟩) R R))
      generalize put2 (wr) (w.heap.size) (.int .u64 S) (.slice (some ⟨w.heap.size + 1, 0, none⟩) R R) = W5 at c30 c31
      simp [results, Tryd.results8, go_sem, c30, c31]
/-- What Add keeps: the map in its box, the place of the answer, the rows. -/
structure AddW (w wr : World) (S : Int) (B b R : Nat) (L : Nat → Nat) (A : Nat → Option Addr) (G C : Nat → Nat) (Z : Nat → Nat → Bool) : Prop where
  since : Below w.heap.size w wr
  box : Blk wr w.heap.size 25 #[.int .u64 S, .slice (some ⟨b, 0, none⟩) R R]
  res : Blk wr (w.heap.size + 1) 25 #[.int .u64 0, .slice none 0 0]
  base : w.heap.size + 1 < B
  tab : TabB wr B b R R L A G C Z
theorem AddW.below {w wr u : World} {S : Int} {B b R : Nat} {L : Nat → Nat} {A : Nat → Option Addr} {G C : Nat → Nat} {Z : Nat → Nat → Bool} (h : AddW w wr S B b R L A G C Z) (s : Below wr.heap.size wr u) : AddW w u S B b R L A G C Z :=
  ⟨bel_trans h.since s, h.box.since s, h.res.since s, h.base, h.tab.since s⟩
theorem AddW.mp {w wr : World} {S : Int} {B b R : Nat} {L : Nat → Nat} {A : Nat → Option Addr} {G C : Nat → Nat} {Z : Nat → Nat → Bool} (h : AddW w wr S B b R L A G C Z) : MpAt wr (.agg #[.int .u64 S, .slice (some ⟨b, 0, none⟩) R R]) S R L Z := ⟨_, rfl, h.tab.rows (Nat.le_refl _)⟩
theorem AddW.congr {w wr : World} {S : Int} {B b R : Nat} {L : Nat → Nat} {A : Nat → Option Addr} {G C : Nat → Nat} {Z Y : Nat → Nat → Bool} (h : AddW w wr S B b R L A G C Z) (e : ∀ i j, i < R → j < L i → Z i j = Y i j) : AddW w wr S B b R L A G C Y :=
  ⟨h.since, h.box, h.res, h.base, h.tab.congr e⟩
theorem AddW.set {w wr : World} {S : Int} {B b R : Nat} {L : Nat → Nat} {A : Nat → Option Addr} {G C : Nat → Nat} {Z : Nat → Nat → Bool} (h : AddW w wr S B b R L A G C Z) {i : Nat} (hi : i < R) (hl : 0 < L i) (p : Nat) (x : Bool) :
    AddW w (wr.setCell ⟨G i, p, none⟩ (.bool x)) S B b R L A G C (fun r j => if r = i then (if j = p then x else Z r j) else Z r j) := by
  have g := ((h.tab.row i hi).2 hl).2.1
  have k := h.base
  exact ⟨h.since.setCell (p := ⟨G i, p, none⟩) (by show w.heap.size ≤ G i; omega) _, h.box.other (a := ⟨G i, p, none⟩) (by show w.heap.size ≠ G i; omega) _, h.res.other (a := ⟨G i, p, none⟩) (by show w.heap.size + 1 ≠ G i; omega) _, h.base, h.tab.set hi hl p x⟩
theorem addW_start {w u1 u2 : World} {S : Int} {v : Value} {b R : Nat} {L : Nat → Nat} {A : Nat → Option Addr} {G C : Nat → Nat} {Z : Nat → Nat → Bool} (b1 : Below w.heap.size w u1) (b2 : Below u1.heap.size u1 u2) (hX : Blk u1 w.heap.size 25 #[.int .u64 S, v]) (hR : Blk u1 (w.heap.size + 1) 25 #[.int .u64 0, .slice none 0 0]) (ht : TabB u2 u1.heap.size b R R L A G C Z) :
    AddW w (u2.setCell ⟨w.heap.size, 1, none⟩ (.slice (some ⟨b, 0, none⟩) R R)) S u1.heap.size b R L A G C Z := by
  have l := hR.lt
  exact ⟨(bel_trans b1 b2).setCell (p := ⟨w.heap.size, 1, none⟩) (Nat.le_refl _) _, (hX.since b2).set 1 _, (hR.since b2).other (a := ⟨w.heap.size, 1, none⟩) (by show w.heap.size + 1 ≠ w.heap.size; omega) _, l, ht.other (a := ⟨w.heap.size, 1, none⟩) (by show w.heap.size < u1.heap.size; omega) _⟩
set_option maxHeartbeats 3200000 in
theorem madd_bad (w : World) (x : Value) (S : Int) (R : Nat) (L : Nat → Nat) (Z : Nat → Nat → Bool) (s : ByteArray) (h : MpAt w x S R L Z) (hR : R ≤ 100) (hL : ∀ i, i < R → L i ≤ 1000) (r : ¬ RightM R L) :
    Calls Tryd.prog 15 #[x, .string s] w (GaveA w S R L Z) := by
  obtain ⟨v, rfl, hv⟩ := h
  have R1 : R ≤ 1000 := by omega
  have RR : Hid (¬ RightM R L) := r
  have HL : Hid (∀ i, i < R → L i ≤ 1000) := hL
  have CC : Hid (∀ w1, Below w.heap.size w w1 → Calls Tryd.prog 25 #[v] w1 (CopiedM w1 R L Z)) := fun w1 b1 => mcopied_any w1 v R L Z (hv.keep (keep_of_below b1)) hR hL
  clear r hL
  obtain ⟨A, cap, b, o, rfl, hc, hr⟩ := hv.read
  have BX : Hid (Below w.heap.size w ((w.alloc (.cells #[.int .u64 S, .slice A R cap] 25)).alloc (.cells #[.int .u64 0, .slice none 0 0] 25))) := (bel_alloc _ _).alloc (by simp) _
  have KX : Hid (Blk ((w.alloc (.cells #[.int .u64 S, .slice A R cap] 25)).alloc (.cells #[.int .u64 0, .slice none 0 0] 25)) w.heap.size 25 #[.int .u64 S, .slice A R cap]) := (Blk.new _ _ _).alloc _
  have KR : Hid (Blk ((w.alloc (.cells #[.int .u64 S, .slice A R cap] 25)).alloc (.cells #[.int .u64 0, .slice none 0 0] 25)) (w.heap.size + 1) 25 #[.int .u64 0, .slice none 0 0]) := by
    have e := Blk.new (w.alloc (.cells #[.int .u64 S, .slice A R cap] 25)) 25 #[.int .u64 0, .slice none 0 0]
    simp only [World.size_alloc] at e
    exact e
  clear hv hr
  go_enter Tryd.func15, Tryd.ntmps15
  go_wp2_with fail
  generalize (w.alloc (.cells #[.int .u64 S, .slice A R cap] 25)).alloc (.cells #[.int .u64 0, .slice none 0 0] 25) = u1 at BX KX KR ⊢
  have x2 : u1.cell? ⟨w.heap.size, 1, none⟩ = some (.slice A R cap) := KX.out.cell 1
  go_wp2_with fail
  refine (CC.out _ BX.out).mono ?_
  rintro e u2 ⟨bt, AA, G, C, rfl, ht, b2⟩
  have AI : Hid (AddW w (u2.setCell ⟨w.heap.size, 1, none⟩ (.slice (some ⟨bt, 0, none⟩) R R)) S u1.heap.size bt R L AA G C Z) := addW_start BX.out b2 KX.out KR.out ht
  have y2 : u2.cell? ⟨w.heap.size, 1, none⟩ = some (.slice A R cap) := (KX.out.since b2).cell 1
  have f2 : u2.frozen? ⟨w.heap.size, 1, none⟩ = false := (KX.out.since b2).frozen 1
  have CEQ : Hid (∀ u Y, AddW w u S u1.heap.size bt R L AA G C Y → u.cell? ⟨w.heap.size, 0, none⟩ = some (.int .u64 S) ∧ u.cell? ⟨w.heap.size, 1, none⟩ = some (.slice (some ⟨bt, 0, none⟩) R R)) := fun u Y h => ⟨h.box.cell 0, h.box.cell 1⟩
  clear b2 ht KX KR BX CC x2
  have a0 := (CEQ.out _ _ AI.out).1
  have a1 := (CEQ.out _ _ AI.out).2
  go_wp2_with fail
  clear y2 f2
  generalize u2.setCell ⟨w.heap.size, 1, none⟩ (.slice (some ⟨bt, 0, none⟩) R R) = u3 at AI a0 a1 ⊢
  refine (mright_no AI.out.mp R1 HL.out RR.out).mono ?_
  rintro e u4 ⟨rfl, b4⟩
  have A4 : Hid (AddW w u4 S u1.heap.size bt R L AA G C Z) := AI.out.below b4
  clear b4 a0 a1 AI
  have a0 := (CEQ.out _ _ A4.out).1
  have a1 := (CEQ.out _ _ A4.out).2
  have r0 : u4.cell? ⟨w.heap.size + 1, 0, none⟩ = some (.int .u64 0) := A4.out.res.cell 0
  have r2 : u4.cell? ⟨w.heap.size + 1, 1, none⟩ = some (.slice none 0 0) := A4.out.res.cell 1
  have z0 := A4.out.res.frozen 0
  have z1 := A4.out.res.frozen 1
  go_wp2_with fail
  refine bodyPost_ret (v := .agg #[.int .u64 S, .slice (some ⟨bt, 0, none⟩) R R]) ?_ rfl ?_
  rotate_left
  · exact ⟨_, rfl, fun u eu => ⟨_, rfl, rowsB_far2 A4.out.tab (Nat.le_refl _) A4.out.base (by have := A4.out.base; omega) eu⟩, put2_below A4.out.since (by omega) _ _⟩
  have c3 := put2_blk (t := 25) (A4.out.res) (.int .u64 S) (.slice (some ⟨bt, 0, none⟩) R R)
  have c30 := c3.cell 0
  have c31 := c3.cell 1
  change (results _ _).run _ (put2 (u4) (w.heap.size + 1) (.int .u64 S) (.slice (some ⟨bt, 0, none⟩) R R)) = .ok _ (put2 (u4) (w.heap.size + 1) (.int .u64 S) (.slice (some ⟨bt, 0, none⟩) R R))
  generalize put2 (u4) (w.heap.size + 1) (.int .u64 S) (.slice (some ⟨bt, 0, none⟩) R R) = W5 at c30 c31
  simp [results, Tryd.results15, go_sem, c30, c31]
set_option maxHeartbeats 3200000 in
theorem madd_ok (w : World) (x : Value) (S : Int) (R n : Nat) (Z : Nat → Nat → Bool) (s : ByteArray) (h : MpAt w x S R (fun _ => n) Z) (ok : OkM R n) (uS : U S) (hs : s.size ≤ 100000) (hT : TabAt 0 Lib.deBruijn64tab w) :
    Calls Tryd.prog 15 #[x, .string s] w (GaveA w S R (fun _ => n) (addM S R n Z s)) := by
  obtain ⟨v, rfl, hv⟩ := h
  have r1 := ok.1
  have r16 := ok.2.1
  have n1 := ok.2.2.1
  have n256 := ok.2.2.2
  have OK : Hid (OkM R n) := ok
  have HT : Hid (TabAt 0 Lib.deBruijn64tab w) := hT
  clear hT ok
  have CC : Hid (∀ w1, Below w.heap.size w w1 → Calls Tryd.prog 25 #[v] w1 (CopiedM w1 R (fun _ => n) Z)) := fun w1 b1 => mcopied_any w1 v R (fun _ => n) Z (hv.keep (keep_of_below b1)) (by omega) (fun i _ => by show n ≤ 1000; omega)
  obtain ⟨A, cap, b, o, rfl, hc, hr⟩ := hv.read
  have BX : Hid (Below w.heap.size w ((w.alloc (.cells #[.int .u64 S, .slice A R cap] 25)).alloc (.cells #[.int .u64 0, .slice none 0 0] 25))) := (bel_alloc _ _).alloc (by simp) _
  have KX : Hid (Blk ((w.alloc (.cells #[.int .u64 S, .slice A R cap] 25)).alloc (.cells #[.int .u64 0, .slice none 0 0] 25)) w.heap.size 25 #[.int .u64 S, .slice A R cap]) := (Blk.new _ _ _).alloc _
  have KR : Hid (Blk ((w.alloc (.cells #[.int .u64 S, .slice A R cap] 25)).alloc (.cells #[.int .u64 0, .slice none 0 0] 25)) (w.heap.size + 1) 25 #[.int .u64 0, .slice none 0 0]) := by
    have e := Blk.new (w.alloc (.cells #[.int .u64 S, .slice A R cap] 25)) 25 #[.int .u64 0, .slice none 0 0]
    simp only [World.size_alloc] at e
    exact e
  clear hv hr
  go_enter Tryd.func15, Tryd.ntmps15
  go_wp2_with fail
  generalize (w.alloc (.cells #[.int .u64 S, .slice A R cap] 25)).alloc (.cells #[.int .u64 0, .slice none 0 0] 25) = u1 at BX KX KR ⊢
  have x2 : u1.cell? ⟨w.heap.size, 1, none⟩ = some (.slice A R cap) := KX.out.cell 1
  go_wp2_with fail
  refine (CC.out _ BX.out).mono ?_
  rintro e u2 ⟨bt, AA, G, C, rfl, ht, b2⟩
  have AI : Hid (AddW w (u2.setCell ⟨w.heap.size, 1, none⟩ (.slice (some ⟨bt, 0, none⟩) R R)) S u1.heap.size bt R (fun _ => n) AA G C Z) := addW_start BX.out b2 KX.out KR.out ht
  have y2 : u2.cell? ⟨w.heap.size, 1, none⟩ = some (.slice A R cap) := (KX.out.since b2).cell 1
  have f2 : u2.frozen? ⟨w.heap.size, 1, none⟩ = false := (KX.out.since b2).frozen 1
  have CEQ : Hid (∀ u Y, AddW w u S u1.heap.size bt R (fun _ => n) AA G C Y → u.cell? ⟨w.heap.size, 0, none⟩ = some (.int .u64 S) ∧ u.cell? ⟨w.heap.size, 1, none⟩ = some (.slice (some ⟨bt, 0, none⟩) R R)) := fun u Y h => ⟨h.box.cell 0, h.box.cell 1⟩
  clear b2 ht KX KR BX CC x2
  have a0 := (CEQ.out _ _ AI.out).1
  have a1 := (CEQ.out _ _ AI.out).2
  go_wp2_with fail
  clear y2 f2
  generalize u2.setCell ⟨w.heap.size, 1, none⟩ (.slice (some ⟨bt, 0, none⟩) R R) = u3 at AI a0 a1 ⊢
  refine (mright_yes AI.out.mp OK.out.right).mono ?_
  rintro e u4 ⟨rfl, b4⟩
  have A4 : Hid (AddW w u4 S u1.heap.size bt R (fun _ => n) AA G C Z) := AI.out.below b4
  clear b4 a0 a1 AI
  have a0 := (CEQ.out _ _ A4.out).1
  have a1 := (CEQ.out _ _ A4.out).2
  obtain ⟨P, hP⟩ : ∃ P, P = lineN S s R := ⟨_, rfl⟩
  obtain ⟨Q, hQ⟩ : ∃ Q, Q = bitN S s n := ⟨_, rfl⟩
  have pl : P < R := by rw [hP]; exact lineN_lt S s R r1
  have ql : Q < n := by rw [hQ]; exact bitN_lt S s n n1
  have PC : Hid (Calls Tryd.prog 16 #[.agg #[.int .u64 S, .slice (some ⟨bt, 0, none⟩) R R], .string s] u4 fun e w' => e = .returned (.tuple #[.int .i64 (P : Int), .int .i64 (Q : Int)]) ∧ Below u4.heap.size u4 w') := by
    rw [hP, hQ]
    exact mplace_ok u4 _ S R n Z s A4.out.mp OK.out uS hs (tabAt_keep HT.out (keep_of_below A4.out.since))
  have HPQ : Hid (P = lineN S s R ∧ Q = bitN S s n) := ⟨hP, hQ⟩
  clear hP hQ HT
  go_wp2_with fail
  refine PC.out.mono ?_
  rintro e u5 ⟨rfl, b5⟩
  have A5 : Hid (AddW w u5 S u1.heap.size bt R (fun _ => n) AA G C Z) := A4.out.below b5
  clear b5 a0 a1 A4 PC
  have a0 := (CEQ.out _ _ A5.out).1
  have a1 := (CEQ.out _ _ A5.out).2
  have ck := A5.out.tab.cell pl pl
  obtain ⟨q1, q2, q3, q4⟩ := (A5.out.tab.row P pl).2 (by show 0 < n; omega)
  rw [q1] at ck
  have cp := q4.cell ql
  have fp := q4.frozen Q
  have N6 : Hid (AddW w (u5.setCell ⟨G P, Q, none⟩ (.bool true)) S u1.heap.size bt R (fun _ => n) AA G C (addM S R n Z s)) := (A5.out.set pl (by show 0 < n; omega) Q true).congr fun i j hi hj => by
    obtain ⟨e1, e2⟩ := HPQ.out
    subst e1 e2
    unfold addM
    by_cases c1 : i = lineN S s R
    · by_cases c2 : j = bitN S s n
      · simp [c1, c2]
      · simp [c1, c2]
    · simp [c1]
  have p0 : (0 : Int) ≤ (P : Int) := by omega
  have p1 : (P : Int) < (R : Int) := by omega
  have q0 : (0 : Int) ≤ (Q : Int) := by omega
  have qb : (Q : Int) < (n : Int) := by omega
  generalize hGk : G P = g at ck cp fp N6
  generalize C P = cg at ck
  clear q1 q2 q3 q4 hGk A5
  have b0 := (CEQ.out _ _ N6.out).1
  have b1 := (CEQ.out _ _ N6.out).2
  have r0 : (u5.setCell ⟨g, Q, none⟩ (.bool true)).cell? ⟨w.heap.size + 1, 0, none⟩ = some (.int .u64 0) := N6.out.res.cell 0
  have r2 : (u5.setCell ⟨g, Q, none⟩ (.bool true)).cell? ⟨w.heap.size + 1, 1, none⟩ = some (.slice none 0 0) := N6.out.res.cell 1
  have z0 := N6.out.res.frozen 0
  have z1 := N6.out.res.frozen 1
  go_wp2_with fail
  clear a0 a1 ck cp fp
  generalize u5.setCell ⟨g, Q, none⟩ (.bool true) = u6 at N6 b0 b1 r0 r2 z0 z1 ⊢
  refine bodyPost_ret (v := .agg #[.int .u64 S, .slice (some ⟨bt, 0, none⟩) R R]) ?_ rfl ?_
  rotate_left
  · exact ⟨_, rfl, fun u eu => ⟨_, rfl, rowsB_far2 N6.out.tab (Nat.le_refl _) N6.out.base (by have := N6.out.base; omega) eu⟩, put2_below N6.out.since (by omega) _ _⟩
  have c3 := put2_blk (t := 25) (N6.out.res) (.int .u64 S) (.slice (some ⟨bt, 0, none⟩) R R)
  have c30 := c3.cell 0
  have c31 := c3.cell 1
  change (results _ _).run _ (put2 (u6) (w.heap.size + 1) (.int .u64 S) (.slice (some ⟨bt, 0, none⟩) R R)) = .ok _ (put2 (u6) (w.heap.size + 1) (.int .u64 S) (.slice (some ⟨bt, 0, none⟩) R R))
  generalize put2 (u6) (w.heap.size + 1) (.int .u64 S) (.slice (some ⟨bt, 0, none⟩) R R) = W5 at c30 c31
  simp [results, Tryd.results15, go_sem, c30, c31]
end Go.Proofs.YtkfhofgmjhnknaaDoor
