
/-
  The filter of the document (layer 10): what its functions answer.
-/
import Derived.Test.YtbnjicbmainopaaBlmRow
import Derived.Test.YtbnjicbmainopaaHashWords
import Derived.Deep.Cut
import Derived.Deep.CutRange
namespace Go.Proofs.Ytbnjicbmainopaa
open Go.RowKit Fm Bl L2 Go.Deep
set_option linter.unusedVariables false

set_option maxHeartbeats 1600000 in
theorem rright_any (w : World) (x : Value) (S H : Int) (n : Nat) (B : Nat → Bool) (h : FilterAt w x S H n B) :
    Calls Try.prog 18 #[x] w fun e w' => e = .returned (.bool (fitsB n H)) ∧ Below w.heap.size w w' := by
  obtain ⟨v, rfl, A, cap, b, o, rfl, hx1, hx2, hx3⟩ := h
  clear hx1 hx2 hx3
  have BB : Hid (Below w.heap.size w (w.alloc (.cells #[.int .u64 S, .int .i64 H, .slice A n cap] 30))) := bel_alloc _ _
  by_cases e1 : 0 < H
  rotate_left
  · have E : Hid (fitsB n H = false) := decide_eq_false (by omega)
    go_enter Try.func18, Try.ntmps18
    go_wp2
    go_ret
    exact ⟨by first | (rw [E.out]; simp; done) | (rw [E.out]; simp; omega) | (rw [E.out]; rfl) | rw [E.out], BB.out⟩
  by_cases e2 : H < 8
  rotate_left
  · have E : Hid (fitsB n H = false) := decide_eq_false (by omega)
    go_enter Try.func18, Try.ntmps18
    go_wp2
    go_ret
    exact ⟨by first | (rw [E.out]; simp; done) | (rw [E.out]; simp; omega) | (rw [E.out]; rfl) | rw [E.out], BB.out⟩
  by_cases e3 : 0 < n
  rotate_left
  · have E : Hid (fitsB n H = false) := decide_eq_false (by omega)
    go_enter Try.func18, Try.ntmps18
    go_wp2
    go_ret
    exact ⟨by first | (rw [E.out]; simp; done) | (rw [E.out]; simp; omega) | (rw [E.out]; rfl) | rw [E.out], BB.out⟩
  by_cases e4 : n < 257
  rotate_left
  · have E : Hid (fitsB n H = false) := decide_eq_false (by omega)
    go_enter Try.func18, Try.ntmps18
    go_wp2
    go_ret
    exact ⟨by first | (rw [E.out]; simp; done) | (rw [E.out]; simp; omega) | (rw [E.out]; rfl) | rw [E.out], BB.out⟩
  have E : Hid (fitsB n H = true) := decide_eq_true (by omega)
  go_enter Try.func18, Try.ntmps18
  go_wp2
  go_ret
  exact ⟨by first | (rw [E.out]; simp; done) | (rw [E.out]; simp; omega) | (rw [E.out]; rfl) | rw [E.out], BB.out⟩
set_option maxHeartbeats 800000 in
theorem rnew_ok (S : Int) (n : Nat) (h : Int) (w : World) (hf : fitsB n h = true) :
    Calls Try.prog 13 #[.int .u64 S, .int .i64 (n : Int), .int .i64 h] w (Gave w S h n (fun _ => false)) := by
  have hR := (fitsB_iff _ _).1 hf
  have n1 : n ≤ 256 := by omega
  clear hR
  obtain ⟨W, hW⟩ : ∃ W, W = w.alloc (.cells #[.int .u64 0, .int .i64 0, .slice none 0 0] 30) := ⟨_, rfl⟩
  have z : W.heap.size = w.heap.size + 1 := by rw [hW]; simp
  have hmk : (Instr.makeSlice 23 (.int .i64 (n : Int)) (.int .i64 (n : Int))).run Try.prog (w.alloc (.cells #[.int .u64 0, .int .i64 0, .slice none 0 0] 30)) = .ok (.slice (some ⟨w.heap.size + 1, 0, none⟩) n n) ((w.alloc (.cells #[.int .u64 0, .int .i64 0, .slice none 0 0] 30)).alloc (.cells (madeCells #[.bool false] n) 4)) := by
    have e := run_make_full (P := Try.prog) 23 4 (.bool false) 1 Try.underlying23 info4 rfl .i64 .i64 n (by omega) (by omega) W
    rw [z, hW] at e
    exact e
  have K1 : Hid (Blk ((w.alloc (.cells #[.int .u64 0, .int .i64 0, .slice none 0 0] 30)).alloc (.cells (madeCells #[.bool false] n) 4)) w.heap.size 30 #[.int .u64 0, .int .i64 0, .slice none 0 0]) := (Blk.new _ _ _).alloc _
  have B1 : Hid (Below w.heap.size w ((w.alloc (.cells #[.int .u64 0, .int .i64 0, .slice none 0 0] 30)).alloc (.cells (madeCells #[.bool false] n) 4))) := (bel_alloc _ _).alloc (by simp) _
  have R1 : Hid (((w.alloc (.cells #[.int .u64 0, .int .i64 0, .slice none 0 0] 30)).alloc (.cells (madeCells #[.bool false] n) 4)).rowIs (w.heap.size + 1) 4 n (fun _ => .bool false)) := by
    have e := World.rowIs_made W (.bool false) n 4
    rw [z, hW] at e
    exact e
  clear hW z W
  obtain ⟨W, hW⟩ : ∃ W, W = (w.alloc (.cells #[.int .u64 0, .int .i64 0, .slice none 0 0] 30)).alloc (.cells (madeCells #[.bool false] n) 4) := ⟨_, rfl⟩
  rw [← hW] at hmk K1 B1 R1
  have r0 : W.cell? ⟨w.heap.size, 0, none⟩ = some (.int .u64 0) := K1.out.cell 0
  have r1 : W.cell? ⟨w.heap.size, 1, none⟩ = some (.int .i64 0) := K1.out.cell 1
  have r2 : W.cell? ⟨w.heap.size, 2, none⟩ = some (.slice none 0 0) := K1.out.cell 2
  have z0 := K1.out.frozen 0
  have z1 := K1.out.frozen 1
  have z2 := K1.out.frozen 2
  clear hW
  go_enter Try.func13, Try.ntmps13
  go_wp2_with fail
  have FA : FilterAt (put3 W w.heap.size (.int .u64 S) (.int .i64 h) (.slice (some ⟨w.heap.size + 1, 0, none⟩) n n)) (.agg #[.int .u64 S, .int .i64 h, .slice (some ⟨w.heap.size + 1, 0, none⟩) n n]) S h n (fun _ => false) := by
    refine ⟨_, rfl, _, n, w.heap.size + 1, 0, rfl, Nat.le_refl _, fun _ => rfl, fun i hi => ?_⟩
    obtain ⟨c, q1, q2, q3⟩ := R1.out
    have q4 : Blk W (w.heap.size + 1) 4 c := q1
    rw [Nat.zero_add, (put3_other q4 (by omega) _ _ _).cell i]
    exact q3 i hi
  refine bodyPost_ret (v := .agg #[.int .u64 S, .int .i64 h, .slice (some ⟨w.heap.size + 1, 0, none⟩) n n]) ?_ rfl ?_
  rotate_left
  · exact ⟨_, rfl, FA, put3_below B1.out (Nat.le_refl _) _ _ _⟩
  have c3 := put3_blk (t := 30) (K1.out) (.int .u64 S) (.int .i64 h) (.slice (some ⟨w.heap.size + 1, 0, none⟩) n n)
  have c30 := c3.cell 0
  have c31 := c3.cell 1
  have c32 := c3.cell 2
  change (results _ _).run _ (put3 (W) (w.heap.size) (.int .u64 S) (.int .i64 h) (.slice (some ⟨w.heap.size + 1, 0, none⟩) n n)) = .ok _ (put3 (W) (w.heap.size) (.int .u64 S) (.int .i64 h) (.slice (some ⟨w.heap.size + 1, 0, none⟩) n n))
  generalize put3 (W) (w.heap.size) (.int .u64 S) (.int .i64 h) (.slice (some ⟨w.heap.size + 1, 0, none⟩) n n) = W5 at c30 c31 c32
  simp [results, Try.results13, go_sem, c30, c31, c32]
/-- What the loop of Equal keeps. -/
structure EqIn (w wr : World) (cs ds : Array Value) : Prop where
  since : Below w.heap.size w wr
  x : Blk wr w.heap.size 30 cs
  y : Blk wr (w.heap.size + 1) 30 ds
theorem EqIn.drewN {w wr : World} {cs ds : Array Value} (h : EqIn w wr cs ds) (n : Nat) : EqIn w (wr.drewN n) cs ds := ⟨below_drewN h.since n, h.x, h.y⟩
set_option maxHeartbeats 3200000 in
theorem requal_any (w : World) (x y : Value) (S H S' H' : Int) (n m : Nat) (B C : Nat → Bool) (h : FilterAt w x S H n B) (k : FilterAt w y S' H' m C) (hn : n ≤ 100000) :
    Calls Try.prog 10 #[x, y] w (TellsB w (S = S' ∧ H = H' ∧ n = m ∧ ∀ i, i < n → B i = C i)) := by
  obtain ⟨v, rfl, A, cap, b, o, rfl, hx1, a3, a4⟩ := h
  obtain ⟨v', rfl, A', cap', b', o', rfl, hx2, c3, c4⟩ := k
  have Q3 : Hid (0 < n → A = some ⟨b, o, none⟩) := a3
  have Q4 : Hid (∀ i, i < n → w.cell? ⟨b, o + i, none⟩ = some (.bool (B i))) := a4
  have P3 : Hid (0 < m → A' = some ⟨b', o', none⟩) := c3
  have P4 : Hid (∀ i, i < m → w.cell? ⟨b', o' + i, none⟩ = some (.bool (C i))) := c4
  clear hx1 hx2 a3 a4 c3 c4
  have BB : Hid (Below w.heap.size w ((w.alloc (.cells #[.int .u64 S, .int .i64 H, .slice A n cap] 30)).alloc (.cells #[.int .u64 S', .int .i64 H', .slice A' m cap'] 30))) := (bel_alloc _ _).alloc (by simp) _
  by_cases c1 : S = S'
  rotate_left
  · have q : (S != S') = true := by simp; omega
    have E : Hid (¬ (S = S')) := c1
    clear c1
    go_enter Try.func10, Try.ntmps10
    go_wp2_with fail
    go_ret
    exact ⟨false, rfl, ⟨fun h => (by cases h), fun h => absurd h.1 E.out⟩, BB.out⟩
  subst c1
  by_cases c1 : H = H'
  rotate_left
  · have q : (H != H') = true := by simp; omega
    have E : Hid (¬ (H = H')) := c1
    clear c1
    go_enter Try.func10, Try.ntmps10
    go_wp2_with fail
    go_ret
    exact ⟨false, rfl, ⟨fun h => (by cases h), fun h => absurd h.2.1 E.out⟩, BB.out⟩
  subst c1
  by_cases c1 : n = m
  rotate_left
  · have q : ((n : Int) != (m : Int)) = true := by simp; omega
    have E : Hid (¬ (n = m)) := c1
    clear c1
    go_enter Try.func10, Try.ntmps10
    go_wp2_with fail
    go_ret
    exact ⟨false, rfl, ⟨fun h => (by cases h), fun h => absurd h.2.2.1 E.out⟩, BB.out⟩
  subst c1
  have EI : Hid (EqIn w ((w.alloc (.cells #[.int .u64 S, .int .i64 H, .slice A n cap] 30)).alloc (.cells #[.int .u64 S, .int .i64 H, .slice A' n cap'] 30)) #[.int .u64 S, .int .i64 H, .slice A n cap] #[.int .u64 S, .int .i64 H, .slice A' n cap']) := by
    have e := Blk.new (w.alloc (.cells #[.int .u64 S, .int .i64 H, .slice A n cap] 30)) 30 #[.int .u64 S, .int .i64 H, .slice A' n cap']
    simp only [World.size_alloc] at e
    exact ⟨BB.out, (Blk.new _ _ _).alloc _, e⟩
  go_enter Try.func10, Try.ntmps10
  go_wp2_with fail
  generalize (w.alloc (.cells #[.int .u64 S, .int .i64 H, .slice A n cap] 30)).alloc (.cells #[.int .u64 S, .int .i64 H, .slice A' n cap'] 30) = u1 at EI ⊢
  go_loopg [5] n (fun gk i wr => ∃ k : Nat, (gk = n - k ∧ k ≤ n ∧ (∀ j, j < k → B j = C j) ∧ EqIn w wr #[.int .u64 S, .int .i64 H, .slice A n cap] #[.int .u64 S, .int .i64 H, .slice A' n cap']) ∧ i = .int .i64 (k : Int))
  case atStart => exact ⟨0, ⟨rfl, by omega, fun j hj => by omega, EI.out⟩, rfl⟩
  case round =>
    obtain ⟨k, ⟨hg, hk, ha, hE⟩, rfl⟩ := hrel
    have HA : Hid (gk = n - k ∧ ∀ j, j < k → B j = C j) := ⟨hg, ha⟩
    have HE : Hid (EqIn w wr #[.int .u64 S, .int .i64 H, .slice A n cap] #[.int .u64 S, .int .i64 H, .slice A' n cap']) := hE
    have x2 : wr.cell? ⟨w.heap.size, 2, none⟩ = some (.slice A n cap) := hE.x.cell 2
    have y2 : wr.cell? ⟨w.heap.size + 1, 2, none⟩ = some (.slice A' n cap') := hE.y.cell 2
    clear ha hg hE
    by_cases hlt : k < n
    · obtain rfl := Q3.out (by omega)
      obtain rfl := P3.out (by omega)
      have c1 := keep_of_below HE.out.since _ _ (Q4.out k hlt)
      have c2 := keep_of_below HE.out.since _ _ (P4.out k hlt)
      have b1 : (k : Int) < (n : Int) := by omega
      by_cases hB : B k = C k
      · have HB : Hid (B k = C k) := hB
        rw [← hB] at c2
        clear hB
        generalize hbb : B k = bb at c1 c2
        clear hbb
        have q : (bb != bb) = false := by cases bb <;> rfl
        go_wp2_with fail
        go_quiet (fail)
        go_wp2_with fail
        go_roundg (n - (k + 1))
        case measure => have := HA.out.1; omega
        case rel =>
          refine ⟨k + 1, ⟨rfl, by omega, fun j hj => ?_, HE.out.drewN _⟩, by go_num⟩
          by_cases e : j = k
          · rw [e]; exact HB.out
          · exact HA.out.2 j (by omega)
      · have HB : Hid (¬ B k = C k) := hB
        have q : (B k != C k) = true := by simpa using hB
        clear hB
        generalize hbb : B k = bb at c1 q
        generalize hcc : C k = cc at c2 q
        clear hbb hcc
        cases bb <;> cases cc <;> simp at q
        all_goals go_wp2_with fail
        all_goals go_quiet (fail)
        all_goals go_wp2_with fail
        all_goals go_ret
        all_goals first | exact ⟨false, rfl, ⟨fun h => (by cases h), fun h => absurd (h.2.2.2 k hlt) HB.out⟩, (HE.out.drewN _).since⟩ | exact ⟨false, rfl, ⟨fun h => (by cases h), fun h => absurd (h k hlt) HB.out⟩, (HE.out.drewN _).since⟩
    · have e : k = n := by omega
      have HN : Hid (k = n) := e
      have b1 : ¬ (k : Int) < (n : Int) := by omega
      clear e hlt hk
      go_wp2_with fail
      go_ret
      first
        | exact ⟨true, rfl, ⟨fun _ => ⟨rfl, rfl, rfl, fun i hi => HA.out.2 i (by rw [HN.out]; exact hi)⟩, fun _ => rfl⟩, HE.out.since⟩
        | exact ⟨true, rfl, ⟨fun _ i hi => HA.out.2 i (by rw [HN.out]; exact hi), fun _ => rfl⟩, HE.out.since⟩
theorem RowB.since {w w' : World} {g n : Nat} {B : Nat → Bool} (h : RowB w g n B) (b : Below w.heap.size w w') : RowB w' g n B := by
  obtain ⟨cur, h1, h2⟩ := h
  exact ⟨cur, h1.since b, h2⟩
theorem RowB.bools {w : World} {g n cap : Nat} {B : Nat → Bool} (h : RowB w g n B) (hc : n ≤ cap) : BoolsAt w (.slice (some ⟨g, 0, none⟩) n cap) n B := ⟨_, cap, g, 0, rfl, hc, fun _ => rfl, fun i hi => by rw [Nat.zero_add]; exact h.cell hi⟩
/-- Bits that are told. -/
def GaveBits (w : World) (n : Nat) (C : Nat → Bool) (e : Ending) (w' : World) : Prop := ∃ v, e = .returned v ∧ BoolsAt w' v n C ∧ Below w.heap.size w w'
/-- What the loop that marks the places keeps. -/
structure AtIn (w wr : World) (cs : Array Value) (g n : Nat) (B : Nat → Bool) : Prop where
  since : Below w.heap.size w wr
  box : Blk wr w.heap.size 30 cs
  lt : w.heap.size < g
  row : RowB wr g n B
theorem AtIn.set {w wr : World} {cs : Array Value} {g n : Nat} {B : Nat → Bool} (h : AtIn w wr cs g n B) (p : Nat) (b : Bool) : AtIn w (wr.setCell ⟨g, p, none⟩ (.bool b)) cs g n (fun i => if i = p then b else B i) :=
  ⟨h.since.setCell (p := ⟨g, p, none⟩) (Nat.le_of_lt h.lt) _, h.box.other (a := ⟨g, p, none⟩) (fun e => by have := h.lt; have e2 : w.heap.size = g := e; omega) _, h.lt, h.row.set p b⟩
theorem AtIn.below {w wr w' : World} {cs : Array Value} {g n : Nat} {B : Nat → Bool} (h : AtIn w wr cs g n B) (b : Below wr.heap.size wr w') : AtIn w w' cs g n B := ⟨bel_trans h.since b, h.box.since b, h.lt, h.row.since b⟩
theorem AtIn.drew {w wr : World} {cs : Array Value} {g n : Nat} {B : Nat → Bool} (h : AtIn w wr cs g n B) : AtIn w wr.drew cs g n B := ⟨h.since.drew, h.box, h.lt, h.row⟩
set_option maxHeartbeats 3200000 in
theorem rat_any (w : World) (x : Value) (S H : Int) (n : Nat) (B : Nat → Bool) (s : ByteArray) (h : FilterAt w x S H n B) (uS : U S) (hs : s.size ≤ 100000) (hf : fitsB n H = true) :
    Calls Try.prog 35 #[x, .string s] w (GaveBits w n (setN (fun _ => false) (placeN S s n) (kN n H))) := by
  obtain ⟨v, rfl, A, cap, b, o, rfl, hx1, hx2, hx3⟩ := h
  clear hx1 hx2 hx3
  have hR := (fitsB_iff _ _).1 hf
  obtain ⟨N, rfl⟩ : ∃ N : Nat, H = N := ⟨H.toNat, by omega⟩
  have E : Hid (kN n (N : Int) = N) := by show kN n (N : Int) = N; rw [kN_right hf]; omega
  have n1 : 1 ≤ n := by omega
  have n2 : n ≤ 256 := by omega
  have N1 : N ≤ 7 := by omega
  clear hR hf
  obtain ⟨W, hW⟩ : ∃ W, W = w.alloc (.cells #[.int .u64 S, .int .i64 (N : Int), .slice A n cap] 30) := ⟨_, rfl⟩
  have z : W.heap.size = w.heap.size + 1 := by rw [hW]; simp
  have hmk : (Instr.makeSlice 23 (.int .i64 (n : Int)) (.int .i64 (n : Int))).run Try.prog (w.alloc (.cells #[.int .u64 S, .int .i64 (N : Int), .slice A n cap] 30)) = .ok (.slice (some ⟨w.heap.size + 1, 0, none⟩) n n) ((w.alloc (.cells #[.int .u64 S, .int .i64 (N : Int), .slice A n cap] 30)).alloc (.cells (madeCells #[.bool false] n) 4)) := by
    have e := run_make_full (P := Try.prog) 23 4 (.bool false) 1 Try.underlying23 info4 rfl .i64 .i64 n (by omega) (by omega) W
    rw [z, hW] at e
    exact e
  have K0 : Hid (AtIn w ((w.alloc (.cells #[.int .u64 S, .int .i64 (N : Int), .slice A n cap] 30)).alloc (.cells (madeCells #[.bool false] n) 4)) #[.int .u64 S, .int .i64 (N : Int), .slice A n cap] (w.heap.size + 1) n (setN (fun _ => false) (placeN S s n) 0)) := by
    have e := World.rowIs_made W (.bool false) n 4
    rw [z, hW] at e
    obtain ⟨c, q1, q2, q3⟩ := e
    exact ⟨(bel_alloc _ _).alloc (by simp) _, (Blk.new _ _ _).alloc _, by omega, c, q1, q3⟩
  clear hW z W
  go_enter Try.func35, Try.ntmps35
  go_wp2_with fail
  clear hmk
  generalize (w.alloc (.cells #[.int .u64 S, .int .i64 (N : Int), .slice A n cap] 30)).alloc (.cells (madeCells #[.bool false] n) 4) = u1 at K0 ⊢
  go_loopg [6] N (fun gk i wr => ∃ k : Nat, (gk = N - k ∧ k ≤ N ∧ AtIn w wr #[.int .u64 S, .int .i64 (N : Int), .slice A n cap] (w.heap.size + 1) n (setN (fun _ => false) (placeN S s n) k)) ∧ i = .int .i64 (k : Int))
  case atStart => exact ⟨0, ⟨rfl, by omega, K0.out⟩, rfl⟩
  case round =>
    clear K0
    obtain ⟨k, ⟨hg, hk, hA⟩, rfl⟩ := hrel
    have HK : Hid (gk = N - k ∧ AtIn w wr #[.int .u64 S, .int .i64 (N : Int), .slice A n cap] (w.heap.size + 1) n (setN (fun _ => false) (placeN S s n) k)) := ⟨hg, hA⟩
    have x0 : wr.cell? ⟨w.heap.size, 0, none⟩ = some (.int .u64 S) := hA.box.cell 0
    have x1 : wr.cell? ⟨w.heap.size, 1, none⟩ = some (.int .i64 (N : Int)) := hA.box.cell 1
    have x2 : wr.cell? ⟨w.heap.size, 2, none⟩ = some (.slice A n cap) := hA.box.cell 2
    by_cases hlt : k < N
    · have b0 : (0 : Int) ≤ (k : Int) := by omega
      have b1 : (k : Int) < (N : Int) := by omega
      have ur := rowF_U S k
      obtain ⟨P, hP⟩ : ∃ P, P = placeN S s n k := ⟨_, rfl⟩
      have pl : P < n := by rw [hP]; exact placeN_lt S s n k n1
      have pb : (P : Int) < (n : Int) := by omega
      have HP : Hid (cellF (rowF S k) s n = (P : Int)) := by rw [hP]; exact placeN_eq S s n k n1
      have HP2 : Hid (P = placeN S s n k) := hP
      have TC : Hid (∀ w1, Calls Try.prog 20 #[.int .u64 (rowF S k), .string s, .int .i64 (n : Int)] w1 fun e w' => e = .returned (.int .i64 (P : Int)) ∧ Below w1.heap.size w1 w') := fun w1 => by
        rw [← HP.out]
        exact rcell_any _ s n w1 ur hs n1 (by omega)
      clear hP hg hA
      generalize hbit : setN (fun _ => false) (placeN S s n) k P = bit
      have HB : Hid (setN (fun _ => false) (placeN S s n) k P = bit) := hbit
      clear hbit
      go_wp2_with fail
      go_region_with (first | (go_at_call 21; refine (rrow_any S k _ uS (by omega)).mono ?_; rintro e w'' ⟨rfl, rfl⟩) | (go_at_call 20; refine (TC.out _).mono ?_; rintro e w5 ⟨rfl, cb5⟩; have AI5 : Hid (AtIn w w5 #[.int .u64 S, .int .i64 (N : Int), .slice A n cap] (w.heap.size + 1) n (setN (fun _ => false) (placeN S s n) k)) := HK.out.2.drew.below cb5; have cc5 : w5.cell? ⟨w.heap.size + 1, P, none⟩ = some (.bool bit) := (by rw [← HB.out]; exact AI5.out.row.cell pl); have cf5 : w5.frozen? ⟨w.heap.size + 1, P, none⟩ = false := AI5.out.row.frozen P; clear cb5))
      all_goals go_wp2_with fail
      all_goals go_roundg (N - (k + 1))
      all_goals first | (have := HK.out.1; omega) | exact ⟨k + 1, ⟨rfl, by omega, by have e := AI5.out.set P true; rw [HP2.out] at e ⊢; exact e⟩, by go_num⟩
    · have e : k = N := by omega
      have HE : Hid (k = N) := e
      have b1 : ¬ (k : Int) < (N : Int) := by omega
      clear e hlt hg hA hk
      go_wp2_with fail
      go_ret
      refine ⟨_, rfl, ?_, HK.out.2.since⟩
      rw [E.out, ← HE.out]
      exact HK.out.2.row.bools (Nat.le_refl _)
set_option maxHeartbeats 1600000 in
theorem rhas_any (w : World) (x : Value) (S H : Int) (n : Nat) (B : Nat → Bool) (s : ByteArray) (h : FilterAt w x S H n B) (uS : U S) (hs : s.size ≤ 100000) (hf : fitsB n H = true) :
    Calls Try.prog 23 #[x, .string s] w (TellsB w (HasN B (placeN S s n) (kN n H))) := by
  obtain ⟨v, rfl, hb⟩ := h
  have AC : Hid (∀ w1, Below w.heap.size w w1 → Calls Try.prog 35 #[.agg #[.int .u64 S, .int .i64 H, v], .string s] w1 (GaveBits w1 n (setN (fun _ => false) (placeN S s n) (kN n H)))) := fun w1 b1 => rat_any w1 _ S H n B s ⟨v, rfl, hb.keep (keep_of_below b1)⟩ uS hs hf
  obtain ⟨A, cap, b, o, rfl, hx1, q3, q4⟩ := hb
  have hR := (fitsB_iff _ _).1 hf
  have n1 : 1 ≤ n := by omega
  have n2 : n ≤ 256 := by omega
  obtain rfl := q3 (by omega)
  have Q4 : Hid (∀ i, i < n → w.cell? ⟨b, o + i, none⟩ = some (.bool (B i))) := q4
  clear hx1 q3 q4 hR
  have PN : Hid (∀ i, placeN S s n i < n) := fun i => placeN_lt S s n i n1
  obtain ⟨O, hO⟩ : ∃ O, O = setN (fun _ => false) (placeN S s n) (kN n H) := ⟨_, rfl⟩
  rw [← hO] at AC
  have HO : Hid (∀ q, O q = true ↔ ∃ i, i < kN n H ∧ placeN S s n i = q) := fun q => by rw [hO, setN_true]; simp
  clear hO hf
  have BX : Hid (Below w.heap.size w (w.alloc (.cells #[.int .u64 S, .int .i64 H, .slice (some ⟨b, o, none⟩) n cap] 30))) := bel_alloc _ _
  have KX : Hid (Blk (w.alloc (.cells #[.int .u64 S, .int .i64 H, .slice (some ⟨b, o, none⟩) n cap] 30)) w.heap.size 30 #[.int .u64 S, .int .i64 H, .slice (some ⟨b, o, none⟩) n cap]) := Blk.new _ _ _
  go_enter Try.func23, Try.ntmps23
  go_wp2_with fail
  refine (AC.out _ BX.out).mono ?_
  rintro e u1 ⟨vo, rfl, hv, b1⟩
  obtain ⟨A', cap', b', o', rfl, hx1, p3, p4⟩ := hv
  obtain rfl := p3 (by omega)
  have P4 : Hid (∀ i, i < n → u1.cell? ⟨b', o' + i, none⟩ = some (.bool (O i))) := p4
  have B1 : Hid (Below w.heap.size w u1) := bel_trans BX.out b1
  have x2 : u1.cell? ⟨w.heap.size, 2, none⟩ = some (.slice (some ⟨b, o, none⟩) n cap) := (KX.out.since b1).cell 2
  clear hx1 p3 p4 b1 AC KX BX
  go_wp2_with fail
  go_loop [6] (fun i => ∃ k : Nat, (k ≤ n ∧ ∀ j, j < k → O j = true → B j = true) ∧ i = .int .i64 (k : Int)) (fun i => n - (intOf i).toNat)
  case atStart => exact ⟨0, ⟨by omega, fun j hj => by omega⟩, rfl⟩
  case round =>
    obtain ⟨k, ⟨hk, ha⟩, rfl⟩ := hrel
    have HA : Hid (∀ j, j < k → O j = true → B j = true) := ha
    clear ha
    by_cases hlt : k < n
    · have c1 := keep_of_below B1.out _ _ (Q4.out k hlt)
      have c2 := P4.out k hlt
      have hb1 : (k : Int) < (n : Int) := by omega
      by_cases hB : B k = true
      · rw [hB] at c1
        have HB : Hid (B k = true) := hB
        clear hB c2
        go_wp2_with fail
        go_round
        case rel =>
          refine ⟨k + 1, ⟨by omega, fun j hj ho => ?_⟩, by go_num⟩
          by_cases e : j = k
          · rw [e]; exact HB.out
          · exact HA.out j (by omega) ho
        case measure => simp [intOf]; omega
      have hB' : B k = false := by simpa using hB
      have HB : Hid (B k = false) := hB'
      rw [hB'] at c1
      clear hB hB'
      by_cases hO : O k = true
      · rw [hO] at c2
        have HOk : Hid (O k = true) := hO
        clear hO
        go_wp2_with fail
        go_ret
        refine ⟨false, rfl, ⟨fun h => (by cases h), fun h => ?_⟩, B1.out⟩
        obtain ⟨i, hi, e⟩ := (HO.out k).1 HOk.out
        have := h i hi
        rw [e, HB.out] at this
        cases this
      · have hO' : O k = false := by simpa using hO
        rw [hO'] at c2
        have HOk : Hid (O k = false) := hO'
        clear hO hO'
        go_wp2_with fail
        go_round
        case rel =>
          refine ⟨k + 1, ⟨by omega, fun j hj ho => ?_⟩, by go_num⟩
          by_cases e : j = k
          · rw [e, HOk.out] at ho; cases ho
          · exact HA.out j (by omega) ho
        case measure => simp [intOf]; omega
    · have hb1 : ¬ (k : Int) < (n : Int) := by omega
      go_wp2_with fail
      go_ret
      exact ⟨true, rfl, ⟨fun _ i hi => HA.out _ (by have := PN.out i; omega) ((HO.out _).2 ⟨i, hi, rfl⟩), fun _ => rfl⟩, B1.out⟩
def cellsB (k : Nat) (z : Nat → Bool) : List Value := (List.range k).map fun j => .bool (z j)
theorem cellsB_succ (k : Nat) (z : Nat → Bool) : cellsB k z ++ [.bool (z k)] = cellsB (k + 1) z := by simp [cellsB, List.range_succ]
theorem cellsB_get (k : Nat) (z : Nat → Bool) (j : Nat) (h : j < k) : (cellsB k z)[j]? = some (.bool (z j)) := by simp [cellsB, h]
/-- A slice of bits that the call makes, behind world w. -/
structure GrowB (w wr : World) (v : Value) (k : Nat) (z : Nat → Bool) : Prop where
  own : wr.ownsRow w.heap.size 4 1 v k (cellsB k z)
  since : Below w.heap.size w wr
theorem growB_start (w : World) (z : Nat → Bool) : GrowB w w (.slice none 0 0) 0 z := ⟨World.ownsRow_nil w _ _ _, Below.refl _ _⟩
theorem GrowB.step {w wr w1 : World} {v : Value} {k g cap : Nat} {z : Nat → Bool} {x : Bool} {o : Obj} (h : GrowB w wr v k z) (hx : x = z k)
    (hown : w1.ownsRow w.heap.size 4 1 (.slice (some ⟨g, 0, none⟩) (k + 1) cap) (k + 1) (cellsB k z ++ [.bool x])) (hg : (wr.alloc o).grownBy w1 v.ownBlock) : GrowB w w1 (.slice (some ⟨g, 0, none⟩) (k + 1) cap) (k + 1) z := by
  rw [hx, cellsB_succ] at hown
  have s := h.since.size
  exact ⟨hown, (h.since.alloc s o).grown hg (by simp; omega) fun q e => (h.own.lt q e).1⟩
theorem GrowB.row {w wr : World} {ao : Option Addr} {n cv : Nat} {z : Nat → Bool} (h : GrowB w wr (.slice ao n cv) n z) (hn : 0 < n) : ∃ g, ao = some ⟨g, 0, none⟩ ∧ w.heap.size ≤ g ∧ n ≤ cv ∧ RowB wr g n z := by
  have h0 := h.own
  rcases h.own.2 with ⟨e, rfl⟩ | ⟨g, cap, cur, e, hb, hg, hc, _, _, hx⟩
  · omega
  · simp only [Value.slice.injEq] at e
    obtain ⟨rfl, _, rfl⟩ := e
    have hk : Blk wr g 4 cur := hg
    refine ⟨g, rfl, hb, hc, cur, hk, fun i hi => ?_⟩
    have e2 := h0.cellAt (j := i) (by omega)
    rw [← hk.cell i, e2]
    exact cellsB_get n z i hi
theorem new_bit (w : World) (x : Value) : ∀ (j : Nat) (u : Value), [x][j]? = some u → (w.alloc (.cells #[x] 4)).cell? ((⟨w.heap.size, 0, none⟩ : Addr).add j) = some u :=
  World.news_of_block (w := w.alloc (.cells #[x] 4)) (cs := #[x]) (t := 4) (fr := (0, 0)) (blk_alloc_new w _)
theorem one_bit (b : Bool) : ∀ u ∈ [Value.bool b], u.oneCell' = true := fun u hu => by
  rw [List.mem_singleton.1 hu]; rfl
theorem or_set (B : Nat → Bool) (p : Nat → Nat) (k q : Nat) : (B q || setN (fun _ => false) p k q) = setN B p k q := by
  apply bool_ext
  rw [Bool.or_eq_true, setN_true, setN_true]
  simp
set_option maxHeartbeats 3200000 in
theorem radd_filter (w : World) (x : Value) (S H : Int) (n : Nat) (B : Nat → Bool) (s : ByteArray) (h : FilterAt w x S H n B) (uS : U S) (hs : s.size ≤ 100000) (hf : fitsB n H = true) :
    Calls Try.prog 22 #[x, .string s] w (Gave w S H n (addB S H n B s)) := by
  obtain ⟨v, rfl, hb⟩ := h
  have AC : Hid (∀ w1, Below w.heap.size w w1 → Calls Try.prog 35 #[.agg #[.int .u64 S, .int .i64 H, v], .string s] w1 (GaveBits w1 n (setN (fun _ => false) (placeN S s n) (kN n H)))) := fun w1 b1 => rat_any w1 _ S H n B s ⟨v, rfl, hb.keep (keep_of_below b1)⟩ uS hs hf
  obtain ⟨A, cap, b, o, rfl, hx1, q3, q4⟩ := hb
  have hR := (fitsB_iff _ _).1 hf
  have n1 : 1 ≤ n := by omega
  have n2 : n ≤ 256 := by omega
  obtain rfl := q3 (by omega)
  have Q4 : Hid (∀ i, i < n → w.cell? ⟨b, o + i, none⟩ = some (.bool (B i))) := q4
  clear hx1 q3 q4 hR
  obtain ⟨O, hO⟩ : ∃ O, O = setN (fun _ => false) (placeN S s n) (kN n H) := ⟨_, rfl⟩
  rw [← hO] at AC
  have HO : Hid (∀ q, (B q || O q) = addB S H n B s q) := fun q => by rw [hO]; exact or_set _ _ _ _
  clear hO hf
  obtain ⟨i4, hi, hz0, hz1, hz2⟩ := info4'
  have HI : Hid (Try.prog.info? 4 = some i4 ∧ i4.zero = some (.bool false) ∧ i4.size = 1 ∧ i4.bytes = 1) := ⟨hi, hz0, hz1, hz2⟩
  clear hi hz0 hz1 hz2
  have BX : Hid (Below w.heap.size w ((w.alloc (.cells #[.int .u64 S, .int .i64 H, .slice (some ⟨b, o, none⟩) n cap] 30)).alloc (.cells #[.int .u64 0, .int .i64 0, .slice none 0 0] 30))) := (bel_alloc _ _).alloc (by simp) _
  have KX : Hid (Blk ((w.alloc (.cells #[.int .u64 S, .int .i64 H, .slice (some ⟨b, o, none⟩) n cap] 30)).alloc (.cells #[.int .u64 0, .int .i64 0, .slice none 0 0] 30)) w.heap.size 30 #[.int .u64 S, .int .i64 H, .slice (some ⟨b, o, none⟩) n cap]) := (Blk.new _ _ _).alloc _
  have KR : Hid (Blk ((w.alloc (.cells #[.int .u64 S, .int .i64 H, .slice (some ⟨b, o, none⟩) n cap] 30)).alloc (.cells #[.int .u64 0, .int .i64 0, .slice none 0 0] 30)) (w.heap.size + 1) 30 #[.int .u64 0, .int .i64 0, .slice none 0 0]) := by
    have e := Blk.new (w.alloc (.cells #[.int .u64 S, .int .i64 H, .slice (some ⟨b, o, none⟩) n cap] 30)) 30 #[.int .u64 0, .int .i64 0, .slice none 0 0]
    simp only [World.size_alloc] at e
    exact e
  go_enter Try.func22, Try.ntmps22
  go_wp2_with fail
  refine (AC.out _ BX.out).mono ?_
  rintro e u1 ⟨vo, rfl, hv, b1⟩
  obtain ⟨A', cap', b', o', rfl, hx1, p3, p4⟩ := hv
  obtain rfl := p3 (by omega)
  have P4 : Hid (∀ i, i < n → u1.cell? ⟨b', o' + i, none⟩ = some (.bool (O i))) := p4
  have B1 : Hid (Below w.heap.size w u1) := bel_trans BX.out b1
  have K1 : Hid (Blk u1 w.heap.size 30 #[.int .u64 S, .int .i64 H, .slice (some ⟨b, o, none⟩) n cap]) := KX.out.since b1
  have R1 : Hid (Blk u1 (w.heap.size + 1) 30 #[.int .u64 0, .int .i64 0, .slice none 0 0]) := KR.out.since b1
  clear hx1 p3 p4 b1 AC KX BX KR
  go_wp2_with fail
  go_loopg [5, 7] n (fun gk l i wr => ∃ (k : Nat) (ao : Option Addr) (cv : Nat), (gk = n - k ∧ k ≤ n ∧ GrowB u1 wr (.slice ao k cv) k (addB S H n B s)) ∧ l = .slice ao k cv ∧ i = .int .i64 (k : Int))
  case atStart => exact ⟨0, none, 0, ⟨rfl, by omega, growB_start _ _⟩, rfl, rfl⟩
  case round =>
    obtain ⟨k, ao, cv, ⟨hg, hk, hG⟩, rfl, rfl⟩ := hrel
    have HK : Hid (gk = n - k ∧ GrowB u1 wr (.slice ao k cv) k (addB S H n B s)) := ⟨hg, hG⟩
    have x2 : wr.cell? ⟨w.heap.size, 2, none⟩ = some (.slice (some ⟨b, o, none⟩) n cap) := (K1.out.since hG.since).cell 2
    by_cases hlt : k < n
    · have c1 := keep_of_below hG.since _ _ (keep_of_below B1.out _ _ (Q4.out k hlt))
      have c2 := keep_of_below hG.since _ _ (P4.out k hlt)
      have hb1 : (k : Int) < (n : Int) := by omega
      have ho := HO.out k
      have OW : Hid (wr.ownsRow u1.heap.size 4 1 (.slice ao k cv) k (cellsB k (addB S H n B s))) := hG.own
      have hsz : u1.heap.size ≤ wr.heap.size := hG.since.size
      clear hg hG
      by_cases hB : B k = true
      · rw [hB] at c1 ho
        have EQ : Hid (true = addB S H n B s k) := by rw [← ho]; rfl
        clear hB c2 ho
        go_wp2_with (at_builtin; refine wpList_append_lies _ rfl _ _ 23 rfl u1.heap.size 4 i4 (.bool false) 1 1 Try.underlying23 HI.out.1 HI.out.2.1 HI.out.2.2.1 HI.out.2.2.2 rfl (by omega) (.slice ao k cv) k (cellsB k (addB S H n B s)) (by rfl) (OW.out.alloc _) ⟨wr.heap.size, 0, none⟩ 1 1 [.bool true] (by rfl) rfl (new_bit wr _) (one_bit _) (by omega) (by unfold maxLen; omega) (by omega) (by simp; omega) _ rfl ?_; intro g cap1 w1 hown1 hgrow hat hlt1)
        go_roundg (n - (k + 1))
        case measure => have := HK.out.1; omega
        case rel => exact ⟨k + 1, _, _, ⟨rfl, by omega, HK.out.2.step EQ.out hown1 hgrow⟩, rfl, by go_num⟩
      · have hB' : B k = false := by simpa using hB
        rw [hB'] at c1 ho
        have EQ : Hid (O k = addB S H n B s k) := by rw [← ho]; rfl
        clear hB hB' ho
        generalize O k = bit at c2 EQ
        go_wp2_with (at_builtin; refine wpList_append_lies _ rfl _ _ 23 rfl u1.heap.size 4 i4 (.bool false) 1 1 Try.underlying23 HI.out.1 HI.out.2.1 HI.out.2.2.1 HI.out.2.2.2 rfl (by omega) (.slice ao k cv) k (cellsB k (addB S H n B s)) (by rfl) (OW.out.alloc _) ⟨wr.heap.size, 0, none⟩ 1 1 [.bool bit] (by rfl) rfl (new_bit wr _) (one_bit _) (by omega) (by unfold maxLen; omega) (by omega) (by simp; omega) _ rfl ?_; intro g cap1 w1 hown1 hgrow hat hlt1)
        go_roundg (n - (k + 1))
        case measure => have := HK.out.1; omega
        case rel => exact ⟨k + 1, _, _, ⟨rfl, by omega, HK.out.2.step EQ.out hown1 hgrow⟩, rfl, by go_num⟩
    · obtain rfl : k = n := by omega
      obtain ⟨g, rfl, r1, r2, r3⟩ := hG.row (by omega)
      have lX := K1.out.lt
      have lR := R1.out.lt
      have hb1 : ¬ (k : Int) < (k : Int) := by omega
      have x0 : wr.cell? ⟨w.heap.size, 0, none⟩ = some (.int .u64 S) := (K1.out.since hG.since).cell 0
      have x1 : wr.cell? ⟨w.heap.size, 1, none⟩ = some (.int .i64 H) := (K1.out.since hG.since).cell 1
      have f2 := (K1.out.since hG.since).frozen 2
      have KRW : Hid (Blk (wr.setCell ⟨w.heap.size, 2, none⟩ (.slice (some ⟨g, 0, none⟩) k cv)) (w.heap.size + 1) 30 #[.int .u64 0, .int .i64 0, .slice none 0 0]) := (R1.out.since hG.since).other (a := ⟨w.heap.size, 2, none⟩) (by show w.heap.size + 1 ≠ w.heap.size; omega) _
      have KXW := (K1.out.since hG.since).set 2 (.slice (some ⟨g, 0, none⟩) k cv)
      have RW : Hid (RowB (wr.setCell ⟨w.heap.size, 2, none⟩ (.slice (some ⟨g, 0, none⟩) k cv)) g k (addB S H k B s)) := r3.other (a := ⟨w.heap.size, 2, none⟩) (by show g ≠ w.heap.size; omega) _
      have BW : Hid (Below w.heap.size w (wr.setCell ⟨w.heap.size, 2, none⟩ (.slice (some ⟨g, 0, none⟩) k cv))) := (bel_trans B1.out hG.since).setCell (p := ⟨w.heap.size, 2, none⟩) (Nat.le_refl _) _
      have gR : Hid (g ≠ w.heap.size + 1 ∧ k ≤ cv) := ⟨by omega, r2⟩
      clear hg hG hlt r1 r3 lX lR
      go_upto_region 8 with fail
      have X0 := KXW.cell 0
      have X1 := KXW.cell 1
      have X2 := KXW.cell 2
      have r0 := KRW.out.cell 0
      have r1 := KRW.out.cell 1
      have r2 := KRW.out.cell 2
      have z0 := KRW.out.frozen 0
      have z1 := KRW.out.frozen 1
      have z2 := KRW.out.frozen 2
      clear KXW x0 x1 x2 f2
      generalize wr.setCell ⟨w.heap.size, 2, none⟩ (.slice (some ⟨g, 0, none⟩) k cv) = wq at X0 X1 X2 r0 r1 r2 z0 z1 z2 KRW RW BW ⊢
      simp at X0 X1 X2 r0 r1 r2
      go_wp2_with fail
      have DF : FilterAt (put3 wq (w.heap.size + 1) (.int .u64 S) (.int .i64 H) (.slice (some ⟨g, 0, none⟩) k cv)) (.agg #[.int .u64 S, .int .i64 H, .slice (some ⟨g, 0, none⟩) k cv]) S H k (addB S H k B s) := ⟨_, rfl, (RW.out.put3 gR.out.1 _ _ _).bools gR.out.2⟩
      refine bodyPost_ret (v := .agg #[.int .u64 S, .int .i64 H, .slice (some ⟨g, 0, none⟩) k cv]) ?_ rfl ?_
      rotate_left
      · exact ⟨_, rfl, DF, put3_below BW.out (by omega) _ _ _⟩
      have c3 := put3_blk (t := 30) (KRW.out) (.int .u64 S) (.int .i64 H) (.slice (some ⟨g, 0, none⟩) k cv)
      have c30 := c3.cell 0
      have c31 := c3.cell 1
      have c32 := c3.cell 2
      change (results _ _).run _ (put3 (wq) (w.heap.size + 1) (.int .u64 S) (.int .i64 H) (.slice (some ⟨g, 0, none⟩) k cv)) = .ok _ (put3 (wq) (w.heap.size + 1) (.int .u64 S) (.int .i64 H) (.slice (some ⟨g, 0, none⟩) k cv))
      generalize put3 (wq) (w.heap.size + 1) (.int .u64 S) (.int .i64 H) (.slice (some ⟨g, 0, none⟩) k cv) = W5 at c30 c31 c32
      simp [results, Try.results22, go_sem, c30, c31, c32]
end Go.Proofs.Ytbnjicbmainopaa
