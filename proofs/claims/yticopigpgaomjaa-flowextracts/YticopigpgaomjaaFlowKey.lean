/-
  The small functions of layer 9 (flow): what they answer of any flow and of any key.
-/
import Derived.Test.YticopigpgaomjaaMemKit
import Derived.Test.YticopigpgaomjaaFlowNum
namespace Go.Proofs.Yticopigpgaomjaa
open Go.RowKit Oc Pt Fl Go.Deep
set_option linter.unusedVariables false

def put5 (w : World) (g : Nat) (a0 a1 a2 a3 a4 : Value) : World := (((((w.setCell ⟨g, 0, none⟩ a0).setCell ⟨g, 1, none⟩ a1).setCell ⟨g, 2, none⟩ a2).setCell ⟨g, 3, none⟩ a3).setCell ⟨g, 4, none⟩ a4)
theorem put5_eq (w : World) (g : Nat) (a0 a1 a2 a3 a4 : Value) : put5 w g a0 a1 a2 a3 a4 = putCells w g 0 [a0, a1, a2, a3, a4] := by
  simp only [put5, putCells]
theorem put5_below {Bd : Nat} {w wr : World} {g : Nat} (h : Below Bd w wr) (hg : Bd ≤ g) (a0 a1 a2 a3 a4 : Value) : Below Bd w (put5 wr g a0 a1 a2 a3 a4) := by
  rw [put5_eq]; exact putCells_below hg _ _ _ h
theorem put5_blk {w : World} {g : Nat} {t : TypeId} {x0 x1 x2 x3 x4 : Value} (h : Blk w g t #[x0, x1, x2, x3, x4]) (a0 a1 a2 a3 a4 : Value) : Blk (put5 w g a0 a1 a2 a3 a4) g t #[a0, a1, a2, a3, a4] := by
  rw [put5_eq]; exact putCells_blk [a0, a1, a2, a3, a4] [x0, x1, x2, x3, x4] [] w 0 rfl rfl h

set_option maxHeartbeats 400000 in
theorem fl_number (N k : Nat) (w : World) (h1 : 1 ≤ k) (h2 : k ≤ 7) (h : N < 256 ^ k) :
    Calls Try.prog 31 #[.int .i64 (N : Int), .int .i64 (k : Int)] w fun e w' => e = .returned (.string (bsL (bytesL N k))) ∧ Below w.heap.size w w' := by
  have H : Hid (N < 256 ^ k) := h
  clear h
  go_enter Try.func31, Try.ntmps31
  go_wp2_with fail
  refine (put_ok N k _ h1 h2 H.out).mono ?_
  rintro e u1 ⟨rfl, b1⟩
  go_wp2_with fail
  go_ret
  exact ⟨rfl, b1⟩
set_option maxHeartbeats 800000 in
theorem fl_at (l : List UInt8) (T k : Nat) (w : World) (h1 : 1 ≤ k) (h2 : k ≤ 7) (h : T + k ≤ l.length) (hl : l.length ≤ 1152921504606846976) :
    Calls Try.prog 34 #[.string (bsL l), .int .i64 (T : Int), .int .i64 (k : Int)] w fun e w' => e = .returned (.int .i64 (nAt l T k : Int)) ∧ Below w.heap.size w w' := by
  have D := bsL_drop l T
  rw [bsL_size] at D
  go_enter Try.func34, Try.ntmps34
  go_wp2_with fail
  refine (take_ok (l.drop T) k _ h1 h2 (by simp; omega)).mono ?_
  rintro e u ⟨rfl, b⟩
  go_wp2_with fail
  go_ret
  exact ⟨rfl, b⟩
set_option maxHeartbeats 400000 in
theorem fl_upto (n g : Int) (w : World) : Calls Try.prog 32 #[.int .i64 n, .int .i64 g] w fun e w' => e = .returned (.bool (upF n g)) ∧ w' = w := by
  by_cases h1 : 0 ≤ n
  · have E : Hid (upF n g = decide (n ≤ g)) := by show upF n g = _; unfold upF; rw [decide_eq_true h1]; rfl
    go_enter Try.func32, Try.ntmps32
    go_wp2
    go_ret
    exact ⟨by rw [E.out]; rfl, rfl⟩
  · have E : Hid (upF n g = false) := by show upF n g = _; unfold upF; rw [decide_eq_false h1]; rfl
    go_enter Try.func32, Try.ntmps32
    go_wp2
    go_ret
    exact ⟨by rw [E.out]; rfl, rfl⟩
set_option maxHeartbeats 400000 in
theorem fl_iskey (l : List UInt8) (w : World) : Calls Try.prog 33 #[.string (bsL l)] w fun e w' => e = .returned (.bool ((l.length : Int) == 37)) ∧ w' = w := by
  go_enter Try.func33, Try.ntmps33
  go_wp2
  go_ret
  exact ⟨rfl, rfl⟩
def srcK (k : List UInt8) : List UInt8 := if k.length = 37 then k.take 16 else []
def dstK (k : List UInt8) : List UInt8 := if k.length = 37 then (k.drop 16).take 16 else []
set_option maxHeartbeats 800000 in
theorem fl_source (l : List UInt8) (w : World) (hl : l.length ≤ 1152921504606846976) : Calls Try.prog 17 #[.string (bsL l)] w fun e w' => e = .returned (.string (bsL (srcK l))) ∧ w' = w := by
  by_cases h : l.length = 37
  · have q : ((l.length : Int) == 37) = true := by simp; omega
    have E : Hid (srcK l = l.take 16) := by show srcK l = _; unfold srcK; rw [if_pos h]
    have X := bsL_take l 16
    go_enter Try.func17, Try.ntmps17
    go_wp2_with fail
    refine (fl_iskey l _).mono ?_
    rintro e u1 ⟨rfl, rfl⟩
    go_wp2_with fail
    go_ret
    exact ⟨by rw [E.out]; rfl, rfl⟩
  · have q : ((l.length : Int) == 37) = false := by simp; omega
    have E : Hid (srcK l = []) := by show srcK l = _; unfold srcK; rw [if_neg h]
    go_enter Try.func17, Try.ntmps17
    go_wp2_with fail
    refine (fl_iskey l _).mono ?_
    rintro e u1 ⟨rfl, rfl⟩
    go_wp2_with fail
    go_ret
    exact ⟨by rw [E.out]; rfl, rfl⟩
set_option maxHeartbeats 800000 in
theorem fl_target (l : List UInt8) (w : World) (hl : l.length ≤ 1152921504606846976) : Calls Try.prog 18 #[.string (bsL l)] w fun e w' => e = .returned (.string (bsL (dstK l))) ∧ w' = w := by
  by_cases h : l.length = 37
  · have q : ((l.length : Int) == 37) = true := by simp; omega
    have E : Hid (dstK l = (l.drop 16).take 16) := by show dstK l = _; unfold dstK; rw [if_pos h]
    have X := bsL_extract l 16 32
    rw [show 32 - 16 = 16 from rfl] at X
    go_enter Try.func18, Try.ntmps18
    go_wp2_with fail
    refine (fl_iskey l _).mono ?_
    rintro e u1 ⟨rfl, rfl⟩
    go_wp2_with fail
    go_ret
    exact ⟨by rw [E.out]; rfl, rfl⟩
  · have q : ((l.length : Int) == 37) = false := by simp; omega
    have E : Hid (dstK l = []) := by show dstK l = _; unfold dstK; rw [if_neg h]
    go_enter Try.func18, Try.ntmps18
    go_wp2_with fail
    refine (fl_iskey l _).mono ?_
    rintro e u1 ⟨rfl, rfl⟩
    go_wp2_with fail
    go_ret
    exact ⟨by rw [E.out]; rfl, rfl⟩
set_option maxHeartbeats 1600000 in
theorem fl_right (w : World) (s d : List UInt8) (p a b : Int) : Calls Try.prog 14 #[.agg #[.string (bsL s), .string (bsL d), .int .i64 p, .int .i64 a, .int .i64 b]] w (TellsB w (RightF ⟨s, d, p, a, b⟩)) := by
  have B1 : Hid (Below w.heap.size w (w.alloc (.cells #[.string (bsL s), .string (bsL d), .int .i64 p, .int .i64 a, .int .i64 b] 24))) := bel_alloc _ _
  by_cases c0 : s.length = 16
  rotate_left
  · have NR : Hid (¬ RightF ⟨s, d, p, a, b⟩) := by
      rintro ⟨r0, r1, r2, r3, r4⟩
      exact c0 r0
    have q0 : ((s.length : Int) == 16) = false := by simp; omega
    clear c0
    go_enter Try.func14, Try.ntmps14
    go_wp2_with fail
    go_ret
    exact ⟨false, rfl, ⟨fun h => (by cases h), fun h => absurd h NR.out⟩, B1.out⟩
  have C0 : Hid (s.length = 16) := c0
  have q0 : ((s.length : Int) == 16) = true := by simp; omega
  clear c0
  by_cases c1 : d.length = 16
  rotate_left
  · have NR : Hid (¬ RightF ⟨s, d, p, a, b⟩) := by
      rintro ⟨r0, r1, r2, r3, r4⟩
      exact c1 r1
    have q1 : ((d.length : Int) == 16) = false := by simp; omega
    clear c1
    go_enter Try.func14, Try.ntmps14
    go_wp2_with fail
    go_ret
    exact ⟨false, rfl, ⟨fun h => (by cases h), fun h => absurd h NR.out⟩, B1.out⟩
  have C1 : Hid (d.length = 16) := c1
  have q1 : ((d.length : Int) == 16) = true := by simp; omega
  clear c1
  by_cases c2 : upF p 255 = true
  rotate_left
  · have NR : Hid (¬ RightF ⟨s, d, p, a, b⟩) := by
      rintro ⟨r0, r1, r2, r3, r4⟩
      exact c2 (upF_iff.2 r2)
    have q2 : upF p 255 = false := by simpa using c2
    clear c2
    go_enter Try.func14, Try.ntmps14
    go_wp2_with fail
    refine (fl_upto p 255 _).mono ?_
    rintro e w1 ⟨rfl, rfl⟩
    go_wp2_with fail
    go_ret
    exact ⟨false, rfl, ⟨fun h => (by cases h), fun h => absurd h NR.out⟩, B1.out⟩
  have C2 : Hid (upF p 255 = true) := c2
  have q2 : upF p 255 = true := c2
  clear c2
  by_cases c3 : upF a 65535 = true
  rotate_left
  · have NR : Hid (¬ RightF ⟨s, d, p, a, b⟩) := by
      rintro ⟨r0, r1, r2, r3, r4⟩
      exact c3 (upF_iff.2 r3)
    have q3 : upF a 65535 = false := by simpa using c3
    clear c3
    go_enter Try.func14, Try.ntmps14
    go_wp2_with fail
    refine (fl_upto p 255 _).mono ?_
    rintro e w1 ⟨rfl, rfl⟩
    go_wp2_with fail
    refine (fl_upto a 65535 _).mono ?_
    rintro e w1 ⟨rfl, rfl⟩
    go_wp2_with fail
    go_ret
    exact ⟨false, rfl, ⟨fun h => (by cases h), fun h => absurd h NR.out⟩, B1.out⟩
  have C3 : Hid (upF a 65535 = true) := c3
  have q3 : upF a 65535 = true := c3
  clear c3
  by_cases c4 : upF b 65535 = true
  rotate_left
  · have NR : Hid (¬ RightF ⟨s, d, p, a, b⟩) := by
      rintro ⟨r0, r1, r2, r3, r4⟩
      exact c4 (upF_iff.2 r4)
    have q4 : upF b 65535 = false := by simpa using c4
    clear c4
    go_enter Try.func14, Try.ntmps14
    go_wp2_with fail
    refine (fl_upto p 255 _).mono ?_
    rintro e w1 ⟨rfl, rfl⟩
    go_wp2_with fail
    refine (fl_upto a 65535 _).mono ?_
    rintro e w1 ⟨rfl, rfl⟩
    go_wp2_with fail
    refine (fl_upto b 65535 _).mono ?_
    rintro e w1 ⟨rfl, rfl⟩
    go_wp2_with fail
    go_ret
    exact ⟨false, rfl, ⟨fun h => (by cases h), fun h => absurd h NR.out⟩, B1.out⟩
  have C4 : Hid (upF b 65535 = true) := c4
  have q4 : upF b 65535 = true := c4
  clear c4
  have YR : Hid (RightF ⟨s, d, p, a, b⟩) := ⟨C0.out, C1.out, upF_iff.1 C2.out, upF_iff.1 C3.out, upF_iff.1 C4.out⟩
  go_enter Try.func14, Try.ntmps14
  go_wp2_with fail
  refine (fl_upto p 255 _).mono ?_
  rintro e w1 ⟨rfl, rfl⟩
  go_wp2_with fail
  refine (fl_upto a 65535 _).mono ?_
  rintro e w1 ⟨rfl, rfl⟩
  go_wp2_with fail
  refine (fl_upto b 65535 _).mono ?_
  rintro e w1 ⟨rfl, rfl⟩
  go_wp2_with fail
  go_ret
  exact ⟨true, rfl, ⟨fun h => YR.out, fun h => rfl⟩, B1.out⟩
def Keyed (w : World) (s : List UInt8) (c : Int) (e : Ending) (w' : World) : Prop := e = .returned (.tuple #[.string (bsL s), .int .i64 c]) ∧ Below w.heap.size w w'
set_option maxHeartbeats 800000 in
theorem fl_key_no (w : World) (s d : List UInt8) (p a b : Int) (hR : ¬ RightF ⟨s, d, p, a, b⟩) : Calls Try.prog 12 #[.agg #[.string (bsL s), .string (bsL d), .int .i64 p, .int .i64 a, .int .i64 b]] w (Keyed w [] 1) := by
  have HR : Hid (¬ RightF ⟨s, d, p, a, b⟩) := hR
  have B1 : Hid (Below w.heap.size w (w.alloc (.cells #[.string (bsL s), .string (bsL d), .int .i64 p, .int .i64 a, .int .i64 b] 24))) := bel_alloc _ _
  clear hR
  go_enter Try.func12, Try.ntmps12
  go_wp2_with fail
  refine (fl_right _ s d p a b).mono ?_
  rintro e u1 ⟨B, rfl, hB, b1⟩
  have eB : B = false := by
    cases B
    · rfl
    · exact absurd (hB.1 rfl) HR.out
  subst eB
  clear hB
  go_wp2_with fail
  go_returns
  exact ⟨rfl, bel_trans B1.out b1⟩
set_option maxHeartbeats 1600000 in
theorem fl_key_ok (w : World) (s d : List UInt8) (P A B : Nat) (hR : RightF ⟨s, d, P, A, B⟩) : Calls Try.prog 12 #[.agg #[.string (bsL s), .string (bsL d), .int .i64 (P : Int), .int .i64 (A : Int), .int .i64 (B : Int)]] w (Keyed w (keyL s d P A B) 0) := by
  have HR : Hid (RightF ⟨s, d, P, A, B⟩) := hR
  have B1 : Hid (Below w.heap.size w (w.alloc (.cells #[.string (bsL s), .string (bsL d), .int .i64 (P : Int), .int .i64 (A : Int), .int .i64 (B : Int)] 24))) := bel_alloc _ _
  have K0 : Hid (Blk (w.alloc (.cells #[.string (bsL s), .string (bsL d), .int .i64 (P : Int), .int .i64 (A : Int), .int .i64 (B : Int)] 24)) w.heap.size 24 #[.string (bsL s), .string (bsL d), .int .i64 (P : Int), .int .i64 (A : Int), .int .i64 (B : Int)]) := Blk.new _ _ _
  obtain ⟨r1, r2, r3, r4, r5⟩ := hR
  simp only at r1 r2 r3 r4 r5
  have P1 : P < 256 := by omega
  have A1 : A < 65536 := by omega
  have B1' : B < 65536 := by omega
  obtain ⟨x1, hx1⟩ : ∃ x, x = bytesL P 1 := ⟨_, rfl⟩
  obtain ⟨x2, hx2⟩ : ∃ x, x = bytesL A 2 := ⟨_, rfl⟩
  obtain ⟨x3, hx3⟩ : ∃ x, x = bytesL B 2 := ⟨_, rfl⟩
  have lx1 : x1.length = 1 := by rw [hx1, bytesL_len]
  have lx2 : x2.length = 2 := by rw [hx2, bytesL_len]
  have lx3 : x3.length = 2 := by rw [hx3, bytesL_len]
  have HX1 : Hid (bytesL P 1 = x1) := hx1.symm
  have HX2 : Hid (bytesL A 2 = x2) := hx2.symm
  have HX3 : Hid (bytesL B 2 = x3) := hx3.symm
  have FIN : Hid (s ++ (d ++ (x1 ++ (x2 ++ x3))) = keyL s d P A B) := by
    show _ = _
    unfold keyL
    rw [hx1, hx2, hx3]
    simp only [List.append_assoc]
  clear hx1 hx2 hx3 r3 r4 r5
  go_enter Try.func12, Try.ntmps12
  go_wp2_with fail
  refine (fl_right _ s d P A B).mono ?_
  rintro e u1 ⟨C, rfl, hC, b1⟩
  have eC : C = true := hC.2 HR.out
  subst eC
  clear hC
  have BU : Hid (Below w.heap.size w u1) := bel_trans B1.out b1
  have KU : Hid (Blk u1 w.heap.size 24 #[.string (bsL s), .string (bsL d), .int .i64 (P : Int), .int .i64 (A : Int), .int .i64 (B : Int)]) := K0.out.since b1
  clear b1
  have u10 : u1.cell? ⟨w.heap.size, 0, none⟩ = some (.string (bsL s)) := KU.out.cell 0
  have u11 : u1.cell? ⟨w.heap.size, 1, none⟩ = some (.string (bsL d)) := KU.out.cell 1
  have u12 : u1.cell? ⟨w.heap.size, 2, none⟩ = some (.int .i64 (P : Int)) := KU.out.cell 2
  have u13 : u1.cell? ⟨w.heap.size, 3, none⟩ = some (.int .i64 (A : Int)) := KU.out.cell 3
  have u14 : u1.cell? ⟨w.heap.size, 4, none⟩ = some (.int .i64 (B : Int)) := KU.out.cell 4
  go_wp2_with fail
  go_region_held3 (fun w' => w'.cell? ⟨w.heap.size, 0, none⟩ = some (.string (bsL s)) ∧ w'.cell? ⟨w.heap.size, 1, none⟩ = some (.string (bsL d)) ∧ w'.cell? ⟨w.heap.size, 2, none⟩ = some (.int .i64 (P : Int)) ∧ w'.cell? ⟨w.heap.size, 3, none⟩ = some (.int .i64 (A : Int)) ∧ w'.cell? ⟨w.heap.size, 4, none⟩ = some (.int .i64 (B : Int))) (first | go_keep | exact KQ1.out | exact KQ2.out | exact KQ3.out) (first
    | (go_simp; have fl := KB2; clear fl; go_at_call 31; refine (fl_number B 2 _ (by omega) (by omega) (by omega)).mono ?_; rintro e q3 ⟨rfl, c3⟩; rw [HX3.out]; have BQ3 : Hid (Below w.heap.size w q3) := bel_trans BQ2.out c3; have KB3 : Hid (Blk q3 w.heap.size 24 #[.string (bsL s), .string (bsL d), .int .i64 (P : Int), .int .i64 (A : Int), .int .i64 (B : Int)]) := KB2.out.since c3; have KQ3 : Hid (q3.cell? ⟨w.heap.size, 0, none⟩ = some (.string (bsL s)) ∧ q3.cell? ⟨w.heap.size, 1, none⟩ = some (.string (bsL d)) ∧ q3.cell? ⟨w.heap.size, 2, none⟩ = some (.int .i64 (P : Int)) ∧ q3.cell? ⟨w.heap.size, 3, none⟩ = some (.int .i64 (A : Int)) ∧ q3.cell? ⟨w.heap.size, 4, none⟩ = some (.int .i64 (B : Int))) := ⟨KB3.out.cell 0, KB3.out.cell 1, KB3.out.cell 2, KB3.out.cell 3, KB3.out.cell 4⟩; clear c3)
    | (go_simp; have fl := KB1; clear fl; go_at_call 31; refine (fl_number A 2 _ (by omega) (by omega) (by omega)).mono ?_; rintro e q2 ⟨rfl, c2⟩; rw [HX2.out]; have BQ2 : Hid (Below w.heap.size w q2) := bel_trans BQ1.out c2; have KB2 : Hid (Blk q2 w.heap.size 24 #[.string (bsL s), .string (bsL d), .int .i64 (P : Int), .int .i64 (A : Int), .int .i64 (B : Int)]) := KB1.out.since c2; have KQ2 : Hid (q2.cell? ⟨w.heap.size, 0, none⟩ = some (.string (bsL s)) ∧ q2.cell? ⟨w.heap.size, 1, none⟩ = some (.string (bsL d)) ∧ q2.cell? ⟨w.heap.size, 2, none⟩ = some (.int .i64 (P : Int)) ∧ q2.cell? ⟨w.heap.size, 3, none⟩ = some (.int .i64 (A : Int)) ∧ q2.cell? ⟨w.heap.size, 4, none⟩ = some (.int .i64 (B : Int))) := ⟨KB2.out.cell 0, KB2.out.cell 1, KB2.out.cell 2, KB2.out.cell 3, KB2.out.cell 4⟩; clear c2)
    | (go_simp; go_at_call 31; refine (fl_number P 1 _ (by omega) (by omega) (by omega)).mono ?_; rintro e q1 ⟨rfl, c1⟩; rw [HX1.out]; have BQ1 : Hid (Below w.heap.size w q1) := bel_trans BU.out ⟨c1.os, c1.tape, c1.output, c1.size, c1.block⟩; have KB1 : Hid (Blk q1 w.heap.size 24 #[.string (bsL s), .string (bsL d), .int .i64 (P : Int), .int .i64 (A : Int), .int .i64 (B : Int)]) := KU.out.drew.since c1; have KQ1 : Hid (q1.cell? ⟨w.heap.size, 0, none⟩ = some (.string (bsL s)) ∧ q1.cell? ⟨w.heap.size, 1, none⟩ = some (.string (bsL d)) ∧ q1.cell? ⟨w.heap.size, 2, none⟩ = some (.int .i64 (P : Int)) ∧ q1.cell? ⟨w.heap.size, 3, none⟩ = some (.int .i64 (A : Int)) ∧ q1.cell? ⟨w.heap.size, 4, none⟩ = some (.int .i64 (B : Int))) := ⟨KB1.out.cell 0, KB1.out.cell 1, KB1.out.cell 2, KB1.out.cell 3, KB1.out.cell 4⟩; clear c1))
  go_wp2_with fail
  go_returns
  refine ⟨?_, BQ3.out⟩
  rw [← FIN.out]
  rfl
def ansK (k : List UInt8) : Ans := ⟨viewOf k, if k.length = 37 then 0 else 1⟩
/-- What Of tells of any key. -/
def Gave (w : World) (F : Ans) (e : Ending) (w' : World) : Prop := ∃ (s d : List UInt8) (p : Int) (a b E : Nat), e = .returned (.tuple #[.agg #[.string (bsL s), .string (bsL d), .int .i64 p, .int .i64 (a : Int), .int .i64 (b : Int)], .int .i64 (E : Int)]) ∧ F = ⟨⟨s, d, p, a, b⟩, E⟩ ∧ Below w.heap.size w w'
theorem gave_err {w w' : World} {F : Ans} {E : Nat} (h : F = ⟨zeroFw, E⟩) (hb : Below w.heap.size w w') : Gave w F (.returned (.tuple #[.agg #[.string ⟨#[]⟩, .string ⟨#[]⟩, .int .i64 0, .int .i64 0, .int .i64 0], .int .i64 (E : Int)])) w' := ⟨[], [], 0, 0, 0, E, rfl, h, hb⟩
set_option maxHeartbeats 1600000 in
theorem fl_of (w : World) (k : List UInt8) (hl : k.length ≤ 1152921504606846976) : Calls Try.prog 15 #[.string (bsL k)] w (Gave w (ansK k)) := by
  have B0 : Hid (Below w.heap.size w (w.alloc (.cells #[.string ⟨#[]⟩, .string ⟨#[]⟩, .int .i64 0, .int .i64 0, .int .i64 0] 24))) := bel_alloc _ _
  have K0 : Hid (Blk (w.alloc (.cells #[.string ⟨#[]⟩, .string ⟨#[]⟩, .int .i64 0, .int .i64 0, .int .i64 0] 24)) w.heap.size 24 #[.string ⟨#[]⟩, .string ⟨#[]⟩, .int .i64 0, .int .i64 0, .int .i64 0]) := Blk.new _ _ _
  by_cases h : k.length = 37
  rotate_left
  · have q : ((k.length : Int) == 37) = false := by simp; omega
    have E : Hid (ansK k = ⟨zeroFw, 1⟩) := by show ansK k = _; unfold ansK; rw [view_no h, if_neg h]
    go_enter Try.func15, Try.ntmps15
    go_wp2_with fail
    refine (fl_iskey k _).mono ?_
    rintro e u1 ⟨rfl, hu⟩
    have K1 : Hid (Blk u1 w.heap.size 24 #[.string ⟨#[]⟩, .string ⟨#[]⟩, .int .i64 0, .int .i64 0, .int .i64 0]) := by rw [hu]; exact K0.out
    have B1 : Hid (Below w.heap.size w u1) := by rw [hu]; exact B0.out
    clear hu
    have x0 : u1.cell? ⟨w.heap.size, 0, none⟩ = some (.string ⟨#[]⟩) := K1.out.cell 0
    have x1 : u1.cell? ⟨w.heap.size, 1, none⟩ = some (.string ⟨#[]⟩) := K1.out.cell 1
    have x2 : u1.cell? ⟨w.heap.size, 2, none⟩ = some (.int .i64 0) := K1.out.cell 2
    have x3 : u1.cell? ⟨w.heap.size, 3, none⟩ = some (.int .i64 0) := K1.out.cell 3
    have x4 : u1.cell? ⟨w.heap.size, 4, none⟩ = some (.int .i64 0) := K1.out.cell 4
    have y0 := K1.out.frozen 0
    have y1 := K1.out.frozen 1
    have y2 := K1.out.frozen 2
    have y3 := K1.out.frozen 3
    have y4 := K1.out.frozen 4
    go_wp2_with fail
    refine bodyPost_ret (v := .tuple #[.agg #[.string ⟨#[]⟩, .string ⟨#[]⟩, .int .i64 0, .int .i64 0, .int .i64 0], .int .i64 1]) ?_ rfl (gave_err (E := 1) E.out (put5_below B1.out (Nat.le_refl _) _ _ _ _ _))
    have c5 := put5_blk (t := 24) K1.out (.string ⟨#[]⟩) (.string ⟨#[]⟩) (.int .i64 0) (.int .i64 0) (.int .i64 0)
    have c50 := c5.cell 0
    have c51 := c5.cell 1
    have c52 := c5.cell 2
    have c53 := c5.cell 3
    have c54 := c5.cell 4
    change (results _ _).run _ (put5 u1 w.heap.size (.string ⟨#[]⟩) (.string ⟨#[]⟩) (.int .i64 0) (.int .i64 0) (.int .i64 0)) = .ok _ (put5 u1 w.heap.size (.string ⟨#[]⟩) (.string ⟨#[]⟩) (.int .i64 0) (.int .i64 0) (.int .i64 0))
    generalize put5 u1 w.heap.size (.string ⟨#[]⟩) (.string ⟨#[]⟩) (.int .i64 0) (.int .i64 0) (.int .i64 0) = W5 at c50 c51 c52 c53 c54
    simp [results, Try.results15, go_sem, c50, c51, c52, c53, c54]
  have q : ((k.length : Int) == 37) = true := by simp; omega
  have E : Hid (ansK k = ⟨⟨k.take 16, (k.drop 16).take 16, nAt k 32 1, nAt k 33 2, nAt k 35 2⟩, 0⟩) := by show ansK k = _; unfold ansK; rw [view_yes h, if_pos h]
  have S1 : Hid (srcK k = k.take 16) := by show srcK k = _; unfold srcK; rw [if_pos h]
  have S2 : Hid (dstK k = (k.drop 16).take 16) := by show dstK k = _; unfold dstK; rw [if_pos h]
  have hk : 37 ≤ k.length := by omega
  have HK : Hid (k.length = 37) := h
  clear h
  go_enter Try.func15, Try.ntmps15
  go_wp2_with fail
  refine (fl_iskey k _).mono ?_
  rintro e u1 ⟨rfl, rfl⟩
  go_wp2_with fail
  refine (fl_source k _ hl).mono ?_
  rintro e u1 ⟨rfl, rfl⟩
  rw [S1.out]
  go_wp2_with fail
  refine (fl_target k _ hl).mono ?_
  rintro e u1 ⟨rfl, rfl⟩
  rw [S2.out]
  go_wp2_with fail
  refine (fl_at k 32 1 _ (by omega) (by omega) (by omega) hl).mono ?_
  rintro e u1 ⟨rfl, b1⟩
  go_wp2_with fail
  refine (fl_at k 33 2 _ (by omega) (by omega) (by omega) hl).mono ?_
  rintro e u2 ⟨rfl, b2⟩
  go_wp2_with fail
  refine (fl_at k 35 2 _ (by omega) (by omega) (by omega) hl).mono ?_
  rintro e u3 ⟨rfl, b3⟩
  have K1 : Hid (Blk u3 w.heap.size 24 #[.string ⟨#[]⟩, .string ⟨#[]⟩, .int .i64 0, .int .i64 0, .int .i64 0]) := K0.out.since (bel_trans (bel_trans b1 b2) b3)
  have B1 : Hid (Below w.heap.size w u3) := bel_trans B0.out (bel_trans (bel_trans b1 b2) b3)
  clear b1 b2 b3
  have x0 : u3.cell? ⟨w.heap.size, 0, none⟩ = some (.string ⟨#[]⟩) := K1.out.cell 0
  have x1 : u3.cell? ⟨w.heap.size, 1, none⟩ = some (.string ⟨#[]⟩) := K1.out.cell 1
  have x2 : u3.cell? ⟨w.heap.size, 2, none⟩ = some (.int .i64 0) := K1.out.cell 2
  have x3 : u3.cell? ⟨w.heap.size, 3, none⟩ = some (.int .i64 0) := K1.out.cell 3
  have x4 : u3.cell? ⟨w.heap.size, 4, none⟩ = some (.int .i64 0) := K1.out.cell 4
  have y0 := K1.out.frozen 0
  have y1 := K1.out.frozen 1
  have y2 := K1.out.frozen 2
  have y3 := K1.out.frozen 3
  have y4 := K1.out.frozen 4
  obtain ⟨s, hs⟩ : ∃ s, s = k.take 16 := ⟨_, rfl⟩
  obtain ⟨d, hd⟩ : ∃ d, d = (k.drop 16).take 16 := ⟨_, rfl⟩
  obtain ⟨P, hP⟩ : ∃ P, P = nAt k 32 1 := ⟨_, rfl⟩
  obtain ⟨A, hA⟩ : ∃ A, A = nAt k 33 2 := ⟨_, rfl⟩
  obtain ⟨B, hB⟩ : ∃ B, B = nAt k 35 2 := ⟨_, rfl⟩
  rw [← hs, ← hd, ← hP, ← hA, ← hB] at E
  rw [← hs, ← hd, ← hP, ← hA, ← hB]
  clear hs hd hP hA hB
  go_wp2_with fail
  refine bodyPost_ret (v := .tuple #[.agg #[.string (bsL s), .string (bsL d), .int .i64 (P : Int), .int .i64 (A : Int), .int .i64 (B : Int)], .int .i64 0]) ?_ rfl ⟨s, d, P, A, B, 0, rfl, E.out, put5_below B1.out (Nat.le_refl _) _ _ _ _ _⟩
  have c5 := put5_blk (t := 24) K1.out (.string (bsL s)) (.string (bsL d)) (.int .i64 (P : Int)) (.int .i64 (A : Int)) (.int .i64 (B : Int))
  have c50 := c5.cell 0
  have c51 := c5.cell 1
  have c52 := c5.cell 2
  have c53 := c5.cell 3
  have c54 := c5.cell 4
  change (results _ _).run _ (put5 u3 w.heap.size (.string (bsL s)) (.string (bsL d)) (.int .i64 (P : Int)) (.int .i64 (A : Int)) (.int .i64 (B : Int))) = .ok _ (put5 u3 w.heap.size (.string (bsL s)) (.string (bsL d)) (.int .i64 (P : Int)) (.int .i64 (A : Int)) (.int .i64 (B : Int)))
  generalize put5 u3 w.heap.size (.string (bsL s)) (.string (bsL d)) (.int .i64 (P : Int)) (.int .i64 (A : Int)) (.int .i64 (B : Int)) = W5 at c50 c51 c52 c53 c54
  simp [results, Try.results15, go_sem, c50, c51, c52, c53, c54]

/-! ### The fixed answer -/
def wakeK : List UInt8 := [115, 115, 115, 115, 115, 115, 115, 115, 115, 115, 115, 115, 115, 115, 115, 115, 100, 100, 100, 100, 100, 100, 100, 100, 100, 100, 100, 100, 100, 100, 100, 100, 17, 1, 2, 0, 1]
theorem wake_key : keyL (wakeK.take 16) ((wakeK.drop 16).take 16) 17 258 1 = wakeK := by decide +kernel
theorem wake_s : bsL wakeK = ⟨#[115, 115, 115, 115, 115, 115, 115, 115, 115, 115, 115, 115, 115, 115, 115, 115, 100, 100, 100, 100, 100, 100, 100, 100, 100, 100, 100, 100, 100, 100, 100, 100, 17, 1, 2, 0, 1]⟩ := rfl
theorem wake_of : ansK wakeK = ⟨⟨wakeK.take 16, (wakeK.drop 16).take 16, (17 : Nat), 258, 1⟩, 0⟩ := by
  unfold ansK
  rw [view_yes (by decide), if_pos (by decide), show nAt wakeK 32 1 = 17 by decide +kernel, show nAt wakeK 33 2 = 258 by decide +kernel, show nAt wakeK 35 2 = 1 by decide +kernel]
set_option maxHeartbeats 1600000 in
theorem fl_awake (w : World) : Calls Try.prog 9 #[] w fun e w' => e = .returned (.bool true) ∧ Below w.heap.size w w' := by
  have OK : Hid (RightF ⟨wakeK.take 16, (wakeK.drop 16).take 16, (17 : Nat), (258 : Nat), (1 : Nat)⟩) := ⟨by decide, by decide, by decide, by decide, by decide⟩
  go_enter Try.func9, Try.ntmps9
  go_wp2_with fail
  refine (fl_key_ok _ (wakeK.take 16) ((wakeK.drop 16).take 16) 17 258 1 OK.out).mono ?_
  rintro e u1 ⟨rfl, b1⟩
  rw [wake_key, wake_s]
  go_wp2_with fail
  refine (fl_of _ wakeK (by decide)).mono ?_
  rintro e u2 ⟨s, d, p, a, b, E, rfl, hE, b2⟩
  rw [wake_of] at hE
  obtain ⟨f1, f2⟩ := Ans.mk.inj hE
  obtain ⟨g1, g2, g3, g4, g5⟩ := Fw.mk.inj f1
  subst f2 g4
  clear hE f1 g1 g2 g3 g5
  go_wp2_with fail
  go_ret
  exact ⟨rfl, bel_trans (bel_trans b1 b2) (bel_alloc _ _)⟩
end Go.Proofs.Yticopigpgaomjaa
