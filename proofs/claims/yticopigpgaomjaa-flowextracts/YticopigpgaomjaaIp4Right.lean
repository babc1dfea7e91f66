
/-
  Right, and the reference's: what they answer of any header.
-/
import Derived.Test.YticopigpgaomjaaMemKit
import Derived.Test.YticopigpgaomjaaIp4Num
namespace Go.Proofs.Yticopigpgaomjaa.L6
open Go.RowKit Oc Ip4 Go.Deep
set_option linter.unusedVariables false

def upB (n g : Int) : Bool := decide (0 ≤ n) && decide (n ≤ g)
theorem upB_iff {n g : Int} : upB n g = true ↔ 0 ≤ n ∧ n ≤ g := by simp [upB]
set_option maxHeartbeats 400000 in
theorem upto_any (n g : Int) (w : World) : Calls Try.prog 57 #[.int .i64 n, .int .i64 g] w fun e w' => e = .returned (.bool (upB n g)) ∧ w' = w := by
  by_cases h1 : 0 ≤ n
  · have E : Hid (upB n g = decide (n ≤ g)) := by show upB n g = _; unfold upB; rw [decide_eq_true h1]; rfl
    go_enter Try.func57, Try.ntmps57
    go_wp2
    go_ret
    exact ⟨by rw [E.out]; rfl, rfl⟩
  · have E : Hid (upB n g = false) := by show upB n g = _; unfold upB; rw [decide_eq_false h1]; rfl
    go_enter Try.func57, Try.ntmps57
    go_wp2
    go_ret
    exact ⟨by rw [E.out]; rfl, rfl⟩
set_option maxHeartbeats 1600000 in
theorem right_any (w : World) (t i f o l p : Int) (s d q : List UInt8) : Calls Try.prog 39 #[.agg #[.int .i64 t, .int .i64 i, .int .i64 f, .int .i64 o, .int .i64 l, .int .i64 p, .string (bsL s), .string (bsL d), .string (bsL q)]] w (TellsB w (RightP ⟨t, i, f, o, l, p, s, d, q⟩)) := by
  have B1 : Hid (Below w.heap.size w (w.alloc (.cells #[.int .i64 t, .int .i64 i, .int .i64 f, .int .i64 o, .int .i64 l, .int .i64 p, .string (bsL s), .string (bsL d), .string (bsL q)] 42))) := bel_alloc _ _
  by_cases c0 : upB t 255 = true
  rotate_left
  · have NR : Hid (¬ RightP ⟨t, i, f, o, l, p, s, d, q⟩) := by
      rintro ⟨r0, r1, r2, r3, r4, r5, r6, r7, r8, r9⟩
      exact c0 (upB_iff.2 r0)
    have q0 : upB t 255 = false := by simpa using c0
    clear c0
    go_enter Try.func39, Try.ntmps39
    go_wp2_with fail
    refine (upto_any t 255 _).mono ?_
    rintro e w1 ⟨rfl, rfl⟩
    go_wp2_with fail
    go_ret
    exact ⟨false, rfl, ⟨fun h => (by cases h), fun h => absurd h NR.out⟩, B1.out⟩
  have C0 : Hid (upB t 255 = true) := c0
  have q0 : upB t 255 = true := by simpa using c0
  clear c0
  by_cases c1 : upB l 255 = true
  rotate_left
  · have NR : Hid (¬ RightP ⟨t, i, f, o, l, p, s, d, q⟩) := by
      rintro ⟨r0, r1, r2, r3, r4, r5, r6, r7, r8, r9⟩
      exact c1 (upB_iff.2 r1)
    have q1 : upB l 255 = false := by simpa using c1
    clear c1
    go_enter Try.func39, Try.ntmps39
    go_wp2_with fail
    refine (upto_any t 255 _).mono ?_
    rintro e w1 ⟨rfl, rfl⟩
    go_wp2_with fail
    refine (upto_any l 255 _).mono ?_
    rintro e w1 ⟨rfl, rfl⟩
    go_wp2_with fail
    go_ret
    exact ⟨false, rfl, ⟨fun h => (by cases h), fun h => absurd h NR.out⟩, B1.out⟩
  have C1 : Hid (upB l 255 = true) := c1
  have q1 : upB l 255 = true := by simpa using c1
  clear c1
  by_cases c2 : upB p 255 = true
  rotate_left
  · have NR : Hid (¬ RightP ⟨t, i, f, o, l, p, s, d, q⟩) := by
      rintro ⟨r0, r1, r2, r3, r4, r5, r6, r7, r8, r9⟩
      exact c2 (upB_iff.2 r2)
    have q2 : upB p 255 = false := by simpa using c2
    clear c2
    go_enter Try.func39, Try.ntmps39
    go_wp2_with fail
    refine (upto_any t 255 _).mono ?_
    rintro e w1 ⟨rfl, rfl⟩
    go_wp2_with fail
    refine (upto_any l 255 _).mono ?_
    rintro e w1 ⟨rfl, rfl⟩
    go_wp2_with fail
    refine (upto_any p 255 _).mono ?_
    rintro e w1 ⟨rfl, rfl⟩
    go_wp2_with fail
    go_ret
    exact ⟨false, rfl, ⟨fun h => (by cases h), fun h => absurd h NR.out⟩, B1.out⟩
  have C2 : Hid (upB p 255 = true) := c2
  have q2 : upB p 255 = true := by simpa using c2
  clear c2
  by_cases c3 : upB i 65535 = true
  rotate_left
  · have NR : Hid (¬ RightP ⟨t, i, f, o, l, p, s, d, q⟩) := by
      rintro ⟨r0, r1, r2, r3, r4, r5, r6, r7, r8, r9⟩
      exact c3 (upB_iff.2 r3)
    have q3 : upB i 65535 = false := by simpa using c3
    clear c3
    go_enter Try.func39, Try.ntmps39
    go_wp2_with fail
    refine (upto_any t 255 _).mono ?_
    rintro e w1 ⟨rfl, rfl⟩
    go_wp2_with fail
    refine (upto_any l 255 _).mono ?_
    rintro e w1 ⟨rfl, rfl⟩
    go_wp2_with fail
    refine (upto_any p 255 _).mono ?_
    rintro e w1 ⟨rfl, rfl⟩
    go_wp2_with fail
    refine (upto_any i 65535 _).mono ?_
    rintro e w1 ⟨rfl, rfl⟩
    go_wp2_with fail
    go_ret
    exact ⟨false, rfl, ⟨fun h => (by cases h), fun h => absurd h NR.out⟩, B1.out⟩
  have C3 : Hid (upB i 65535 = true) := c3
  have q3 : upB i 65535 = true := by simpa using c3
  clear c3
  by_cases c4 : upB f 7 = true
  rotate_left
  · have NR : Hid (¬ RightP ⟨t, i, f, o, l, p, s, d, q⟩) := by
      rintro ⟨r0, r1, r2, r3, r4, r5, r6, r7, r8, r9⟩
      exact c4 (upB_iff.2 r4)
    have q4 : upB f 7 = false := by simpa using c4
    clear c4
    go_enter Try.func39, Try.ntmps39
    go_wp2_with fail
    refine (upto_any t 255 _).mono ?_
    rintro e w1 ⟨rfl, rfl⟩
    go_wp2_with fail
    refine (upto_any l 255 _).mono ?_
    rintro e w1 ⟨rfl, rfl⟩
    go_wp2_with fail
    refine (upto_any p 255 _).mono ?_
    rintro e w1 ⟨rfl, rfl⟩
    go_wp2_with fail
    refine (upto_any i 65535 _).mono ?_
    rintro e w1 ⟨rfl, rfl⟩
    go_wp2_with fail
    refine (upto_any f 7 _).mono ?_
    rintro e w1 ⟨rfl, rfl⟩
    go_wp2_with fail
    go_ret
    exact ⟨false, rfl, ⟨fun h => (by cases h), fun h => absurd h NR.out⟩, B1.out⟩
  have C4 : Hid (upB f 7 = true) := c4
  have q4 : upB f 7 = true := by simpa using c4
  clear c4
  by_cases c5 : upB o 8191 = true
  rotate_left
  · have NR : Hid (¬ RightP ⟨t, i, f, o, l, p, s, d, q⟩) := by
      rintro ⟨r0, r1, r2, r3, r4, r5, r6, r7, r8, r9⟩
      exact c5 (upB_iff.2 r5)
    have q5 : upB o 8191 = false := by simpa using c5
    clear c5
    go_enter Try.func39, Try.ntmps39
    go_wp2_with fail
    refine (upto_any t 255 _).mono ?_
    rintro e w1 ⟨rfl, rfl⟩
    go_wp2_with fail
    refine (upto_any l 255 _).mono ?_
    rintro e w1 ⟨rfl, rfl⟩
    go_wp2_with fail
    refine (upto_any p 255 _).mono ?_
    rintro e w1 ⟨rfl, rfl⟩
    go_wp2_with fail
    refine (upto_any i 65535 _).mono ?_
    rintro e w1 ⟨rfl, rfl⟩
    go_wp2_with fail
    refine (upto_any f 7 _).mono ?_
    rintro e w1 ⟨rfl, rfl⟩
    go_wp2_with fail
    refine (upto_any o 8191 _).mono ?_
    rintro e w1 ⟨rfl, rfl⟩
    go_wp2_with fail
    go_ret
    exact ⟨false, rfl, ⟨fun h => (by cases h), fun h => absurd h NR.out⟩, B1.out⟩
  have C5 : Hid (upB o 8191 = true) := c5
  have q5 : upB o 8191 = true := by simpa using c5
  clear c5
  by_cases c6 : s.length = 4
  rotate_left
  · have NR : Hid (¬ RightP ⟨t, i, f, o, l, p, s, d, q⟩) := by
      rintro ⟨r0, r1, r2, r3, r4, r5, r6, r7, r8, r9⟩
      exact c6 r6
    have q6 : ((s.length : Int) == 4) = false := by simp; omega
    clear c6
    go_enter Try.func39, Try.ntmps39
    go_wp2_with fail
    refine (upto_any t 255 _).mono ?_
    rintro e w1 ⟨rfl, rfl⟩
    go_wp2_with fail
    refine (upto_any l 255 _).mono ?_
    rintro e w1 ⟨rfl, rfl⟩
    go_wp2_with fail
    refine (upto_any p 255 _).mono ?_
    rintro e w1 ⟨rfl, rfl⟩
    go_wp2_with fail
    refine (upto_any i 65535 _).mono ?_
    rintro e w1 ⟨rfl, rfl⟩
    go_wp2_with fail
    refine (upto_any f 7 _).mono ?_
    rintro e w1 ⟨rfl, rfl⟩
    go_wp2_with fail
    refine (upto_any o 8191 _).mono ?_
    rintro e w1 ⟨rfl, rfl⟩
    go_wp2_with fail
    go_ret
    exact ⟨false, rfl, ⟨fun h => (by cases h), fun h => absurd h NR.out⟩, B1.out⟩
  have C6 : Hid (s.length = 4) := c6
  have q6 : ((s.length : Int) == 4) = true := by simp; omega
  clear c6
  by_cases c7 : d.length = 4
  rotate_left
  · have NR : Hid (¬ RightP ⟨t, i, f, o, l, p, s, d, q⟩) := by
      rintro ⟨r0, r1, r2, r3, r4, r5, r6, r7, r8, r9⟩
      exact c7 r7
    have q7 : ((d.length : Int) == 4) = false := by simp; omega
    clear c7
    go_enter Try.func39, Try.ntmps39
    go_wp2_with fail
    refine (upto_any t 255 _).mono ?_
    rintro e w1 ⟨rfl, rfl⟩
    go_wp2_with fail
    refine (upto_any l 255 _).mono ?_
    rintro e w1 ⟨rfl, rfl⟩
    go_wp2_with fail
    refine (upto_any p 255 _).mono ?_
    rintro e w1 ⟨rfl, rfl⟩
    go_wp2_with fail
    refine (upto_any i 65535 _).mono ?_
    rintro e w1 ⟨rfl, rfl⟩
    go_wp2_with fail
    refine (upto_any f 7 _).mono ?_
    rintro e w1 ⟨rfl, rfl⟩
    go_wp2_with fail
    refine (upto_any o 8191 _).mono ?_
    rintro e w1 ⟨rfl, rfl⟩
    go_wp2_with fail
    go_ret
    exact ⟨false, rfl, ⟨fun h => (by cases h), fun h => absurd h NR.out⟩, B1.out⟩
  have C7 : Hid (d.length = 4) := c7
  have q7 : ((d.length : Int) == 4) = true := by simp; omega
  clear c7
  by_cases c8 : q.length ≤ 40
  rotate_left
  · have NR : Hid (¬ RightP ⟨t, i, f, o, l, p, s, d, q⟩) := by
      rintro ⟨r0, r1, r2, r3, r4, r5, r6, r7, r8, r9⟩
      exact c8 r8
    have q8 : ¬ (q.length : Int) ≤ 40 := by omega
    clear c8
    go_enter Try.func39, Try.ntmps39
    go_wp2_with fail
    refine (upto_any t 255 _).mono ?_
    rintro e w1 ⟨rfl, rfl⟩
    go_wp2_with fail
    refine (upto_any l 255 _).mono ?_
    rintro e w1 ⟨rfl, rfl⟩
    go_wp2_with fail
    refine (upto_any p 255 _).mono ?_
    rintro e w1 ⟨rfl, rfl⟩
    go_wp2_with fail
    refine (upto_any i 65535 _).mono ?_
    rintro e w1 ⟨rfl, rfl⟩
    go_wp2_with fail
    refine (upto_any f 7 _).mono ?_
    rintro e w1 ⟨rfl, rfl⟩
    go_wp2_with fail
    refine (upto_any o 8191 _).mono ?_
    rintro e w1 ⟨rfl, rfl⟩
    go_wp2_with fail
    go_ret
    exact ⟨false, rfl, ⟨fun h => (by cases h), fun h => absurd h NR.out⟩, B1.out⟩
  have C8 : Hid (q.length ≤ 40) := c8
  have q8 : (q.length : Int) ≤ 40 := by omega
  clear c8
  by_cases c9 : q.length % 4 = 0
  rotate_left
  · have NR : Hid (¬ RightP ⟨t, i, f, o, l, p, s, d, q⟩) := by
      rintro ⟨r0, r1, r2, r3, r4, r5, r6, r7, r8, r9⟩
      exact c9 r9
    have q9 : ((q.length : Int) % 4 == 0) = false := by simp; omega
    clear c9
    go_enter Try.func39, Try.ntmps39
    go_wp2_with fail
    refine (upto_any t 255 _).mono ?_
    rintro e w1 ⟨rfl, rfl⟩
    go_wp2_with fail
    refine (upto_any l 255 _).mono ?_
    rintro e w1 ⟨rfl, rfl⟩
    go_wp2_with fail
    refine (upto_any p 255 _).mono ?_
    rintro e w1 ⟨rfl, rfl⟩
    go_wp2_with fail
    refine (upto_any i 65535 _).mono ?_
    rintro e w1 ⟨rfl, rfl⟩
    go_wp2_with fail
    refine (upto_any f 7 _).mono ?_
    rintro e w1 ⟨rfl, rfl⟩
    go_wp2_with fail
    refine (upto_any o 8191 _).mono ?_
    rintro e w1 ⟨rfl, rfl⟩
    go_wp2_with fail
    go_ret
    exact ⟨false, rfl, ⟨fun h => (by cases h), fun h => absurd h NR.out⟩, B1.out⟩
  have C9 : Hid (q.length % 4 = 0) := c9
  have q9 : ((q.length : Int) % 4 == 0) = true := by simp; omega
  clear c9
  have YR : Hid (RightP ⟨t, i, f, o, l, p, s, d, q⟩) := ⟨upB_iff.1 C0.out, upB_iff.1 C1.out, upB_iff.1 C2.out, upB_iff.1 C3.out, upB_iff.1 C4.out, upB_iff.1 C5.out, C6.out, C7.out, C8.out, C9.out⟩
  go_enter Try.func39, Try.ntmps39
  go_wp2_with fail
  refine (upto_any t 255 _).mono ?_
  rintro e w1 ⟨rfl, rfl⟩
  go_wp2_with fail
  refine (upto_any l 255 _).mono ?_
  rintro e w1 ⟨rfl, rfl⟩
  go_wp2_with fail
  refine (upto_any p 255 _).mono ?_
  rintro e w1 ⟨rfl, rfl⟩
  go_wp2_with fail
  refine (upto_any i 65535 _).mono ?_
  rintro e w1 ⟨rfl, rfl⟩
  go_wp2_with fail
  refine (upto_any f 7 _).mono ?_
  rintro e w1 ⟨rfl, rfl⟩
  go_wp2_with fail
  refine (upto_any o 8191 _).mono ?_
  rintro e w1 ⟨rfl, rfl⟩
  go_wp2_with fail
  go_ret
  exact ⟨true, rfl, ⟨fun h => YR.out, fun h => rfl⟩, B1.out⟩
theorem three_cells (w : World) (a b c : Int) (ty : TypeId) : Blk (w.alloc (.cells #[.int .i64 a, .int .i64 b, .int .i64 c] ty)) w.heap.size ty #[.int .i64 a, .int .i64 b, .int .i64 c] := Blk.new w ty _
/-- One of the three numbers of one byte. -/
def oneOf (t l p : Int) (k : Nat) : Int := if k = 0 then t else if k = 1 then l else p
end Go.Proofs.Yticopigpgaomjaa.L6
