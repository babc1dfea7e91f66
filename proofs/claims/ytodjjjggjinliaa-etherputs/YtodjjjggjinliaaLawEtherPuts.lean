/-
  Any frame, of at most 20 tags and 100 bytes of addresses, with a body of at most 4096 bytes, is written as the document says, or refused, and taken back. No condition.
-/
import Derived.Test.YtodjjjggjinliaaRows
import Derived.Test.YtodjjjggjinliaaEthOpen
import Derived.WalkKit
import Derived.ProofKit
import Derived.OpenShut
import Derived.ShutString
import Derived.ChangeOld
import Derived.ChangeMaps5
import Derived.Below
import Derived.Carry
namespace Go.Proofs.Ytodjjjggjinliaa.etherPuts
open Oc Et Go.Deep
open Go.ChangeShapes Go.WideShapes Go.ChangeAt Go.RowKit Go.ChangeMaps
set_option linter.unusedVariables false

theorem own : ownKnob Try.prog.godebug = none := by kernel_rfl

set_option maxHeartbeats 3200000 in
theorem walk (x : Value) (F : Fr) (t : ByteArray) (w : World) (hx : FrameAt w x F) (wt : t.size ≤ maxLen) :
    Calls Try.prog 4 #[x, .string t] w fun e w' => e = .returned (.bool true) ∧ Below w.heap.size w w' := by
  obtain ⟨l, rfl⟩ : ∃ l, t = bsL l := ⟨_, bsL_of t⟩
  rw [bsL_size] at wt
  have HX : Hid (∀ w' : World, Keep w w' → FrameAt w' x F) := fun w' k => hx.keep k
  obtain ⟨d, s, n, K, V, T⟩ := F
  obtain ⟨v, rfl, A, cap, b, o, rfl, h2, h3, h4⟩ := hx
  simp only at h2 h3 h4 HX
  clear h3 h4
  have B1 : Hid (Below w.heap.size w (w.alloc (.cells #[.string (bsL d), .string (bsL s), .slice A n cap, .int .i64 T] 25))) := (Below.refl _ _).alloc (Nat.le_refl _) _
  by_cases g1 : (20 : Int) < n
  · go_enter Try.func4, Try.ntmps4
    go_wp2_with fail
    refine (awake_any _).mono ?_
    rintro e u1 ⟨rfl, b1⟩
    go_wp2_with fail
    go_ret
    exact ⟨rfl, bel_trans B1.out b1⟩
  by_cases g2 : (100 : Int) < wrap64 ((d.length : Int) + (s.length : Int))
  · go_enter Try.func4, Try.ntmps4
    go_wp2_with fail
    refine (awake_any _).mono ?_
    rintro e u1 ⟨rfl, b1⟩
    go_wp2_with fail
    go_ret
    exact ⟨rfl, bel_trans B1.out b1⟩
  by_cases g3 : (4096 : Int) < l.length
  · go_enter Try.func4, Try.ntmps4
    go_wp2_with fail
    refine (awake_any _).mono ?_
    rintro e u1 ⟨rfl, b1⟩
    go_wp2_with fail
    go_ret
    exact ⟨rfl, bel_trans B1.out b1⟩
  have hn : n ≤ 1000000 := by omega
  have S1 : Hid (Blk (w.alloc (.cells #[.string (bsL d), .string (bsL s), .slice A n cap, .int .i64 T] 25)) w.heap.size 25 #[.string (bsL d), .string (bsL s), .slice A n cap, .int .i64 T]) := Blk.new _ _ _
  by_cases hR : RightP ⟨d, s, n, K, V, T⟩
  rotate_left
  · have HR : Hid (¬ RightP ⟨d, s, n, K, V, T⟩) := hR
    clear hR
    go_enter Try.func4, Try.ntmps4
    go_wp2_with fail
    refine (eput_no _ _ ⟨d, s, n, K, V, T⟩ l (HX.out _ (keep_of_below B1.out)) hn HR.out).mono ?_
    rintro e u1 ⟨rfl, b1⟩
    rw [show bsL [] = ⟨#[]⟩ from rfl]
    have S2 : Hid (Blk u1 w.heap.size 25 #[.string (bsL d), .string (bsL s), .slice A n cap, .int .i64 T]) := S1.out.below b1 S1.out.lt
    have K1 : Hid (Below w.heap.size w u1) := bel_trans B1.out b1
    clear b1
    have p0 : u1.cell? ⟨w.heap.size, 0, none⟩ = some (.string (bsL d)) := S2.out.cell 0
    have p1 : u1.cell? ⟨w.heap.size, 1, none⟩ = some (.string (bsL s)) := S2.out.cell 1
    have p2 : u1.cell? ⟨w.heap.size, 2, none⟩ = some (.slice A n cap) := S2.out.cell 2
    have p3 : u1.cell? ⟨w.heap.size, 3, none⟩ = some (.int .i64 T) := S2.out.cell 3
    go_wp2_with fail
    refine (ref_any _ _ ⟨d, s, n, K, V, T⟩ (HX.out _ (keep_of_below K1.out)) hn).mono ?_
    rintro e u2 ⟨y, rfl, fy, b2⟩
    have S3 : Hid (Blk u2 w.heap.size 25 #[.string (bsL d), .string (bsL s), .slice A n cap, .int .i64 T]) := S2.out.below b2 S2.out.lt
    have K2 : Hid (Below w.heap.size w u2) := bel_trans K1.out b2
    have HY : Hid (FrameAt u2 y ⟨d, s, n, K, V, T⟩) := fy
    clear b2 fy p0 p1 p2 p3
    go_wp2_with fail
    refine (rright_any _ _ ⟨d, s, n, K, V, T⟩ HY.out hn).mono ?_
    rintro e u3 ⟨B, rfl, hB, b3⟩
    have eB : B = false := by cases B with
      | false => rfl
      | true => exact absurd (hB.1 rfl) HR.out
    subst eB
    clear hB
    have S4 : Hid (Blk u3 w.heap.size 25 #[.string (bsL d), .string (bsL s), .slice A n cap, .int .i64 T]) := S3.out.below b3 S3.out.lt
    have K3 : Hid (Below w.heap.size w u3) := bel_trans K2.out b3
    clear b3
    have p0 : u3.cell? ⟨w.heap.size, 0, none⟩ = some (.string (bsL d)) := S4.out.cell 0
    have p1 : u3.cell? ⟨w.heap.size, 1, none⟩ = some (.string (bsL s)) := S4.out.cell 1
    have p2 : u3.cell? ⟨w.heap.size, 2, none⟩ = some (.slice A n cap) := S4.out.cell 2
    have p3 : u3.cell? ⟨w.heap.size, 3, none⟩ = some (.int .i64 T) := S4.out.cell 3
    go_wp2_with fail
    refine (right_any _ _ ⟨d, s, n, K, V, T⟩ (HX.out _ (keep_of_below K3.out)) hn).mono ?_
    rintro e u4 ⟨B, rfl, hB, b4⟩
    have eB : B = false := by cases B with
      | false => rfl
      | true => exact absurd (hB.1 rfl) HR.out
    subst eB
    clear hB
    have S5 : Hid (Blk u4 w.heap.size 25 #[.string (bsL d), .string (bsL s), .slice A n cap, .int .i64 T]) := S4.out.below b4 S4.out.lt
    have K4 : Hid (Below w.heap.size w u4) := bel_trans K3.out b4
    clear b4 p0 p1 p2 p3
    go_wp2_with fail
    refine (awake_any _).mono ?_
    rintro e u5 ⟨rfl, b5⟩
    go_wp2_with fail
    go_ret
    exact ⟨rfl, bel_trans K4.out b5⟩
  have HR : Hid (RightP ⟨d, s, n, K, V, T⟩) := hR
  clear hR
  have LL : Hid ((headL ⟨d, s, n, K, V, T⟩).length = 14 + 4 * n ∧ n ≤ 2) := ⟨head_len HR.out, HR.out.2.2.1⟩
  have lh : (headL ⟨d, s, n, K, V, T⟩ ++ l).length ≤ 1152921504606846976 := by rw [List.length_append, LL.out.1]; have := LL.out.2; omega
  have BK : Hid (takeE (headL ⟨d, s, n, K, V, T⟩ ++ l) = 0 ∧ restOf (headL ⟨d, s, n, K, V, T⟩ ++ l) = l) := ⟨(taken_back _ l HR.out).1, rest_back HR.out⟩
  go_enter Try.func4, Try.ntmps4
  go_wp2_with fail
  refine (eput_ok _ _ ⟨d, s, n, K, V, T⟩ l (HX.out _ (keep_of_below B1.out)) HR.out (by omega)).mono ?_
  rintro e u1 ⟨rfl, b1⟩
  have S2 : Hid (Blk u1 w.heap.size 25 #[.string (bsL d), .string (bsL s), .slice A n cap, .int .i64 T]) := S1.out.below b1 S1.out.lt
  have K1 : Hid (Below w.heap.size w u1) := bel_trans B1.out b1
  clear b1
  have p0 : u1.cell? ⟨w.heap.size, 0, none⟩ = some (.string (bsL d)) := S2.out.cell 0
  have p1 : u1.cell? ⟨w.heap.size, 1, none⟩ = some (.string (bsL s)) := S2.out.cell 1
  have p2 : u1.cell? ⟨w.heap.size, 2, none⟩ = some (.slice A n cap) := S2.out.cell 2
  have p3 : u1.cell? ⟨w.heap.size, 3, none⟩ = some (.int .i64 T) := S2.out.cell 3
  go_wp2_with fail
  refine (ref_any _ _ ⟨d, s, n, K, V, T⟩ (HX.out _ (keep_of_below K1.out)) hn).mono ?_
  rintro e u2 ⟨y, rfl, fy, b2⟩
  have S3 : Hid (Blk u2 w.heap.size 25 #[.string (bsL d), .string (bsL s), .slice A n cap, .int .i64 T]) := S2.out.below b2 S2.out.lt
  have K2 : Hid (Below w.heap.size w u2) := bel_trans K1.out b2
  have HY : Hid (FrameAt u2 y ⟨d, s, n, K, V, T⟩) := fy
  clear b2 fy p0 p1 p2 p3
  go_wp2_with fail
  refine (rright_any _ _ ⟨d, s, n, K, V, T⟩ HY.out hn).mono ?_
  rintro e u3 ⟨B, rfl, hB, b3⟩
  have eB : B = true := hB.2 HR.out
  subst eB
  clear hB
  have S4 : Hid (Blk u3 w.heap.size 25 #[.string (bsL d), .string (bsL s), .slice A n cap, .int .i64 T]) := S3.out.below b3 S3.out.lt
  have K3 : Hid (Below w.heap.size w u3) := bel_trans K2.out b3
  clear b3
  have p0 : u3.cell? ⟨w.heap.size, 0, none⟩ = some (.string (bsL d)) := S4.out.cell 0
  have p1 : u3.cell? ⟨w.heap.size, 1, none⟩ = some (.string (bsL s)) := S4.out.cell 1
  have p2 : u3.cell? ⟨w.heap.size, 2, none⟩ = some (.slice A n cap) := S4.out.cell 2
  have p3 : u3.cell? ⟨w.heap.size, 3, none⟩ = some (.int .i64 T) := S4.out.cell 3
  go_wp2_with fail
  refine (right_any _ _ ⟨d, s, n, K, V, T⟩ (HX.out _ (keep_of_below K3.out)) hn).mono ?_
  rintro e u4 ⟨B, rfl, hB, b4⟩
  have eB : B = true := hB.2 HR.out
  subst eB
  clear hB
  have S5 : Hid (Blk u4 w.heap.size 25 #[.string (bsL d), .string (bsL s), .slice A n cap, .int .i64 T]) := S4.out.below b4 S4.out.lt
  have K4 : Hid (Below w.heap.size w u4) := bel_trans K3.out b4
  clear b4 p0 p1 p2 p3
  go_wp2_with fail
  refine (etake_any _ (headL ⟨d, s, n, K, V, T⟩ ++ l) lh).mono ?_
  rintro e u5 ⟨x5, rfl, fx, b5⟩
  have fz := frame_back HR.out fx
  clear fx
  rw [BK.out.1, BK.out.2]
  have HG : Hid (∀ w' : World, Keep u5 w' → FrameAt w' x5 ⟨d, s, n, K, V, T⟩) := fun w' k => fz.keep k
  obtain ⟨v5, rfl, tv⟩ := fz
  obtain ⟨A5, cp5, rfl⟩ := tv.form
  simp only at HG
  clear tv
  have S6 : Hid (Blk u5 w.heap.size 25 #[.string (bsL d), .string (bsL s), .slice A n cap, .int .i64 T]) := S5.out.below b5 S5.out.lt
  have K5 : Hid (Below w.heap.size w u5) := bel_trans K4.out b5
  clear b5
  have pl : w.heap.size < u5.heap.size := S6.out.lt
  have p0 : u5.cell? ⟨w.heap.size, 0, none⟩ = some (.string (bsL d)) := S6.out.cell 0
  have p1 : u5.cell? ⟨w.heap.size, 1, none⟩ = some (.string (bsL s)) := S6.out.cell 1
  have p2 : u5.cell? ⟨w.heap.size, 2, none⟩ = some (.slice A n cap) := S6.out.cell 2
  have p3 : u5.cell? ⟨w.heap.size, 3, none⟩ = some (.int .i64 T) := S6.out.cell 3
  have cs : ¬ 9223372036854775807 < (headL ⟨d, s, n, K, V, T⟩).length + l.length := by rw [LL.out.1]; have := LL.out.2; omega
  have K6 : Hid (Below w.heap.size w (u5.alloc (.cells #[.string (bsL d), .string (bsL s), .slice A5 n cp5, .int .i64 T] 25)) ∧ Keep w (u5.alloc (.cells #[.string (bsL d), .string (bsL s), .slice A5 n cp5, .int .i64 T] 25)).drew ∧ Keep u5 (u5.alloc (.cells #[.string (bsL d), .string (bsL s), .slice A5 n cp5, .int .i64 T] 25)).drew) := ⟨bel_trans K5.out ((Below.refl _ _).alloc (Nat.le_refl _) _), keep_heap ((keep_of_below K5.out).trans (keep_of_below ((Below.refl _ _).alloc (Nat.le_refl _) _))) rfl, keep_heap (keep_of_below ((Below.refl _ _).alloc (Nat.le_refl _) _)) rfl⟩
  have KS0 : Hid (∀ q : World, Keep (u5.alloc (.cells #[.string (bsL d), .string (bsL s), .slice A5 n cp5, .int .i64 T] 25)).drew q → (q.cell? ⟨w.heap.size, 0, none⟩ = some (.string (bsL d)) ∧ q.cell? ⟨w.heap.size, 1, none⟩ = some (.string (bsL s)) ∧ q.cell? ⟨w.heap.size, 2, none⟩ = some (.slice A n cap) ∧ q.cell? ⟨w.heap.size, 3, none⟩ = some (.int .i64 T) ∧ q.cell? ⟨u5.heap.size, 0, none⟩ = some (.string (bsL d)) ∧ q.cell? ⟨u5.heap.size, 1, none⟩ = some (.string (bsL s)) ∧ q.cell? ⟨u5.heap.size, 2, none⟩ = some (.slice A5 n cp5) ∧ q.cell? ⟨u5.heap.size, 3, none⟩ = some (.int .i64 T))) := fun q kq => by
    have k1 : Keep u5 q := K6.out.2.2.trans kq
    have k2 : Keep (u5.alloc (.cells #[.string (bsL d), .string (bsL s), .slice A5 n cp5, .int .i64 T] 25)) q := fun a v e => kq a v e
    have nb := Blk.new u5 25 #[.string (bsL d), .string (bsL s), .slice A5 n cp5, .int .i64 T]
    exact ⟨k1 _ _ p0, k1 _ _ p1, k1 _ _ p2, k1 _ _ p3, k2 _ _ (nb.cell 0), k2 _ _ (nb.cell 1), k2 _ _ (nb.cell 2), k2 _ _ (nb.cell 3)⟩
  go_wp2_with fail
  go_region_held3 (fun w' => w'.cell? ⟨w.heap.size, 0, none⟩ = some (.string (bsL d)) ∧ w'.cell? ⟨w.heap.size, 1, none⟩ = some (.string (bsL s)) ∧ w'.cell? ⟨w.heap.size, 2, none⟩ = some (.slice A n cap) ∧ w'.cell? ⟨w.heap.size, 3, none⟩ = some (.int .i64 T) ∧ w'.cell? ⟨u5.heap.size, 0, none⟩ = some (.string (bsL d)) ∧ w'.cell? ⟨u5.heap.size, 1, none⟩ = some (.string (bsL s)) ∧ w'.cell? ⟨u5.heap.size, 2, none⟩ = some (.slice A5 n cp5) ∧ w'.cell? ⟨u5.heap.size, 3, none⟩ = some (.int .i64 T)) (first | go_keep | exact KQ6.out | exact KQ5.out | exact KQ4.out | exact KQ3.out | exact KQ2.out | exact KQ1.out) (first
    | (go_simp; have fl := HY2; clear fl; go_at_call 12; refine (ref_any _ _ ⟨d, s, n, K, V, T⟩ (HX.out _ (K6.out.2.1.trans HW3.out)) hn).mono ?_; rintro e q4 ⟨y3, rfl, fy, c4⟩; have HY3 : Hid (FrameAt q4 y3 ⟨d, s, n, K, V, T⟩ ∧ FrameAt q4 y2 ⟨d, s, n, K, V, T⟩) := ⟨fy, HY2.out.keep (keep_of_below c4)⟩; have HW4 : Hid (Keep (u5.alloc (.cells #[.string (bsL d), .string (bsL s), .slice A5 n cp5, .int .i64 T] 25)).drew q4) := HW3.out.trans (keep_of_below c4); have KQ4 : Hid (_) := KS0.out q4 HW4.out; have W4 : Hid (Below w.heap.size w q4) := bel_trans W3.out c4; clear fy c4)
    | (go_simp; have fl := HW2; clear fl; go_at_call 12; refine (ref_any _ _ ⟨d, s, n, K, V, T⟩ (HG.out _ (K6.out.2.2.trans HW2.out)) hn).mono ?_; rintro e q3 ⟨y2, rfl, fy, c3⟩; have HY2 : Hid (FrameAt q3 y2 ⟨d, s, n, K, V, T⟩) := fy; have HW3 : Hid (Keep (u5.alloc (.cells #[.string (bsL d), .string (bsL s), .slice A5 n cp5, .int .i64 T] 25)).drew q3) := HW2.out.trans (keep_of_below c3); have KQ3 : Hid (_) := KS0.out q3 HW3.out; have W3 : Hid (Below w.heap.size w q3) := bel_trans W2.out c3; clear fy c3)
    | (go_simp; go_at_call 12; refine (ref_any _ _ ⟨d, s, n, K, V, T⟩ (HX.out _ K6.out.2.1) hn).mono ?_; rintro e q1 ⟨y1, rfl, fy, c1⟩; have HY1 : Hid (FrameAt q1 y1 ⟨d, s, n, K, V, T⟩) := fy; have HW1 : Hid (Keep (u5.alloc (.cells #[.string (bsL d), .string (bsL s), .slice A5 n cp5, .int .i64 T] 25)).drew q1) := keep_of_below c1; have KQ1 : Hid (_) := KS0.out q1 HW1.out; have W1 : Hid (Below w.heap.size w q1) := bel_trans K6.out.1 ⟨c1.os, c1.tape, c1.output, c1.size, c1.block⟩; clear fy c1)
    | (go_simp; go_at_call 16; refine (rput_ok _ _ ⟨d, s, n, K, V, T⟩ HY1.out HR.out).mono ?_; rintro e q2 ⟨rfl, c2⟩; have HW2 : Hid (Keep (u5.alloc (.cells #[.string (bsL d), .string (bsL s), .slice A5 n cp5, .int .i64 T] 25)).drew q2) := HW1.out.trans (keep_of_below c2); have KQ2 : Hid (_) := KS0.out q2 HW2.out; have W2 : Hid (Below w.heap.size w q2) := bel_trans W1.out c2; clear c2)
    | (go_simp; go_at_call 11; refine (equal_any _ _ _ ⟨d, s, n, K, V, T⟩ HY3.out.2 HY3.out.1 hn).mono ?_; rintro e q5 ⟨rfl, c5⟩; have HW5 : Hid (Keep (u5.alloc (.cells #[.string (bsL d), .string (bsL s), .slice A5 n cp5, .int .i64 T] 25)).drew q5) := HW4.out.trans (keep_of_below c5); have KQ5 : Hid (_) := KS0.out q5 HW5.out; have W5 : Hid (Below w.heap.size w q5) := bel_trans W4.out c5; clear c5)
    | (go_simp; go_at_call 8; refine (awake_any _).mono ?_; rintro e q6 ⟨rfl, c6⟩; have KQ6 : Hid (_) := KS0.out q6 (HW5.out.trans (keep_of_below c6)); have W6 : Hid (Below w.heap.size w q6) := bel_trans W5.out c6; clear c6))
  all_goals go_wp2_with fail
  all_goals go_ret
  all_goals exact ⟨rfl, W6.out⟩

/-! ### The row -/
theorem laidOut : laidOutB Try.prog = true := by kernel_rfl
set_option maxRecDepth 100000 in
theorem lifted (os : Os) (started : os.Started) (H : Type) (enc : TypeId × Value → H) :
    ReturnsInHanded {} Try.checked os 4 .any (Rows.etherPutsSpec.pre6 enc Try.prog Try.f4 Rows.etherPutsRow.domain false) (Rows.etherPutsSpec.post enc Try.prog Try.f4 false true false false) := by
  refine returnsInHanded_of_change (C := Try.checked) own started (by kernel_rfl) Try.func4
    (ChangeSpec.witness6 (enc := enc) (C := Try.checked) false ⟨#[], #[.agg #[.string ⟨#[]⟩, .string ⟨#[]⟩, .slice none 0 0, .int .i64 0], .string ⟨#[]⟩], []⟩ 8 (by kernel_rfl) (by kernel_rfl) (by kernel_rfl) (by kernel_rfl)) ?_
  intro W base args ds gs before hval0 hW hcnd _
  have hval : ∀ (j : Nat) t v, Try.f4.params[j]? = some t → args[j]? = some v → Value.okWide Try.prog W .any base t v := hval0
  have hW' := hW
  obtain ⟨p, q, hA0, hV, rfl, hfz, hnd⟩ := hW
  have hA : DataW.TrodAll enc Try.prog W 0 (fun _ => true) true Try.f4.params.toList args.toList ds p := hA0
  rw [Try.params4] at hA hval
  obtain ⟨v0, vs0, d0, ds0, p0, q0, hargs, rfl, rfl, h0, r0⟩ := trodAll_cons hA
  obtain ⟨v1, vs1, d1, ds1, p1, q1, rfl, rfl, rfl, h1, r1⟩ := trodAll_cons r0
  obtain ⟨rfl, rfl, rfl⟩ := trodAll_nil r1
  obtain rfl : args = #[v0, v1] := by cases args; simp_all
  obtain ⟨rfl, rfl⟩ := trodVars_none hV
  have k0 := h0
  have lt0 : ∀ x ∈ p0, x.block < W.heap.size := by obtain ⟨m, hm⟩ := k0; exact DataW.trod_lt m _ _ _ hm
  obtain ⟨F0, w0⟩ := open_frame (hval 0 25 v0 rfl rfl) h0
  obtain ⟨a1, rfl, rfl, rfl, w1⟩ := open_string Try.underlying9 (hval 1 9 v1 rfl rfl) h1
  clear hA0 hval0
  refine (walk v0 F0 a1 W w0 w1).mono fun e W' ⟨he, bel⟩ => ?_
  subst he
  exact ⟨_, rfl, _, _, _, [], _, [], hW', trodAll_mk1 (shut_bool Try.underlying4 _), (trodAll_cons_mk (Below.trod laidOut (by kernel_rfl) (of_decide_eq_true (by kernel_rfl)) k0 bel lt0) (trodAll_cons_mk (shut_string Try.underlying9 w1) trodAll_mk0)), rfl, bel.frame _, fun h => by cases h⟩

theorem over : Rows.etherPutsRow.holds Try.pinned (OpenSpec.ofChange Rows.etherPutsSpec) :=
  OpenClaim.holds_of_wide 4 Try.f4 rfl rfl rfl rfl rfl rfl rfl ⟨rfl, rfl, rfl, rfl, rfl⟩ rfl rfl rfl rfl rfl (by kernel_rfl) Try.func4 (by kernel_rfl)
    (of_decide_eq_true (by kernel_rfl)) (by unfold Func.isWrapper; first | (rw [if_pos (by decide +kernel)]; kernel_rfl) | (rw [if_neg (by decide +kernel)]; exact ⟨rfl, rfl⟩))
    (fun os started H enc _ => lifted os started H enc)

theorem proved : Rows.EtherPutsSaid := over
end Go.Proofs.Ytodjjjggjinliaa.etherPuts
namespace Go.Proofs.Ytodjjjggjinliaa
theorem etherPuts_holds : Rows.EtherPutsSaid := etherPuts.proved
#print axioms etherPuts_holds
end Go.Proofs.Ytodjjjggjinliaa
