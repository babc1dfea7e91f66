/-
  For any bytes, at most 4096, the frame at their beginning is told as the document says, or refused. No condition.
-/
import Derived.Test.YtodjjjggjinliaaRows
import Derived.Test.YtodjjjggjinliaaEthAwake
import Derived.WalkKit
import Derived.ProofKit
import Derived.OpenShut
import Derived.ShutString
import Derived.ChangeOld
import Derived.ChangeMaps5
import Derived.Below
import Derived.Carry
namespace Go.Proofs.Ytodjjjggjinliaa.etherTakes
open Oc Et Go.Deep
open Go.ChangeShapes Go.WideShapes Go.ChangeAt Go.RowKit Go.ChangeMaps
set_option linter.unusedVariables false

theorem own : ownKnob Try.prog.godebug = none := by kernel_rfl

set_option maxHeartbeats 3200000 in
theorem walk (s : ByteArray) (w : World) (ws : s.size ≤ maxLen) :
    Calls Try.prog 3 #[.string s] w fun e w' => e = .returned (.bool true) ∧ Below w.heap.size w w' := by
  obtain ⟨l, rfl⟩ : ∃ l, s = bsL l := ⟨_, bsL_of s⟩
  rw [bsL_size] at ws
  by_cases h : 4096 < l.length
  · go_enter Try.func3, Try.ntmps3
    go_wp2_with fail
    refine (awake_any _).mono ?_
    rintro e u1 ⟨rfl, b1⟩
    go_wp2_with fail
    go_ret
    exact ⟨rfl, b1⟩
  have hn : (frOf l).n ≤ 1000000 := by have := fr_two l; omega
  go_enter Try.func3, Try.ntmps3
  go_wp2_with fail
  refine (etake_any _ l (by omega)).mono ?_
  rintro e u1 ⟨x1, rfl, fx1, b1⟩
  have HX1 : Hid (∀ w' : World, Keep u1 w' → FrameAt w' x1 (frOf (l))) := fun w' k => fx1.keep k
  obtain ⟨v1, rfl, tv1⟩ := fx1
  obtain ⟨A1, cp1, rfl⟩ := tv1.form
  clear tv1
  have B1 : Hid (Below u1.heap.size u1 (u1.alloc (.cells #[.string (bsL (frOf (l)).d), .string (bsL (frOf (l)).s), .slice A1 (frOf (l)).n cp1, .int .i64 (frOf (l)).T] 25))) := (Below.refl _ _).alloc (Nat.le_refl _) _
  have S1 : Hid (Blk (u1.alloc (.cells #[.string (bsL (frOf (l)).d), .string (bsL (frOf (l)).s), .slice A1 (frOf (l)).n cp1, .int .i64 (frOf (l)).T] 25)) u1.heap.size 25 #[.string (bsL (frOf (l)).d), .string (bsL (frOf (l)).s), .slice A1 (frOf (l)).n cp1, .int .i64 (frOf (l)).T]) := Blk.new _ _ _
  go_wp2_with fail
  refine (rtake_any _ l (by omega)).mono ?_
  rintro e u2 ⟨x2, rfl, fx2, b2⟩
  have HX2 : Hid (∀ w' : World, Keep u2 w' → FrameAt w' x2 (frOf (l))) := fun w' k => fx2.keep k
  obtain ⟨v2, rfl, tv2⟩ := fx2
  obtain ⟨A2, cp2, rfl⟩ := tv2.form
  clear tv2
  have K2 : Hid (Below u1.heap.size u1 u2) := bel_trans B1.out b2
  have S2 : Hid (Blk u2 u1.heap.size 25 #[.string (bsL (frOf (l)).d), .string (bsL (frOf (l)).s), .slice A1 (frOf (l)).n cp1, .int .i64 (frOf (l)).T]) := S1.out.below b2 S1.out.lt
  have p0 : u2.cell? ⟨u1.heap.size, 0, none⟩ = some (.string (bsL (frOf (l)).d)) := S2.out.cell 0
  have p1 : u2.cell? ⟨u1.heap.size, 1, none⟩ = some (.string (bsL (frOf (l)).s)) := S2.out.cell 1
  have p2 : u2.cell? ⟨u1.heap.size, 2, none⟩ = some (.slice A1 (frOf (l)).n cp1) := S2.out.cell 2
  have p3 : u2.cell? ⟨u1.heap.size, 3, none⟩ = some (.int .i64 (frOf (l)).T) := S2.out.cell 3
  have pl : u1.heap.size < u2.heap.size := S2.out.lt
  have KP1 : Hid (Keep u1 (u2.alloc (.cells #[.string (bsL (frOf (l)).d), .string (bsL (frOf (l)).s), .slice A2 (frOf (l)).n cp2, .int .i64 (frOf (l)).T] 31)).drew) := keep_heap ((keep_of_below K2.out).trans (keep_of_below ((Below.refl _ _).alloc (Nat.le_refl _) _))) rfl
  have W2 : Hid (Below w.heap.size w (u2.alloc (.cells #[.string (bsL (frOf (l)).d), .string (bsL (frOf (l)).s), .slice A2 (frOf (l)).n cp2, .int .i64 (frOf (l)).T] 31))) := bel_trans (bel_trans b1 K2.out) ((Below.refl _ _).alloc (Nat.le_refl _) _)
  go_wp2_with fail
  have KS0 : Hid (∀ q : World, Keep (u2.alloc (.cells #[.string (bsL (frOf (l)).d), .string (bsL (frOf (l)).s), .slice A2 (frOf (l)).n cp2, .int .i64 (frOf (l)).T] 31)).drew q → (q.cell? ⟨u1.heap.size, 0, none⟩ = some (.string (bsL (frOf (l)).d)) ∧ q.cell? ⟨u1.heap.size, 1, none⟩ = some (.string (bsL (frOf (l)).s)) ∧ q.cell? ⟨u1.heap.size, 2, none⟩ = some (.slice A1 (frOf (l)).n cp1) ∧ q.cell? ⟨u1.heap.size, 3, none⟩ = some (.int .i64 (frOf (l)).T) ∧ q.cell? ⟨u2.heap.size, 0, none⟩ = some (.string (bsL (frOf (l)).d)) ∧ q.cell? ⟨u2.heap.size, 1, none⟩ = some (.string (bsL (frOf (l)).s)) ∧ q.cell? ⟨u2.heap.size, 2, none⟩ = some (.slice A2 (frOf (l)).n cp2) ∧ q.cell? ⟨u2.heap.size, 3, none⟩ = some (.int .i64 (frOf (l)).T))) := fun q kq => by
    have k1 : Keep u2 q := (keep_heap (keep_of_below ((Below.refl _ _).alloc (Nat.le_refl _) _)) rfl : Keep u2 (u2.alloc (.cells #[.string (bsL (frOf (l)).d), .string (bsL (frOf (l)).s), .slice A2 (frOf (l)).n cp2, .int .i64 (frOf (l)).T] 31)).drew).trans kq
    have k2 : Keep (u2.alloc (.cells #[.string (bsL (frOf (l)).d), .string (bsL (frOf (l)).s), .slice A2 (frOf (l)).n cp2, .int .i64 (frOf (l)).T] 31)) q := fun a v e => kq a v e
    have nb := Blk.new u2 31 #[.string (bsL (frOf (l)).d), .string (bsL (frOf (l)).s), .slice A2 (frOf (l)).n cp2, .int .i64 (frOf (l)).T]
    exact ⟨k1 _ _ p0, k1 _ _ p1, k1 _ _ p2, k1 _ _ p3, k2 _ _ (nb.cell 0), k2 _ _ (nb.cell 1), k2 _ _ (nb.cell 2), k2 _ _ (nb.cell 3)⟩
  go_region_held3 (fun w' => w'.cell? ⟨u1.heap.size, 0, none⟩ = some (.string (bsL (frOf (l)).d)) ∧ w'.cell? ⟨u1.heap.size, 1, none⟩ = some (.string (bsL (frOf (l)).s)) ∧ w'.cell? ⟨u1.heap.size, 2, none⟩ = some (.slice A1 (frOf (l)).n cp1) ∧ w'.cell? ⟨u1.heap.size, 3, none⟩ = some (.int .i64 (frOf (l)).T) ∧ w'.cell? ⟨u2.heap.size, 0, none⟩ = some (.string (bsL (frOf (l)).d)) ∧ w'.cell? ⟨u2.heap.size, 1, none⟩ = some (.string (bsL (frOf (l)).s)) ∧ w'.cell? ⟨u2.heap.size, 2, none⟩ = some (.slice A2 (frOf (l)).n cp2) ∧ w'.cell? ⟨u2.heap.size, 3, none⟩ = some (.int .i64 (frOf (l)).T)) (first | go_keep | exact KQ3.out | exact KQ2.out | exact KQ1.out) (first
    | (go_simp; go_at_call 12; refine (ref_any _ _ (frOf l) (HX1.out _ KP1.out) hn).mono ?_; rintro e q1 ⟨y1, rfl, fy, c1⟩; have HY : Hid (FrameAt q1 y1 (frOf l)) := fy; have kk : Keep (u2.alloc (.cells #[.string (bsL (frOf (l)).d), .string (bsL (frOf (l)).s), .slice A2 (frOf (l)).n cp2, .int .i64 (frOf (l)).T] 31)).drew q1 := keep_of_below c1; have KQ1 : Hid (_) := KS0.out q1 kk; have HZ : Hid (Keep u2 q1) := (keep_heap (keep_of_below ((Below.refl _ _).alloc (Nat.le_refl _) _)) rfl : Keep u2 (u2.alloc (.cells #[.string (bsL (frOf (l)).d), .string (bsL (frOf (l)).s), .slice A2 (frOf (l)).n cp2, .int .i64 (frOf (l)).T] 31)).drew).trans kk; have HW : Hid (Keep (u2.alloc (.cells #[.string (bsL (frOf (l)).d), .string (bsL (frOf (l)).s), .slice A2 (frOf (l)).n cp2, .int .i64 (frOf (l)).T] 31)).drew q1) := kk; have W3 : Hid (Below w.heap.size w q1) := bel_trans W2.out ⟨c1.os, c1.tape, c1.output, c1.size, c1.block⟩; clear fy c1 kk)
    | (go_simp; go_at_call 11; refine (equal_any _ _ _ (frOf l) HY.out (HX2.out _ HZ.out) hn).mono ?_; rintro e q2 ⟨rfl, c2⟩; have HW2 : Hid (Keep (u2.alloc (.cells #[.string (bsL (frOf (l)).d), .string (bsL (frOf (l)).s), .slice A2 (frOf (l)).n cp2, .int .i64 (frOf (l)).T] 31)).drew q2) := HW.out.trans (keep_of_below c2); have KQ2 : Hid (_) := KS0.out q2 HW2.out; have W4 : Hid (Below w.heap.size w q2) := bel_trans W3.out c2; clear c2)
    | (go_simp; go_at_call 8; refine (awake_any _).mono ?_; rintro e q3 ⟨rfl, c3⟩; have KQ3 : Hid (_) := KS0.out q3 (HW2.out.trans (keep_of_below c3)); have W5 : Hid (Below w.heap.size w q3) := bel_trans W4.out c3; clear c3))
  all_goals go_wp2_with fail
  all_goals go_ret
  all_goals exact ⟨rfl, W5.out⟩

/-! ### The row -/
theorem laidOut : laidOutB Try.prog = true := by kernel_rfl
set_option maxRecDepth 100000 in
theorem lifted (os : Os) (started : os.Started) (H : Type) (enc : TypeId × Value → H) :
    ReturnsInHanded {} Try.checked os 3 .any (Rows.etherTakesSpec.pre6 enc Try.prog Try.f3 Rows.etherTakesRow.domain false) (Rows.etherTakesSpec.post enc Try.prog Try.f3 false true false false) := by
  refine returnsInHanded_of_change (C := Try.checked) own started (by kernel_rfl) Try.func3
    (ChangeSpec.witness6 (enc := enc) (C := Try.checked) false ⟨#[], #[.string ⟨#[]⟩], []⟩ 8 (by kernel_rfl) (by kernel_rfl) (by kernel_rfl) (by kernel_rfl)) ?_
  intro W base args ds gs before hval0 hW hcnd _
  have hval : ∀ (j : Nat) t v, Try.f3.params[j]? = some t → args[j]? = some v → Value.okWide Try.prog W .any base t v := hval0
  have hW' := hW
  obtain ⟨p, q, hA0, hV, rfl, hfz, hnd⟩ := hW
  have hA : DataW.TrodAll enc Try.prog W 0 (fun _ => true) true Try.f3.params.toList args.toList ds p := hA0
  rw [Try.params3] at hA hval
  obtain ⟨v0, vs0, d0, ds0, p0, q0, hargs, rfl, rfl, h0, r0⟩ := trodAll_cons hA
  obtain ⟨rfl, rfl, rfl⟩ := trodAll_nil r0
  obtain rfl : args = #[v0] := by cases args; simp_all
  obtain ⟨rfl, rfl⟩ := trodVars_none hV
  obtain ⟨a0, rfl, rfl, rfl, w0⟩ := open_string Try.underlying9 (hval 0 9 v0 rfl rfl) h0
  clear hA0 hval0
  refine (walk a0 W w0).mono fun e W' ⟨he, bel⟩ => ?_
  subst he
  exact ⟨_, rfl, _, _, _, [], _, [], hW', trodAll_mk1 (shut_bool Try.underlying4 _), (trodAll_cons_mk (shut_string Try.underlying9 w0) trodAll_mk0), rfl, bel.frame _, fun h => by cases h⟩

theorem over : Rows.etherTakesRow.holds Try.pinned (OpenSpec.ofChange Rows.etherTakesSpec) :=
  OpenClaim.holds_of_wide 3 Try.f3 rfl rfl rfl rfl rfl rfl rfl ⟨rfl, rfl, rfl, rfl, rfl⟩ rfl rfl rfl rfl rfl (by kernel_rfl) Try.func3 (by kernel_rfl)
    (of_decide_eq_true (by kernel_rfl)) (by unfold Func.isWrapper; first | (rw [if_pos (by decide +kernel)]; kernel_rfl) | (rw [if_neg (by decide +kernel)]; exact ⟨rfl, rfl⟩))
    (fun os started H enc _ => lifted os started H enc)

theorem proved : Rows.EtherTakesSaid := over
end Go.Proofs.Ytodjjjggjinliaa.etherTakes
namespace Go.Proofs.Ytodjjjggjinliaa
theorem etherTakes_holds : Rows.EtherTakesSaid := etherTakes.proved
#print axioms etherTakes_holds
end Go.Proofs.Ytodjjjggjinliaa
