/-
  For any number and exponent the next power is the product with the number, and a signed number and its opposite add up to 0; no condition.
-/
import Derived.Test.YtfhjaigefeediaaRows
import Derived.Test.YtfhjaigefeediaaPows
import Derived.WalkKit
import Derived.ProofKit
import Derived.OpenShut
namespace Go.Proofs.Ytfhjaigefeediaa.fieldSteps
open Fm
open Go.ChangeShapes Go.WideShapes Go.ChangeAt Go.RowKit
set_option linter.unusedVariables false      -- a walk need not use every 'w<i>' (that an integer argument fits its kind)

theorem own : ownKnob Try.prog.godebug = none := by kernel_rfl

/-! ### STEP 1: THE WALK: the Go text returns true. 'Grown w w'': the world has at most new blocks (Derived/RowKit3.lean). Part the cases AHEAD of 'go_enter' where a test parts the walk; take each callee by a contract of your own. -/
set_option maxHeartbeats 1000000 in
theorem walk (a0 : Int) (a1 : Int) (a2 : Int) (w0 : (Lit.int .u64 a0).wf = true) (w1 : (Lit.int .u32 a1).wf = true) (w2 : (Lit.int .i32 a2).wf = true) (w : World) :
    Calls Try.prog 8 #[.int .u64 a0, .int .u32 a1, .int .i32 a2] w fun e w' => e = .returned (.bool true) ∧ Grown w w' := by
  have u0 : U a0 := bounds_u64 w0
  obtain ⟨n0, n1⟩ := bounds_u32 w1
  obtain ⟨m0, m1⟩ := bounds_i32 w2
  have e1 := pow_succ_F a0 a1 n0
  have e2 := sgn_F a2
  clear w0 w1 w2
  go_enter Try.func8, Try.ntmps8
  go_wp2_with (first | (go_at_call 11; refine (of_any _ _ (by first | assumption | exact oF_U _ | exact addF_U _ _ | exact mulF_U _ _ | exact subF_U _ _ | exact powF_U _ _ | exact ⟨by omega, by omega⟩)).mono ?_; rintro e w' ⟨rfl, rfl⟩) | (go_at_call 12; refine (rof_any _ _ (by first | assumption | exact oF_U _ | exact addF_U _ _ | exact mulF_U _ _ | exact subF_U _ _ | exact powF_U _ _ | exact ⟨by omega, by omega⟩)).mono ?_; rintro e w' ⟨rfl, rfl⟩) | (go_at_call 13; refine (sgn_any _ _ (by omega) (by omega)).mono ?_; rintro e w' ⟨rfl, rfl⟩) | (go_at_call 14; refine (rsgn_any _ _ (by omega) (by omega)).mono ?_; rintro e w' ⟨rfl, rfl⟩) | (go_at_call 15; refine (add_any _ _ _ (by first | assumption | exact oF_U _ | exact addF_U _ _ | exact mulF_U _ _ | exact subF_U _ _ | exact powF_U _ _ | exact ⟨by omega, by omega⟩) (by first | assumption | exact oF_U _ | exact addF_U _ _ | exact mulF_U _ _ | exact subF_U _ _ | exact powF_U _ _ | exact ⟨by omega, by omega⟩)).mono ?_; rintro e w' ⟨rfl, rfl⟩) | (go_at_call 16; refine (radd_any _ _ _ (by first | assumption | exact oF_U _ | exact addF_U _ _ | exact mulF_U _ _ | exact subF_U _ _ | exact powF_U _ _ | exact ⟨by omega, by omega⟩) (by first | assumption | exact oF_U _ | exact addF_U _ _ | exact mulF_U _ _ | exact subF_U _ _ | exact powF_U _ _ | exact ⟨by omega, by omega⟩)).mono ?_; rintro e w' ⟨rfl, rfl⟩) | (go_at_call 17; refine (sub_any _ _ _ (by first | assumption | exact oF_U _ | exact addF_U _ _ | exact mulF_U _ _ | exact subF_U _ _ | exact powF_U _ _ | exact ⟨by omega, by omega⟩) (by first | assumption | exact oF_U _ | exact addF_U _ _ | exact mulF_U _ _ | exact subF_U _ _ | exact powF_U _ _ | exact ⟨by omega, by omega⟩)).mono ?_; rintro e w' ⟨rfl, rfl⟩) | (go_at_call 18; refine (rsub_any _ _ _ (by first | assumption | exact oF_U _ | exact addF_U _ _ | exact mulF_U _ _ | exact subF_U _ _ | exact powF_U _ _ | exact ⟨by omega, by omega⟩) (by first | assumption | exact oF_U _ | exact addF_U _ _ | exact mulF_U _ _ | exact subF_U _ _ | exact powF_U _ _ | exact ⟨by omega, by omega⟩)).mono ?_; rintro e w' ⟨rfl, rfl⟩) | (go_at_call 19; refine (mul_any _ _ _ (by first | assumption | exact oF_U _ | exact addF_U _ _ | exact mulF_U _ _ | exact subF_U _ _ | exact powF_U _ _ | exact ⟨by omega, by omega⟩) (by first | assumption | exact oF_U _ | exact addF_U _ _ | exact mulF_U _ _ | exact subF_U _ _ | exact powF_U _ _ | exact ⟨by omega, by omega⟩)).mono ?_; rintro e w' ⟨rfl, rfl⟩) | (go_at_call 20; refine (rmul_any _ _ _ (by first | assumption | exact oF_U _ | exact addF_U _ _ | exact mulF_U _ _ | exact subF_U _ _ | exact powF_U _ _ | exact ⟨by omega, by omega⟩) (by first | assumption | exact oF_U _ | exact addF_U _ _ | exact mulF_U _ _ | exact subF_U _ _ | exact powF_U _ _ | exact ⟨by omega, by omega⟩)).mono ?_; rintro e w' ⟨rfl, rfl⟩) | (go_at_call 22; refine (pow_any _ _ _ (by first | assumption | exact oF_U _ | exact addF_U _ _ | exact mulF_U _ _ | exact subF_U _ _ | exact powF_U _ _ | exact ⟨by omega, by omega⟩) (by first | assumption | exact oF_U _ | exact addF_U _ _ | exact mulF_U _ _ | exact subF_U _ _ | exact powF_U _ _ | exact ⟨by omega, by omega⟩)).mono ?_; rintro e w' ⟨rfl, rfl⟩) | (go_at_call 21; refine (awake_any _).mono ?_; rintro e w' ⟨rfl, rfl⟩))
  go_ret
  exact ⟨rfl, by exact Grown.refl _⟩

/-! ### THE ROW's STEP: WRITTEN OUT: LEAVE IT -/
set_option maxRecDepth 100000 in
theorem lifted (os : Os) (started : os.Started) (H : Type) (enc : TypeId × Value → H) :
    ReturnsInHanded {} Try.checked os 8 .any (Rows.fieldStepsSpec.pre6 enc Try.prog Try.f8 Rows.fieldStepsRow.domain false) (Rows.fieldStepsSpec.post enc Try.prog Try.f8 false true false false) := by
  refine returnsInHanded_of_change (C := Try.checked) own started (by kernel_rfl) Try.func8
    (ChangeSpec.witness6 (enc := enc) (C := Try.checked) false ⟨#[], #[.int .u64 0, .int .u32 0, .int .i32 0], []⟩ 8 (by kernel_rfl) (by kernel_rfl) (by kernel_rfl) (by kernel_rfl)) ?_
  intro W base args ds gs before hval0 hW hcnd _
  have hval : ∀ (j : Nat) t v, Try.f8.params[j]? = some t → args[j]? = some v → Value.okWide Try.prog W .any base t v := hval0
  have hW' := hW
  obtain ⟨p, q, hA0, hV, rfl, hfz, hnd⟩ := hW
  have hA : DataW.TrodAll enc Try.prog W 0 (fun _ => true) true Try.f8.params.toList args.toList ds p := hA0
  rw [Try.params8] at hA hval
  obtain ⟨v0, vs0, d0, ds0, p0, q0, hargs, rfl, rfl, h0, r0⟩ := trodAll_cons hA
  obtain ⟨v1, vs1, d1, ds1, p1, q1, rfl, rfl, rfl, h1, r1⟩ := trodAll_cons r0
  obtain ⟨v2, vs2, d2, ds2, p2, q2, rfl, rfl, rfl, h2, r2⟩ := trodAll_cons r1
  obtain ⟨rfl, rfl, rfl⟩ := trodAll_nil r2
  obtain rfl : args = #[v0, v1, v2] := by cases args; simp_all
  obtain ⟨rfl, rfl⟩ := trodVars_none hV
  obtain ⟨a0, rfl, rfl, rfl, w0⟩ := open_int Try.underlying22 (hval 0 22 v0 rfl rfl) h0
  obtain ⟨a1, rfl, rfl, rfl, w1⟩ := open_int Try.underlying33 (hval 1 33 v1 rfl rfl) h1
  obtain ⟨a2, rfl, rfl, rfl, w2⟩ := open_int Try.underlying21 (hval 2 21 v2 rfl rfl) h2
  clear hA0 hval0
  simp only [List.append_nil] at hW'
  refine (walk a0 a1 a2 w0 w1 w2 W).mono fun e W' ⟨he, hg⟩ => ?_
  subst he
  exact ⟨_, rfl, post_of_same (pa := []) (pv := []) hW' (fun _ _ _ => (trodAll_cons_mk (shut_bool Try.underlying4 _) trodAll_mk0)) (fun sp _ => (trodAll_cons_mk (shut_int Try.underlying22 w0) (trodAll_cons_mk (shut_int Try.underlying33 w1) (trodAll_cons_mk (shut_int Try.underlying21 w2) trodAll_mk0)))) (fun _ _ => rfl) rfl
    (hg.frame _) hg.2.1 (ok_one (by kernel_rfl) rfl (okWide_bool_mk Try.underlying4 _))⟩

theorem over : Rows.fieldStepsRow.holds Try.pinned (OpenSpec.ofChange Rows.fieldStepsSpec) :=
  OpenClaim.holds_of_wide 8 Try.f8 rfl rfl rfl rfl rfl rfl rfl ⟨rfl, rfl, rfl, rfl, rfl⟩ rfl rfl rfl rfl rfl (by kernel_rfl) Try.func8 (by kernel_rfl)
    (of_decide_eq_true (by kernel_rfl)) (by unfold Func.isWrapper; first | (rw [if_pos (by decide +kernel)]; kernel_rfl) | (rw [if_neg (by decide +kernel)]; exact ⟨rfl, rfl⟩))
    (fun os started H enc _ => lifted os started H enc)

/-- ████ THE STATEMENT ████ -/
theorem proved : Rows.FieldStepsSaid :=
  over
end Go.Proofs.Ytfhjaigefeediaa.fieldSteps
namespace Go.Proofs.Ytfhjaigefeediaa
theorem fieldSteps_holds : Rows.FieldStepsSaid := fieldSteps.proved
#print axioms fieldSteps_holds
end Go.Proofs.Ytfhjaigefeediaa
