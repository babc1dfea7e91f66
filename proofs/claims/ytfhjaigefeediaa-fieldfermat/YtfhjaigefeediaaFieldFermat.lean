/-
  Any number that is not 0 modulo 2^61 - 1 has the power 1 at the exponent 2^61 - 2, and one that is 0 has the power 0; no condition.
-/
import Derived.Test.YtfhjaigefeediaaRows
import Derived.Test.YtfhjaigefeediaaPows
import Derived.WalkKit
import Derived.ProofKit
import Derived.OpenShut
namespace Go.Proofs.Ytfhjaigefeediaa.fieldFermat
open Fm
open Go.ChangeShapes Go.WideShapes Go.ChangeAt Go.RowKit
set_option linter.unusedVariables false      -- a walk need not use every 'w<i>' (that an integer argument fits its kind)

theorem own : ownKnob Try.prog.godebug = none := by kernel_rfl

/-! ### STEP 1: THE WALK: the Go text returns true. 'Grown w w'': the world has at most new blocks (Derived/RowKit3.lean). Part the cases AHEAD of 'go_enter' where a test parts the walk; take each callee by a contract of your own. -/
set_option maxHeartbeats 1000000 in
theorem walk (a0 : Int) (w0 : (Lit.int .u64 a0).wf = true) (w : World) :
    Calls Try.prog 10 #[.int .u64 a0] w fun e w' => e = .returned (.bool true) ∧ Grown w w' := by
  have u0 : U a0 := bounds_u64 w0
  clear w0
  by_cases h : oF a0 = 0
  · have q : (oF a0 == 0) = true := by rw [h]; rfl
    have e := fermat_zero a0 2305843009213693950 h (by omega)
    clear h
    go_enter Try.func10, Try.ntmps10
    go_wp2_with (first | (go_at_call 11; refine (of_any _ _ (by first | assumption | exact oF_U _ | exact addF_U _ _ | exact mulF_U _ _ | exact subF_U _ _ | exact powF_U _ _ | exact ⟨by omega, by omega⟩)).mono ?_; rintro e w' ⟨rfl, rfl⟩) | (go_at_call 12; refine (rof_any _ _ (by first | assumption | exact oF_U _ | exact addF_U _ _ | exact mulF_U _ _ | exact subF_U _ _ | exact powF_U _ _ | exact ⟨by omega, by omega⟩)).mono ?_; rintro e w' ⟨rfl, rfl⟩) | (go_at_call 13; refine (sgn_any _ _ (by omega) (by omega)).mono ?_; rintro e w' ⟨rfl, rfl⟩) | (go_at_call 14; refine (rsgn_any _ _ (by omega) (by omega)).mono ?_; rintro e w' ⟨rfl, rfl⟩) | (go_at_call 15; refine (add_any _ _ _ (by first | assumption | exact oF_U _ | exact addF_U _ _ | exact mulF_U _ _ | exact subF_U _ _ | exact powF_U _ _ | exact ⟨by omega, by omega⟩) (by first | assumption | exact oF_U _ | exact addF_U _ _ | exact mulF_U _ _ | exact subF_U _ _ | exact powF_U _ _ | exact ⟨by omega, by omega⟩)).mono ?_; rintro e w' ⟨rfl, rfl⟩) | (go_at_call 16; refine (radd_any _ _ _ (by first | assumption | exact oF_U _ | exact addF_U _ _ | exact mulF_U _ _ | exact subF_U _ _ | exact powF_U _ _ | exact ⟨by omega, by omega⟩) (by first | assumption | exact oF_U _ | exact addF_U _ _ | exact mulF_U _ _ | exact subF_U _ _ | exact powF_U _ _ | exact ⟨by omega, by omega⟩)).mono ?_; rintro e w' ⟨rfl, rfl⟩) | (go_at_call 17; refine (sub_any _ _ _ (by first | assumption | exact oF_U _ | exact addF_U _ _ | exact mulF_U _ _ | exact subF_U _ _ | exact powF_U _ _ | exact ⟨by omega, by omega⟩) (by first | assumption | exact oF_U _ | exact addF_U _ _ | exact mulF_U _ _ | exact subF_U _ _ | exact powF_U _ _ | exact ⟨by omega, by omega⟩)).mono ?_; rintro e w' ⟨rfl, rfl⟩) | (go_at_call 18; refine (rsub_any _ _ _ (by first | assumption | exact oF_U _ | exact addF_U _ _ | exact mulF_U _ _ | exact subF_U _ _ | exact powF_U _ _ | exact ⟨by omega, by omega⟩) (by first | assumption | exact oF_U _ | exact addF_U _ _ | exact mulF_U _ _ | exact subF_U _ _ | exact powF_U _ _ | exact ⟨by omega, by omega⟩)).mono ?_; rintro e w' ⟨rfl, rfl⟩) | (go_at_call 19; refine (mul_any _ _ _ (by first | assumption | exact oF_U _ | exact addF_U _ _ | exact mulF_U _ _ | exact subF_U _ _ | exact powF_U _ _ | exact ⟨by omega, by omega⟩) (by first | assumption | exact oF_U _ | exact addF_U _ _ | exact mulF_U _ _ | exact subF_U _ _ | exact powF_U _ _ | exact ⟨by omega, by omega⟩)).mono ?_; rintro e w' ⟨rfl, rfl⟩) | (go_at_call 20; refine (rmul_any _ _ _ (by first | assumption | exact oF_U _ | exact addF_U _ _ | exact mulF_U _ _ | exact subF_U _ _ | exact powF_U _ _ | exact ⟨by omega, by omega⟩) (by first | assumption | exact oF_U _ | exact addF_U _ _ | exact mulF_U _ _ | exact subF_U _ _ | exact powF_U _ _ | exact ⟨by omega, by omega⟩)).mono ?_; rintro e w' ⟨rfl, rfl⟩) | (go_at_call 22; refine (pow_any _ _ _ (by first | assumption | exact oF_U _ | exact addF_U _ _ | exact mulF_U _ _ | exact subF_U _ _ | exact powF_U _ _ | exact ⟨by omega, by omega⟩) (by first | assumption | exact oF_U _ | exact addF_U _ _ | exact mulF_U _ _ | exact subF_U _ _ | exact powF_U _ _ | exact ⟨by omega, by omega⟩)).mono ?_; rintro e w' ⟨rfl, rfl⟩) | (go_at_call 21; refine (awake_any _).mono ?_; rintro e w' ⟨rfl, rfl⟩))
    go_ret
    exact ⟨rfl, by exact Grown.refl _⟩
  · have q : (oF a0 == 0) = false := by simpa using h
    have e := fermat_F a0 u0.1 h
    clear h
    go_enter Try.func10, Try.ntmps10
    go_wp2_with (first | (go_at_call 11; refine (of_any _ _ (by first | assumption | exact oF_U _ | exact addF_U _ _ | exact mulF_U _ _ | exact subF_U _ _ | exact powF_U _ _ | exact ⟨by omega, by omega⟩)).mono ?_; rintro e w' ⟨rfl, rfl⟩) | (go_at_call 12; refine (rof_any _ _ (by first | assumption | exact oF_U _ | exact addF_U _ _ | exact mulF_U _ _ | exact subF_U _ _ | exact powF_U _ _ | exact ⟨by omega, by omega⟩)).mono ?_; rintro e w' ⟨rfl, rfl⟩) | (go_at_call 13; refine (sgn_any _ _ (by omega) (by omega)).mono ?_; rintro e w' ⟨rfl, rfl⟩) | (go_at_call 14; refine (rsgn_any _ _ (by omega) (by omega)).mono ?_; rintro e w' ⟨rfl, rfl⟩) | (go_at_call 15; refine (add_any _ _ _ (by first | assumption | exact oF_U _ | exact addF_U _ _ | exact mulF_U _ _ | exact subF_U _ _ | exact powF_U _ _ | exact ⟨by omega, by omega⟩) (by first | assumption | exact oF_U _ | exact addF_U _ _ | exact mulF_U _ _ | exact subF_U _ _ | exact powF_U _ _ | exact ⟨by omega, by omega⟩)).mono ?_; rintro e w' ⟨rfl, rfl⟩) | (go_at_call 16; refine (radd_any _ _ _ (by first | assumption | exact oF_U _ | exact addF_U _ _ | exact mulF_U _ _ | exact subF_U _ _ | exact powF_U _ _ | exact ⟨by omega, by omega⟩) (by first | assumption | exact oF_U _ | exact addF_U _ _ | exact mulF_U _ _ | exact subF_U _ _ | exact powF_U _ _ | exact ⟨by omega, by omega⟩)).mono ?_; rintro e w' ⟨rfl, rfl⟩) | (go_at_call 17; refine (sub_any _ _ _ (by first | assumption | exact oF_U _ | exact addF_U _ _ | exact mulF_U _ _ | exact subF_U _ _ | exact powF_U _ _ | exact ⟨by omega, by omega⟩) (by first | assumption | exact oF_U _ | exact addF_U _ _ | exact mulF_U _ _ | exact subF_U _ _ | exact powF_U _ _ | exact ⟨by omega, by omega⟩)).mono ?_; rintro e w' ⟨rfl, rfl⟩) | (go_at_call 18; refine (rsub_any _ _ _ (by first | assumption | exact oF_U _ | exact addF_U _ _ | exact mulF_U _ _ | exact subF_U _ _ | exact powF_U _ _ | exact ⟨by omega, by omega⟩) (by first | assumption | exact oF_U _ | exact addF_U _ _ | exact mulF_U _ _ | exact subF_U _ _ | exact powF_U _ _ | exact ⟨by omega, by omega⟩)).mono ?_; rintro e w' ⟨rfl, rfl⟩) | (go_at_call 19; refine (mul_any _ _ _ (by first | assumption | exact oF_U _ | exact addF_U _ _ | exact mulF_U _ _ | exact subF_U _ _ | exact powF_U _ _ | exact ⟨by omega, by omega⟩) (by first | assumption | exact oF_U _ | exact addF_U _ _ | exact mulF_U _ _ | exact subF_U _ _ | exact powF_U _ _ | exact ⟨by omega, by omega⟩)).mono ?_; rintro e w' ⟨rfl, rfl⟩) | (go_at_call 20; refine (rmul_any _ _ _ (by first | assumption | exact oF_U _ | exact addF_U _ _ | exact mulF_U _ _ | exact subF_U _ _ | exact powF_U _ _ | exact ⟨by omega, by omega⟩) (by first | assumption | exact oF_U _ | exact addF_U _ _ | exact mulF_U _ _ | exact subF_U _ _ | exact powF_U _ _ | exact ⟨by omega, by omega⟩)).mono ?_; rintro e w' ⟨rfl, rfl⟩) | (go_at_call 22; refine (pow_any _ _ _ (by first | assumption | exact oF_U _ | exact addF_U _ _ | exact mulF_U _ _ | exact subF_U _ _ | exact powF_U _ _ | exact ⟨by omega, by omega⟩) (by first | assumption | exact oF_U _ | exact addF_U _ _ | exact mulF_U _ _ | exact subF_U _ _ | exact powF_U _ _ | exact ⟨by omega, by omega⟩)).mono ?_; rintro e w' ⟨rfl, rfl⟩) | (go_at_call 21; refine (awake_any _).mono ?_; rintro e w' ⟨rfl, rfl⟩))
    go_ret
    exact ⟨rfl, by exact Grown.refl _⟩

/-! ### THE ROW's STEP: WRITTEN OUT: LEAVE IT -/
set_option maxRecDepth 100000 in
theorem lifted (os : Os) (started : os.Started) (H : Type) (enc : TypeId × Value → H) :
    ReturnsInHanded {} Try.checked os 10 .any (Rows.fieldFermatSpec.pre6 enc Try.prog Try.f10 Rows.fieldFermatRow.domain false) (Rows.fieldFermatSpec.post enc Try.prog Try.f10 false true false false) := by
  refine returnsInHanded_of_change (C := Try.checked) own started (by kernel_rfl) Try.func10
    (ChangeSpec.witness6 (enc := enc) (C := Try.checked) false ⟨#[], #[.int .u64 0], []⟩ 8 (by kernel_rfl) (by kernel_rfl) (by kernel_rfl) (by kernel_rfl)) ?_
  intro W base args ds gs before hval0 hW hcnd _
  have hval : ∀ (j : Nat) t v, Try.f10.params[j]? = some t → args[j]? = some v → Value.okWide Try.prog W .any base t v := hval0
  have hW' := hW
  obtain ⟨p, q, hA0, hV, rfl, hfz, hnd⟩ := hW
  have hA : DataW.TrodAll enc Try.prog W 0 (fun _ => true) true Try.f10.params.toList args.toList ds p := hA0
  rw [Try.params10] at hA hval
  obtain ⟨v0, vs0, d0, ds0, p0, q0, hargs, rfl, rfl, h0, r0⟩ := trodAll_cons hA
  obtain ⟨rfl, rfl, rfl⟩ := trodAll_nil r0
  obtain rfl : args = #[v0] := by cases args; simp_all
  obtain ⟨rfl, rfl⟩ := trodVars_none hV
  obtain ⟨a0, rfl, rfl, rfl, w0⟩ := open_int Try.underlying22 (hval 0 22 v0 rfl rfl) h0
  clear hA0 hval0
  simp only [List.append_nil] at hW'
  refine (walk a0 w0 W).mono fun e W' ⟨he, hg⟩ => ?_
  subst he
  exact ⟨_, rfl, post_of_same (pa := []) (pv := []) hW' (fun _ _ _ => (trodAll_cons_mk (shut_bool Try.underlying4 _) trodAll_mk0)) (fun sp _ => (trodAll_cons_mk (shut_int Try.underlying22 w0) trodAll_mk0)) (fun _ _ => rfl) rfl
    (hg.frame _) hg.2.1 (ok_one (by kernel_rfl) rfl (okWide_bool_mk Try.underlying4 _))⟩

theorem over : Rows.fieldFermatRow.holds Try.pinned (OpenSpec.ofChange Rows.fieldFermatSpec) :=
  OpenClaim.holds_of_wide 10 Try.f10 rfl rfl rfl rfl rfl rfl rfl ⟨rfl, rfl, rfl, rfl, rfl⟩ rfl rfl rfl rfl rfl (by kernel_rfl) Try.func10 (by kernel_rfl)
    (of_decide_eq_true (by kernel_rfl)) (by unfold Func.isWrapper; first | (rw [if_pos (by decide +kernel)]; kernel_rfl) | (rw [if_neg (by decide +kernel)]; exact ⟨rfl, rfl⟩))
    (fun os started H enc _ => lifted os started H enc)

/-- ████ THE STATEMENT ████ -/
theorem proved : Rows.FieldFermatSaid :=
  over
end Go.Proofs.Ytfhjaigefeediaa.fieldFermat
namespace Go.Proofs.Ytfhjaigefeediaa
theorem fieldFermat_holds : Rows.FieldFermatSaid := fieldFermat.proved
#print axioms fieldFermat_holds
end Go.Proofs.Ytfhjaigefeediaa
