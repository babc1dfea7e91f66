/-
  The number of any tag is its Value modulo 4096. No condition.
-/
import Derived.Test.YtodjjjggjinliaaRows
import Derived.Test.YtodjjjggjinliaaEthAwake
import Derived.WalkKit
import Derived.ProofKit
import Derived.OpenShut
import Derived.ShutString
import Derived.ChangeOld
import Derived.ChangeMaps5
import Derived.Below
import Derived.Carry
namespace Go.Proofs.Ytodjjjggjinliaa.etherIDs
open Oc Et Go.Deep
open Go.ChangeShapes Go.WideShapes Go.ChangeAt Go.RowKit Go.ChangeMaps
set_option linter.unusedVariables false

theorem own : ownKnob Try.prog.godebug = none := by kernel_rfl

set_option maxHeartbeats 3200000 in
theorem walk (k v : Int) (w : World) (wk : (Lit.int .i64 k).wf = true) (wv : (Lit.int .i64 v).wf = true) :
    Calls Try.prog 6 #[.int .i64 k, .int .i64 v] w fun e w' => e = .returned (.bool true) ∧ Below w.heap.size w w' := by
  obtain ⟨v0, v1⟩ := bounds_i64 wv
  clear wk wv
  have tm := tmod_is v
  have m0 : -4096 < v.tmod 4096 := by rw [tm]; split <;> omega
  have m1 : v.tmod 4096 < 4096 := by rw [tm]; split <;> omega
  have TM : Hid (v.tmod 4096 = if 0 ≤ v then v % 4096 else -((-v) % 4096)) := tm
  clear tm
  by_cases hm : v.tmod 4096 < 0
  · have e : v % 4096 = v.tmod 4096 + 4096 := by rw [TM.out] at hm ⊢; split at hm <;> omega
    have e2 : ((v % 4096 : Int) == v.tmod 4096 + 4096) = true := by simpa using e
    clear e
    go_enter Try.func6, Try.ntmps6
    go_wp2_with fail
    refine (id_any k v _).mono ?_
    rintro e u1 ⟨rfl, b1⟩
    go_wp2_with fail
    refine (awake_any _).mono ?_
    rintro e u2 ⟨rfl, b2⟩
    go_wp2_with fail
    go_ret
    exact ⟨rfl, bel_trans b1 b2⟩
  have e : v % 4096 = v.tmod 4096 := by rw [TM.out] at hm ⊢; split at hm <;> omega
  have e2 : ((v % 4096 : Int) == v.tmod 4096) = true := by simpa using e
  clear e
  go_enter Try.func6, Try.ntmps6
  go_wp2_with fail
  refine (id_any k v _).mono ?_
  rintro e u1 ⟨rfl, b1⟩
  go_wp2_with fail
  refine (awake_any _).mono ?_
  rintro e u2 ⟨rfl, b2⟩
  go_wp2_with fail
  go_ret
  exact ⟨rfl, bel_trans b1 b2⟩

/-! ### The row -/
theorem laidOut : laidOutB Try.prog = true := by kernel_rfl
set_option maxRecDepth 100000 in
theorem lifted (os : Os) (started : os.Started) (H : Type) (enc : TypeId × Value → H) :
    ReturnsInHanded {} Try.checked os 6 .any (Rows.etherIDsSpec.pre6 enc Try.prog Try.f6 Rows.etherIDsRow.domain false) (Rows.etherIDsSpec.post enc Try.prog Try.f6 false true false false) := by
  refine returnsInHanded_of_change (C := Try.checked) own started (by kernel_rfl) Try.func6
    (ChangeSpec.witness6 (enc := enc) (C := Try.checked) false ⟨#[], #[.int .i64 0, .int .i64 0], []⟩ 8 (by kernel_rfl) (by kernel_rfl) (by kernel_rfl) (by kernel_rfl)) ?_
  intro W base args ds gs before hval0 hW hcnd _
  have hval : ∀ (j : Nat) t v, Try.f6.params[j]? = some t → args[j]? = some v → Value.okWide Try.prog W .any base t v := hval0
  have hW' := hW
  obtain ⟨p, q, hA0, hV, rfl, hfz, hnd⟩ := hW
  have hA : DataW.TrodAll enc Try.prog W 0 (fun _ => true) true Try.f6.params.toList args.toList ds p := hA0
  rw [Try.params6] at hA hval
  obtain ⟨v0, vs0, d0, ds0, p0, q0, hargs, rfl, rfl, h0, r0⟩ := trodAll_cons hA
  obtain ⟨v1, vs1, d1, ds1, p1, q1, rfl, rfl, rfl, h1, r1⟩ := trodAll_cons r0
  obtain ⟨rfl, rfl, rfl⟩ := trodAll_nil r1
  obtain rfl : args = #[v0, v1] := by cases args; simp_all
  obtain ⟨rfl, rfl⟩ := trodVars_none hV
  obtain ⟨a0, rfl, rfl, rfl, w0⟩ := open_int Try.underlying3 (hval 0 3 v0 rfl rfl) h0
  obtain ⟨a1, rfl, rfl, rfl, w1⟩ := open_int Try.underlying3 (hval 1 3 v1 rfl rfl) h1
  clear hA0 hval0
  refine (walk a0 a1 W w0 w1).mono fun e W' ⟨he, bel⟩ => ?_
  subst he
  exact ⟨_, rfl, _, _, _, [], _, [], hW', trodAll_mk1 (shut_bool Try.underlying4 _), (trodAll_cons_mk (shut_int Try.underlying3 w0) (trodAll_cons_mk (shut_int Try.underlying3 w1) trodAll_mk0)), rfl, bel.frame _, fun h => by cases h⟩

theorem over : Rows.etherIDsRow.holds Try.pinned (OpenSpec.ofChange Rows.etherIDsSpec) :=
  OpenClaim.holds_of_wide 6 Try.f6 rfl rfl rfl rfl rfl rfl rfl ⟨rfl, rfl, rfl, rfl, rfl⟩ rfl rfl rfl rfl rfl (by kernel_rfl) Try.func6 (by kernel_rfl)
    (of_decide_eq_true (by kernel_rfl)) (by unfold Func.isWrapper; first | (rw [if_pos (by decide +kernel)]; kernel_rfl) | (rw [if_neg (by decide +kernel)]; exact ⟨rfl, rfl⟩))
    (fun os started H enc _ => lifted os started H enc)

theorem proved : Rows.EtherIDsSaid := over
end Go.Proofs.Ytodjjjggjinliaa.etherIDs
namespace Go.Proofs.Ytodjjjggjinliaa
theorem etherIDs_holds : Rows.EtherIDsSaid := etherIDs.proved
#print axioms etherIDs_holds
end Go.Proofs.Ytodjjjggjinliaa
