/-
  Any number in any number of bytes is written as the document says, or refused, and taken back. No condition.
-/
import Derived.Test.YtmeknablningpaaRows
import Derived.Test.YtmeknablningpaaOctCalls
import Derived.WalkKit
import Derived.ProofKit
import Derived.OpenShut
import Derived.ShutString
import Derived.ChangeOld
import Derived.ChangeMaps5
import Derived.Below
import Derived.Carry
namespace Go.Proofs.Ytmeknablningpaa.octetPuts
open Oc
open Go.ChangeShapes Go.WideShapes Go.ChangeAt Go.RowKit Go.ChangeMaps
set_option linter.unusedVariables false

theorem own : ownKnob Try.prog.godebug = none := by kernel_rfl

set_option maxHeartbeats 1600000 in
theorem walk (n b : Int) (w : World) (wn : (Lit.int .i64 n).wf = true) (wb : (Lit.int .i64 b).wf = true) :
    Calls Try.prog 3 #[.int .i64 n, .int .i64 b] w fun e w' => e = .returned (.bool true) ∧ Below w.heap.size w w' := by
  by_cases h : 1 ≤ b ∧ b ≤ 7
  rotate_left
  · have H : Hid (¬ (1 ≤ b ∧ b ≤ 7)) := h
    clear h
    go_enter Try.func3, Try.ntmps3
    go_wp2_with fail
    refine (put_width n b _ H.out).mono ?_
    rintro e u1 ⟨rfl, b1⟩
    go_wp2_with fail
    refine (rput_width n b _ H.out).mono ?_
    rintro e u2 ⟨rfl, b2⟩
    go_wp2_with fail
    refine (awake_any _).mono ?_
    rintro e u3 ⟨rfl, b3⟩
    go_wp2_with fail
    go_ret
    exact ⟨rfl, bel_trans (bel_trans (b1) b2) b3⟩
  obtain ⟨h1, h2⟩ := h
  by_cases hn : n < 0
  · go_enter Try.func3, Try.ntmps3
    go_wp2_with fail
    refine (put_neg n b _ h1 h2 hn).mono ?_
    rintro e u1 ⟨rfl, b1⟩
    go_wp2_with fail
    refine (rput_neg n b _ h1 h2 hn).mono ?_
    rintro e u2 ⟨rfl, b2⟩
    go_wp2_with fail
    refine (awake_any _).mono ?_
    rintro e u3 ⟨rfl, b3⟩
    go_wp2_with fail
    go_ret
    exact ⟨rfl, bel_trans (bel_trans (b1) b2) b3⟩
  obtain ⟨k, rfl⟩ : ∃ k : Nat, b = k := ⟨b.toNat, by omega⟩
  by_cases hg : ((256 ^ k : Nat) : Int) ≤ n
  · have H : Hid (((256 ^ k : Nat) : Int) ≤ n) := hg
    clear hg
    go_enter Try.func3, Try.ntmps3
    go_wp2_with fail
    refine (put_great n k _ (by omega) (by omega) (by omega) H.out).mono ?_
    rintro e u1 ⟨rfl, b1⟩
    go_wp2_with fail
    refine (rput_great n k _ (by omega) (by omega) (by omega) H.out).mono ?_
    rintro e u2 ⟨rfl, b2⟩
    go_wp2_with fail
    refine (awake_any _).mono ?_
    rintro e u3 ⟨rfl, b3⟩
    go_wp2_with fail
    go_ret
    exact ⟨rfl, bel_trans (bel_trans (b1) b2) b3⟩
  obtain ⟨N, rfl⟩ : ∃ N : Nat, n = N := ⟨n.toNat, by omega⟩
  have H : Hid (N < 256 ^ k) := (by omega : N < 256 ^ k)
  have hb := bytesL_len N k
  clear hg
  go_enter Try.func3, Try.ntmps3
  go_wp2_with fail
  refine (put_ok N k _ (by omega) (by omega) H.out).mono ?_
  rintro e u1 ⟨rfl, b1⟩
  go_wp2_with fail
  refine (rput_ok N k _ (by omega) (by omega) H.out).mono ?_
  rintro e u2 ⟨rfl, b2⟩

  go_wp2_with fail
  rw [show bsL (bytesL N k) ++ ⟨#[120]⟩ = bsL (bytesL N k ++ [120]) from bsL_append _ _]
  refine (take_ok (bytesL N k ++ [120]) k _ (by omega) (by omega) (by simp; omega)).mono ?_
  rintro e u3 ⟨rfl, b3⟩
  rw [back_num N k [120] H.out, back_rest N k [120], show bsL [120] = ⟨#[120]⟩ from rfl]
  go_wp2_with fail
  refine (awake_any _).mono ?_
  rintro e u4 ⟨rfl, b4⟩
  go_wp2_with fail
  go_ret
  exact ⟨rfl, bel_trans (bel_trans (bel_trans (b1) b2) b3) b4⟩

/-! ### The row -/
theorem laidOut : laidOutB Try.prog = true := by kernel_rfl
set_option maxRecDepth 100000 in
theorem lifted (os : Os) (started : os.Started) (H : Type) (enc : TypeId × Value → H) :
    ReturnsInHanded {} Try.checked os 3 .any (Rows.octetPutsSpec.pre6 enc Try.prog Try.f3 Rows.octetPutsRow.domain false) (Rows.octetPutsSpec.post enc Try.prog Try.f3 false true false false) := by
  refine returnsInHanded_of_change (C := Try.checked) own started (by kernel_rfl) Try.func3
    (ChangeSpec.witness6 (enc := enc) (C := Try.checked) false ⟨#[], #[.int .i64 0, .int .i64 0], []⟩ 8 (by kernel_rfl) (by kernel_rfl) (by kernel_rfl) (by kernel_rfl)) ?_
  intro W base args ds gs before hval0 hW hcnd _
  have hval : ∀ (j : Nat) t v, Try.f3.params[j]? = some t → args[j]? = some v → Value.okWide Try.prog W .any base t v := hval0
  have hW' := hW
  obtain ⟨p, q, hA0, hV, rfl, hfz, hnd⟩ := hW
  have hA : DataW.TrodAll enc Try.prog W 0 (fun _ => true) true Try.f3.params.toList args.toList ds p := hA0
  rw [Try.params3] at hA hval
  obtain ⟨v0, vs0, d0, ds0, p0, q0, hargs, rfl, rfl, h0, r0⟩ := trodAll_cons hA
  obtain ⟨v1, vs1, d1, ds1, p1, q1, rfl, rfl, rfl, h1, r1⟩ := trodAll_cons r0
  obtain ⟨rfl, rfl, rfl⟩ := trodAll_nil r1
  obtain rfl : args = #[v0, v1] := by cases args; simp_all
  obtain ⟨rfl, rfl⟩ := trodVars_none hV
  obtain ⟨a0, rfl, rfl, rfl, w0⟩ := open_int Try.underlying3 (hval 0 3 v0 rfl rfl) h0
  obtain ⟨a1, rfl, rfl, rfl, w1⟩ := open_int Try.underlying3 (hval 1 3 v1 rfl rfl) h1
  clear hA0 hval0
  refine (walk a0 a1 W w0 w1).mono fun e W' ⟨he, bel⟩ => ?_
  subst he
  exact ⟨_, rfl, _, _, _, [], _, [], hW', trodAll_mk1 (shut_bool Try.underlying4 _), (trodAll_cons_mk (shut_int Try.underlying3 w0) (trodAll_cons_mk (shut_int Try.underlying3 w1) trodAll_mk0)), rfl, bel.frame _, fun h => by cases h⟩

theorem over : Rows.octetPutsRow.holds Try.pinned (OpenSpec.ofChange Rows.octetPutsSpec) :=
  OpenClaim.holds_of_wide 3 Try.f3 rfl rfl rfl rfl rfl rfl rfl ⟨rfl, rfl, rfl, rfl, rfl⟩ rfl rfl rfl rfl rfl (by kernel_rfl) Try.func3 (by kernel_rfl)
    (of_decide_eq_true (by kernel_rfl)) (by unfold Func.isWrapper; first | (rw [if_pos (by decide +kernel)]; kernel_rfl) | (rw [if_neg (by decide +kernel)]; exact ⟨rfl, rfl⟩))
    (fun os started H enc _ => lifted os started H enc)

theorem proved : Rows.OctetPutsSaid := over
end Go.Proofs.Ytmeknablningpaa.octetPuts
namespace Go.Proofs.Ytmeknablningpaa
theorem octetPuts_holds : Rows.OctetPutsSaid := octetPuts.proved
#print axioms octetPuts_holds
end Go.Proofs.Ytmeknablningpaa
