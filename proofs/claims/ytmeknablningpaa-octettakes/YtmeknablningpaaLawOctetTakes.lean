/-
  For any bytes, at most 4096, and any number of bytes the number, or the piece, at the beginning is told as the document says, or refused. No condition.
-/
import Derived.Test.YtmeknablningpaaRows
import Derived.Test.YtmeknablningpaaOctCalls
import Derived.WalkKit
import Derived.ProofKit
import Derived.OpenShut
import Derived.ShutString
import Derived.ChangeOld
import Derived.ChangeMaps5
import Derived.Below
import Derived.Carry
namespace Go.Proofs.Ytmeknablningpaa.octetTakes
open Oc
open Go.ChangeShapes Go.WideShapes Go.ChangeAt Go.RowKit Go.ChangeMaps
set_option linter.unusedVariables false

theorem own : ownKnob Try.prog.godebug = none := by kernel_rfl

set_option maxHeartbeats 1600000 in
theorem walk (s : ByteArray) (b : Int) (w : World) (ws : s.size ≤ maxLen) (wb : (Lit.int .i64 b).wf = true) :
    Calls Try.prog 4 #[.string s, .int .i64 b] w fun e w' => e = .returned (.bool true) ∧ Below w.heap.size w w' := by
  obtain ⟨l, rfl⟩ : ∃ l, s = bsL l := ⟨_, bsL_of s⟩
  rw [bsL_size] at ws
  obtain ⟨b0, b1⟩ := bounds_i64 wb
  clear wb ws
  by_cases h : 4096 < l.length
  · go_enter Try.func4, Try.ntmps4
    go_wp2_with fail
    refine (awake_any _).mono ?_
    rintro e u1 ⟨rfl, b1⟩
    go_wp2_with fail
    go_ret
    exact ⟨rfl, b1⟩
  by_cases hb : b < 0
  · go_enter Try.func4, Try.ntmps4
    go_wp2_with fail
    refine (take_no l b _ (by omega)).mono ?_
    rintro e u1 ⟨rfl, b1⟩
    go_wp2_with fail
    refine (cut_neg l b _ hb).mono ?_
    rintro e u2 ⟨rfl, b2⟩
    go_wp2_with fail
    refine (awake_any _).mono ?_
    rintro e u3 ⟨rfl, b3⟩
    go_wp2_with fail
    go_ret
    exact ⟨rfl, bel_trans (bel_trans (b1) b2) b3⟩
  by_cases hs : (l.length : Int) < b
  · by_cases h7 : 7 < b
    · go_enter Try.func4, Try.ntmps4
      go_wp2_with fail
      refine (take_no l b _ (by omega)).mono ?_
      rintro e u1 ⟨rfl, b1⟩
      go_wp2_with fail
      refine (cut_short l b _ (by omega) hs).mono ?_
      rintro e u2 ⟨rfl, b2⟩
      go_wp2_with fail
      refine (awake_any _).mono ?_
      rintro e u3 ⟨rfl, b3⟩
      go_wp2_with fail
      go_ret
      exact ⟨rfl, bel_trans (bel_trans (b1) b2) b3⟩
    go_enter Try.func4, Try.ntmps4
    go_wp2_with fail
    refine (take_short l b _ (by omega) (by omega) hs).mono ?_
    rintro e u1 ⟨rfl, b1⟩
    go_wp2_with fail
    refine (cut_short l b _ (by omega) hs).mono ?_
    rintro e u2 ⟨rfl, b2⟩
    go_wp2_with fail
    refine (awake_any _).mono ?_
    rintro e u3 ⟨rfl, b3⟩
    go_wp2_with fail
    go_ret
    exact ⟨by show Ending.returned (.bool !decide (7 < b)) = _; rw [decide_eq_false (by omega)]; rfl, bel_trans (bel_trans (b1) b2) b3⟩
  obtain ⟨k, rfl⟩ : ∃ k : Nat, b = k := ⟨b.toNat, by omega⟩
  have D := bsL_drop l k
  rw [bsL_size] at D
  by_cases hc : (k : Int) < 1
  · go_enter Try.func4, Try.ntmps4
    go_wp2_with fail
    refine (take_no l k _ (by omega)).mono ?_
    rintro e u1 ⟨rfl, b1⟩
    go_wp2_with fail
    refine (cut_ok l k _ (by omega)).mono ?_
    rintro e u2 ⟨rfl, b2⟩
    go_wp2_with fail
    refine (awake_any _).mono ?_
    rintro e u3 ⟨rfl, b3⟩
    go_wp2_with fail
    go_ret
    exact ⟨rfl, bel_trans (bel_trans (b1) b2) b3⟩
  by_cases hc : 7 < (k : Int)
  · go_enter Try.func4, Try.ntmps4
    go_wp2_with fail
    refine (take_no l k _ (by omega)).mono ?_
    rintro e u1 ⟨rfl, b1⟩
    go_wp2_with fail
    refine (cut_ok l k _ (by omega)).mono ?_
    rintro e u2 ⟨rfl, b2⟩
    go_wp2_with fail
    refine (awake_any _).mono ?_
    rintro e u3 ⟨rfl, b3⟩
    go_wp2_with fail
    go_ret
    exact ⟨rfl, bel_trans (bel_trans (b1) b2) b3⟩
  go_enter Try.func4, Try.ntmps4
  go_wp2_with fail
  refine (take_ok l k _ (by omega) (by omega) (by omega)).mono ?_
  rintro e u1 ⟨rfl, b1⟩
  go_wp2_with fail
  refine (cut_ok l k _ (by omega)).mono ?_
  rintro e u2 ⟨rfl, b2⟩
  go_wp2_with fail
  refine (number_any (l.take k) _ (by simp; omega)).mono ?_
  rintro e u3 ⟨rfl, rfl⟩
  go_wp2_with fail
  refine (awake_any _).mono ?_
  rintro e u4 ⟨rfl, b4⟩
  go_wp2_with fail
  go_ret
  exact ⟨rfl, bel_trans (bel_trans (b1) b2) b4⟩

/-! ### The row -/
theorem laidOut : laidOutB Try.prog = true := by kernel_rfl
set_option maxRecDepth 100000 in
theorem lifted (os : Os) (started : os.Started) (H : Type) (enc : TypeId × Value → H) :
    ReturnsInHanded {} Try.checked os 4 .any (Rows.octetTakesSpec.pre6 enc Try.prog Try.f4 Rows.octetTakesRow.domain false) (Rows.octetTakesSpec.post enc Try.prog Try.f4 false true false false) := by
  refine returnsInHanded_of_change (C := Try.checked) own started (by kernel_rfl) Try.func4
    (ChangeSpec.witness6 (enc := enc) (C := Try.checked) false ⟨#[], #[.string ⟨#[]⟩, .int .i64 0], []⟩ 8 (by kernel_rfl) (by kernel_rfl) (by kernel_rfl) (by kernel_rfl)) ?_
  intro W base args ds gs before hval0 hW hcnd _
  have hval : ∀ (j : Nat) t v, Try.f4.params[j]? = some t → args[j]? = some v → Value.okWide Try.prog W .any base t v := hval0
  have hW' := hW
  obtain ⟨p, q, hA0, hV, rfl, hfz, hnd⟩ := hW
  have hA : DataW.TrodAll enc Try.prog W 0 (fun _ => true) true Try.f4.params.toList args.toList ds p := hA0
  rw [Try.params4] at hA hval
  obtain ⟨v0, vs0, d0, ds0, p0, q0, hargs, rfl, rfl, h0, r0⟩ := trodAll_cons hA
  obtain ⟨v1, vs1, d1, ds1, p1, q1, rfl, rfl, rfl, h1, r1⟩ := trodAll_cons r0
  obtain ⟨rfl, rfl, rfl⟩ := trodAll_nil r1
  obtain rfl : args = #[v0, v1] := by cases args; simp_all
  obtain ⟨rfl, rfl⟩ := trodVars_none hV
  obtain ⟨a0, rfl, rfl, rfl, w0⟩ := open_string Try.underlying9 (hval 0 9 v0 rfl rfl) h0
  obtain ⟨a1, rfl, rfl, rfl, w1⟩ := open_int Try.underlying3 (hval 1 3 v1 rfl rfl) h1
  clear hA0 hval0
  refine (walk a0 a1 W w0 w1).mono fun e W' ⟨he, bel⟩ => ?_
  subst he
  exact ⟨_, rfl, _, _, _, [], _, [], hW', trodAll_mk1 (shut_bool Try.underlying4 _), (trodAll_cons_mk (shut_string Try.underlying9 w0) (trodAll_cons_mk (shut_int Try.underlying3 w1) trodAll_mk0)), rfl, bel.frame _, fun h => by cases h⟩

theorem over : Rows.octetTakesRow.holds Try.pinned (OpenSpec.ofChange Rows.octetTakesSpec) :=
  OpenClaim.holds_of_wide 4 Try.f4 rfl rfl rfl rfl rfl rfl rfl ⟨rfl, rfl, rfl, rfl, rfl⟩ rfl rfl rfl rfl rfl (by kernel_rfl) Try.func4 (by kernel_rfl)
    (of_decide_eq_true (by kernel_rfl)) (by unfold Func.isWrapper; first | (rw [if_pos (by decide +kernel)]; kernel_rfl) | (rw [if_neg (by decide +kernel)]; exact ⟨rfl, rfl⟩))
    (fun os started H enc _ => lifted os started H enc)

theorem proved : Rows.OctetTakesSaid := over
end Go.Proofs.Ytmeknablningpaa.octetTakes
namespace Go.Proofs.Ytmeknablningpaa
theorem octetTakes_holds : Rows.OctetTakesSaid := octetTakes.proved
#print axioms octetTakes_holds
end Go.Proofs.Ytmeknablningpaa
