/-
  Numbers that are written in as many bytes stand as their bytes do; and one number behind another one in bytes is one number. No condition.
-/
import Derived.Test.YtmeknablningpaaRows
import Derived.Test.YtmeknablningpaaOctCalls
import Derived.WalkKit
import Derived.ProofKit
import Derived.OpenShut
import Derived.ShutString
import Derived.ChangeOld
import Derived.ChangeMaps5
import Derived.Below
import Derived.Carry
namespace Go.Proofs.Ytmeknablningpaa.octetOrder
open Oc
open Go.ChangeShapes Go.WideShapes Go.ChangeAt Go.RowKit Go.ChangeMaps
set_option linter.unusedVariables false

theorem own : ownKnob Try.prog.godebug = none := by kernel_rfl

set_option maxHeartbeats 1600000 in
theorem walk (a b c : Int) (w : World) (wa : (Lit.int .i64 a).wf = true) (wb : (Lit.int .i64 b).wf = true) (wc : (Lit.int .i64 c).wf = true) :
    Calls Try.prog 8 #[.int .i64 a, .int .i64 b, .int .i64 c] w fun e w' => e = .returned (.bool true) ∧ Below w.heap.size w w' := by
  obtain ⟨c0, c1⟩ := bounds_i64 wc
  clear wa wb wc
  by_cases ha : Good a c
  rotate_left
  · have HA : Hid (¬ Good a c) := ha
    clear ha
    by_cases hb : Good b c
    · obtain ⟨B, k, rfl, rfl, k1, k2, hB⟩ := hb.nat
      clear hb
      have HB : Hid (B < 256 ^ k) := hB
      clear hB
      go_enter Try.func8, Try.ntmps8
      go_wp2_with fail
      refine (put_bad _ _ _ HA.out).mono ?_
      rintro e u1 ⟨rfl, b1⟩
      go_wp2_with fail
      refine (put_ok B k _ k1 k2 HB.out).mono ?_
      rintro e u2 ⟨rfl, b2⟩
      go_wp2_with fail
      refine (awake_any _).mono ?_
      rintro e u3 ⟨rfl, b3⟩
      go_wp2_with fail
      go_ret
      exact ⟨rfl, bel_trans (bel_trans (b1) b2) b3⟩
    have HB : Hid (¬ Good b c) := hb
    clear hb
    go_enter Try.func8, Try.ntmps8
    go_wp2_with fail
    refine (put_bad _ _ _ HA.out).mono ?_
    rintro e u1 ⟨rfl, b1⟩
    go_wp2_with fail
    refine (put_bad _ _ _ HB.out).mono ?_
    rintro e u2 ⟨rfl, b2⟩
    go_wp2_with fail
    refine (awake_any _).mono ?_
    rintro e u3 ⟨rfl, b3⟩
    go_wp2_with fail
    go_ret
    exact ⟨rfl, bel_trans (bel_trans (b1) b2) b3⟩
  by_cases hb : Good b c
  rotate_left
  · have HB : Hid (¬ Good b c) := hb
    clear hb
    obtain ⟨A, k, rfl, rfl, k1, k2, hA⟩ := ha.nat
    clear ha
    have HA : Hid (A < 256 ^ k) := hA
    clear hA
    go_enter Try.func8, Try.ntmps8
    go_wp2_with fail
    refine (put_ok A k _ k1 k2 HA.out).mono ?_
    rintro e u1 ⟨rfl, b1⟩
    go_wp2_with fail
    refine (put_bad _ _ _ HB.out).mono ?_
    rintro e u2 ⟨rfl, b2⟩
    go_wp2_with fail
    refine (awake_any _).mono ?_
    rintro e u3 ⟨rfl, b3⟩
    go_wp2_with fail
    go_ret
    exact ⟨rfl, bel_trans (bel_trans (b1) b2) b3⟩
  obtain ⟨A, k, rfl, rfl, k1, k2, hA⟩ := ha.nat
  have hB0 := hb.2.2.1
  obtain ⟨B, rfl⟩ : ∃ B : Nat, b = B := ⟨b.toNat, by omega⟩
  have hB : B < 256 ^ k := by
    have := hb.2.2.2
    rw [Int.toNat_natCast] at this
    omega
  have HA : Hid (A < 256 ^ k) := hA
  have HB : Hid (B < 256 ^ k) := hB
  clear ha hb hA hB hB0
  by_cases h3 : 3 < k
  · go_enter Try.func8, Try.ntmps8
    go_wp2_with fail
    refine (put_ok A k _ k1 k2 HA.out).mono ?_
    rintro e u1 ⟨rfl, b1⟩
    go_wp2_with fail
    refine (put_ok B k _ k1 k2 HB.out).mono ?_
    rintro e u2 ⟨rfl, b2⟩
    go_wp2_with fail
    refine (awake_any _).mono ?_
    rintro e u3 ⟨rfl, b3⟩
    go_wp2_with fail
    go_ret
    exact ⟨rfl, bel_trans (bel_trans (b1) b2) b3⟩
  have la := bytesL_len A k
  have lb := bytesL_len B k
  obtain ⟨p1, p2⟩ := pow3 k A B (by omega) HA.out HB.out
  have NUM : Hid ((bytesL A k ++ bytesL B k).take (2 * k) = bytesL A k ++ bytesL B k ∧ (bytesL A k ++ bytesL B k).drop (2 * k) = [] ∧ ((numL (bytesL A k ++ bytesL B k) : Nat) : Int) = (A : Int) * 2 ^ (8 * k) + B) := by
    refine ⟨List.take_of_length_le (by simp; omega), List.drop_of_length_le (by simp; omega), ?_⟩
    rw [numL_append, num_bytes, num_bytes, Nat.mod_eq_of_lt HA.out, Nat.mod_eq_of_lt HB.out, lb, (pow256 k (by omega)).1, Int.natCast_add, Int.natCast_mul]
  have S1 : Op.bytesLess (bsL (bytesL A k)).toList (bsL (bytesL B k)).toList = decide (A < B) := by
    rw [toL, toL, less_num (by omega), num_bytes, num_bytes, Nat.mod_eq_of_lt HA.out, Nat.mod_eq_of_lt HB.out]
  have S2 : ((bsL (bytesL A k)).toList == (bsL (bytesL B k)).toList) = decide (A = B) := by
    rw [toL, toL]
    have e := num_inj (a := bytesL A k) (b := bytesL B k) (by omega)
    rw [num_bytes, num_bytes, Nat.mod_eq_of_lt HA.out, Nat.mod_eq_of_lt HB.out] at e
    by_cases h : A = B
    · rw [decide_eq_true h, h]; exact beq_self_eq_true _
    · rw [decide_eq_false h]
      have : bytesL A k ≠ bytesL B k := fun x => h (e.1 x)
      simpa using this
  rcases Nat.lt_trichotomy A B with hc | hc | hc
  · rw [decide_eq_true hc] at S1
    rw [decide_eq_false (by omega)] at S2
    have i1 : ((A : Int) == (B : Int)) = false := by simp; omega
    go_enter Try.func8, Try.ntmps8
    go_wp2_with fail
    refine (put_ok A k _ k1 k2 HA.out).mono ?_
    rintro e u1 ⟨rfl, b1⟩
    go_wp2_with fail
    refine (put_ok B k _ k1 k2 HB.out).mono ?_
    rintro e u2 ⟨rfl, b2⟩
    go_wp2_with fail
    rw [show (2 : Int) * (k : Int) = ((2 * k : Nat) : Int) by omega]
    refine (take_ok (bytesL A k ++ bytesL B k) (2 * k) _ (by omega) (by omega) (by simp; omega)).mono ?_
    rintro e u3 ⟨rfl, b3⟩
    rw [NUM.out.1, NUM.out.2.1, NUM.out.2.2, show bsL [] = ⟨#[]⟩ from rfl]
    go_wp2_with fail
    refine (awake_any _).mono ?_
    rintro e u4 ⟨rfl, b4⟩
    go_wp2_with fail
    go_ret
    exact ⟨rfl, bel_trans (bel_trans (bel_trans (b1) b2) b3) b4⟩
  · subst hc
    rw [decide_eq_false (by omega)] at S1
    rw [decide_eq_true rfl] at S2
    go_enter Try.func8, Try.ntmps8
    go_wp2_with fail
    refine (put_ok A k _ k1 k2 HA.out).mono ?_
    rintro e u1 ⟨rfl, b1⟩
    go_wp2_with fail
    refine (put_ok A k _ k1 k2 HB.out).mono ?_
    rintro e u2 ⟨rfl, b2⟩
    go_wp2_with fail
    rw [show (2 : Int) * (k : Int) = ((2 * k : Nat) : Int) by omega]
    refine (take_ok (bytesL A k ++ bytesL A k) (2 * k) _ (by omega) (by omega) (by simp; omega)).mono ?_
    rintro e u3 ⟨rfl, b3⟩
    rw [NUM.out.1, NUM.out.2.1, NUM.out.2.2, show bsL [] = ⟨#[]⟩ from rfl]
    go_wp2_with fail
    refine (awake_any _).mono ?_
    rintro e u4 ⟨rfl, b4⟩
    go_wp2_with fail
    go_ret
    exact ⟨rfl, bel_trans (bel_trans (bel_trans (b1) b2) b3) b4⟩
  · rw [decide_eq_false (by omega)] at S1
    rw [decide_eq_false (by omega)] at S2
    have i1 : ((A : Int) == (B : Int)) = false := by simp; omega
    go_enter Try.func8, Try.ntmps8
    go_wp2_with fail
    refine (put_ok A k _ k1 k2 HA.out).mono ?_
    rintro e u1 ⟨rfl, b1⟩
    go_wp2_with fail
    refine (put_ok B k _ k1 k2 HB.out).mono ?_
    rintro e u2 ⟨rfl, b2⟩
    go_wp2_with fail
    rw [show (2 : Int) * (k : Int) = ((2 * k : Nat) : Int) by omega]
    refine (take_ok (bytesL A k ++ bytesL B k) (2 * k) _ (by omega) (by omega) (by simp; omega)).mono ?_
    rintro e u3 ⟨rfl, b3⟩
    rw [NUM.out.1, NUM.out.2.1, NUM.out.2.2, show bsL [] = ⟨#[]⟩ from rfl]
    go_wp2_with fail
    refine (awake_any _).mono ?_
    rintro e u4 ⟨rfl, b4⟩
    go_wp2_with fail
    go_ret
    exact ⟨by show Ending.returned (.bool !decide (A < B)) = _; rw [decide_eq_false (by omega)]; rfl, bel_trans (bel_trans (bel_trans (b1) b2) b3) b4⟩

/-! ### The row -/
theorem laidOut : laidOutB Try.prog = true := by kernel_rfl
set_option maxRecDepth 100000 in
theorem lifted (os : Os) (started : os.Started) (H : Type) (enc : TypeId × Value → H) :
    ReturnsInHanded {} Try.checked os 8 .any (Rows.octetOrderSpec.pre6 enc Try.prog Try.f8 Rows.octetOrderRow.domain false) (Rows.octetOrderSpec.post enc Try.prog Try.f8 false true false false) := by
  refine returnsInHanded_of_change (C := Try.checked) own started (by kernel_rfl) Try.func8
    (ChangeSpec.witness6 (enc := enc) (C := Try.checked) false ⟨#[], #[.int .i64 0, .int .i64 0, .int .i64 0], []⟩ 8 (by kernel_rfl) (by kernel_rfl) (by kernel_rfl) (by kernel_rfl)) ?_
  intro W base args ds gs before hval0 hW hcnd _
  have hval : ∀ (j : Nat) t v, Try.f8.params[j]? = some t → args[j]? = some v → Value.okWide Try.prog W .any base t v := hval0
  have hW' := hW
  obtain ⟨p, q, hA0, hV, rfl, hfz, hnd⟩ := hW
  have hA : DataW.TrodAll enc Try.prog W 0 (fun _ => true) true Try.f8.params.toList args.toList ds p := hA0
  rw [Try.params8] at hA hval
  obtain ⟨v0, vs0, d0, ds0, p0, q0, hargs, rfl, rfl, h0, r0⟩ := trodAll_cons hA
  obtain ⟨v1, vs1, d1, ds1, p1, q1, rfl, rfl, rfl, h1, r1⟩ := trodAll_cons r0
  obtain ⟨v2, vs2, d2, ds2, p2, q2, rfl, rfl, rfl, h2, r2⟩ := trodAll_cons r1
  obtain ⟨rfl, rfl, rfl⟩ := trodAll_nil r2
  obtain rfl : args = #[v0, v1, v2] := by cases args; simp_all
  obtain ⟨rfl, rfl⟩ := trodVars_none hV
  obtain ⟨a0, rfl, rfl, rfl, w0⟩ := open_int Try.underlying3 (hval 0 3 v0 rfl rfl) h0
  obtain ⟨a1, rfl, rfl, rfl, w1⟩ := open_int Try.underlying3 (hval 1 3 v1 rfl rfl) h1
  obtain ⟨a2, rfl, rfl, rfl, w2⟩ := open_int Try.underlying3 (hval 2 3 v2 rfl rfl) h2
  clear hA0 hval0
  refine (walk a0 a1 a2 W w0 w1 w2).mono fun e W' ⟨he, bel⟩ => ?_
  subst he
  exact ⟨_, rfl, _, _, _, [], _, [], hW', trodAll_mk1 (shut_bool Try.underlying4 _), (trodAll_cons_mk (shut_int Try.underlying3 w0) (trodAll_cons_mk (shut_int Try.underlying3 w1) (trodAll_cons_mk (shut_int Try.underlying3 w2) trodAll_mk0))), rfl, bel.frame _, fun h => by cases h⟩

theorem over : Rows.octetOrderRow.holds Try.pinned (OpenSpec.ofChange Rows.octetOrderSpec) :=
  OpenClaim.holds_of_wide 8 Try.f8 rfl rfl rfl rfl rfl rfl rfl ⟨rfl, rfl, rfl, rfl, rfl⟩ rfl rfl rfl rfl rfl (by kernel_rfl) Try.func8 (by kernel_rfl)
    (of_decide_eq_true (by kernel_rfl)) (by unfold Func.isWrapper; first | (rw [if_pos (by decide +kernel)]; kernel_rfl) | (rw [if_neg (by decide +kernel)]; exact ⟨rfl, rfl⟩))
    (fun os started H enc _ => lifted os started H enc)

theorem proved : Rows.OctetOrderSaid := over
end Go.Proofs.Ytmeknablningpaa.octetOrder
namespace Go.Proofs.Ytmeknablningpaa
theorem octetOrder_holds : Rows.OctetOrderSaid := octetOrder.proved
#print axioms octetOrder_holds
end Go.Proofs.Ytmeknablningpaa
