
/-
  Layer 2's Row, and the document's Row, words, Sum and Cell: what they answer.
-/
import Derived.Test.YtihealembikkiaaHashCalls
import Derived.Test.YtihealembikkiaaBlmNum
import Derived.Test.YtihealembikkiaaMemKit
import Derived.Deep.RegionHeld
import Derived.BigQuiet
namespace Go.Proofs.Ytihealembikkiaa.L2
open Go.RowKit Fm Bl Go.Deep
set_option linter.unusedVariables false
set_option maxRecDepth 20000

set_option maxHeartbeats 800000 in
theorem row_any (a : Int) (i : Nat) (w : World) (ha : U a) (hi : i ≤ 1000) :
    Calls Try.prog 48 #[.int .u64 a, .int .i64 (i : Int)] w fun e w' => e = .returned (.int .u64 (rowF a i)) ∧ w' = w := by
  have h0 : (0 : Int) ≤ (i : Int) := by omega
  go_enter Try.func48, Try.ntmps48
  go_wp2_with fail
  refine (sgn_any _ _ (by omega) (by omega)).mono ?_
  rintro e u1 ⟨rfl, rfl⟩
  go_wp2_with fail
  refine (add_any _ _ _ (oF_U _) ⟨by omega, by omega⟩).mono ?_
  rintro e u2 ⟨rfl, rfl⟩
  go_wp2_with fail
  refine (add_any _ _ _ ha ⟨by omega, by omega⟩).mono ?_
  rintro e u3 ⟨rfl, rfl⟩
  go_wp2_with fail
  refine (mul_any _ _ _ (addF_U _ _) (addF_U _ _)).mono ?_
  rintro e u4 ⟨rfl, rfl⟩
  go_wp2_with fail
  refine (add_any _ _ _ (mulF_U _ _) ⟨by omega, by omega⟩).mono ?_
  rintro e u5 ⟨rfl, rfl⟩
  go_wp2_with fail
  refine (mul_any _ _ _ (addF_U _ _) (addF_U _ _)).mono ?_
  rintro e u6 ⟨rfl, rfl⟩
  go_wp2_with fail
  go_ret
  exact ⟨rfl, rfl⟩
set_option maxHeartbeats 800000 in
theorem rrow_any (a : Int) (i : Nat) (w : World) (ha : U a) (hi : i ≤ 1000) :
    Calls Try.prog 37 #[.int .u64 a, .int .i64 (i : Int)] w fun e w' => e = .returned (.int .u64 (rowF a i)) ∧ w' = w := by
  have h0 : (0 : Int) ≤ (i : Int) := by omega
  go_enter Try.func37, Try.ntmps37
  go_wp2_with fail
  refine (radd_any _ _ _ ha ⟨by omega, by omega⟩).mono ?_
  rintro e u1 ⟨rfl, rfl⟩
  go_wp2_with fail
  refine (radd_any _ _ _ ⟨by omega, by omega⟩ ⟨by omega, by omega⟩).mono ?_
  rintro e u2 ⟨rfl, rfl⟩
  go_wp2_with fail
  refine (rmul_any _ _ _ (addF_U _ _) (addF_U _ _)).mono ?_
  rintro e u3 ⟨rfl, rfl⟩
  go_wp2_with fail
  refine (radd_any _ _ _ (mulF_U _ _) ⟨by omega, by omega⟩).mono ?_
  rintro e u4 ⟨rfl, rfl⟩
  go_wp2_with fail
  refine (rpow_any 2 _ _ _ (by omega) (addF_U _ _) ⟨by omega, by omega⟩).mono ?_
  rintro e u5 ⟨rfl, rfl⟩
  go_wp2_with fail
  go_ret
  exact ⟨ret_int (row_ref a i), rfl⟩
end Go.Proofs.Ytihealembikkiaa.L2
