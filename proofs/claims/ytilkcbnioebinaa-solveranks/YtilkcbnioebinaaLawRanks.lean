/-
  For any rows, at most 40 rows and columns: the rank is what the reference reckons, or the rows are refused. No condition.
-/
import Derived.Test.YtilkcbnioebinaaRows
import Derived.Test.YtilkcbnioebinaaRefRank
import Derived.Test.YtilkcbnioebinaaSolveAwake
import Derived.Test.YtilkcbnioebinaaOpenRows
import Derived.WalkKit
import Derived.ProofKit
import Derived.OpenShut
import Derived.ShutString
import Derived.ChangeOld
import Derived.Below
import Derived.Carry
namespace Go.Proofs.Ytilkcbnioebinaa.solveRanks
open Fm
open Go.ChangeShapes Go.WideShapes Go.ChangeAt Go.RowKit
set_option linter.unusedVariables false

theorem own : ownKnob Try.prog.godebug = none := by kernel_rfl

set_option maxHeartbeats 800000 in
theorem walk (v : Value) (R : Nat) (L : Nat → Nat) (Z : Nat → Nat → Int) (w : World) (h : RowsAt w v R L Z) :
    Calls Try.prog 3 #[v] w fun e w' => e = .returned (.bool true) ∧ Below w.heap.size w w' := by
  have H : Hid (RowsAt w v R L Z) := h
  obtain ⟨A, cap, rfl⟩ := h.form
  clear h
  by_cases hs : SmallP R L 40
  rotate_left
  · go_enter Try.func3, Try.ntmps3
    go_wp2_with fail
    refine (small_any _ _ R 40 L Z H.out (by omega)).mono ?_
    rintro e w' ⟨B, rfl, hB, rfl⟩
    obtain rfl : B = false := by
      cases B with
      | false => rfl
      | true => exact absurd (hB.1 rfl) hs
    clear hB
    go_wp2_with fail
    refine (awake_any _).mono ?_
    rintro e wa ⟨rfl, ba⟩
    go_wp2_with fail
    go_ret
    exact ⟨rfl, (Below.refl w'.heap.size w').trans (ba.mono (Below.refl w'.heap.size w').size)⟩
  have hR4 : R ≤ 40 := hs.1
  by_cases hsy : SysP R L
  · obtain ⟨C, hC⟩ : ∃ C, colsF R L = C := ⟨_, rfl⟩
    have hC' : C ≤ 32 := by have := hsy.2.1; omega
    have hLr : Hid (∀ r, r < R → L r = C) := fun r hr => by rw [← hC]; exact hsy.2.2 r hr
    go_enter Try.func3, Try.ntmps3
    go_wp2_with fail
    refine (small_any _ _ R 40 L Z H.out (by omega)).mono ?_
    rintro e w' ⟨B, rfl, hB, rfl⟩
    obtain rfl : B = true := hB.2 hs
    clear hB
    go_wp2_with fail
    refine (rank_yes _ _ R C L Z H.out hsy hC).mono ?_
    rintro e w1 ⟨n, rfl, hn, b1⟩
    have HN : Hid (Rk R C Z n) := hn
    have B1 : Hid (Below w'.heap.size w' w1) := b1
    clear hn b1
    go_wp2_with fail
    refine (even_any w1 _ R L Z (H.out.keep (keep_of_below B1.out)) (by omega)).mono ?_
    rintro e w2 ⟨B, rfl, hB, b2⟩
    obtain rfl : B = true := hB.2 hsy
    have B2 : Hid (Below w'.heap.size w' w2) := B1.out.trans (b2.mono B1.out.size)
    clear hB b2
    go_wp2_with fail
    refine (rrank_any w2 _ R C L Z (H.out.keep (keep_of_below B2.out)) (by omega) (by omega) hLr.out).mono ?_
    rintro e w3 ⟨m, rfl, hm, _, b3⟩
    obtain rfl : n = m := HN.out.unique hm
    have B3 : Hid (Below w'.heap.size w' w3) := B2.out.trans (b3.mono B2.out.size)
    clear hm b3
    go_wp2_with fail
    refine (awake_any _).mono ?_
    rintro e wa ⟨rfl, ba⟩
    go_wp2_with fail
    go_ret
    exact ⟨rfl, (B3.out).trans (ba.mono (B3.out).size)⟩
  · go_enter Try.func3, Try.ntmps3
    go_wp2_with fail
    refine (small_any _ _ R 40 L Z H.out (by omega)).mono ?_
    rintro e w' ⟨B, rfl, hB, rfl⟩
    obtain rfl : B = true := hB.2 hs
    clear hB
    go_wp2_with fail
    refine (rank_no _ _ R L Z H.out hsy).mono ?_
    rintro e w1 ⟨rfl, hw1⟩
    have hw2 := hw1.symm
    subst hw2
    have B1 : Hid (Below w'.heap.size w' w') := Below.refl _ _
    clear hw1
    go_wp2_with fail
    refine (even_any w' _ R L Z (H.out.keep (keep_of_below B1.out)) (by omega)).mono ?_
    rintro e w2 ⟨B, rfl, hB, b2⟩
    obtain rfl : B = false := by
      cases B with
      | false => rfl
      | true => exact absurd (hB.1 rfl) hsy
    have B2 : Hid (Below w'.heap.size w' w2) := B1.out.trans (b2.mono B1.out.size)
    clear hB b2
    go_wp2_with fail
    refine (awake_any _).mono ?_
    rintro e wa ⟨rfl, ba⟩
    go_wp2_with fail
    go_ret
    exact ⟨rfl, (B2.out).trans (ba.mono (B2.out).size)⟩

/-! ### The row -/
theorem laidOut : laidOutB Try.prog = true := by kernel_rfl
set_option maxRecDepth 100000 in
theorem lifted (os : Os) (started : os.Started) (H : Type) (enc : TypeId × Value → H) :
    ReturnsInHanded {} Try.checked os 3 .any (Rows.solveRanksSpec.pre6 enc Try.prog Try.f3 Rows.solveRanksRow.domain false) (Rows.solveRanksSpec.post enc Try.prog Try.f3 false true false false) := by
  refine returnsInHanded_of_change (C := Try.checked) own started (by kernel_rfl) Try.func3
    (ChangeSpec.witness6 (enc := enc) (C := Try.checked) false ⟨#[], #[.slice none 0 0], []⟩ 8 (by kernel_rfl) (by kernel_rfl) (by kernel_rfl) (by kernel_rfl)) ?_
  intro W base args ds gs before hval0 hW hcnd _
  have hval : ∀ (j : Nat) t v, Try.f3.params[j]? = some t → args[j]? = some v → Value.okWide Try.prog W .any base t v := hval0
  have hW' := hW
  obtain ⟨p, q, hA0, hV, rfl, hfz, hnd⟩ := hW
  have hA : DataW.TrodAll enc Try.prog W 0 (fun _ => true) true Try.f3.params.toList args.toList ds p := hA0
  rw [Try.params3] at hA hval
  obtain ⟨v0, vs0, d0, ds0, p0, q0, hargs, rfl, rfl, h0, r0⟩ := trodAll_cons hA
  obtain ⟨rfl, rfl, rfl⟩ := trodAll_nil r0
  obtain rfl : args = #[v0] := by cases args; simp_all
  obtain ⟨rfl, rfl⟩ := trodVars_none hV
  obtain ⟨b0, len0, cap0, rfl⟩ := okWide_slice Try.underlying22 (hval 0 22 v0 rfl rfl)
  have k0 := h0
  have lt0 : ∀ x ∈ p0, x.block < W.heap.size := by obtain ⟨m, hm⟩ := k0; exact DataW.trod_lt m _ _ _ hm
  obtain ⟨L0, Z0, w0⟩ := open_u64ss Try.underlying22 Try.underlying30 Try.underlying36 (by kernel_rfl) (by kernel_rfl) h0
  clear hA0 hval0
  refine (walk _ len0 L0 Z0 W w0).mono fun e W' ⟨he, bel⟩ => ?_
  subst he
  exact ⟨_, rfl, _, _, _, [], _, [], hW', trodAll_mk1 (shut_bool Try.underlying4 _), (trodAll_cons_mk (Below.trod laidOut (by kernel_rfl) (of_decide_eq_true (by kernel_rfl)) k0 bel lt0) trodAll_mk0), rfl, bel.frame _, fun h => by cases h⟩

theorem over : Rows.solveRanksRow.holds Try.pinned (OpenSpec.ofChange Rows.solveRanksSpec) :=
  OpenClaim.holds_of_wide 3 Try.f3 rfl rfl rfl rfl rfl rfl rfl ⟨rfl, rfl, rfl, rfl, rfl⟩ rfl rfl rfl rfl rfl (by kernel_rfl) Try.func3 (by kernel_rfl)
    (of_decide_eq_true (by kernel_rfl)) (by unfold Func.isWrapper; first | (rw [if_pos (by decide +kernel)]; kernel_rfl) | (rw [if_neg (by decide +kernel)]; exact ⟨rfl, rfl⟩))
    (fun os started H enc _ => lifted os started H enc)

theorem proved : Rows.SolveRanksSaid := over
end Go.Proofs.Ytilkcbnioebinaa.solveRanks
namespace Go.Proofs.Ytilkcbnioebinaa
theorem solveRanks_holds : Rows.SolveRanksSaid := solveRanks.proved
#print axioms solveRanks_holds
end Go.Proofs.Ytilkcbnioebinaa
