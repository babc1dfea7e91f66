/-
  For any rows and any numbers, at most 40 of each: the sums of products are what the reference makes, one a row, or the system is refused. No condition.
-/
import Derived.Test.YtilkcbnioebinaaRows
import Derived.Test.YtilkcbnioebinaaRefOwn
import Derived.Test.YtilkcbnioebinaaSolveAwake
import Derived.Test.YtilkcbnioebinaaOpenRows
import Derived.WalkKit
import Derived.ProofKit
import Derived.OpenShut
import Derived.ShutString
import Derived.ChangeOld
import Derived.Below
import Derived.Carry
namespace Go.Proofs.Ytilkcbnioebinaa.solveTimes
open Fm
open Go.ChangeShapes Go.WideShapes Go.ChangeAt Go.RowKit
set_option linter.unusedVariables false

theorem own : ownKnob Try.prog.godebug = none := by kernel_rfl

set_option maxHeartbeats 800000 in
theorem walk (v : Value) (R : Nat) (L : Nat → Nat) (Z : Nat → Nat → Int) (x : Value) (Lx : Nat) (X : Nat → Int) (w : World) (h : RowsAt w v R L Z) (hx : IntsAt w x Lx X) :
    Calls Try.prog 5 #[v, x] w fun e w' => e = .returned (.bool true) ∧ Below w.heap.size w w' := by
  have H : Hid (RowsAt w v R L Z) := h
  have HX : Hid (IntsAt w x Lx X) := hx
  obtain ⟨A, cap, rfl⟩ := h.form
  obtain ⟨Ax, capx, rfl⟩ := hx.form
  clear h hx
  by_cases hs : SmallP R L 40
  rotate_left
  · go_enter Try.func5, Try.ntmps5
    go_wp2_with fail
    refine (small_any _ _ R 40 L Z H.out (by omega)).mono ?_
    rintro e w' ⟨B, rfl, hB, rfl⟩
    obtain rfl : B = false := by
      cases B with
      | false => rfl
      | true => exact absurd (hB.1 rfl) hs
    clear hB
    go_wp2_with fail
    refine (awake_any _).mono ?_
    rintro e wa ⟨rfl, ba⟩
    go_wp2_with fail
    go_ret
    exact ⟨rfl, (Below.refl w'.heap.size w').trans (ba.mono (Below.refl w'.heap.size w').size)⟩
  by_cases hl : 40 < Lx
  · have hl' : (40 : Int) < (Lx : Int) := by omega
    go_enter Try.func5, Try.ntmps5
    go_wp2_with fail
    refine (small_any _ _ R 40 L Z H.out (by omega)).mono ?_
    rintro e w' ⟨B, rfl, hB, rfl⟩
    obtain rfl : B = true := hB.2 hs
    clear hB
    go_wp2_with fail
    refine (awake_any _).mono ?_
    rintro e wa ⟨rfl, ba⟩
    go_wp2_with fail
    go_ret
    exact ⟨rfl, (Below.refl w'.heap.size w').trans (ba.mono (Below.refl w'.heap.size w').size)⟩
  have hl' : ¬ (40 : Int) < (Lx : Int) := by omega
  have hR4 : R ≤ 40 := hs.1
  by_cases hv0 : SysP R L ∧ (0 < R → Lx = colsF R L)
  rotate_left
  · have hv : Hid (¬ (SysP R L ∧ (0 < R → Lx = colsF R L))) := hv0
    by_cases hsy : SysP R L
    · have hR0 : 0 < R := by
        rcases Nat.eq_zero_or_pos R with e | e
        · exact absurd ⟨hsy, fun h => by omega⟩ hv0
        · exact e
      have hne : ((Lx : Int) == (colsF R L : Int)) = false := by
        have : Lx ≠ colsF R L := fun e => hv0 ⟨hsy, fun _ => e⟩
        have : (Lx : Int) ≠ (colsF R L : Int) := by omega
        simpa using this
      have hR1 : (0 : Int) < (R : Int) := by omega
      clear hv0
      obtain ⟨A0, cap0, c0⟩ : ∃ A0 cap0, ∀ w', Keep w w' → ∃ b o, A = some ⟨b, o, none⟩ ∧ w'.cell? ⟨b, o, none⟩ = some (.slice A0 (colsF R L) cap0) := by
        obtain ⟨A1, cap1, b, o, V, e, h2, h3, h4⟩ := H.out
        obtain ⟨ha, A', cap', _, c⟩ := RowsAt.cell h3 h4 (r := 0) hR0
        cases e
        rw [← colsF_pos L hR0, Nat.add_zero] at c
        exact ⟨A', cap', fun w' k => ⟨b, o, ha, k _ _ c⟩⟩
      have C0 : Hid (∀ w', Keep w w' → ∃ b o, A = some ⟨b, o, none⟩ ∧ w'.cell? ⟨b, o, none⟩ = some (.slice A0 (colsF R L) cap0)) := c0
      clear c0
      go_enter Try.func5, Try.ntmps5
      go_wp2_with fail
      refine (small_any _ _ R 40 L Z H.out (by omega)).mono ?_
      rintro e w' ⟨B, rfl, hB, rfl⟩
      obtain rfl : B = true := hB.2 hs
      clear hB
      go_wp2_with fail
      refine (times_no _ _ _ R Lx L Z X H.out HX.out hv.out).mono ?_
      rintro e w1 ⟨rfl, hw1⟩
      have hw2 := hw1.symm
      subst hw2
      have B1 : Hid (Below w'.heap.size w' w') := Below.refl _ _
      clear hw1
      go_wp2_with fail
      refine (even_any w' _ R L Z (H.out.keep (keep_of_below B1.out)) (by omega)).mono ?_
      rintro e w2 ⟨B, rfl, hB, b2⟩
      obtain rfl : B = true := hB.2 hsy
      have B2 : Hid (Below w'.heap.size w' w2 ∧ Below w'.heap.size w' w2) := ⟨B1.out.trans (b2.mono B1.out.size), b2⟩
      clear hB b2
      obtain ⟨b, o, rfl, c0⟩ := C0.out w2 (keep_of_below B2.out.1)
      go_wp2_with fail
      refine (awake_any _).mono ?_
      rintro e wa ⟨rfl, ba⟩
      go_wp2_with fail
      go_ret
      exact ⟨rfl, (B2.out.1).trans (ba.mono (B2.out.1).size)⟩
    · clear hv0
      go_enter Try.func5, Try.ntmps5
      go_wp2_with fail
      refine (small_any _ _ R 40 L Z H.out (by omega)).mono ?_
      rintro e w' ⟨B, rfl, hB, rfl⟩
      obtain rfl : B = true := hB.2 hs
      clear hB
      go_wp2_with fail
      refine (times_no _ _ _ R Lx L Z X H.out HX.out hv.out).mono ?_
      rintro e w1 ⟨rfl, hw1⟩
      have hw2 := hw1.symm
      subst hw2
      have B1 : Hid (Below w'.heap.size w' w') := Below.refl _ _
      clear hw1
      go_wp2_with fail
      refine (even_any w' _ R L Z (H.out.keep (keep_of_below B1.out)) (by omega)).mono ?_
      rintro e w2 ⟨B, rfl, hB, b2⟩
      obtain rfl : B = false := by
        cases B with
        | false => rfl
        | true => exact absurd (hB.1 rfl) hsy
      have B2 : Hid (Below w'.heap.size w' w2 ∧ Below w'.heap.size w' w2) := ⟨B1.out.trans (b2.mono B1.out.size), b2⟩
      clear hB b2
      go_wp2_with fail
      refine (awake_any _).mono ?_
      rintro e wa ⟨rfl, ba⟩
      go_wp2_with fail
      go_ret
      exact ⟨rfl, (B2.out.1).trans (ba.mono (B2.out.1).size)⟩
  obtain ⟨hsy, hX⟩ := hv0
  obtain ⟨C, hC⟩ : ∃ C, colsF R L = C := ⟨_, rfl⟩
  rw [hC] at hX
  have HXC : Hid (0 < R → Lx = C) := hX
  have HSY : Hid (SysP R L) := hsy
  clear hX
  by_cases hR : R = 0
  · have hR' : ¬ (0 : Int) < (R : Int) := by omega
    have HR : Hid (R = 0) := hR
    have SM : Hid (SameP R R (fun i => oF (dotN (Z i) X C)) (fun i => oF (dotN (Z i) X Lx))) := ⟨rfl, fun j hj => by omega⟩
    clear hR
    go_enter Try.func5, Try.ntmps5
    go_wp2_with fail
    refine (small_any _ _ R 40 L Z H.out (by omega)).mono ?_
    rintro e w' ⟨B, rfl, hB, rfl⟩
    obtain rfl : B = true := hB.2 hs
    clear hB
    go_wp2_with fail
    refine (times_yes _ _ _ R C Lx L Z X H.out HX.out hsy hC HXC.out).mono ?_
    rintro e w1 ⟨g, rfl, hr1, b1, hg⟩
    have RT : Hid (IntsAt w1 (.slice (some ⟨g, 0, none⟩) R R) R (fun i => oF (dotN (Z i) X C))) := newInts_at hr1 fun j _ => oF_U _
    have B1 : Hid (Below w'.heap.size w' w1) := b1
    clear hr1 b1 hg
    go_wp2_with fail
    refine (even_any w1 _ R L Z (H.out.keep (keep_of_below B1.out)) (by omega)).mono ?_
    rintro e w2 ⟨B, rfl, hB, b2⟩
    obtain rfl : B = true := hB.2 hsy
    have B2 : Hid (Below w'.heap.size w' w2 ∧ Below w1.heap.size w1 w2) := ⟨B1.out.trans (b2.mono B1.out.size), b2⟩
    clear hB b2
    go_wp2_with fail
    refine (rtimes_any w2 _ _ R Lx L Z X (H.out.keep (keep_of_below B2.out.1)) (HX.out.keep (keep_of_below B2.out.1)) (by omega) (by omega) (fun r hr => by have := HR.out; omega)).mono ?_
    rintro e w3 ⟨y, rfl, hy, b3⟩
    obtain ⟨Ay, capy, rfl⟩ := hy.form
    have B3 : Hid (Below w'.heap.size w' w3 ∧ Below w1.heap.size w1 w3) := ⟨B2.out.1.trans (b3.mono B2.out.1.size), B2.out.2.trans (b3.mono B2.out.2.size)⟩
    have HY : Hid (IntsAt w3 (.slice Ay R capy) R (fun i => oF (dotN (Z i) X Lx))) := hy
    clear hy b3
    go_wp2_with fail
    refine (same_any w3 _ _ R R _ _ (RT.out.keep (keep_of_below B3.out.2)) HY.out (by omega)).mono ?_
    rintro e w4 ⟨B, rfl, hB, b4⟩
    obtain rfl : B = true := hB.2 SM.out
    have B4 : Hid (Below w'.heap.size w' w4) := B3.out.1.trans (b4.mono B3.out.1.size)
    clear hB b4
    go_wp2_with fail
    refine (awake_any _).mono ?_
    rintro e wa ⟨rfl, ba⟩
    go_wp2_with fail
    go_ret
    exact ⟨rfl, (B4.out).trans (ba.mono (B4.out).size)⟩
  have hR0 : 0 < R := by omega
  have hR1 : (0 : Int) < (R : Int) := by omega
  have SM : Hid (SameP R R (fun i => oF (dotN (Z i) X C)) (fun i => oF (dotN (Z i) X Lx))) := ⟨rfl, fun j hj => by rw [HXC.out hR0]⟩
  have hq : ((Lx : Int) == (colsF R L : Int)) = true := by rw [hC, HXC.out hR0]; exact beq_self_eq_true _
  clear hR
  obtain ⟨A0, cap0, c0⟩ : ∃ A0 cap0, ∀ w', Keep w w' → ∃ b o, A = some ⟨b, o, none⟩ ∧ w'.cell? ⟨b, o, none⟩ = some (.slice A0 (colsF R L) cap0) := by
    obtain ⟨A1, cap1, b, o, V, e, h2, h3, h4⟩ := H.out
    obtain ⟨ha, A', cap', _, c⟩ := RowsAt.cell h3 h4 (r := 0) hR0
    cases e
    rw [← colsF_pos L hR0, Nat.add_zero] at c
    exact ⟨A', cap', fun w' k => ⟨b, o, ha, k _ _ c⟩⟩
  have C0 : Hid (∀ w', Keep w w' → ∃ b o, A = some ⟨b, o, none⟩ ∧ w'.cell? ⟨b, o, none⟩ = some (.slice A0 (colsF R L) cap0)) := c0
  clear c0
  go_enter Try.func5, Try.ntmps5
  go_wp2_with fail
  refine (small_any _ _ R 40 L Z H.out (by omega)).mono ?_
  rintro e w' ⟨B, rfl, hB, rfl⟩
  obtain rfl : B = true := hB.2 hs
  clear hB
  go_wp2_with fail
  refine (times_yes _ _ _ R C Lx L Z X H.out HX.out hsy hC HXC.out).mono ?_
  rintro e w1 ⟨g, rfl, hr1, b1, hg⟩
  have RT : Hid (IntsAt w1 (.slice (some ⟨g, 0, none⟩) R R) R (fun i => oF (dotN (Z i) X C))) := newInts_at hr1 fun j _ => oF_U _
  have B1 : Hid (Below w'.heap.size w' w1) := b1
  clear hr1 b1 hg
  go_wp2_with fail
  refine (even_any w1 _ R L Z (H.out.keep (keep_of_below B1.out)) (by omega)).mono ?_
  rintro e w2 ⟨B, rfl, hB, b2⟩
  obtain rfl : B = true := hB.2 hsy
  have B2 : Hid (Below w'.heap.size w' w2 ∧ Below w1.heap.size w1 w2) := ⟨B1.out.trans (b2.mono B1.out.size), b2⟩
  clear hB b2
  obtain ⟨b, o, rfl, c0⟩ := C0.out w2 (keep_of_below B2.out.1)
  go_wp2_with fail
  refine (rtimes_any w2 _ _ R Lx L Z X (H.out.keep (keep_of_below B2.out.1)) (HX.out.keep (keep_of_below B2.out.1)) (by omega) (by omega) (fun r hr => by rw [HSY.out.2.2 r hr, hC, HXC.out hR0])).mono ?_
  rintro e w3 ⟨y, rfl, hy, b3⟩
  obtain ⟨Ay, capy, rfl⟩ := hy.form
  have B3 : Hid (Below w'.heap.size w' w3 ∧ Below w1.heap.size w1 w3) := ⟨B2.out.1.trans (b3.mono B2.out.1.size), B2.out.2.trans (b3.mono B2.out.2.size)⟩
  have HY : Hid (IntsAt w3 (.slice Ay R capy) R (fun i => oF (dotN (Z i) X Lx))) := hy
  clear hy b3
  go_wp2_with fail
  refine (same_any w3 _ _ R R _ _ (RT.out.keep (keep_of_below B3.out.2)) HY.out (by omega)).mono ?_
  rintro e w4 ⟨B, rfl, hB, b4⟩
  obtain rfl : B = true := hB.2 SM.out
  have B4 : Hid (Below w'.heap.size w' w4) := B3.out.1.trans (b4.mono B3.out.1.size)
  clear hB b4
  go_wp2_with fail
  refine (awake_any _).mono ?_
  rintro e wa ⟨rfl, ba⟩
  go_wp2_with fail
  go_ret
  exact ⟨rfl, (B4.out).trans (ba.mono (B4.out).size)⟩

/-! ### The row -/
theorem laidOut : laidOutB Try.prog = true := by kernel_rfl
set_option maxRecDepth 100000 in
theorem lifted (os : Os) (started : os.Started) (H : Type) (enc : TypeId × Value → H) :
    ReturnsInHanded {} Try.checked os 5 .any (Rows.solveTimesSpec.pre6 enc Try.prog Try.f5 Rows.solveTimesRow.domain false) (Rows.solveTimesSpec.post enc Try.prog Try.f5 false true false false) := by
  refine returnsInHanded_of_change (C := Try.checked) own started (by kernel_rfl) Try.func5
    (ChangeSpec.witness6 (enc := enc) (C := Try.checked) false ⟨#[], #[.slice none 0 0, .slice none 0 0], []⟩ 8 (by kernel_rfl) (by kernel_rfl) (by kernel_rfl) (by kernel_rfl)) ?_
  intro W base args ds gs before hval0 hW hcnd _
  have hval : ∀ (j : Nat) t v, Try.f5.params[j]? = some t → args[j]? = some v → Value.okWide Try.prog W .any base t v := hval0
  have hW' := hW
  obtain ⟨p, q, hA0, hV, rfl, hfz, hnd⟩ := hW
  have hA : DataW.TrodAll enc Try.prog W 0 (fun _ => true) true Try.f5.params.toList args.toList ds p := hA0
  rw [Try.params5] at hA hval
  obtain ⟨v0, vs0, d0, ds0, p0, q0, hargs, rfl, rfl, h0, r0⟩ := trodAll_cons hA
  obtain ⟨v1, vs1, d1, ds1, p1, q1, rfl, rfl, rfl, h1, r1⟩ := trodAll_cons r0
  obtain ⟨rfl, rfl, rfl⟩ := trodAll_nil r1
  obtain rfl : args = #[v0, v1] := by cases args; simp_all
  obtain ⟨rfl, rfl⟩ := trodVars_none hV
  obtain ⟨b0, len0, cap0, rfl⟩ := okWide_slice Try.underlying22 (hval 0 22 v0 rfl rfl)
  have k0 := h0
  have lt0 : ∀ x ∈ p0, x.block < W.heap.size := by obtain ⟨m, hm⟩ := k0; exact DataW.trod_lt m _ _ _ hm
  obtain ⟨L0, Z0, w0⟩ := open_u64ss Try.underlying22 Try.underlying30 Try.underlying36 (by kernel_rfl) (by kernel_rfl) h0
  obtain ⟨b1, len1, cap1, rfl⟩ := okWide_slice Try.underlying30 (hval 1 30 v1 rfl rfl)
  have k1 := h1
  have lt1 : ∀ x ∈ p1, x.block < W.heap.size := by obtain ⟨m, hm⟩ := k1; exact DataW.trod_lt m _ _ _ hm
  obtain ⟨z1, w1⟩ := open_u64s Try.underlying30 Try.underlying36 (by kernel_rfl) h1
  clear hA0 hval0
  refine (walk _ len0 L0 Z0 _ len1 z1 W w0 w1).mono fun e W' ⟨he, bel⟩ => ?_
  subst he
  exact ⟨_, rfl, _, _, _, [], _, [], hW', trodAll_mk1 (shut_bool Try.underlying4 _), (trodAll_cons_mk (Below.trod laidOut (by kernel_rfl) (of_decide_eq_true (by kernel_rfl)) k0 bel lt0) (trodAll_cons_mk (Below.trod laidOut (by kernel_rfl) (of_decide_eq_true (by kernel_rfl)) k1 bel lt1) trodAll_mk0)), rfl, bel.frame _, fun h => by cases h⟩

theorem over : Rows.solveTimesRow.holds Try.pinned (OpenSpec.ofChange Rows.solveTimesSpec) :=
  OpenClaim.holds_of_wide 5 Try.f5 rfl rfl rfl rfl rfl rfl rfl ⟨rfl, rfl, rfl, rfl, rfl⟩ rfl rfl rfl rfl rfl (by kernel_rfl) Try.func5 (by kernel_rfl)
    (of_decide_eq_true (by kernel_rfl)) (by unfold Func.isWrapper; first | (rw [if_pos (by decide +kernel)]; kernel_rfl) | (rw [if_neg (by decide +kernel)]; exact ⟨rfl, rfl⟩))
    (fun os started H enc _ => lifted os started H enc)

theorem proved : Rows.SolveTimesSaid := over
end Go.Proofs.Ytilkcbnioebinaa.solveTimes
namespace Go.Proofs.Ytilkcbnioebinaa
theorem solveTimes_holds : Rows.SolveTimesSaid := solveTimes.proved
#print axioms solveTimes_holds
end Go.Proofs.Ytilkcbnioebinaa
