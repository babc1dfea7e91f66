/-
  For any rows and any numbers, at most 32 of each: where the rows are a system and the numbers are as many as its columns, what the numbers make is solved to these, if the rank is how many columns there are, and else ErrRank is told. No condition.
-/
import Derived.Test.YtilkcbnioebinaaRows
import Derived.Test.YtilkcbnioebinaaRefRead
import Derived.Test.YtilkcbnioebinaaSolveAwake
import Derived.Test.YtilkcbnioebinaaOpenRows
import Derived.WalkKit
import Derived.ProofKit
import Derived.OpenShut
import Derived.ShutString
import Derived.ChangeOld
import Derived.Below
import Derived.Carry
namespace Go.Proofs.Ytilkcbnioebinaa.solveBack
open Fm
open Go.ChangeShapes Go.WideShapes Go.ChangeAt Go.RowKit
set_option linter.unusedVariables false

theorem own : ownKnob Try.prog.godebug = none := by kernel_rfl

theorem back_dot {R C : Nat} {Z : Nat → Nat → Int} {X : Nat → Int} (r : Nat) (hr : r < R) : oF (dotN (wideZ C Z (fun i => oF (dotN (Z i) X C)) r) X C) = oF (wideZ C Z (fun i => oF (dotN (Z i) X C)) r C) := by
  have e : wideZ C Z (fun i => oF (dotN (Z i) X C)) r C = oF (dotN (Z r) X C) := by simp [wideZ]
  rw [e, oF_oF]
  exact dot_congr C (fun j hj => by simp [wideZ, hj]) fun _ _ => rfl

set_option maxHeartbeats 800000 in
theorem walk (v : Value) (R : Nat) (L : Nat → Nat) (Z : Nat → Nat → Int) (x : Value) (Lx : Nat) (X : Nat → Int) (w : World) (h : RowsAt w v R L Z) (hx : IntsAt w x Lx X) :
    Calls Try.prog 6 #[v, x] w fun e w' => e = .returned (.bool true) ∧ Below w.heap.size w w' := by
  have H : Hid (RowsAt w v R L Z) := h
  have HX : Hid (IntsAt w x Lx X) := hx
  obtain ⟨A, cap, rfl⟩ := h.form
  obtain ⟨Ax, capx, rfl⟩ := hx.form
  clear h hx
  by_cases hs : SmallP R L 32
  rotate_left
  · go_enter Try.func6, Try.ntmps6
    go_wp2_with fail
    refine (small_any _ _ R 32 L Z H.out (by omega)).mono ?_
    rintro e w' ⟨B, rfl, hB, rfl⟩
    obtain rfl : B = false := by
      cases B with
      | false => rfl
      | true => exact absurd (hB.1 rfl) hs
    clear hB
    go_wp2_with fail
    refine (awake_any _).mono ?_
    rintro e wa ⟨rfl, ba⟩
    go_wp2_with fail
    go_ret
    exact ⟨rfl, (Below.refl w'.heap.size w').trans (ba.mono (Below.refl w'.heap.size w').size)⟩
  by_cases hl : 32 < Lx
  · have hl' : (32 : Int) < (Lx : Int) := by omega
    go_enter Try.func6, Try.ntmps6
    go_wp2_with fail
    refine (small_any _ _ R 32 L Z H.out (by omega)).mono ?_
    rintro e w' ⟨B, rfl, hB, rfl⟩
    obtain rfl : B = true := hB.2 hs
    clear hB
    go_wp2_with fail
    refine (awake_any _).mono ?_
    rintro e wa ⟨rfl, ba⟩
    go_wp2_with fail
    go_ret
    exact ⟨rfl, (Below.refl w'.heap.size w').trans (ba.mono (Below.refl w'.heap.size w').size)⟩
  have hl' : ¬ (32 : Int) < (Lx : Int) := by omega
  by_cases hv : SysP R L ∧ (0 < R → Lx = colsF R L)
  rotate_left
  · by_cases hsy : SysP R L
    · have hR : 0 < R := by
        rcases Nat.eq_zero_or_pos R with e | e
        · exact absurd ⟨hsy, fun h => by omega⟩ hv
        · exact e
      go_enter Try.func6, Try.ntmps6
      go_wp2_with fail
      refine (small_any _ _ R 32 L Z H.out (by omega)).mono ?_
      rintro e w' ⟨B, rfl, hB, rfl⟩
      obtain rfl : B = true := hB.2 hs
      clear hB
      go_wp2_with fail
      refine (times_no _ _ _ R Lx L Z X H.out HX.out hv).mono ?_
      rintro e w1 ⟨rfl, rfl⟩
      go_wp2_with fail
      refine (rank_yes w1 _ R _ L Z H.out hsy rfl).mono ?_
      rintro e w2 ⟨n, rfl, _, b2⟩
      have BB : Hid (Below w1.heap.size w1 w2) := b2
      clear b2
      go_wp2_with fail
      refine (solve_no w2 _ _ R 0 L Z (fun _ => 0) (H.out.keep (keep_of_below BB.out)) ⟨_, 0, 0, 0, rfl, Nat.le_refl _, fun h => by omega, fun c h => by omega⟩ (fun h => by have := h.2; omega)).mono ?_
      rintro e w3 ⟨rfl, rfl⟩
      go_wp2_with fail
      refine (awake_any _).mono ?_
      rintro e wa ⟨rfl, ba⟩
      go_wp2_with fail
      go_ret
      exact ⟨rfl, (BB.out).trans (ba.mono (BB.out).size)⟩
    · go_enter Try.func6, Try.ntmps6
      go_wp2_with fail
      refine (small_any _ _ R 32 L Z H.out (by omega)).mono ?_
      rintro e w' ⟨B, rfl, hB, rfl⟩
      obtain rfl : B = true := hB.2 hs
      clear hB
      go_wp2_with fail
      refine (times_no _ _ _ R Lx L Z X H.out HX.out hv).mono ?_
      rintro e w1 ⟨rfl, rfl⟩
      go_wp2_with fail
      refine (rank_no w1 _ R L Z H.out hsy).mono ?_
      rintro e w2 ⟨rfl, rfl⟩
      have b2 := Below.refl w2.heap.size w2
      have BB : Hid (Below w2.heap.size w2 w2) := b2
      clear b2
      go_wp2_with fail
      refine (solve_no w2 _ _ R 0 L Z (fun _ => 0) (H.out.keep (keep_of_below BB.out)) ⟨_, 0, 0, 0, rfl, Nat.le_refl _, fun h => by omega, fun c h => by omega⟩ (fun h => hsy h.1)).mono ?_
      rintro e w3 ⟨rfl, rfl⟩
      go_wp2_with fail
      refine (awake_any _).mono ?_
      rintro e wa ⟨rfl, ba⟩
      go_wp2_with fail
      go_ret
      exact ⟨rfl, (BB.out).trans (ba.mono (BB.out).size)⟩
  obtain ⟨hsy, hX⟩ := hv
  obtain ⟨C, hC⟩ : ∃ C, colsF R L = C := ⟨_, rfl⟩
  rw [hC] at hX
  have HXC : Hid (0 < R → Lx = C) := hX
  clear hX
  by_cases hR : R = 0
  · have hR' : ((R : Int) == 0) = true := by rw [hR]; rfl
    have HR : Hid (R = 0) := hR
    clear hR
    go_enter Try.func6, Try.ntmps6
    go_wp2_with fail
    refine (small_any _ _ R 32 L Z H.out (by omega)).mono ?_
    rintro e w' ⟨B, rfl, hB, rfl⟩
    obtain rfl : B = true := hB.2 hs
    clear hB
    go_wp2_with fail
    refine (times_yes _ _ _ R C Lx L Z X H.out HX.out hsy hC HXC.out).mono ?_
    rintro e w1 ⟨g, rfl, hr1, b1, hg⟩
    have RT : Hid (IntsAt w1 (.slice (some ⟨g, 0, none⟩) R R) R (fun i => oF (dotN (Z i) X C))) := newInts_at hr1 fun j _ => oF_U _
    have B1 : Hid (Below w'.heap.size w' w1) := b1
    clear hr1 b1 hg
    go_wp2_with fail
    refine (rank_yes w1 _ R C L Z (H.out.keep (keep_of_below B1.out)) hsy hC).mono ?_
    rintro e w2 ⟨n, rfl, hn, b2⟩
    have HN : Hid (Rk R C Z n) := hn
    have B2 : Hid (Below w'.heap.size w' w2 ∧ Below w1.heap.size w1 w2) := ⟨B1.out.trans (b2.mono B1.out.size), b2⟩
    clear hn b2
    go_wp2_with fail
    refine (solve_yes w2 _ _ R C L Z (fun i => oF (dotN (Z i) X C)) (H.out.keep (keep_of_below B2.out.1)) (RT.out.keep (keep_of_below B2.out.2)) hsy hC).mono ?_
    rintro e w3 hT
    have B3 : Below w'.heap.size w' w3 ∧ ∃ y k, e = .returned (.tuple #[y, .int .i64 k]) := by
      rcases hT with ⟨n', k, l, Z', rfl, h1, h2, h3, h4, h5, h6, h7⟩ | ⟨n', l, Z', rfl, h1, h2, h3, h4, h5, h6⟩ | ⟨l, Z', g, rfl, h1, h2, h3, h4, h5, h6, h7⟩
      · have := HR.out; omega
      · exact ⟨B2.out.1.trans (h6.mono B2.out.1.size), _, _, rfl⟩
      · exact ⟨B2.out.1.trans (h6.mono B2.out.1.size), _, _, rfl⟩
    obtain ⟨b3, y, k, rfl⟩ := B3
    have B3 : Hid (Below w'.heap.size w' w3) := b3
    clear b3 hT
    go_wp2_with fail
    refine (awake_any _).mono ?_
    rintro e wa ⟨rfl, ba⟩
    go_wp2_with fail
    go_ret
    exact ⟨rfl, (B3.out).trans (ba.mono (B3.out).size)⟩
  have hR0 : 0 < R := by omega
  have hR1 : (0 : Int) < (R : Int) := by omega
  have hR' : ((R : Int) == 0) = false := by simpa using hR
  clear hR
  have HLX : Hid (Lx = C) := HXC.out hR0
  obtain ⟨A0, cap0, c0⟩ : ∃ A0 cap0, ∀ w', Keep w w' → ∃ b o, A = some ⟨b, o, none⟩ ∧ w'.cell? ⟨b, o, none⟩ = some (.slice A0 C cap0) := by
    obtain ⟨A1, cap1, b, o, V, e, h2, h3, h4⟩ := H.out
    obtain ⟨ha, A', cap', _, c⟩ := RowsAt.cell h3 h4 (r := 0) hR0
    cases e
    rw [← colsF_pos L hR0, hC, Nat.add_zero] at c
    exact ⟨A', cap', fun w' k => ⟨b, o, ha, k _ _ c⟩⟩
  have C0 : Hid (∀ w', Keep w w' → ∃ b o, A = some ⟨b, o, none⟩ ∧ w'.cell? ⟨b, o, none⟩ = some (.slice A0 C cap0)) := c0
  clear c0
  go_enter Try.func6, Try.ntmps6
  go_wp2_with fail
  refine (small_any _ _ R 32 L Z H.out (by omega)).mono ?_
  rintro e w' ⟨B, rfl, hB, rfl⟩
  obtain rfl : B = true := hB.2 hs
  clear hB
  go_wp2_with fail
  refine (times_yes _ _ _ R C Lx L Z X H.out HX.out hsy hC HXC.out).mono ?_
  rintro e w1 ⟨g, rfl, hr1, b1, hg⟩
  have RT : Hid (IntsAt w1 (.slice (some ⟨g, 0, none⟩) R R) R (fun i => oF (dotN (Z i) X C))) := newInts_at hr1 fun j _ => oF_U _
  have B1 : Hid (Below w'.heap.size w' w1) := b1
  clear hr1 b1 hg
  go_wp2_with fail
  refine (rank_yes w1 _ R C L Z (H.out.keep (keep_of_below B1.out)) hsy hC).mono ?_
  rintro e w2 ⟨n, rfl, hn, b2⟩
  have HN : Hid (Rk R C Z n) := hn
  have B2 : Hid (Below w'.heap.size w' w2 ∧ Below w1.heap.size w1 w2) := ⟨B1.out.trans (b2.mono B1.out.size), b2⟩
  clear hn b2
  go_wp2_with fail
  refine (solve_yes w2 _ _ R C L Z (fun i => oF (dotN (Z i) X C)) (H.out.keep (keep_of_below B2.out.1)) (RT.out.keep (keep_of_below B2.out.2)) hsy hC).mono ?_
  rintro e w3 hT
  rcases hT with ⟨n', k, l, Z', rfl, h1, h2, h3, h4, h5, h6, h7⟩ | ⟨n', l, Z', rfl, h1, h2, h3, h4, h5, h6⟩ | ⟨l, Z', g2, rfl, h1, h2, h3, h4, h5, h6, h7⟩
  · have := (h1.back h2 back_dot).1 k h4 h5
    rw [oF_id (h3 k h5 C (by omega)).1 (h3 k h5 C (by omega)).2] at this
    exact absurd this h6
  · obtain rfl : n' = n := (solve_rk h1 h2).unique HN.out
    have B3 : Hid (Below w'.heap.size w' w3) := B2.out.1.trans (h6.mono B2.out.1.size)
    obtain ⟨b, o, rfl, c0⟩ := C0.out w3 (keep_of_below B3.out)
    clear h1 h2 h3 h4 h6
    go_wp2_with fail
    refine (awake_any _).mono ?_
    rintro e wa ⟨rfl, ba⟩
    go_wp2_with fail
    go_ret
    exact ⟨rfl, (B3.out).trans (ba.mono (B3.out).size)⟩
  · obtain rfl : C = n := (solve_rk h1 h2).unique HN.out
    have B3 : Hid (Below w'.heap.size w' w3) := B2.out.1.trans (h6.mono B2.out.1.size)
    obtain ⟨b, o, rfl, c0⟩ := C0.out w3 (keep_of_below B3.out)
    have YT : Hid (IntsAt w3 (.slice (some ⟨g2, 0, none⟩) C C) C (fun i => Z' i C)) := newInts_at h5 fun j hj => rng_U h3 j (by have := h1.le; omega) C (by omega)
    have SM : Hid (SameP Lx C X (fun i => Z' i C)) := ⟨HLX.out, fun j hj => ((h1.back h2 back_dot).2 rfl j (by have := HLX.out; omega)).symm⟩
    clear h1 h2 h3 h4 h5 h6 h7
    go_wp2_with fail
    refine (same_any w3 _ _ Lx C X (fun i => Z' i C) (HX.out.keep (keep_of_below B3.out)) YT.out (by omega)).mono ?_
    rintro e w4 ⟨B, rfl, hB, b4⟩
    obtain rfl : B = true := hB.2 SM.out
    have B4 : Hid (Below w'.heap.size w' w4) := B3.out.trans (b4.mono B3.out.size)
    clear hB b4
    go_wp2_with fail
    refine (awake_any _).mono ?_
    rintro e wa ⟨rfl, ba⟩
    go_wp2_with fail
    go_ret
    exact ⟨rfl, (B4.out).trans (ba.mono (B4.out).size)⟩

/-! ### The row -/
theorem laidOut : laidOutB Try.prog = true := by kernel_rfl
set_option maxRecDepth 100000 in
theorem lifted (os : Os) (started : os.Started) (H : Type) (enc : TypeId × Value → H) :
    ReturnsInHanded {} Try.checked os 6 .any (Rows.solveBackSpec.pre6 enc Try.prog Try.f6 Rows.solveBackRow.domain false) (Rows.solveBackSpec.post enc Try.prog Try.f6 false true false false) := by
  refine returnsInHanded_of_change (C := Try.checked) own started (by kernel_rfl) Try.func6
    (ChangeSpec.witness6 (enc := enc) (C := Try.checked) false ⟨#[], #[.slice none 0 0, .slice none 0 0], []⟩ 8 (by kernel_rfl) (by kernel_rfl) (by kernel_rfl) (by kernel_rfl)) ?_
  intro W base args ds gs before hval0 hW hcnd _
  have hval : ∀ (j : Nat) t v, Try.f6.params[j]? = some t → args[j]? = some v → Value.okWide Try.prog W .any base t v := hval0
  have hW' := hW
  obtain ⟨p, q, hA0, hV, rfl, hfz, hnd⟩ := hW
  have hA : DataW.TrodAll enc Try.prog W 0 (fun _ => true) true Try.f6.params.toList args.toList ds p := hA0
  rw [Try.params6] at hA hval
  obtain ⟨v0, vs0, d0, ds0, p0, q0, hargs, rfl, rfl, h0, r0⟩ := trodAll_cons hA
  obtain ⟨v1, vs1, d1, ds1, p1, q1, rfl, rfl, rfl, h1, r1⟩ := trodAll_cons r0
  obtain ⟨rfl, rfl, rfl⟩ := trodAll_nil r1
  obtain rfl : args = #[v0, v1] := by cases args; simp_all
  obtain ⟨rfl, rfl⟩ := trodVars_none hV
  obtain ⟨b0, len0, cap0, rfl⟩ := okWide_slice Try.underlying22 (hval 0 22 v0 rfl rfl)
  have k0 := h0
  have lt0 : ∀ x ∈ p0, x.block < W.heap.size := by obtain ⟨m, hm⟩ := k0; exact DataW.trod_lt m _ _ _ hm
  obtain ⟨L0, Z0, w0⟩ := open_u64ss Try.underlying22 Try.underlying30 Try.underlying36 (by kernel_rfl) (by kernel_rfl) h0
  obtain ⟨b1, len1, cap1, rfl⟩ := okWide_slice Try.underlying30 (hval 1 30 v1 rfl rfl)
  have k1 := h1
  have lt1 : ∀ x ∈ p1, x.block < W.heap.size := by obtain ⟨m, hm⟩ := k1; exact DataW.trod_lt m _ _ _ hm
  obtain ⟨z1, w1⟩ := open_u64s Try.underlying30 Try.underlying36 (by kernel_rfl) h1
  clear hA0 hval0
  refine (walk _ len0 L0 Z0 _ len1 z1 W w0 w1).mono fun e W' ⟨he, bel⟩ => ?_
  subst he
  exact ⟨_, rfl, _, _, _, [], _, [], hW', trodAll_mk1 (shut_bool Try.underlying4 _), (trodAll_cons_mk (Below.trod laidOut (by kernel_rfl) (of_decide_eq_true (by kernel_rfl)) k0 bel lt0) (trodAll_cons_mk (Below.trod laidOut (by kernel_rfl) (of_decide_eq_true (by kernel_rfl)) k1 bel lt1) trodAll_mk0)), rfl, bel.frame _, fun h => by cases h⟩

theorem over : Rows.solveBackRow.holds Try.pinned (OpenSpec.ofChange Rows.solveBackSpec) :=
  OpenClaim.holds_of_wide 6 Try.f6 rfl rfl rfl rfl rfl rfl rfl ⟨rfl, rfl, rfl, rfl, rfl⟩ rfl rfl rfl rfl rfl (by kernel_rfl) Try.func6 (by kernel_rfl)
    (of_decide_eq_true (by kernel_rfl)) (by unfold Func.isWrapper; first | (rw [if_pos (by decide +kernel)]; kernel_rfl) | (rw [if_neg (by decide +kernel)]; exact ⟨rfl, rfl⟩))
    (fun os started H enc _ => lifted os started H enc)

theorem proved : Rows.SolveBackSaid := over
end Go.Proofs.Ytilkcbnioebinaa.solveBack
namespace Go.Proofs.Ytilkcbnioebinaa
theorem solveBack_holds : Rows.SolveBackSaid := solveBack.proved
#print axioms solveBack_holds
end Go.Proofs.Ytilkcbnioebinaa
