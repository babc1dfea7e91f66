/-
  For any rows and any numbers on the right, at most 40 of each: Solve tells the solution, ErrNone where there is none, ErrRank where there is more than one, and ErrArg where it is no system, as the reference reckons. No condition.
-/
import Derived.Test.YtilkcbnioebinaaRows
import Derived.Test.YtilkcbnioebinaaRefWide
import Derived.Test.YtilkcbnioebinaaSolveAwake
import Derived.Test.YtilkcbnioebinaaOpenRows
import Derived.WalkKit
import Derived.ProofKit
import Derived.OpenShut
import Derived.ShutString
import Derived.ChangeOld
import Derived.Below
import Derived.Carry
namespace Go.Proofs.Ytilkcbnioebinaa.solveTells
open Fm
open Go.ChangeShapes Go.WideShapes Go.ChangeAt Go.RowKit
set_option linter.unusedVariables false

theorem own : ownKnob Try.prog.godebug = none := by kernel_rfl

theorem told_same {R C : Nat} {l : Nat → Nat} {Z Z' : Nat → Nat → Int} {X : Nat → Int} (h : Gj R C C l Z') (m : Mut R (C + 1) (wideZ C Z X) Z') (k : ∀ i, C ≤ i → i < R → Z' i C = 0) : SameP R R (fun i => oF (dotN (Z i) (fun i => Z' i C) C)) X := by
  refine ⟨rfl, fun r hr => ?_⟩
  have e := h.told m k r hr
  rw [show wideZ C Z X r C = X r by simp [wideZ]] at e
  show oF (oF _) = _
  rw [oF_oF, ← e]
  exact dot_congr C (fun j hj => by simp [wideZ, hj]) fun _ _ => rfl

set_option maxHeartbeats 1600000 in
theorem walk (v : Value) (R : Nat) (L : Nat → Nat) (Z : Nat → Nat → Int) (x : Value) (Lx : Nat) (X : Nat → Int) (w : World) (h : RowsAt w v R L Z) (hx : IntsAt w x Lx X) :
    Calls Try.prog 4 #[v, x] w fun e w' => e = .returned (.bool true) ∧ Below w.heap.size w w' := by
  have H : Hid (RowsAt w v R L Z) := h
  have HX : Hid (IntsAt w x Lx X) := hx
  obtain ⟨A, cap, rfl⟩ := h.form
  obtain ⟨Ax, capx, rfl⟩ := hx.form
  clear h hx
  by_cases hs : SmallP R L 40
  rotate_left
  · go_enter Try.func4, Try.ntmps4
    go_wp2_with fail
    refine (small_any _ _ R 40 L Z H.out (by omega)).mono ?_
    rintro e w' ⟨B, rfl, hB, rfl⟩
    obtain rfl : B = false := by
      cases B with
      | false => rfl
      | true => exact absurd (hB.1 rfl) hs
    clear hB
    go_wp2_with fail
    refine (awake_any _).mono ?_
    rintro e wa ⟨rfl, ba⟩
    go_wp2_with fail
    go_ret
    exact ⟨rfl, (Below.refl w'.heap.size w').trans (ba.mono (Below.refl w'.heap.size w').size)⟩
  by_cases hl : 40 < Lx
  · have hl' : (40 : Int) < (Lx : Int) := by omega
    go_enter Try.func4, Try.ntmps4
    go_wp2_with fail
    refine (small_any _ _ R 40 L Z H.out (by omega)).mono ?_
    rintro e w' ⟨B, rfl, hB, rfl⟩
    obtain rfl : B = true := hB.2 hs
    clear hB
    go_wp2_with fail
    refine (awake_any _).mono ?_
    rintro e wa ⟨rfl, ba⟩
    go_wp2_with fail
    go_ret
    exact ⟨rfl, (Below.refl w'.heap.size w').trans (ba.mono (Below.refl w'.heap.size w').size)⟩
  have hl' : ¬ (40 : Int) < (Lx : Int) := by omega
  have hR4 : R ≤ 40 := hs.1
  by_cases hv0 : SysP R L ∧ Lx = R
  rotate_left
  · have hv : Hid (¬ (SysP R L ∧ Lx = R)) := hv0
    by_cases hsy : SysP R L
    · have hne : ((Lx : Int) == (R : Int)) = false := by
        have : Lx ≠ R := fun e => hv0 ⟨hsy, e⟩
        have : (Lx : Int) ≠ (R : Int) := by omega
        simpa using this
      clear hv0
      go_enter Try.func4, Try.ntmps4
      go_wp2_with fail
      refine (small_any _ _ R 40 L Z H.out (by omega)).mono ?_
      rintro e w' ⟨B, rfl, hB, rfl⟩
      obtain rfl : B = true := hB.2 hs
      clear hB
      go_wp2_with fail
      refine (solve_no _ _ _ R Lx L Z X H.out HX.out hv.out).mono ?_
      rintro e w1 ⟨rfl, hw1⟩
      have hw2 := hw1.symm
      subst hw2
      have B1 : Hid (Below w'.heap.size w' w') := Below.refl _ _
      clear hw1
      go_wp2_with fail
      refine (even_any w' _ R L Z (H.out.keep (keep_of_below B1.out)) (by omega)).mono ?_
      rintro e w2 ⟨B, rfl, hB, b2⟩
      obtain rfl : B = true := hB.2 hsy
      have B2 : Hid (Below w'.heap.size w' w2 ∧ Below w'.heap.size w' w2) := ⟨B1.out.trans (b2.mono B1.out.size), b2⟩
      clear hB b2
      go_wp2_with fail
      refine (awake_any _).mono ?_
      rintro e wa ⟨rfl, ba⟩
      go_wp2_with fail
      go_ret
      exact ⟨rfl, (B2.out.1).trans (ba.mono (B2.out.1).size)⟩
    · clear hv0
      go_enter Try.func4, Try.ntmps4
      go_wp2_with fail
      refine (small_any _ _ R 40 L Z H.out (by omega)).mono ?_
      rintro e w' ⟨B, rfl, hB, rfl⟩
      obtain rfl : B = true := hB.2 hs
      clear hB
      go_wp2_with fail
      refine (solve_no _ _ _ R Lx L Z X H.out HX.out hv.out).mono ?_
      rintro e w1 ⟨rfl, hw1⟩
      have hw2 := hw1.symm
      subst hw2
      have B1 : Hid (Below w'.heap.size w' w') := Below.refl _ _
      clear hw1
      go_wp2_with fail
      refine (even_any w' _ R L Z (H.out.keep (keep_of_below B1.out)) (by omega)).mono ?_
      rintro e w2 ⟨B, rfl, hB, b2⟩
      obtain rfl : B = false := by
        cases B with
        | false => rfl
        | true => exact absurd (hB.1 rfl) hsy
      have B2 : Hid (Below w'.heap.size w' w2 ∧ Below w'.heap.size w' w2) := ⟨B1.out.trans (b2.mono B1.out.size), b2⟩
      clear hB b2
      go_wp2_with fail
      refine (awake_any _).mono ?_
      rintro e wa ⟨rfl, ba⟩
      go_wp2_with fail
      go_ret
      exact ⟨rfl, (B2.out.1).trans (ba.mono (B2.out.1).size)⟩
  obtain ⟨hsy, hLR⟩ := hv0
  subst hLR
  obtain ⟨C, hC⟩ : ∃ C, colsF Lx L = C := ⟨_, rfl⟩
  have hC3 : C ≤ 32 := by have := hsy.2.1; omega
  have hLr : Hid (∀ r, r < Lx → L r = C) := fun r hr => by rw [← hC]; exact hsy.2.2 r hr
  by_cases hR : Lx = 0
  · have hR' : ((Lx : Int) == 0) = true := by rw [hR]; rfl
    have HR : Hid (Lx = 0) := hR
    obtain rfl : C = 0 := by rw [← hC]; unfold colsF; rw [if_pos hR]
    clear hR
    go_enter Try.func4, Try.ntmps4
    go_wp2_with fail
    refine (small_any _ _ Lx 40 L Z H.out (by omega)).mono ?_
    rintro e w' ⟨B, rfl, hB, rfl⟩
    obtain rfl : B = true := hB.2 hs
    clear hB
    go_wp2_with fail
    refine (solve_yes _ _ _ Lx 0 L Z X H.out HX.out hsy hC).mono ?_
    rintro e w1 hT
    rcases hT with ⟨n', k, l, Z', rfl, h1, h2, h3, h4, h5, h6, h7⟩ | ⟨n', l, Z', rfl, h1, h2, h3, h4, h5, h6⟩ | ⟨l, Z', g, rfl, h1, h2, h3, h4, h5, h6, h7⟩
    · have := HR.out; omega
    · omega
    · have B1 : Hid (Below w'.heap.size w' w1) := h6
      clear h1 h2 h3 h4 h5 h6 h7
      go_wp2_with fail
      refine (even_any w1 _ Lx L Z (H.out.keep (keep_of_below B1.out)) (by omega)).mono ?_
      rintro e w2 ⟨B, rfl, hB, b2⟩
      obtain rfl : B = true := hB.2 hsy
      have B2 : Hid (Below w'.heap.size w' w2 ∧ Below w1.heap.size w1 w2) := ⟨B1.out.trans (b2.mono B1.out.size), b2⟩
      clear hB b2
      go_wp2_with fail
      refine (awake_any _).mono ?_
      rintro e wa ⟨rfl, ba⟩
      go_wp2_with fail
      go_ret
      exact ⟨rfl, (B2.out.1).trans (ba.mono (B2.out.1).size)⟩
  have hR0 : 0 < Lx := by omega
  have hR1 : (0 : Int) < (Lx : Int) := by omega
  have hR' : ((Lx : Int) == 0) = false := by simpa using hR
  clear hR
  obtain ⟨A0, cap0, c0⟩ : ∃ A0 cap0, ∀ w', Keep w w' → ∃ b o, A = some ⟨b, o, none⟩ ∧ w'.cell? ⟨b, o, none⟩ = some (.slice A0 C cap0) := by
    obtain ⟨A1, cap1, b, o, V, e, h2, h3, h4⟩ := H.out
    obtain ⟨ha, A', cap', _, c⟩ := RowsAt.cell h3 h4 (r := 0) hR0
    cases e
    rw [hLr.out 0 hR0, Nat.add_zero] at c
    exact ⟨A', cap', fun w' k => ⟨b, o, ha, k _ _ c⟩⟩
  have C0 : Hid (∀ w', Keep w w' → ∃ b o, A = some ⟨b, o, none⟩ ∧ w'.cell? ⟨b, o, none⟩ = some (.slice A0 C cap0)) := c0
  clear c0
  go_enter Try.func4, Try.ntmps4
  go_wp2_with fail
  refine (small_any _ _ Lx 40 L Z H.out (by omega)).mono ?_
  rintro e w' ⟨B, rfl, hB, rfl⟩
  obtain rfl : B = true := hB.2 hs
  clear hB
  go_wp2_with fail
  refine (solve_yes _ _ _ Lx C L Z X H.out HX.out hsy hC).mono ?_
  rintro e w1 hT
  rcases hT with ⟨n', k, l, Z', rfl, h1, h2, h3, h4, h5, h6, h7⟩ | ⟨n', l, Z', rfl, h1, h2, h3, h4, h5, h6⟩ | ⟨l, Z', g, rfl, h1, h2, h3, h4, h5, h6, h7⟩
  · have RK : Hid (Rk Lx C Z n') := solve_rk h1 h2
    have RW : Hid (Rk Lx (C + 1) (wideZ C Z X) (n' + 1)) := h1.wide h2 h4 h5 (by rw [oF_id (h3 k h5 C (by omega)).1 (h3 k h5 C (by omega)).2]; exact h6) (h3 k h5 C (by omega)).1
    have B1 : Hid (Below w'.heap.size w' w1) := h7
    clear h1 h2 h3 h4 h5 h6 h7
    go_wp2_with fail
    refine (even_any w1 _ Lx L Z (H.out.keep (keep_of_below B1.out)) (by omega)).mono ?_
    rintro e w2 ⟨B, rfl, hB, b2⟩
    obtain rfl : B = true := hB.2 hsy
    have B2 : Hid (Below w'.heap.size w' w2 ∧ Below w1.heap.size w1 w2) := ⟨B1.out.trans (b2.mono B1.out.size), b2⟩
    clear hB b2
    go_wp2_with fail
    refine (rrank_any w2 _ Lx C L Z (H.out.keep (keep_of_below B2.out.1)) (by omega) (by omega) hLr.out).mono ?_
    rintro e w3 ⟨n, rfl, hn, _, b3⟩
    have HN : Hid (Rk Lx C Z n) := hn
    have B3 : Hid (Below w'.heap.size w' w3 ∧ Below w1.heap.size w1 w3) := ⟨B2.out.1.trans (b3.mono B2.out.1.size), B2.out.2.trans (b3.mono B2.out.2.size)⟩
    clear hn b3
    go_wp2_with fail
    refine (rwide_any w3 _ _ Lx C L Z X (H.out.keep (keep_of_below B3.out.1)) (HX.out.keep (keep_of_below B3.out.1)) (by omega) (by omega) hLr.out).mono ?_
    rintro e w4 ⟨vw, rfl, hvw, b4⟩
    obtain ⟨Aw, capw, rfl⟩ := hvw.form
    have HW : Hid (RowsAt w4 (.slice Aw Lx capw) Lx (fun _ => C + 1) (wideZ C Z X)) := hvw
    have B4 : Hid (Below w'.heap.size w' w4 ∧ Below w1.heap.size w1 w4) := ⟨B3.out.1.trans (b4.mono B3.out.1.size), B3.out.2.trans (b4.mono B3.out.2.size)⟩
    clear hvw b4
    go_wp2_with fail
    refine (rrank_any w4 _ Lx (C + 1) (fun _ => C + 1) (wideZ C Z X) HW.out (by omega) (by omega) (fun _ _ => rfl)).mono ?_
    rintro e w5 ⟨m, rfl, hm, _, b5⟩
    have HM : Hid (Rk Lx (C + 1) (wideZ C Z X) m) := hm
    have B5 : Hid (Below w'.heap.size w' w5 ∧ Below w1.heap.size w1 w5) := ⟨B4.out.1.trans (b5.mono B4.out.1.size), B4.out.2.trans (b5.mono B4.out.2.size)⟩
    clear hm b5
    obtain rfl : n' = n := RK.out.unique HN.out
    obtain rfl : n' + 1 = m := RW.out.unique HM.out
    have hgt : (n' : Int) < ((n' + 1 : Nat) : Int) := by omega
    go_wp2_with fail
    refine (awake_any _).mono ?_
    rintro e wa ⟨rfl, ba⟩
    go_wp2_with fail
    go_ret
    exact ⟨rfl, (B5.out.1).trans (ba.mono (B5.out.1).size)⟩
  · have RK : Hid (Rk Lx C Z n') := solve_rk h1 h2
    have RW : Hid (Rk Lx (C + 1) (wideZ C Z X) n') := h1.same h2 h4
    have B1 : Hid (Below w'.heap.size w' w1) := h6
    clear h1 h2 h3 h4 h6
    go_wp2_with fail
    refine (even_any w1 _ Lx L Z (H.out.keep (keep_of_below B1.out)) (by omega)).mono ?_
    rintro e w2 ⟨B, rfl, hB, b2⟩
    obtain rfl : B = true := hB.2 hsy
    have B2 : Hid (Below w'.heap.size w' w2 ∧ Below w1.heap.size w1 w2) := ⟨B1.out.trans (b2.mono B1.out.size), b2⟩
    clear hB b2
    go_wp2_with fail
    refine (rrank_any w2 _ Lx C L Z (H.out.keep (keep_of_below B2.out.1)) (by omega) (by omega) hLr.out).mono ?_
    rintro e w3 ⟨n, rfl, hn, _, b3⟩
    have HN : Hid (Rk Lx C Z n) := hn
    have B3 : Hid (Below w'.heap.size w' w3 ∧ Below w1.heap.size w1 w3) := ⟨B2.out.1.trans (b3.mono B2.out.1.size), B2.out.2.trans (b3.mono B2.out.2.size)⟩
    clear hn b3
    go_wp2_with fail
    refine (rwide_any w3 _ _ Lx C L Z X (H.out.keep (keep_of_below B3.out.1)) (HX.out.keep (keep_of_below B3.out.1)) (by omega) (by omega) hLr.out).mono ?_
    rintro e w4 ⟨vw, rfl, hvw, b4⟩
    obtain ⟨Aw, capw, rfl⟩ := hvw.form
    have HW : Hid (RowsAt w4 (.slice Aw Lx capw) Lx (fun _ => C + 1) (wideZ C Z X)) := hvw
    have B4 : Hid (Below w'.heap.size w' w4 ∧ Below w1.heap.size w1 w4) := ⟨B3.out.1.trans (b4.mono B3.out.1.size), B3.out.2.trans (b4.mono B3.out.2.size)⟩
    clear hvw b4
    go_wp2_with fail
    refine (rrank_any w4 _ Lx (C + 1) (fun _ => C + 1) (wideZ C Z X) HW.out (by omega) (by omega) (fun _ _ => rfl)).mono ?_
    rintro e w5 ⟨m, rfl, hm, _, b5⟩
    have HM : Hid (Rk Lx (C + 1) (wideZ C Z X) m) := hm
    have B5 : Hid (Below w'.heap.size w' w5 ∧ Below w1.heap.size w1 w5) := ⟨B4.out.1.trans (b5.mono B4.out.1.size), B4.out.2.trans (b5.mono B4.out.2.size)⟩
    clear hm b5
    obtain rfl : n' = n := RK.out.unique HN.out
    obtain rfl : n' = m := RW.out.unique HM.out
    obtain ⟨b, o, rfl, c0⟩ := C0.out w5 (keep_of_below B5.out.1)
    have hgt : (n' : Int) < (C : Int) := by omega
    go_wp2_with fail
    refine (awake_any _).mono ?_
    rintro e wa ⟨rfl, ba⟩
    go_wp2_with fail
    go_ret
    exact ⟨rfl, (B5.out.1).trans (ba.mono (B5.out.1).size)⟩
  · have RK : Hid (Rk Lx C Z C) := solve_rk h1 h2
    have RW : Hid (Rk Lx (C + 1) (wideZ C Z X) C) := h1.same h2 h4
    have B1 : Hid (Below w'.heap.size w' w1) := h6
    have YT : Hid (IntsAt w1 (.slice (some ⟨g, 0, none⟩) C C) C (fun i => Z' i C)) := newInts_at h5 fun j hj => rng_U h3 j (by have := h1.le; omega) C (by omega)
    have YL : Hid (∀ i, i < C → w1.cell? ⟨g, i, none⟩ = some (.int .u64 (Z' i C)) ∧ Z' i C < 2305843009213693951) := fun i hi => ⟨World.rowIs.cell h5 hi, (h3 i (by have := h1.le; omega) C (by omega)).2⟩
    have SM : Hid (SameP Lx Lx (fun i => oF (dotN (Z i) (fun i => Z' i C) C)) X) := told_same h1 h2 h4
    clear h1 h2 h3 h4 h5 h6 h7
    go_wp2_with fail
    refine (even_any w1 _ Lx L Z (H.out.keep (keep_of_below B1.out)) (by omega)).mono ?_
    rintro e w2 ⟨B, rfl, hB, b2⟩
    obtain rfl : B = true := hB.2 hsy
    have B2 : Hid (Below w'.heap.size w' w2 ∧ Below w1.heap.size w1 w2) := ⟨B1.out.trans (b2.mono B1.out.size), b2⟩
    clear hB b2
    go_wp2_with fail
    refine (rrank_any w2 _ Lx C L Z (H.out.keep (keep_of_below B2.out.1)) (by omega) (by omega) hLr.out).mono ?_
    rintro e w3 ⟨n, rfl, hn, _, b3⟩
    have HN : Hid (Rk Lx C Z n) := hn
    have B3 : Hid (Below w'.heap.size w' w3 ∧ Below w1.heap.size w1 w3) := ⟨B2.out.1.trans (b3.mono B2.out.1.size), B2.out.2.trans (b3.mono B2.out.2.size)⟩
    clear hn b3
    go_wp2_with fail
    refine (rwide_any w3 _ _ Lx C L Z X (H.out.keep (keep_of_below B3.out.1)) (HX.out.keep (keep_of_below B3.out.1)) (by omega) (by omega) hLr.out).mono ?_
    rintro e w4 ⟨vw, rfl, hvw, b4⟩
    obtain ⟨Aw, capw, rfl⟩ := hvw.form
    have HW : Hid (RowsAt w4 (.slice Aw Lx capw) Lx (fun _ => C + 1) (wideZ C Z X)) := hvw
    have B4 : Hid (Below w'.heap.size w' w4 ∧ Below w1.heap.size w1 w4) := ⟨B3.out.1.trans (b4.mono B3.out.1.size), B3.out.2.trans (b4.mono B3.out.2.size)⟩
    clear hvw b4
    go_wp2_with fail
    refine (rrank_any w4 _ Lx (C + 1) (fun _ => C + 1) (wideZ C Z X) HW.out (by omega) (by omega) (fun _ _ => rfl)).mono ?_
    rintro e w5 ⟨m, rfl, hm, _, b5⟩
    have HM : Hid (Rk Lx (C + 1) (wideZ C Z X) m) := hm
    have B5 : Hid (Below w'.heap.size w' w5 ∧ Below w1.heap.size w1 w5) := ⟨B4.out.1.trans (b5.mono B4.out.1.size), B4.out.2.trans (b5.mono B4.out.2.size)⟩
    clear hm b5
    obtain rfl : C = n := RK.out.unique HN.out
    obtain rfl : C = m := RW.out.unique HM.out
    obtain ⟨b, o, rfl, c0⟩ := C0.out w5 (keep_of_below B5.out.1)
    go_wp2_with fail
    refine (rtimes_any w5 _ _ Lx C L Z (fun i => Z' i C) (H.out.keep (keep_of_below B5.out.1)) (YT.out.keep (keep_of_below B5.out.2)) (by omega) (by omega) hLr.out).mono ?_
    rintro e w6 ⟨y, rfl, hy, b6⟩
    obtain ⟨Ay, capy, rfl⟩ := hy.form
    have B6 : Hid (Below w'.heap.size w' w6 ∧ Below w1.heap.size w1 w6) := ⟨B5.out.1.trans (b6.mono B5.out.1.size), B5.out.2.trans (b6.mono B5.out.2.size)⟩
    have HY : Hid (IntsAt w6 (.slice Ay Lx capy) Lx (fun i => oF (dotN (Z i) (fun i => Z' i C) C))) := hy
    clear hy b6 c0
    go_wp2_with fail
    refine (same_any w6 _ _ Lx Lx _ X HY.out (HX.out.keep (keep_of_below B6.out.1)) (by omega)).mono ?_
    rintro e w7 ⟨B, rfl, hB, b7⟩
    obtain rfl : B = true := hB.2 SM.out
    have B7 : Hid (Below w'.heap.size w' w7 ∧ Below w1.heap.size w1 w7) := ⟨B6.out.1.trans (b7.mono B6.out.1.size), B6.out.2.trans (b7.mono B6.out.2.size)⟩
    clear hB b7
    go_wp2_with fail
    go_loop [112] (fun i => ∃ q : Nat, q ≤ C ∧ i = .int .i64 (q : Int)) (fun i => C - (intOf i).toNat)
    case atStart => exact ⟨0, by omega, rfl⟩
    case round =>
      obtain ⟨q, hq, rfl⟩ := hrel
      by_cases hlt : q < C
      · have d1 := keep_of_below B7.out.2 _ _ (YL.out q hlt).1
        have d2 : ¬ (2305843009213693951 : Int) ≤ Z' q C := by have := (YL.out q hlt).2; omega
        have bq : (q : Int) < (C : Int) := by omega
        go_wp2_with fail
        go_round
        case rel => exact ⟨q + 1, by omega, by go_num⟩
        case measure => simp [intOf]; omega
      · go_wp2_with fail
        refine (awake_any _).mono ?_
        rintro e wa ⟨rfl, ba⟩
        go_wp2_with fail
        go_ret
        exact ⟨rfl, (B7.out.1).trans (ba.mono (B7.out.1).size)⟩

/-! ### The row -/
theorem laidOut : laidOutB Try.prog = true := by kernel_rfl
set_option maxRecDepth 100000 in
theorem lifted (os : Os) (started : os.Started) (H : Type) (enc : TypeId × Value → H) :
    ReturnsInHanded {} Try.checked os 4 .any (Rows.solveTellsSpec.pre6 enc Try.prog Try.f4 Rows.solveTellsRow.domain false) (Rows.solveTellsSpec.post enc Try.prog Try.f4 false true false false) := by
  refine returnsInHanded_of_change (C := Try.checked) own started (by kernel_rfl) Try.func4
    (ChangeSpec.witness6 (enc := enc) (C := Try.checked) false ⟨#[], #[.slice none 0 0, .slice none 0 0], []⟩ 8 (by kernel_rfl) (by kernel_rfl) (by kernel_rfl) (by kernel_rfl)) ?_
  intro W base args ds gs before hval0 hW hcnd _
  have hval : ∀ (j : Nat) t v, Try.f4.params[j]? = some t → args[j]? = some v → Value.okWide Try.prog W .any base t v := hval0
  have hW' := hW
  obtain ⟨p, q, hA0, hV, rfl, hfz, hnd⟩ := hW
  have hA : DataW.TrodAll enc Try.prog W 0 (fun _ => true) true Try.f4.params.toList args.toList ds p := hA0
  rw [Try.params4] at hA hval
  obtain ⟨v0, vs0, d0, ds0, p0, q0, hargs, rfl, rfl, h0, r0⟩ := trodAll_cons hA
  obtain ⟨v1, vs1, d1, ds1, p1, q1, rfl, rfl, rfl, h1, r1⟩ := trodAll_cons r0
  obtain ⟨rfl, rfl, rfl⟩ := trodAll_nil r1
  obtain rfl : args = #[v0, v1] := by cases args; simp_all
  obtain ⟨rfl, rfl⟩ := trodVars_none hV
  obtain ⟨b0, len0, cap0, rfl⟩ := okWide_slice Try.underlying22 (hval 0 22 v0 rfl rfl)
  have k0 := h0
  have lt0 : ∀ x ∈ p0, x.block < W.heap.size := by obtain ⟨m, hm⟩ := k0; exact DataW.trod_lt m _ _ _ hm
  obtain ⟨L0, Z0, w0⟩ := open_u64ss Try.underlying22 Try.underlying30 Try.underlying36 (by kernel_rfl) (by kernel_rfl) h0
  obtain ⟨b1, len1, cap1, rfl⟩ := okWide_slice Try.underlying30 (hval 1 30 v1 rfl rfl)
  have k1 := h1
  have lt1 : ∀ x ∈ p1, x.block < W.heap.size := by obtain ⟨m, hm⟩ := k1; exact DataW.trod_lt m _ _ _ hm
  obtain ⟨z1, w1⟩ := open_u64s Try.underlying30 Try.underlying36 (by kernel_rfl) h1
  clear hA0 hval0
  refine (walk _ len0 L0 Z0 _ len1 z1 W w0 w1).mono fun e W' ⟨he, bel⟩ => ?_
  subst he
  exact ⟨_, rfl, _, _, _, [], _, [], hW', trodAll_mk1 (shut_bool Try.underlying4 _), (trodAll_cons_mk (Below.trod laidOut (by kernel_rfl) (of_decide_eq_true (by kernel_rfl)) k0 bel lt0) (trodAll_cons_mk (Below.trod laidOut (by kernel_rfl) (of_decide_eq_true (by kernel_rfl)) k1 bel lt1) trodAll_mk0)), rfl, bel.frame _, fun h => by cases h⟩

theorem over : Rows.solveTellsRow.holds Try.pinned (OpenSpec.ofChange Rows.solveTellsSpec) :=
  OpenClaim.holds_of_wide 4 Try.f4 rfl rfl rfl rfl rfl rfl rfl ⟨rfl, rfl, rfl, rfl, rfl⟩ rfl rfl rfl rfl rfl (by kernel_rfl) Try.func4 (by kernel_rfl)
    (of_decide_eq_true (by kernel_rfl)) (by unfold Func.isWrapper; first | (rw [if_pos (by decide +kernel)]; kernel_rfl) | (rw [if_neg (by decide +kernel)]; exact ⟨rfl, rfl⟩))
    (fun os started H enc _ => lifted os started H enc)

theorem proved : Rows.SolveTellsSaid := over
end Go.Proofs.Ytilkcbnioebinaa.solveTells
namespace Go.Proofs.Ytilkcbnioebinaa
theorem solveTells_holds : Rows.SolveTellsSaid := solveTells.proved
#print axioms solveTells_holds
end Go.Proofs.Ytilkcbnioebinaa
