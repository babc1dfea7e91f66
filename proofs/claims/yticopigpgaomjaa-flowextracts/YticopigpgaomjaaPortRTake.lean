
/-
  The document's Take of layer 8 (port): it answers as the plain functions say.
-/
import Derived.Test.YticopigpgaomjaaPortTake
namespace Go.Proofs.Yticopigpgaomjaa
open Go.RowKit Oc Pt Go.Deep
set_option linter.unusedVariables false

set_option maxHeartbeats 1600000 in
theorem port_rtake (p : Int) (l : List UInt8) (w : World) (hl : l.length ≤ 1152921504606846976) :
    Calls Try.prog 30 #[.int .i64 p, .string (bsL l)] w fun e w' => e = .returned (.tuple #[.int .i64 (srcP p l : Int), .int .i64 (dstP p l : Int), .string (bsL (bodyP p l)), .int .i64 (errP p l : Int)]) ∧ Below w.heap.size w w' := by
  have X1 := bsL_extract l 4 6
  have X2 := bsL_extract l 2 4
  rw [show 6 - 4 = 2 from rfl] at X1
  rw [show 4 - 2 = 2 from rfl] at X2
  have N4 : Hid (numL ((l.drop 4).take 2) = nAt l 4 2) := rfl
  have N2 : Hid (numL ((l.drop 2).take 2) = nAt l 2 2) := rfl
  have N0 : Hid (numL (l.take 2) = nAt l 0 2) := rfl
  by_cases h6 : p = 6
  · subst h6
    clear X1 N4
    have b0 := atL_lt l 12
    have hb := headN_lt l
    obtain ⟨S, hS⟩ : ∃ S, S = headN l := ⟨_, rfl⟩
    have z1 : (atL l 12 : Int) / 16 * 4 = (S : Int) := by rw [hS]; unfold headN; omega
    have HS : Hid (headN l = S) := hS.symm
    have hS' : S ≤ 60 := by omega
    clear hS hb
    by_cases hs : segB l = true
    · have i20 : 20 ≤ l.length ∧ 20 ≤ S ∧ S ≤ l.length := by have a := (seg_iff l).1 hs; rw [HS.out] at a; exact a
      obtain ⟨h1, h2, h3⟩ := i20
      have g2 : (2 : Int) ≤ l.length := by omega
      have g4 : (4 : Int) ≤ l.length := by omega
      have g6 : (6 : Int) ≤ l.length := by omega
      have g8 : (8 : Int) ≤ l.length := by omega
      obtain ⟨_, k1, k2, k3, k4⟩ := ok_seg hs
      rw [k1, k2, k3, k4, HS.out]
      clear k1 k2 k3 k4 hs
      have D := bsL_drop l S
      rw [bsL_size] at D
      go_enter Try.func30, Try.ntmps30
      go_wp2_with fail
      go_quiet ((go_at_call 51; exact Calls.quiet_of_same (number_any _ _ (by rw [List.length_take]; omega))))
      go_wp2_with fail
      go_returns
      exact ⟨rfl, below_drewN (Below.refl _ _) _⟩
    · have HN : Hid (segB l = false) := Bool.eq_false_iff.2 hs
      have H : Hid (¬ (20 ≤ l.length ∧ 20 ≤ headN l ∧ headN l ≤ l.length)) := by
        show ¬ _
        rw [← seg_iff, HN.out]
        decide
      obtain ⟨k0, k4⟩ := err_seg HN.out
      obtain ⟨k1, k2, k3⟩ := no_P k0
      rw [k1, k2, k3, k4]
      clear k0 k1 k2 k3 k4 hs X2
      by_cases h1 : l.length < 20
      · go_enter Try.func30, Try.ntmps30
        go_wp2_with fail
        go_returns
        exact ⟨rfl, Below.refl _ _⟩
      · by_cases h2 : S < 20
        · go_enter Try.func30, Try.ntmps30
          go_wp2_with fail
          go_returns
          exact ⟨rfl, Below.refl _ _⟩
        · have h3 : l.length < S := by
            have a := H.out
            rw [HS.out] at a
            omega
          go_enter Try.func30, Try.ntmps30
          go_wp2_with fail
          go_returns
          exact ⟨rfl, Below.refl _ _⟩
  · by_cases h17 : p = 17
    · subst h17
      clear h6
      have b0 := nAt_two_lt l 4
      have L6 : ((l.drop 4).take 2).length ≤ 7 := by simp; omega
      obtain ⟨S, hS⟩ : ∃ S, S = nAt l 4 2 := ⟨_, rfl⟩
      have HS : Hid (nAt l 4 2 = S) := hS.symm
      rw [← hS] at b0
      clear hS
      by_cases hs : dgmB l = true
      · have i20 : 8 ≤ l.length ∧ 8 ≤ S ∧ S ≤ l.length := by have a := (dgm_iff l).1 hs; rw [HS.out] at a; exact a
        obtain ⟨h1, h2, h3⟩ := i20
        have g2 : (2 : Int) ≤ l.length := by omega
        have g4 : (4 : Int) ≤ l.length := by omega
        have g6 : (6 : Int) ≤ l.length := by omega
        have g8 : (8 : Int) ≤ l.length := by omega
        obtain ⟨_, k1, k2, k3, k4⟩ := ok_dgm hs
        rw [k1, k2, k3, k4, HS.out]
        clear k1 k2 k3 k4 hs
        have D := bsL_extract l 8 S
        go_enter Try.func30, Try.ntmps30
        go_wp2_with fail
        refine (number_any ((l.drop 4).take 2) _ L6).mono ?_
        rintro e u1 ⟨rfl, rfl⟩
        rw [N4.out, HS.out]
        go_wp2_with fail
        go_quiet ((go_at_call 51; exact Calls.quiet_of_same (number_any _ _ (by rw [List.length_take]; omega))))
        go_wp2_with fail
        go_returns
        exact ⟨rfl, below_drewN (Below.refl _ _) _⟩
      · have HN : Hid (dgmB l = false) := Bool.eq_false_iff.2 hs
        have H : Hid (¬ (8 ≤ l.length ∧ 8 ≤ nAt l 4 2 ∧ nAt l 4 2 ≤ l.length)) := by
          show ¬ _
          rw [← dgm_iff, HN.out]
          decide
        obtain ⟨k0, k4⟩ := err_dgm HN.out
        obtain ⟨k1, k2, k3⟩ := no_P k0
        rw [k1, k2, k3, k4]
        clear k0 k1 k2 k3 k4 hs
        by_cases h1 : l.length < 8
        · go_enter Try.func30, Try.ntmps30
          go_wp2_with fail
          go_returns
          exact ⟨rfl, Below.refl _ _⟩
        · have g2 : (2 : Int) ≤ l.length := by omega
          have g4 : (4 : Int) ≤ l.length := by omega
          have g6 : (6 : Int) ≤ l.length := by omega
          have g8 : (8 : Int) ≤ l.length := by omega
          by_cases h2 : S < 8
          · go_enter Try.func30, Try.ntmps30
            go_wp2_with fail
            refine (number_any ((l.drop 4).take 2) _ L6).mono ?_
            rintro e u1 ⟨rfl, rfl⟩
            rw [N4.out, HS.out]
            go_wp2_with fail
            go_returns
            exact ⟨rfl, Below.refl _ _⟩
          · have h3 : l.length < S := by
              have a := H.out
              rw [HS.out] at a
              omega
            go_enter Try.func30, Try.ntmps30
            go_wp2_with fail
            refine (number_any ((l.drop 4).take 2) _ L6).mono ?_
            rintro e u1 ⟨rfl, rfl⟩
            rw [N4.out, HS.out]
            go_wp2_with fail
            go_returns
            exact ⟨rfl, Below.refl _ _⟩
    · obtain ⟨k0, k4⟩ := err_type l h6 h17
      obtain ⟨k1, k2, k3⟩ := no_P k0
      rw [k1, k2, k3, k4]
      clear k0 k1 k2 k3 k4
      have i6 : (p != 6) = true := by simpa using h6
      have i17 : (p != 17) = true := by simpa using h17
      clear h6 h17
      go_enter Try.func30, Try.ntmps30
      go_wp2_with fail
      go_returns
      exact ⟨rfl, Below.refl _ _⟩
end Go.Proofs.Yticopigpgaomjaa
