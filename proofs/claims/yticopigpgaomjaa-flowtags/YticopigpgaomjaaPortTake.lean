
/-
  Take of layer 8 (port), and the document's: what they answer.
-/
import Derived.Test.YticopigpgaomjaaMemKit
import Derived.Test.YticopigpgaomjaaPortNum
namespace Go.Proofs.Yticopigpgaomjaa
open Go.RowKit Oc Pt Go.Deep
set_option linter.unusedVariables false

set_option maxHeartbeats 800000 in
theorem port_at (l : List UInt8) (T k : Nat) (w : World) (h1 : 1 ≤ k) (h2 : k ≤ 7) (h : T + k ≤ l.length) (hl : l.length ≤ 1152921504606846976) :
    Calls Try.prog 69 #[.string (bsL l), .int .i64 (T : Int), .int .i64 (k : Int)] w fun e w' => e = .returned (.int .i64 (nAt l T k : Int)) ∧ Below w.heap.size w w' := by
  have D := bsL_drop l T
  rw [bsL_size] at D
  go_enter Try.func69, Try.ntmps69
  go_wp2_with fail
  refine (take_ok (l.drop T) k _ h1 h2 (by simp; omega)).mono ?_
  rintro e u ⟨rfl, b⟩
  go_wp2_with fail
  go_ret
  exact ⟨rfl, b⟩

set_option maxHeartbeats 800000 in
theorem seg_no (l : List UInt8) (w : World) (hl : l.length ≤ 1152921504606846976) (h : segB l = false) :
    Calls Try.prog 67 #[.string (bsL l)] w fun e w' => e = .returned (.tuple #[.string ⟨#[]⟩, .int .i64 16]) ∧ Below w.heap.size w w' := by
  have H : Hid (¬ (20 ≤ l.length ∧ 20 ≤ headN l ∧ headN l ≤ l.length)) := by
    show ¬ _
    rw [← seg_iff, h]
    decide
  clear h
  by_cases h1 : l.length < 20
  · go_enter Try.func67, Try.ntmps67
    go_wp2_with fail
    go_returns
    exact ⟨rfl, Below.refl _ _⟩
  · have E : Hid (nAt l 12 1 = atL l 12) := nAt_one l 12 (by omega)
    have EH : Hid (headN l = atL l 12 / 16 * 4) := rfl
    have b0 := atL_lt l 12
    have hb := headN_lt l
    obtain ⟨S, hS⟩ : ∃ S, S = headN l := ⟨_, rfl⟩
    have z1 : (atL l 12 : Int) / 16 * 4 = (S : Int) := by rw [hS, EH.out]; omega
    have HS : Hid (S = headN l) := hS
    have hS' : S ≤ 60 := by omega
    clear hS hb
    by_cases h2 : S < 20
    · go_enter Try.func67, Try.ntmps67
      go_wp2_with fail
      refine (port_at l 12 1 _ (by omega) (by omega) (by omega) hl).mono ?_
      rintro e u1 ⟨rfl, b1⟩
      rw [E.out]
      go_wp2_with fail
      go_returns
      exact ⟨rfl, b1⟩
    · have h3 : l.length < S := by
        have a := H.out
        rw [← HS.out] at a
        omega
      go_enter Try.func67, Try.ntmps67
      go_wp2_with fail
      refine (port_at l 12 1 _ (by omega) (by omega) (by omega) hl).mono ?_
      rintro e u1 ⟨rfl, b1⟩
      rw [E.out]
      go_wp2_with fail
      go_returns
      exact ⟨rfl, b1⟩
set_option maxHeartbeats 800000 in
theorem seg_yes (l : List UInt8) (w : World) (hl : l.length ≤ 1152921504606846976) (h : segB l = true) :
    Calls Try.prog 67 #[.string (bsL l)] w fun e w' => e = .returned (.tuple #[.string (bsL (l.drop (headN l))), .int .i64 0]) ∧ Below w.heap.size w w' := by
  obtain ⟨h1, h2, h3⟩ := (seg_iff l).1 h
  clear h
  have E : Hid (nAt l 12 1 = atL l 12) := nAt_one l 12 (by omega)
  have EH : Hid (headN l = atL l 12 / 16 * 4) := rfl
  have b0 := atL_lt l 12
  have hb := headN_lt l
  obtain ⟨S, hS⟩ : ∃ S, S = headN l := ⟨_, rfl⟩
  have z1 : (atL l 12 : Int) / 16 * 4 = (S : Int) := by rw [hS, EH.out]; omega
  rw [← hS] at h2 h3 ⊢
  have hS' : S ≤ 60 := by omega
  clear hS hb EH
  have D := bsL_drop l S
  rw [bsL_size] at D
  go_enter Try.func67, Try.ntmps67
  go_wp2_with fail
  refine (port_at l 12 1 _ (by omega) (by omega) (by omega) hl).mono ?_
  rintro e u1 ⟨rfl, b1⟩
  rw [E.out]
  go_wp2_with fail
  go_returns
  exact ⟨rfl, b1⟩
set_option maxHeartbeats 800000 in
theorem dgm_no (l : List UInt8) (w : World) (hl : l.length ≤ 1152921504606846976) (h : dgmB l = false) :
    Calls Try.prog 68 #[.string (bsL l)] w fun e w' => e = .returned (.tuple #[.string ⟨#[]⟩, .int .i64 16]) ∧ Below w.heap.size w w' := by
  have H : Hid (¬ (8 ≤ l.length ∧ 8 ≤ nAt l 4 2 ∧ nAt l 4 2 ≤ l.length)) := by
    show ¬ _
    rw [← dgm_iff, h]
    decide
  clear h
  by_cases h1 : l.length < 8
  · go_enter Try.func68, Try.ntmps68
    go_wp2_with fail
    go_returns
    exact ⟨rfl, Below.refl _ _⟩
  · have b0 := nAt_two_lt l 4
    obtain ⟨S, hS⟩ : ∃ S, S = nAt l 4 2 := ⟨_, rfl⟩
    have HS : Hid (nAt l 4 2 = S) := hS.symm
    rw [← hS] at b0
    clear hS
    by_cases h2 : S < 8
    · go_enter Try.func68, Try.ntmps68
      go_wp2_with fail
      refine (port_at l 4 2 _ (by omega) (by omega) (by omega) hl).mono ?_
      rintro e u1 ⟨rfl, b1⟩
      rw [HS.out]
      go_wp2_with fail
      go_returns
      exact ⟨rfl, b1⟩
    · have h3 : l.length < S := by
        have a := H.out
        rw [HS.out] at a
        omega
      go_enter Try.func68, Try.ntmps68
      go_wp2_with fail
      refine (port_at l 4 2 _ (by omega) (by omega) (by omega) hl).mono ?_
      rintro e u1 ⟨rfl, b1⟩
      rw [HS.out]
      go_wp2_with fail
      go_returns
      exact ⟨rfl, b1⟩
set_option maxHeartbeats 800000 in
theorem dgm_yes (l : List UInt8) (w : World) (hl : l.length ≤ 1152921504606846976) (h : dgmB l = true) :
    Calls Try.prog 68 #[.string (bsL l)] w fun e w' => e = .returned (.tuple #[.string (bsL ((l.drop 8).take (nAt l 4 2 - 8))), .int .i64 0]) ∧ Below w.heap.size w w' := by
  obtain ⟨h1, h2, h3⟩ := (dgm_iff l).1 h
  clear h
  have b0 := nAt_two_lt l 4
  obtain ⟨S, hS⟩ : ∃ S, S = nAt l 4 2 := ⟨_, rfl⟩
  have HS : Hid (nAt l 4 2 = S) := hS.symm
  rw [← hS] at b0 h2 h3 ⊢
  clear hS
  have D := bsL_extract l 8 S
  go_enter Try.func68, Try.ntmps68
  go_wp2_with fail
  refine (port_at l 4 2 _ (by omega) (by omega) (by omega) hl).mono ?_
  rintro e u1 ⟨rfl, b1⟩
  rw [HS.out]
  go_wp2_with fail
  go_returns
  exact ⟨rfl, b1⟩
set_option maxHeartbeats 1600000 in
theorem port_take (p : Int) (l : List UInt8) (w : World) (hl : l.length ≤ 1152921504606846976) :
    Calls Try.prog 49 #[.int .i64 p, .string (bsL l)] w fun e w' => e = .returned (.tuple #[.int .i64 (srcP p l : Int), .int .i64 (dstP p l : Int), .string (bsL (bodyP p l)), .int .i64 (errP p l : Int)]) ∧ Below w.heap.size w w' := by
  by_cases h6 : p = 6
  · subst h6
    by_cases hs : segB l = true
    · have HS : Hid (segB l = true) := hs
      have h20 : 20 ≤ l.length := ((seg_iff l).1 hs).1
      obtain ⟨_, k1, k2, k3, k4⟩ := ok_seg hs
      rw [k1, k2, k3, k4]
      clear k1 k2 k3 k4 hs
      go_enter Try.func49, Try.ntmps49
      go_wp2_with fail
      refine (seg_yes l _ hl HS.out).mono ?_
      rintro e u1 ⟨rfl, b1⟩
      go_wp2_with fail
      refine (port_at l 0 2 _ (by omega) (by omega) (by omega) hl).mono ?_
      rintro e u2 ⟨rfl, b2⟩
      go_wp2_with fail
      refine (port_at l 2 2 _ (by omega) (by omega) (by omega) hl).mono ?_
      rintro e u3 ⟨rfl, b3⟩
      go_wp2_with fail
      go_returns
      exact ⟨rfl, bel_trans (bel_trans b1 b2) b3⟩
    · have HS : Hid (segB l = false) := Bool.eq_false_iff.2 hs
      obtain ⟨k0, k4⟩ := err_seg HS.out
      obtain ⟨k1, k2, k3⟩ := no_P k0
      rw [k1, k2, k3, k4]
      clear k0 k1 k2 k3 k4 hs
      go_enter Try.func49, Try.ntmps49
      go_wp2_with fail
      refine (seg_no l _ hl HS.out).mono ?_
      rintro e u1 ⟨rfl, b1⟩
      go_wp2_with fail
      go_returns
      exact ⟨rfl, b1⟩
  · by_cases h17 : p = 17
    · subst h17
      clear h6
      by_cases hs : dgmB l = true
      · have HS : Hid (dgmB l = true) := hs
        have h20 : 8 ≤ l.length := ((dgm_iff l).1 hs).1
        obtain ⟨_, k1, k2, k3, k4⟩ := ok_dgm hs
        rw [k1, k2, k3, k4]
        clear k1 k2 k3 k4 hs
        obtain ⟨q, hq⟩ : ∃ q, q = (l.drop 8).take (nAt l 4 2 - 8) := ⟨_, rfl⟩
        have HQ : Hid ((l.drop 8).take (nAt l 4 2 - 8) = q) := hq.symm
        rw [← hq]
        clear hq
        go_enter Try.func49, Try.ntmps49
        go_wp2_with fail
        refine (dgm_yes l _ hl HS.out).mono ?_
        rintro e u1 ⟨rfl, b1⟩
        rw [HQ.out]
        go_wp2_with fail
        refine (port_at l 0 2 _ (by omega) (by omega) (by omega) hl).mono ?_
        rintro e u2 ⟨rfl, b2⟩
        go_wp2_with fail
        refine (port_at l 2 2 _ (by omega) (by omega) (by omega) hl).mono ?_
        rintro e u3 ⟨rfl, b3⟩
        go_wp2_with fail
        go_returns
        exact ⟨rfl, bel_trans (bel_trans b1 b2) b3⟩
      · have HS : Hid (dgmB l = false) := Bool.eq_false_iff.2 hs
        obtain ⟨k0, k4⟩ := err_dgm HS.out
        obtain ⟨k1, k2, k3⟩ := no_P k0
        rw [k1, k2, k3, k4]
        clear k0 k1 k2 k3 k4 hs
        go_enter Try.func49, Try.ntmps49
        go_wp2_with fail
        refine (dgm_no l _ hl HS.out).mono ?_
        rintro e u1 ⟨rfl, b1⟩
        go_wp2_with fail
        go_returns
        exact ⟨rfl, b1⟩
    · obtain ⟨k0, k4⟩ := err_type l h6 h17
      obtain ⟨k1, k2, k3⟩ := no_P k0
      rw [k1, k2, k3, k4]
      clear k0 k1 k2 k3 k4
      have i6 : (p == 6) = false := by simpa using h6
      have i17 : (p == 17) = false := by simpa using h17
      clear h6 h17
      go_enter Try.func49, Try.ntmps49
      go_wp2_with fail
      go_returns
      exact ⟨rfl, Below.refl _ _⟩
end Go.Proofs.Yticopigpgaomjaa
