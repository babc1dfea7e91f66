
/-
  The reference's Take: what it answers of any bytes.
-/
import Derived.Test.YticopigpgaomjaaIp4Take
import Derived.Deep.RegionLaw
namespace Go.Proofs.Yticopigpgaomjaa.L6
open Go.RowKit Oc Ip4 Go.Deep
set_option linter.unusedVariables false

set_option maxHeartbeats 3200000 in
theorem prtake_any (w : World) (l : List UInt8) (hl : l.length ≤ 1152921504606846976) : Calls Try.prog 27 #[.string (bsL l)] w (Took w l) := by
  have B0 : Hid (Below w.heap.size w (w.alloc (.cells #[.int .i64 0, .int .i64 0, .int .i64 0, .int .i64 0, .int .i64 0, .int .i64 0, .string ⟨#[]⟩, .string ⟨#[]⟩, .string ⟨#[]⟩] 61))) := bel_alloc _ _
  by_cases h1 : l.length < 20
  · have E : Hid (takeE l = 2) := by show takeE l = 2; unfold takeE; rw [if_pos h1]
    go_enter Try.func27, Try.ntmps27
    go_wp2_with fail
    go_returns
    exact took_err (c := 2) E.out (by decide) B0.out
  have D2 : (bsL l).extract 2 4 = bsL ((l.drop 2).take 2) := bsL_extract l 2 4
  have N2 : Hid (numL ((l.drop 2).take 2) = lenL l) := num_two l 2 (by omega)
  have A1 := atL_lt l 0
  have L1 : lenL l < 65536 := pairL_lt l 2
  have T2 : ((l.drop 2).take 2).length ≤ 7 := by simp; omega
  obtain ⟨A, hA⟩ : ∃ A, A = atL l 0 := ⟨_, rfl⟩
  obtain ⟨S, hS⟩ : ∃ S, S = 4 * (A % 16) := ⟨_, rfl⟩
  obtain ⟨Ln, hL⟩ : ∃ Ln, Ln = lenL l := ⟨_, rfl⟩
  have hA' : atL l 0 = A := hA.symm
  rw [← hA] at A1
  rw [← hL] at N2 L1
  have Z1 : Hid (szL l = S ∧ lenL l = Ln ∧ atL l 0 = A) := ⟨by unfold szL; omega, hL.symm, hA.symm⟩
  have M : 4 * ((A : Int) % 16) = (S : Int) := by omega
  have S1 : S ≤ 60 := by omega
  clear hA hS hL
  have n0 : ¬ (l.length : Int) < 20 := by omega
  have g0 : (0 : Int) < l.length := by omega
  have g2 : (2 : Int) ≤ l.length := by omega
  have g4 : (4 : Int) ≤ l.length := by omega
  by_cases h2 : A / 16 = 4
  rotate_left
  · have q2 : ((A : Int) / 16 != 4) = true := by simp; omega
    have T : Hid (takeE l = 10) := by
      show takeE l = 10
      unfold takeE; rw [Z1.out.2.2, if_neg h1, if_pos h2]
    clear h2
    go_enter Try.func27, Try.ntmps27
    go_wp2_with fail
    go_returns
    exact took_err (c := 10) T.out (by decide) B0.out
  have q2 : ((A : Int) / 16 != 4) = false := by simp; omega
  have H2 : Hid (A / 16 = 4) := h2
  clear h2
  by_cases h3 : S < 20 ∨ l.length < S
  · have T : Hid (takeE l = 11) := by
      show takeE l = 11
      unfold takeE; rw [Z1.out.2.2, if_neg h1, if_neg (by have := H2.out; omega), Z1.out.1, if_pos h3]
    by_cases h3a : (S : Int) < 20
    · clear h3
      go_enter Try.func27, Try.ntmps27
      go_wp2_with fail
      go_returns
      exact took_err (c := 11) T.out (by decide) B0.out
    · have h3b : (l.length : Int) < S := by omega
      clear h3
      go_enter Try.func27, Try.ntmps27
      go_wp2_with fail
      go_returns
      exact took_err (c := 11) T.out (by decide) B0.out
  have H3 : Hid (¬ (S < 20 ∨ l.length < S)) := h3
  have s20 : ¬ (S : Int) < 20 := by omega
  have sl : ¬ (l.length : Int) < S := by omega
  clear h3
  by_cases h4 : Ln < S ∨ l.length < Ln
  · have T : Hid (takeE l = 13) := by
      show takeE l = 13
      unfold takeE; rw [Z1.out.2.2, if_neg h1, if_neg (by have := H2.out; omega), Z1.out.1, if_neg H3.out, Z1.out.2.1, if_pos h4]
    by_cases h4a : (Ln : Int) < S
    · clear h4
      go_enter Try.func27, Try.ntmps27
      go_wp2_with fail
      refine (number_any _ _ T2).mono ?_
      rintro e w1 ⟨rfl, rfl⟩
      rw [N2.out]
      go_wp2_with fail
      go_returns
      exact took_err (c := 13) T.out (by decide) B0.out
    · have h4b : (l.length : Int) < Ln := by omega
      clear h4
      go_enter Try.func27, Try.ntmps27
      go_wp2_with fail
      refine (number_any _ _ T2).mono ?_
      rintro e w1 ⟨rfl, rfl⟩
      rw [N2.out]
      go_wp2_with fail
      go_returns
      exact took_err (c := 13) T.out (by decide) B0.out
  have H4 : Hid (¬ (Ln < S ∨ l.length < Ln)) := h4
  have s4 : ¬ (Ln : Int) < S := by omega
  have l4 : ¬ (l.length : Int) < Ln := by omega
  clear h4
  have tl : (l.take S).length ≤ 1152921504606846976 := by simp; omega
  by_cases h5 : sumL (l.take S) = 0
  rotate_left
  · have T : Hid (takeE l = 12) := by
      show takeE l = 12
      unfold takeE; rw [Z1.out.2.2, if_neg h1, if_neg (by have := H2.out; omega), Z1.out.1, if_neg H3.out, Z1.out.2.1, if_neg H4.out, if_pos h5]
    have q5 : ((sumL (l.take S) : Int) != 0) = true := by simp; omega
    clear h5
    go_enter Try.func27, Try.ntmps27
    go_wp2_with fail
    refine (number_any _ _ T2).mono ?_
    rintro e w1 ⟨rfl, rfl⟩
    rw [N2.out]
    go_wp2_with fail
    refine (rsum_any (l.take S) _ tl).mono ?_
    rintro e w3 ⟨rfl, rfl⟩
    go_wp2_with fail
    go_returns
    exact took_err (c := 12) T.out (by decide) B0.out
  have FN : Hid (Fine l) := by
    have z := Z1.out
    have a := H2.out
    have b := H3.out
    have c := H4.out
    refine ⟨by omega, by omega, by omega, by omega, by omega, by omega, ?_⟩
    rw [z.1]; exact h5
  have q5 : ((sumL (l.take S) : Int) != 0) = false := by simp; omega
  clear h5
  have OK : Hid (takeE l = 0 ∧ hdOf l = ⟨atL l 1, pairL l 4, (pairL l 6 / 8192 : Nat), (pairL l 6 % 8192 : Nat), atL l 8, atL l 9, (l.drop 12).take 4, (l.drop 16).take 4, (l.drop 20).take (S - 20)⟩ ∧ bodyOf l = (l.drop S).take (Ln - S)) := by
    obtain ⟨f0, f1, f2⟩ := of_fine FN.out
    rw [Z1.out.1, Z1.out.2.1] at f2
    rw [Z1.out.1, read_take l S (by omega)] at f1
    exact ⟨f0, f1, f2⟩
  have N4 : Hid (numL ((l.drop 4).take 2) = pairL l 4) := num_two l 4 (by omega)
  have N6 : Hid (numL ((l.drop 6).take 2) = pairL l 6) := num_two l 6 (by omega)
  have T4 : ((l.drop 4).take 2).length ≤ 7 := by simp; omega
  have T6 : ((l.drop 6).take 2).length ≤ 7 := by simp; omega
  have P6 := pairL_lt l 6
  have D4 : (bsL l).extract 4 6 = bsL ((l.drop 4).take 2) := bsL_extract l 4 6
  have D6 : (bsL l).extract 6 8 = bsL ((l.drop 6).take 2) := bsL_extract l 6 8
  have D12 : (bsL l).extract 12 16 = bsL ((l.drop 12).take 4) := bsL_extract l 12 16
  have D16 : (bsL l).extract 16 20 = bsL ((l.drop 16).take 4) := bsL_extract l 16 20
  have D20 : (bsL l).extract 20 S = bsL ((l.drop 20).take (S - 20)) := bsL_extract l 20 S
  have DB : (bsL l).extract S Ln = bsL ((l.drop S).take (Ln - S)) := bsL_extract l S Ln
  obtain ⟨s12, e12⟩ : ∃ x, x = (l.drop 12).take 4 := ⟨_, rfl⟩
  obtain ⟨s16, e16⟩ : ∃ x, x = (l.drop 16).take 4 := ⟨_, rfl⟩
  obtain ⟨s20', e20⟩ : ∃ x, x = (l.drop 20).take (S - 20) := ⟨_, rfl⟩
  obtain ⟨bd, eb⟩ : ∃ x, x = (l.drop S).take (Ln - S) := ⟨_, rfl⟩
  obtain ⟨f6, ef⟩ : ∃ x, x = pairL l 6 / 8192 := ⟨_, rfl⟩
  obtain ⟨o6, eo⟩ : ∃ x, x = pairL l 6 % 8192 := ⟨_, rfl⟩
  obtain ⟨p6, ep⟩ : ∃ x, x = pairL l 6 := ⟨_, rfl⟩
  obtain ⟨p4, e4⟩ : ∃ x, x = pairL l 4 := ⟨_, rfl⟩
  obtain ⟨a1, e1⟩ : ∃ x, x = atL l 1 := ⟨_, rfl⟩
  obtain ⟨a8, e8⟩ : ∃ x, x = atL l 8 := ⟨_, rfl⟩
  obtain ⟨a9, e9⟩ : ∃ x, x = atL l 9 := ⟨_, rfl⟩
  rw [← e12] at D12 OK
  rw [← e16] at D16 OK
  rw [← e20] at D20 OK
  rw [← eb] at DB OK
  rw [← ef, ← eo, ← e4, ← e1, ← e8, ← e9] at OK
  rw [← ep] at N6 P6
  rw [← e4] at N4
  have A8 := atL_lt l 8
  have A9 := atL_lt l 9
  have A1' := atL_lt l 1
  rw [← e1] at A1'
  rw [← e8] at A8
  rw [← e9] at A9
  have a1' : atL l 1 = a1 := e1.symm
  have a8' : atL l 8 = a8 := e8.symm
  have a9' : atL l 9 = a9 := e9.symm
  have F6 : (p6 : Int) / 8192 = (f6 : Int) := by omega
  have O6 : (p6 : Int) % 8192 = (o6 : Int) := by omega
  clear e12 e16 e20 eb ef eo ep e4 e1 e8 e9
  have g1 : (1 : Int) < l.length := by omega
  have g8 : (8 : Int) < l.length := by omega
  have g9 : (9 : Int) < l.length := by omega
  have i6 : (6 : Int) ≤ l.length := by omega
  have i8 : (8 : Int) ≤ l.length := by omega
  have i16 : (16 : Int) ≤ l.length := by omega
  have i20 : (20 : Int) ≤ l.length := by omega
  go_enter Try.func27, Try.ntmps27
  go_wp2_with fail
  refine (number_any _ _ T2).mono ?_
  rintro e w1 ⟨rfl, rfl⟩
  rw [N2.out]
  go_wp2_with fail
  refine (rsum_any (l.take S) _ tl).mono ?_
  rintro e w3 ⟨rfl, rfl⟩
  go_wp2_with fail
  refine (number_any _ _ T6).mono ?_
  rintro e w4 ⟨rfl, rfl⟩
  rw [N6.out]
  go_wp2_with fail
  clear D2 N2 T2 g0 g2 g4 q2 tl q5 T6 D6 hl A1 hA' Z1 M S1 h1 H2 H3 H4 FN N6
  have w1 : IntKind.i64.wrap (a1 : Int) = (a1 : Int) := by rw [IntKind.wrap_i64]; omega
  have w8 : IntKind.i64.wrap (a8 : Int) = (a8 : Int) := by rw [IntKind.wrap_i64]; omega
  have w9 : IntKind.i64.wrap (a9 : Int) = (a9 : Int) := by rw [IntKind.wrap_i64]; omega
  have wf : IntKind.i64.wrap (f6 : Int) = (f6 : Int) := by rw [IntKind.wrap_i64]; omega
  have wo : Int.tmod (p6 : Int) 8192 = (o6 : Int) := by rw [Int.tmod_eq_emod_of_nonneg (by omega)]; exact O6
  refine wp_region_noPanic ?_
  refine wp_region_held_drew (S := fun _ => True) (by kernel_rfl) trivial (fun hHeld => ?_)
  refine wpAnyH_take (i := 0) (v := ?_) rfl (by kernel_rfl) (by kernel_rfl) (by kernel_rfl) (fun _ _ _ h => h) (Or.inl ⟨by rfl, ?_⟩) trivial ?_
  rotate_left
  · intro w hSw; go_simp; first | done | with_reducible rfl
  simp only [List.getElem_toArray, List.getElem_cons_zero, Act.put, List.setIfInBounds_toArray, List.set_cons_zero, List.set_cons_succ]
  refine wpAnyH_take (i := 1) (v := ?_) rfl (by kernel_rfl) (by kernel_rfl) (by kernel_rfl) (fun _ _ _ h => h) (Or.inl ⟨by rfl, ?_⟩) trivial ?_
  rotate_left
  · intro w hSw; go_simp; first | done | with_reducible rfl
  simp only [List.getElem_toArray, List.getElem_cons_zero, List.getElem_cons_succ, Act.put, List.setIfInBounds_toArray, List.set_cons_zero, List.set_cons_succ]
  refine wpAnyH_take (i := 2) (v := ?_) rfl (by kernel_rfl) (by kernel_rfl) (by kernel_rfl) (fun _ _ _ h => h) (Or.inl ⟨by rfl, ?_⟩) trivial ?_
  rotate_left
  · intro w hSw; go_simp; first | done | with_reducible rfl
  simp only [List.getElem_toArray, List.getElem_cons_zero, List.getElem_cons_succ, Act.put, List.setIfInBounds_toArray, List.set_cons_zero, List.set_cons_succ]
  refine wpAnyH_take (i := 3) (v := ?_) rfl (by kernel_rfl) (by kernel_rfl) (by kernel_rfl) (fun _ _ _ h => h) (Or.inl ⟨by rfl, ?_⟩) trivial ?_
  rotate_left
  · intro w hSw; go_simp; first | done | with_reducible rfl
  simp only [List.getElem_toArray, List.getElem_cons_zero, List.getElem_cons_succ, Act.put, List.setIfInBounds_toArray, List.set_cons_zero, List.set_cons_succ]
  refine wpAnyH_take (i := 4) (v := ?_) rfl (by kernel_rfl) (by kernel_rfl) (by kernel_rfl) (fun _ _ _ h => h) (Or.inl ⟨by rfl, ?_⟩) trivial ?_
  rotate_left
  · intro w hSw; go_simp; first | done | with_reducible rfl
  simp only [List.getElem_toArray, List.getElem_cons_zero, List.getElem_cons_succ, Act.put, List.setIfInBounds_toArray, List.set_cons_zero, List.set_cons_succ]
  refine wpAnyH_take (i := 6) (v := ?_) rfl (by kernel_rfl) (by kernel_rfl) (by kernel_rfl) (fun _ _ _ h => h) (Or.inl ⟨by rfl, ?_⟩) trivial ?_
  rotate_left
  · intro w hSw; go_simp; first | done | with_reducible rfl
  simp only [List.getElem_toArray, List.getElem_cons_zero, List.getElem_cons_succ, Act.put, List.setIfInBounds_toArray, List.set_cons_zero, List.set_cons_succ]
  refine wpAnyH_take (i := 7) (v := ?_) rfl (by kernel_rfl) (by kernel_rfl) (by kernel_rfl) (fun _ _ _ h => h) (Or.inl ⟨by rfl, ?_⟩) trivial ?_
  rotate_left
  · intro w hSw; go_simp; first | done | with_reducible rfl
  simp only [List.getElem_toArray, List.getElem_cons_zero, List.getElem_cons_succ, Act.put, List.setIfInBounds_toArray, List.set_cons_zero, List.set_cons_succ]
  refine wpAnyH_take (i := 8) (v := ?_) rfl (by kernel_rfl) (by kernel_rfl) (by kernel_rfl) (fun _ _ _ h => h) (Or.inl ⟨by rfl, ?_⟩) trivial ?_
  rotate_left
  · intro w hSw; go_simp; first | done | with_reducible rfl
  simp only [List.getElem_toArray, List.getElem_cons_zero, List.getElem_cons_succ, Act.put, List.setIfInBounds_toArray, List.set_cons_zero, List.set_cons_succ]
  refine wpAnyH_take (i := 9) (v := ?_) rfl (by kernel_rfl) (by kernel_rfl) (by kernel_rfl) (fun _ _ _ h => h) (Or.inl ⟨by rfl, ?_⟩) trivial ?_
  rotate_left
  · intro w hSw; go_simp; first | done | with_reducible rfl
  simp only [List.getElem_toArray, List.getElem_cons_zero, List.getElem_cons_succ, Act.put, List.setIfInBounds_toArray, List.set_cons_zero, List.set_cons_succ]
  refine wpAnyH_take (i := 10) (v := ?_) rfl (by kernel_rfl) (by kernel_rfl) (by kernel_rfl) (fun _ _ _ h => h) (Or.inl ⟨by rfl, ?_⟩) trivial ?_
  rotate_left
  · intro w hSw; go_simp; first | done | with_reducible rfl
  simp only [List.getElem_toArray, List.getElem_cons_zero, List.getElem_cons_succ, Act.put, List.setIfInBounds_toArray, List.set_cons_zero, List.set_cons_succ]
  refine wpAnyH_take (i := 11) (v := ?_) rfl (by kernel_rfl) (by kernel_rfl) (by kernel_rfl) (fun _ _ _ h => h) (Or.inl ⟨by rfl, ?_⟩) trivial ?_
  rotate_left
  · intro w hSw; go_simp; first | done | with_reducible rfl
  simp only [List.getElem_toArray, List.getElem_cons_zero, List.getElem_cons_succ, Act.put, List.setIfInBounds_toArray, List.set_cons_zero, List.set_cons_succ]
  refine wpAnyH_take (i := 12) (v := ?_) rfl (by kernel_rfl) (by kernel_rfl) (by kernel_rfl) (fun _ _ _ h => h) (Or.inl ⟨by rfl, ?_⟩) trivial ?_
  rotate_left
  · intro w hSw; go_simp; first | done | with_reducible rfl
  simp only [List.getElem_toArray, List.getElem_cons_zero, List.getElem_cons_succ, Act.put, List.setIfInBounds_toArray, List.set_cons_zero, List.set_cons_succ]
  refine wpAnyH_take (i := 13) (v := ?_) rfl (by kernel_rfl) (by kernel_rfl) (by kernel_rfl) (fun _ _ _ h => h) (Or.inl ⟨by rfl, ?_⟩) trivial ?_
  rotate_left
  · intro w hSw; go_simp; first | done | with_reducible rfl
  simp only [List.getElem_toArray, List.getElem_cons_zero, List.getElem_cons_succ, Act.put, List.setIfInBounds_toArray, List.set_cons_zero, List.set_cons_succ]
  refine wpAnyH_take (i := 14) (v := ?_) rfl (by kernel_rfl) (by kernel_rfl) (by kernel_rfl) (fun _ _ _ h => h) (Or.inl ⟨by rfl, ?_⟩) trivial ?_
  rotate_left
  · intro w hSw; go_simp; first | done | with_reducible rfl
  simp only [List.getElem_toArray, List.getElem_cons_zero, List.getElem_cons_succ, Act.put, List.setIfInBounds_toArray, List.set_cons_zero, List.set_cons_succ]
  refine wpAnyH_take (i := 15) (v := ?_) rfl (by kernel_rfl) (by kernel_rfl) (by kernel_rfl) (fun _ _ _ h => h) (Or.inl ⟨by rfl, ?_⟩) trivial ?_
  rotate_left
  · intro w hSw; go_simp; first | done | with_reducible rfl
  simp only [List.getElem_toArray, List.getElem_cons_zero, List.getElem_cons_succ, Act.put, List.setIfInBounds_toArray, List.set_cons_zero, List.set_cons_succ]
  refine wpAnyH_ready (rs := [5, 17]) (by kernel_rfl) (by simp) ?_
  refine AllReadyH.cons rfl (fun K hK => ?_) ?_
  · go_simp
    go_at_call 51
    refine (number_any _ _ T4).mono ?_
    rintro e q1 ⟨rfl, rfl⟩
    rw [N4.out]
    go_wp2_with fail
    refine hK.out _ _ trivial (fun hHeld => ?_)
    clear hK K
    refine wpAnyH_take (i := 16) (v := ?_) rfl (by kernel_rfl) (by kernel_rfl) (by kernel_rfl) (fun _ _ _ h => h) (Or.inl ⟨by rfl, ?_⟩) trivial ?_
    rotate_left
    · intro w hSw; go_simp; first | done | with_reducible rfl
    simp only [List.getElem_toArray, List.getElem_cons_zero, List.getElem_cons_succ, Act.put, List.setIfInBounds_toArray, List.set_cons_zero, List.set_cons_succ]
    refine wpAnyH_ready (rs := [17]) (by kernel_rfl) (by simp) ?_
    refine AllReadyH.cons rfl (fun K hK => ?_) ?_
    rotate_left
    · exact AllReadyH.nil
    go_simp
    refine hK.out _ _ trivial (fun hHeld => ?_)
    clear hK K
    refine wpAnyH_ready (rs := [18]) (by kernel_rfl) (by simp) ?_
    refine AllReadyH.cons rfl (fun K hK => ?_) ?_
    rotate_left
    · exact AllReadyH.nil
    go_simp
    refine hK.out _ _ trivial (fun hHeld => ?_)
    clear hK K
    refine wpAnyH_done (by kernel_rfl) ?_ _
    refine NoPanic.normal ?_
    clear w1 w8 w9 wf wo D4 T4 a1' a8' a9' F6 O6 g1 g8 g9 i6 i8
    go_wp2_with fail
    go_region
    go_wp2_with fail
    go_region
    go_wp2_with fail
    go_returns
    exact ⟨_, _, _, _, _, _, _, _, _, _, 0, rfl, ⟨OK.out.2.1, OK.out.2.2, OK.out.1⟩, (((bel_alloc _ _).alloc (by simp) _).drew).drew.drew⟩
  refine AllReadyH.cons rfl (fun K hK => ?_) ?_
  · go_simp
    refine hK.out _ _ trivial (fun hHeld => ?_)
    clear hK K
    refine wpAnyH_ready (rs := [5]) (by kernel_rfl) (by simp) ?_
    refine AllReadyH.cons rfl (fun K hK => ?_) ?_
    rotate_left
    · exact AllReadyH.nil
    go_simp
    go_at_call 51
    refine (number_any _ _ T4).mono ?_
    rintro e q1 ⟨rfl, rfl⟩
    rw [N4.out]
    go_wp2_with fail
    refine hK.out _ _ trivial (fun hHeld => ?_)
    clear hK K
    refine wpAnyH_take (i := 16) (v := ?_) rfl (by kernel_rfl) (by kernel_rfl) (by kernel_rfl) (fun _ _ _ h => h) (Or.inl ⟨by rfl, ?_⟩) trivial ?_
    rotate_left
    · intro w hSw; go_simp; first | done | with_reducible rfl
    simp only [List.getElem_toArray, List.getElem_cons_zero, List.getElem_cons_succ, Act.put, List.setIfInBounds_toArray, List.set_cons_zero, List.set_cons_succ]
    refine wpAnyH_ready (rs := [18]) (by kernel_rfl) (by simp) ?_
    refine AllReadyH.cons rfl (fun K hK => ?_) ?_
    rotate_left
    · exact AllReadyH.nil
    go_simp
    refine hK.out _ _ trivial (fun hHeld => ?_)
    clear hK K
    refine wpAnyH_done (by kernel_rfl) ?_ _
    refine NoPanic.normal ?_
    clear w1 w8 w9 wf wo D4 T4 a1' a8' a9' F6 O6 g1 g8 g9 i6 i8
    go_wp2_with fail
    go_region
    go_wp2_with fail
    go_region
    go_wp2_with fail
    go_returns
    exact ⟨_, _, _, _, _, _, _, _, _, _, 0, rfl, ⟨OK.out.2.1, OK.out.2.2, OK.out.1⟩, (((bel_alloc _ _).alloc (by simp) _).drew).drew.drew⟩
  exact AllReadyH.nil
end Go.Proofs.Yticopigpgaomjaa.L6
