
/-
  Take: what it answers of any bytes.
-/
import Derived.Test.YticopigpgaomjaaIp4Right
namespace Go.Proofs.Yticopigpgaomjaa.L6
open Go.RowKit Oc Ip4 Go.Deep
set_option linter.unusedVariables false

set_option maxHeartbeats 400000 in
theorem numw_any (N k : Nat) (w : World) (h1 : 1 ≤ k) (h2 : k ≤ 7) (h : N < 256 ^ k) : Calls Try.prog 40 #[.int .i64 (N : Int), .int .i64 (k : Int)] w fun e w' => e = .returned (.string (bsL (bytesL N k))) ∧ Below w.heap.size w w' := by
  have HN : Hid (N < 256 ^ k) := h
  clear h
  go_enter Try.func40, Try.ntmps40
  go_wp2_with fail
  refine (put_ok N k _ h1 h2 HN.out).mono ?_
  rintro e w1 ⟨rfl, b1⟩
  go_wp2_with fail
  go_ret
  exact ⟨rfl, b1⟩
set_option maxHeartbeats 400000 in
theorem numat_any (l : List UInt8) (k b : Nat) (w : World) (h1 : 1 ≤ b) (h2 : b ≤ 7) (h : k + b ≤ l.length) (hl : l.length ≤ 1152921504606846976) : Calls Try.prog 86 #[.string (bsL l), .int .i64 (k : Int), .int .i64 (b : Int)] w fun e w' => e = .returned (.int .i64 (numL ((l.drop k).take b) : Int)) ∧ Below w.heap.size w w' := by
  have D := bsL_drop l k
  rw [bsL_size] at D
  have hd : (l.drop k).length = l.length - k := by simp
  have HD : Hid (b ≤ (l.drop k).length) := by show b ≤ (l.drop k).length; omega
  clear hd
  go_enter Try.func86, Try.ntmps86
  go_wp2_with fail
  refine (take_ok (l.drop k) b _ h1 h2 HD.out).mono ?_
  rintro e w1 ⟨rfl, b1⟩
  go_wp2_with fail
  go_ret
  exact ⟨rfl, b1⟩
theorem and15 (n : Nat) (h : n < 256) : bits .and .i64 (n : Int) 15 = ((n % 16 : Nat) : Int) := by
  have o := bits_and_i64 n 15 (by omega) (by omega)
  rw [show (15 : Nat) = 2 ^ 4 - 1 from rfl, Nat.and_two_pow_sub_one_eq_mod] at o
  exact o
theorem and8191 (n : Nat) (h : n < 65536) : bits .and .i64 (n : Int) 8191 = ((n % 8192 : Nat) : Int) := by
  have o := bits_and_i64 n 8191 (by omega) (by omega)
  rw [show (8191 : Nat) = 2 ^ 13 - 1 from rfl, Nat.and_two_pow_sub_one_eq_mod] at o
  exact o
/-- What split tells. -/
def Split (w : World) (l : List UInt8) (e : Ending) (w' : World) : Prop :=
  (∃ c : Nat, takeE l = c ∧ c ≠ 0 ∧ e = .returned (.tuple #[.string ⟨#[]⟩, .string ⟨#[]⟩, .int .i64 (c : Int)]) ∧ Below w.heap.size w w') ∨
  (Fine l ∧ e = .returned (.tuple #[.string (bsL (l.take (szL l))), .string (bsL ((l.drop (szL l)).take (lenL l - szL l))), .int .i64 0]) ∧ Below w.heap.size w w')
set_option maxHeartbeats 1600000 in
theorem split_any (w : World) (l : List UInt8) (hl : l.length ≤ 1152921504606846976) : Calls Try.prog 76 #[.string (bsL l)] w (Split w l) := by
  by_cases h1 : l.length < 20
  · have E : Hid (takeE l = 2) := by show takeE l = 2; unfold takeE; rw [if_pos h1]
    go_enter Try.func76, Try.ntmps76
    go_wp2_with fail
    go_returns
    exact Or.inl ⟨2, E.out, by decide, rfl, Below.refl _ _⟩
  have N1 : Hid (numL ((l.drop 0).take 1) = atL l 0) := num_one l 0 (by omega)
  have N2 : Hid (numL ((l.drop 2).take 2) = lenL l) := num_two l 2 (by omega)
  have A1 := atL_lt l 0
  have L1 : lenL l < 65536 := pairL_lt l 2
  have E := and15 (atL l 0) A1
  obtain ⟨A, hA⟩ : ∃ A, A = atL l 0 := ⟨_, rfl⟩
  obtain ⟨X, hX⟩ : ∃ X, X = A % 16 := ⟨_, rfl⟩
  obtain ⟨S, hS⟩ : ∃ S, S = X * 4 := ⟨_, rfl⟩
  obtain ⟨Ln, hL⟩ : ∃ Ln, Ln = lenL l := ⟨_, rfl⟩
  rw [← hA] at N1 A1 E
  rw [← hX] at E
  rw [← hL] at N2 L1
  have Z1 : Hid (szL l = S ∧ lenL l = Ln ∧ atL l 0 = A) := ⟨by unfold szL; omega, hL.symm, hA.symm⟩
  have X1 : X ≤ 15 := by omega
  have M : (X : Int) * 4 = (S : Int) := by omega
  have S1 : S ≤ 60 := by omega
  clear hA hX hS hL
  have n0 : ¬ (l.length : Int) < 20 := by omega
  by_cases h2 : A / 16 = 4
  rotate_left
  · have q2 : ((A : Int) / 16 != 4) = true := by simp; omega
    have T : Hid (takeE l = 10) := by
      show takeE l = 10
      unfold takeE; rw [Z1.out.2.2, if_neg h1, if_pos h2]
    clear h2
    go_enter Try.func76, Try.ntmps76
    go_wp2_with fail
    refine (numat_any l 0 1 _ (by omega) (by omega) (by omega) hl).mono ?_
    rintro e w1 ⟨rfl, b1⟩
    rw [N1.out]
    go_wp2_with fail
    go_returns
    exact Or.inl ⟨10, T.out, by decide, rfl, b1⟩
  have q2 : ((A : Int) / 16 != 4) = false := by simp; omega
  have H2 : Hid (A / 16 = 4) := h2
  clear h2
  by_cases h3 : S < 20 ∨ l.length < S
  · have T : Hid (takeE l = 11) := by
      show takeE l = 11
      unfold takeE; rw [Z1.out.2.2, if_neg h1, if_neg (by have := H2.out; omega), Z1.out.1, if_pos h3]
    by_cases h3a : (S : Int) < 20
    · clear h3
      go_enter Try.func76, Try.ntmps76
      go_wp2_with fail
      refine (numat_any l 0 1 _ (by omega) (by omega) (by omega) hl).mono ?_
      rintro e w1 ⟨rfl, b1⟩
      rw [N1.out]
      go_wp2_with fail
      go_returns
      exact Or.inl ⟨11, T.out, by decide, rfl, b1⟩
    · have h3b : (l.length : Int) < S := by omega
      clear h3
      go_enter Try.func76, Try.ntmps76
      go_wp2_with fail
      refine (numat_any l 0 1 _ (by omega) (by omega) (by omega) hl).mono ?_
      rintro e w1 ⟨rfl, b1⟩
      rw [N1.out]
      go_wp2_with fail
      go_returns
      exact Or.inl ⟨11, T.out, by decide, rfl, b1⟩
  have H3 : Hid (¬ (S < 20 ∨ l.length < S)) := h3
  have s20 : ¬ (S : Int) < 20 := by omega
  have sl : ¬ (l.length : Int) < S := by omega
  clear h3
  by_cases h4 : Ln < S ∨ l.length < Ln
  · have T : Hid (takeE l = 13) := by
      show takeE l = 13
      unfold takeE; rw [Z1.out.2.2, if_neg h1, if_neg (by have := H2.out; omega), Z1.out.1, if_neg H3.out, Z1.out.2.1, if_pos h4]
    by_cases h4a : (Ln : Int) < S
    · clear h4
      go_enter Try.func76, Try.ntmps76
      go_wp2_with fail
      refine (numat_any l 0 1 _ (by omega) (by omega) (by omega) hl).mono ?_
      rintro e w1 ⟨rfl, b1⟩
      rw [N1.out]
      go_wp2_with fail
      refine (numat_any l 2 2 _ (by omega) (by omega) (by omega) hl).mono ?_
      rintro e w2 ⟨rfl, b2⟩
      rw [N2.out]
      go_wp2_with fail
      go_returns
      exact Or.inl ⟨13, T.out, by decide, rfl, bel_trans b1 b2⟩
    · have h4b : (l.length : Int) < Ln := by omega
      clear h4
      go_enter Try.func76, Try.ntmps76
      go_wp2_with fail
      refine (numat_any l 0 1 _ (by omega) (by omega) (by omega) hl).mono ?_
      rintro e w1 ⟨rfl, b1⟩
      rw [N1.out]
      go_wp2_with fail
      refine (numat_any l 2 2 _ (by omega) (by omega) (by omega) hl).mono ?_
      rintro e w2 ⟨rfl, b2⟩
      rw [N2.out]
      go_wp2_with fail
      go_returns
      exact Or.inl ⟨13, T.out, by decide, rfl, bel_trans b1 b2⟩
  have H4 : Hid (¬ (Ln < S ∨ l.length < Ln)) := h4
  have s4 : ¬ (Ln : Int) < S := by omega
  have l4 : ¬ (l.length : Int) < Ln := by omega
  clear h4
  have tl : (l.take S).length ≤ 1152921504606846976 := by simp; omega
  by_cases h5 : sumL (l.take S) = 0
  rotate_left
  · have T : Hid (takeE l = 12) := by
      show takeE l = 12
      unfold takeE; rw [Z1.out.2.2, if_neg h1, if_neg (by have := H2.out; omega), Z1.out.1, if_neg H3.out, Z1.out.2.1, if_neg H4.out, if_pos h5]
    have q5 : ((sumL (l.take S) : Int) != 0) = true := by simp; omega
    clear h5
    go_enter Try.func76, Try.ntmps76
    go_wp2_with fail
    refine (numat_any l 0 1 _ (by omega) (by omega) (by omega) hl).mono ?_
    rintro e w1 ⟨rfl, b1⟩
    rw [N1.out]
    go_wp2_with fail
    refine (numat_any l 2 2 _ (by omega) (by omega) (by omega) hl).mono ?_
    rintro e w2 ⟨rfl, b2⟩
    rw [N2.out]
    go_wp2_with fail
    refine (sum_any (l.take S) _ tl).mono ?_
    rintro e w3 ⟨rfl, rfl⟩
    go_wp2_with fail
    go_returns
    exact Or.inl ⟨12, T.out, by decide, rfl, bel_trans b1 b2⟩
  have FN : Hid (Fine l) := by
    have z := Z1.out
    have a := H2.out
    have b := H3.out
    have c := H4.out
    refine ⟨by omega, by omega, by omega, by omega, by omega, by omega, ?_⟩
    rw [z.1]; exact h5
  have q5 : ((sumL (l.take S) : Int) != 0) = false := by simp; omega
  have D : (bsL l).extract S Ln = bsL ((l.drop S).take (Ln - S)) := bsL_extract l S Ln
  clear h5
  go_enter Try.func76, Try.ntmps76
  go_wp2_with fail
  refine (numat_any l 0 1 _ (by omega) (by omega) (by omega) hl).mono ?_
  rintro e w1 ⟨rfl, b1⟩
  rw [N1.out]
  go_wp2_with fail
  refine (numat_any l 2 2 _ (by omega) (by omega) (by omega) hl).mono ?_
  rintro e w2 ⟨rfl, b2⟩
  rw [N2.out]
  go_wp2_with fail
  refine (sum_any (l.take S) _ tl).mono ?_
  rintro e w3 ⟨rfl, rfl⟩
  go_wp2_with fail
  go_quiet (fail)
  go_wp2_with fail
  go_returns
  refine Or.inr ⟨FN.out, ?_, below_drewN (bel_trans b1 b2) _⟩
  rw [Z1.out.1, Z1.out.2.1]
  rfl

/-- What read tells of a header's bytes. -/
def Read (w : World) (l : List UInt8) (e : Ending) (w' : World) : Prop :=
  ∃ (t i f o h p : Int) (s d q : List UInt8), e = .returned (.agg #[.int .i64 t, .int .i64 i, .int .i64 f, .int .i64 o, .int .i64 h, .int .i64 p, .string (bsL s), .string (bsL d), .string (bsL q)]) ∧ readF l = ⟨t, i, f, o, h, p, s, d, q⟩ ∧ Below w.heap.size w w'
set_option maxHeartbeats 1600000 in
theorem read_any (w : World) (l : List UInt8) (h20 : 20 ≤ l.length) (hl : l.length ≤ 1152921504606846976) : Calls Try.prog 77 #[.string (bsL l)] w (Read w l) := by
  have N6 : Hid (numL ((l.drop 6).take 2) = pairL l 6) := num_two l 6 (by omega)
  have N1 : Hid (numL ((l.drop 1).take 1) = atL l 1) := num_one l 1 (by omega)
  have N4 : Hid (numL ((l.drop 4).take 2) = pairL l 4) := num_two l 4 (by omega)
  have N8 : Hid (numL ((l.drop 8).take 1) = atL l 8) := num_one l 8 (by omega)
  have N9 : Hid (numL ((l.drop 9).take 1) = atL l 9) := num_one l 9 (by omega)
  have P6 := pairL_lt l 6
  have E := and8191 (pairL l 6) P6
  have D12 : (bsL l).extract 12 16 = bsL ((l.drop 12).take 4) := bsL_extract l 12 16
  have D16 : (bsL l).extract 16 20 = bsL ((l.drop 16).take 4) := bsL_extract l 16 20
  have D20 := bsL_drop l 20
  rw [bsL_size] at D20
  have RD : Hid (readF l = ⟨(atL l 1 : Int), (pairL l 4 : Int), ((pairL l 6 / 8192 : Nat) : Int), ((pairL l 6 % 8192 : Nat) : Int), (atL l 8 : Int), (atL l 9 : Int), (l.drop 12).take 4, (l.drop 16).take 4, l.drop 20⟩) := rfl
  obtain ⟨s12, e12⟩ : ∃ x, x = (l.drop 12).take 4 := ⟨_, rfl⟩
  obtain ⟨s16, e16⟩ : ∃ x, x = (l.drop 16).take 4 := ⟨_, rfl⟩
  obtain ⟨s20, e20⟩ : ∃ x, x = l.drop 20 := ⟨_, rfl⟩
  obtain ⟨f6, ef⟩ : ∃ x, x = pairL l 6 / 8192 := ⟨_, rfl⟩
  obtain ⟨o6, eo⟩ : ∃ x, x = pairL l 6 % 8192 := ⟨_, rfl⟩
  obtain ⟨p6, ep⟩ : ∃ x, x = pairL l 6 := ⟨_, rfl⟩
  obtain ⟨p4, e4⟩ : ∃ x, x = pairL l 4 := ⟨_, rfl⟩
  obtain ⟨a1, e1⟩ : ∃ x, x = atL l 1 := ⟨_, rfl⟩
  obtain ⟨a8, e8⟩ : ∃ x, x = atL l 8 := ⟨_, rfl⟩
  obtain ⟨a9, e9⟩ : ∃ x, x = atL l 9 := ⟨_, rfl⟩
  rw [← e12] at D12 RD
  rw [← e16] at D16 RD
  rw [← e20] at D20 RD
  rw [← ef, ← eo, ← e4, ← e1, ← e8, ← e9] at RD
  rw [← eo] at E
  rw [← ep] at E N6 P6
  rw [← e4] at N4
  rw [← e1] at N1
  rw [← e8] at N8
  rw [← e9] at N9
  have F6 : (p6 : Int) / 8192 = (f6 : Int) := by omega
  clear e12 e16 e20 ef eo ep e4 e1 e8 e9
  have l12 : (12 : Int) ≤ l.length := by omega
  have l16 : (16 : Int) ≤ l.length := by omega
  have l20 : (20 : Int) ≤ l.length := by omega
  go_enter Try.func77, Try.ntmps77
  have B0 : Hid (Below w.heap.size w (w.alloc (.cells #[.int .i64 0, .int .i64 0, .int .i64 0, .int .i64 0, .int .i64 0, .int .i64 0, .string ⟨#[]⟩, .string ⟨#[]⟩, .string ⟨#[]⟩] 42))) := bel_alloc _ _
  have K0 : Hid (Blk (w.alloc (.cells #[.int .i64 0, .int .i64 0, .int .i64 0, .int .i64 0, .int .i64 0, .int .i64 0, .string ⟨#[]⟩, .string ⟨#[]⟩, .string ⟨#[]⟩] 42)) w.heap.size 42 #[.int .i64 0, .int .i64 0, .int .i64 0, .int .i64 0, .int .i64 0, .int .i64 0, .string ⟨#[]⟩, .string ⟨#[]⟩, .string ⟨#[]⟩]) := Blk.new _ _ _
  go_wp2_with fail
  refine (numat_any l 6 2 _ (by omega) (by omega) (by omega) hl).mono ?_
  rintro e w1 ⟨rfl, b1⟩
  rw [N6.out]
  have B1 : Hid (Below w.heap.size w w1) := bel_trans B0.out b1
  have K1 : Hid (Blk w1 w.heap.size 42 #[.int .i64 0, .int .i64 0, .int .i64 0, .int .i64 0, .int .i64 0, .int .i64 0, .string ⟨#[]⟩, .string ⟨#[]⟩, .string ⟨#[]⟩]) := K0.out.since b1
  clear b1
  go_wp2_with fail
  go_region_held3 (fun _ => True) (trivial) (first
    | (go_simp; have fl := K4; clear fl; go_at_call 86; refine (numat_any l 9 1 _ (by omega) (by omega) (by omega) hl).mono ?_; rintro e q4 ⟨rfl, c4⟩; rw [N9.out]; have B5 : Hid (Below w.heap.size w q4) := bel_trans B4.out c4; have K5 : Hid (Blk q4 w.heap.size 42 #[.int .i64 0, .int .i64 0, .int .i64 0, .int .i64 0, .int .i64 0, .int .i64 0, .string ⟨#[]⟩, .string ⟨#[]⟩, .string ⟨#[]⟩]) := K4.out.since c4; have x0 : q4.cell? ⟨w.heap.size, 0, none⟩ = some (.int .i64 0) := K5.out.cell 0; have x1 : q4.cell? ⟨w.heap.size, 1, none⟩ = some (.int .i64 0) := K5.out.cell 1; have x2 : q4.cell? ⟨w.heap.size, 2, none⟩ = some (.int .i64 0) := K5.out.cell 2; have x3 : q4.cell? ⟨w.heap.size, 3, none⟩ = some (.int .i64 0) := K5.out.cell 3; have x4 : q4.cell? ⟨w.heap.size, 4, none⟩ = some (.int .i64 0) := K5.out.cell 4; have x5 : q4.cell? ⟨w.heap.size, 5, none⟩ = some (.int .i64 0) := K5.out.cell 5; have x6 : q4.cell? ⟨w.heap.size, 6, none⟩ = some (.string ⟨#[]⟩) := K5.out.cell 6; have x7 : q4.cell? ⟨w.heap.size, 7, none⟩ = some (.string ⟨#[]⟩) := K5.out.cell 7; have x8 : q4.cell? ⟨w.heap.size, 8, none⟩ = some (.string ⟨#[]⟩) := K5.out.cell 8; have y0 := K5.out.frozen 0; have y1 := K5.out.frozen 1; have y2 := K5.out.frozen 2; have y3 := K5.out.frozen 3; have y4 := K5.out.frozen 4; have y5 := K5.out.frozen 5; have y6 := K5.out.frozen 6; have y7 := K5.out.frozen 7; have y8 := K5.out.frozen 8; clear c4)
    | (go_simp; have fl := K3; clear fl; go_at_call 86; refine (numat_any l 8 1 _ (by omega) (by omega) (by omega) hl).mono ?_; rintro e q3 ⟨rfl, c3⟩; rw [N8.out]; have B4 : Hid (Below w.heap.size w q3) := bel_trans B3.out c3; have K4 : Hid (Blk q3 w.heap.size 42 #[.int .i64 0, .int .i64 0, .int .i64 0, .int .i64 0, .int .i64 0, .int .i64 0, .string ⟨#[]⟩, .string ⟨#[]⟩, .string ⟨#[]⟩]) := K3.out.since c3; clear c3)
    | (go_simp; have fl := K2; clear fl; go_at_call 86; refine (numat_any l 4 2 _ (by omega) (by omega) (by omega) hl).mono ?_; rintro e q2 ⟨rfl, c2⟩; rw [N4.out]; have B3 : Hid (Below w.heap.size w q2) := bel_trans B2.out c2; have K3 : Hid (Blk q2 w.heap.size 42 #[.int .i64 0, .int .i64 0, .int .i64 0, .int .i64 0, .int .i64 0, .int .i64 0, .string ⟨#[]⟩, .string ⟨#[]⟩, .string ⟨#[]⟩]) := K2.out.since c2; clear c2)
    | (go_simp; go_at_call 86; refine (numat_any l 1 1 _ (by omega) (by omega) (by omega) hl).mono ?_; rintro e q1 ⟨rfl, c1⟩; rw [N1.out]; have B2 : Hid (Below w.heap.size w q1) := bel_trans B1.out ⟨c1.os, c1.tape, c1.output, c1.size, c1.block⟩; have K2 : Hid (Blk q1 w.heap.size 42 #[.int .i64 0, .int .i64 0, .int .i64 0, .int .i64 0, .int .i64 0, .int .i64 0, .string ⟨#[]⟩, .string ⟨#[]⟩, .string ⟨#[]⟩]) := K1.out.drew.since c1; clear c1))
  go_wp2_with fail
  refine bodyPost_ret (v := .agg #[.int .i64 (a1 : Int), .int .i64 (p4 : Int), .int .i64 (f6 : Int), .int .i64 (o6 : Int), .int .i64 (a8 : Int), .int .i64 (a9 : Int), .string (bsL s12), .string (bsL s16), .string (bsL s20)]) ?_ rfl ⟨_, _, _, _, _, _, _, _, _, rfl, RD.out, put9_below B5.out (Nat.le_refl _) _ _ _ _ _ _ _ _ _⟩
  have c9 := put9_blk (t := 42) K5.out (.int .i64 (a1 : Int)) (.int .i64 (p4 : Int)) (.int .i64 (f6 : Int)) (.int .i64 (o6 : Int)) (.int .i64 (a8 : Int)) (.int .i64 (a9 : Int)) (.string (bsL s12)) (.string (bsL s16)) (.string (bsL s20))
  have c90 := c9.cell 0
  have c91 := c9.cell 1
  have c92 := c9.cell 2
  have c93 := c9.cell 3
  have c94 := c9.cell 4
  have c95 := c9.cell 5
  have c96 := c9.cell 6
  have c97 := c9.cell 7
  have c98 := c9.cell 8
  change (results _ _).run _ (put9 q4 w.heap.size (.int .i64 (a1 : Int)) (.int .i64 (p4 : Int)) (.int .i64 (f6 : Int)) (.int .i64 (o6 : Int)) (.int .i64 (a8 : Int)) (.int .i64 (a9 : Int)) (.string (bsL s12)) (.string (bsL s16)) (.string (bsL s20))) = .ok _ (put9 q4 w.heap.size (.int .i64 (a1 : Int)) (.int .i64 (p4 : Int)) (.int .i64 (f6 : Int)) (.int .i64 (o6 : Int)) (.int .i64 (a8 : Int)) (.int .i64 (a9 : Int)) (.string (bsL s12)) (.string (bsL s16)) (.string (bsL s20)))
  generalize put9 q4 w.heap.size (.int .i64 (a1 : Int)) (.int .i64 (p4 : Int)) (.int .i64 (f6 : Int)) (.int .i64 (o6 : Int)) (.int .i64 (a8 : Int)) (.int .i64 (a9 : Int)) (.string (bsL s12)) (.string (bsL s16)) (.string (bsL s20)) = W9 at c90 c91 c92 c93 c94 c95 c96 c97 c98
  simp [results, Try.results77, go_sem, c90, c91, c92, c93, c94, c95, c96, c97, c98]

/-- What Take tells of any bytes. -/
def Took (w : World) (l : List UInt8) (e : Ending) (w' : World) : Prop :=
  ∃ (t i f o h p : Int) (s d q b : List UInt8) (c : Nat), e = .returned (.tuple #[.agg #[.int .i64 t, .int .i64 i, .int .i64 f, .int .i64 o, .int .i64 h, .int .i64 p, .string (bsL s), .string (bsL d), .string (bsL q)], .string (bsL b), .int .i64 (c : Int)]) ∧ (hdOf l = ⟨t, i, f, o, h, p, s, d, q⟩ ∧ bodyOf l = b ∧ takeE l = c) ∧ Below w.heap.size w w'
theorem took_err {w w' : World} {l : List UInt8} {c : Nat} (h : takeE l = c) (hc : c ≠ 0) (hb : Below w.heap.size w w') : Took w l (.returned (.tuple #[.agg #[.int .i64 0, .int .i64 0, .int .i64 0, .int .i64 0, .int .i64 0, .int .i64 0, .string ⟨#[]⟩, .string ⟨#[]⟩, .string ⟨#[]⟩], .string ⟨#[]⟩, .int .i64 (c : Int)])) w' := by
  obtain ⟨e1, e2⟩ := of_err (l := l) (by rw [h]; exact hc)
  exact ⟨0, 0, 0, 0, 0, 0, [], [], [], [], c, rfl, ⟨e1, e2, h⟩, hb⟩
set_option maxHeartbeats 1600000 in
theorem ptake_any (w : World) (l : List UInt8) (hl : l.length ≤ 1152921504606846976) : Calls Try.prog 64 #[.string (bsL l)] w (Took w l) := by
  have B0 : Hid (Below w.heap.size w (w.alloc (.cells #[.int .i64 0, .int .i64 0, .int .i64 0, .int .i64 0, .int .i64 0, .int .i64 0, .string ⟨#[]⟩, .string ⟨#[]⟩, .string ⟨#[]⟩] 42))) := bel_alloc _ _
  have K0 : Hid (Blk (w.alloc (.cells #[.int .i64 0, .int .i64 0, .int .i64 0, .int .i64 0, .int .i64 0, .int .i64 0, .string ⟨#[]⟩, .string ⟨#[]⟩, .string ⟨#[]⟩] 42)) w.heap.size 42 #[.int .i64 0, .int .i64 0, .int .i64 0, .int .i64 0, .int .i64 0, .int .i64 0, .string ⟨#[]⟩, .string ⟨#[]⟩, .string ⟨#[]⟩]) := Blk.new _ _ _
  go_enter Try.func64, Try.ntmps64
  go_wp2_with fail
  refine (split_any _ l hl).mono ?_
  rintro e w1 (⟨c, hc, c0, rfl, b1⟩ | ⟨hf, rfl, b1⟩)
  · have q0 : ((c : Int) != 0) = true := by simp; omega
    have HC : Hid (takeE l = c ∧ c ≠ 0) := ⟨hc, c0⟩
    have B1 : Hid (Below w.heap.size w w1) := bel_trans B0.out b1
    have K1 : Hid (Blk w1 w.heap.size 42 #[.int .i64 0, .int .i64 0, .int .i64 0, .int .i64 0, .int .i64 0, .int .i64 0, .string ⟨#[]⟩, .string ⟨#[]⟩, .string ⟨#[]⟩]) := K0.out.since b1
    clear hc c0 b1
    have x0 : w1.cell? ⟨w.heap.size, 0, none⟩ = some (.int .i64 0) := K1.out.cell 0
    have x1 : w1.cell? ⟨w.heap.size, 1, none⟩ = some (.int .i64 0) := K1.out.cell 1
    have x2 : w1.cell? ⟨w.heap.size, 2, none⟩ = some (.int .i64 0) := K1.out.cell 2
    have x3 : w1.cell? ⟨w.heap.size, 3, none⟩ = some (.int .i64 0) := K1.out.cell 3
    have x4 : w1.cell? ⟨w.heap.size, 4, none⟩ = some (.int .i64 0) := K1.out.cell 4
    have x5 : w1.cell? ⟨w.heap.size, 5, none⟩ = some (.int .i64 0) := K1.out.cell 5
    have x6 : w1.cell? ⟨w.heap.size, 6, none⟩ = some (.string ⟨#[]⟩) := K1.out.cell 6
    have x7 : w1.cell? ⟨w.heap.size, 7, none⟩ = some (.string ⟨#[]⟩) := K1.out.cell 7
    have x8 : w1.cell? ⟨w.heap.size, 8, none⟩ = some (.string ⟨#[]⟩) := K1.out.cell 8
    have y0 := K1.out.frozen 0
    have y1 := K1.out.frozen 1
    have y2 := K1.out.frozen 2
    have y3 := K1.out.frozen 3
    have y4 := K1.out.frozen 4
    have y5 := K1.out.frozen 5
    have y6 := K1.out.frozen 6
    have y7 := K1.out.frozen 7
    have y8 := K1.out.frozen 8
    go_wp2_with fail
    refine bodyPost_ret (v := .tuple #[.agg #[.int .i64 0, .int .i64 0, .int .i64 0, .int .i64 0, .int .i64 0, .int .i64 0, .string ⟨#[]⟩, .string ⟨#[]⟩, .string ⟨#[]⟩], .string ⟨#[]⟩, .int .i64 (c : Int)]) ?_ rfl (took_err HC.out.1 HC.out.2 (put9_below B1.out (Nat.le_refl _) _ _ _ _ _ _ _ _ _))
    have c9 := put9_blk (t := 42) K1.out (.int .i64 0) (.int .i64 0) (.int .i64 0) (.int .i64 0) (.int .i64 0) (.int .i64 0) (.string ⟨#[]⟩) (.string ⟨#[]⟩) (.string ⟨#[]⟩)
    have c90 := c9.cell 0
    have c91 := c9.cell 1
    have c92 := c9.cell 2
    have c93 := c9.cell 3
    have c94 := c9.cell 4
    have c95 := c9.cell 5
    have c96 := c9.cell 6
    have c97 := c9.cell 7
    have c98 := c9.cell 8
    change (results _ _).run _ (put9 w1 w.heap.size (.int .i64 0) (.int .i64 0) (.int .i64 0) (.int .i64 0) (.int .i64 0) (.int .i64 0) (.string ⟨#[]⟩) (.string ⟨#[]⟩) (.string ⟨#[]⟩)) = .ok _ (put9 w1 w.heap.size (.int .i64 0) (.int .i64 0) (.int .i64 0) (.int .i64 0) (.int .i64 0) (.int .i64 0) (.string ⟨#[]⟩) (.string ⟨#[]⟩) (.string ⟨#[]⟩))
    generalize put9 w1 w.heap.size (.int .i64 0) (.int .i64 0) (.int .i64 0) (.int .i64 0) (.int .i64 0) (.int .i64 0) (.string ⟨#[]⟩) (.string ⟨#[]⟩) (.string ⟨#[]⟩) = W9 at c90 c91 c92 c93 c94 c95 c96 c97 c98
    simp [results, Try.results64, go_sem, c90, c91, c92, c93, c94, c95, c96, c97, c98]
  · obtain ⟨f0, f1, f2⟩ := of_fine hf
    have HF : Hid (takeE l = 0 ∧ hdOf l = readF (l.take (szL l)) ∧ bodyOf l = (l.drop (szL l)).take (lenL l - szL l)) := ⟨f0, f1, f2⟩
    have tl : (l.take (szL l)).length ≤ 1152921504606846976 := by simp; omega
    have t20 : 20 ≤ (l.take (szL l)).length := by obtain ⟨h1, h2, h3, h4, _⟩ := hf; simp; omega
    have B1 : Hid (Below w.heap.size w w1) := bel_trans B0.out b1
    have K1 : Hid (Blk w1 w.heap.size 42 #[.int .i64 0, .int .i64 0, .int .i64 0, .int .i64 0, .int .i64 0, .int .i64 0, .string ⟨#[]⟩, .string ⟨#[]⟩, .string ⟨#[]⟩]) := K0.out.since b1
    obtain ⟨r, hr⟩ : ∃ r, r = l.take (szL l) := ⟨_, rfl⟩
    obtain ⟨b, hb⟩ : ∃ b, b = (l.drop (szL l)).take (lenL l - szL l) := ⟨_, rfl⟩
    rw [← hr] at HF tl t20 ⊢
    rw [← hb] at HF ⊢
    clear hf f0 f1 f2 b1 hr hb
    go_wp2_with fail
    refine (read_any _ r t20 tl).mono ?_
    rintro e w2 ⟨t, i, f, o, h, p, s, d, q, rfl, hrd, b2⟩
    have HQ : Hid (readF r = ⟨t, i, f, o, h, p, s, d, q⟩) := hrd
    have B2 : Hid (Below w.heap.size w w2) := bel_trans B1.out b2
    have K2 : Hid (Blk w2 w.heap.size 42 #[.int .i64 0, .int .i64 0, .int .i64 0, .int .i64 0, .int .i64 0, .int .i64 0, .string ⟨#[]⟩, .string ⟨#[]⟩, .string ⟨#[]⟩]) := K1.out.since b2
    clear hrd b2
    have x0 : w2.cell? ⟨w.heap.size, 0, none⟩ = some (.int .i64 0) := K2.out.cell 0
    have x1 : w2.cell? ⟨w.heap.size, 1, none⟩ = some (.int .i64 0) := K2.out.cell 1
    have x2 : w2.cell? ⟨w.heap.size, 2, none⟩ = some (.int .i64 0) := K2.out.cell 2
    have x3 : w2.cell? ⟨w.heap.size, 3, none⟩ = some (.int .i64 0) := K2.out.cell 3
    have x4 : w2.cell? ⟨w.heap.size, 4, none⟩ = some (.int .i64 0) := K2.out.cell 4
    have x5 : w2.cell? ⟨w.heap.size, 5, none⟩ = some (.int .i64 0) := K2.out.cell 5
    have x6 : w2.cell? ⟨w.heap.size, 6, none⟩ = some (.string ⟨#[]⟩) := K2.out.cell 6
    have x7 : w2.cell? ⟨w.heap.size, 7, none⟩ = some (.string ⟨#[]⟩) := K2.out.cell 7
    have x8 : w2.cell? ⟨w.heap.size, 8, none⟩ = some (.string ⟨#[]⟩) := K2.out.cell 8
    have y0 := K2.out.frozen 0
    have y1 := K2.out.frozen 1
    have y2 := K2.out.frozen 2
    have y3 := K2.out.frozen 3
    have y4 := K2.out.frozen 4
    have y5 := K2.out.frozen 5
    have y6 := K2.out.frozen 6
    have y7 := K2.out.frozen 7
    have y8 := K2.out.frozen 8
    go_wp2_with fail
    refine bodyPost_ret (v := .tuple #[.agg #[.int .i64 t, .int .i64 i, .int .i64 f, .int .i64 o, .int .i64 h, .int .i64 p, .string (bsL s), .string (bsL d), .string (bsL q)], .string (bsL b), .int .i64 0]) ?_ rfl ⟨t, i, f, o, h, p, s, d, q, b, 0, rfl, ⟨by rw [HF.out.2.1, HQ.out], HF.out.2.2, HF.out.1⟩, put9_below B2.out (Nat.le_refl _) _ _ _ _ _ _ _ _ _⟩
    have c9 := put9_blk (t := 42) K2.out (.int .i64 t) (.int .i64 i) (.int .i64 f) (.int .i64 o) (.int .i64 h) (.int .i64 p) (.string (bsL s)) (.string (bsL d)) (.string (bsL q))
    have c90 := c9.cell 0
    have c91 := c9.cell 1
    have c92 := c9.cell 2
    have c93 := c9.cell 3
    have c94 := c9.cell 4
    have c95 := c9.cell 5
    have c96 := c9.cell 6
    have c97 := c9.cell 7
    have c98 := c9.cell 8
    change (results _ _).run _ (put9 w2 w.heap.size (.int .i64 t) (.int .i64 i) (.int .i64 f) (.int .i64 o) (.int .i64 h) (.int .i64 p) (.string (bsL s)) (.string (bsL d)) (.string (bsL q))) = .ok _ (put9 w2 w.heap.size (.int .i64 t) (.int .i64 i) (.int .i64 f) (.int .i64 o) (.int .i64 h) (.int .i64 p) (.string (bsL s)) (.string (bsL d)) (.string (bsL q)))
    generalize put9 w2 w.heap.size (.int .i64 t) (.int .i64 i) (.int .i64 f) (.int .i64 o) (.int .i64 h) (.int .i64 p) (.string (bsL s)) (.string (bsL d)) (.string (bsL q)) = W9 at c90 c91 c92 c93 c94 c95 c96 c97 c98
    simp [results, Try.results64, go_sem, c90, c91, c92, c93, c94, c95, c96, c97, c98]
end Go.Proofs.Yticopigpgaomjaa.L6
