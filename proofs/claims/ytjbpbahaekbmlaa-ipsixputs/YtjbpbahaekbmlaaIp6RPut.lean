/-
  The reference's Put: what it answers of a right header.
-/
import Derived.Test.YtjbpbahaekbmlaaIp6Put2
namespace Go.Proofs.Ytjbpbahaekbmlaa
open Go.RowKit Oc Ip6 Go.Deep
set_option linter.unusedVariables false

theorem bytes_four (W : Nat) : bytesL W 4 = bytesL (W / 65536) 2 ++ bytesL (W % 65536) 2 := by
  rw [bytes_two, bytes_two]
  simp only [bytesL, List.nil_append, List.cons_append]
  rw [show W / 256 / 256 / 256 % 256 = W / 65536 / 256 % 256 by omega, show W / 256 / 256 % 256 = W / 65536 % 256 by omega, show W / 256 % 256 = W % 65536 / 256 % 256 by omega, show W % 256 = W % 65536 % 256 by omega]
theorem put_four {C : List Ex} {p : Int} {j M : Nat} {D bd S : List UInt8} (hx : C[j]? = some ⟨44, D⟩) (hM : headK (C.drop (j + 1)) p = M) (hS : S = chainL (C.drop (j + 1)) p ++ bd) : bytesL M 1 ++ (D ++ S) = chainL (C.drop j) p ++ bd := by
  rw [drop_ex hx, chainL, extL, hM, hS]
  simp
theorem put_else {C : List Ex} {p K : Int} {j M U : Nat} {D bd S : List UInt8} (hx : C[j]? = some ⟨K, D⟩) (hK : K ≠ 44) (hM : headK (C.drop (j + 1)) p = M) (hU : U = D.length / 8) (hS : S = chainL (C.drop (j + 1)) p ++ bd) : bytesL M 1 ++ (bytesL U 1 ++ (D ++ S)) = chainL (C.drop j) p ++ bd := by
  rw [drop_ex hx, chainL, extL, hM, hS, hU]
  simp [if_neg hK]
theorem chain_drop (C : List Ex) (p : Int) : ∀ j, (chainL (C.drop j) p).length ≤ (chainL C p).length
  | 0 => by simp
  | j + 1 => by
    have ih := chain_drop C p j
    rcases Nat.lt_or_ge j C.length with h | h
    · have e := drop_ex (C := C) (k := j) (x := C[j]) (by simp [h])
      rw [e, chainL, List.length_append] at ih
      omega
    · rw [List.drop_eq_nil_of_le (by omega)]; simp [chainL]
set_option maxHeartbeats 6400000 in
theorem rpput_ok (w : World) (Cl Lb Hp Pr : Nat) (s d bd : List UInt8) (C : List Ex) (A : Option Addr) (n cap : Nat) (hF : HdAt w (.agg #[.int .i64 (Cl : Int), .int .i64 (Lb : Int), .int .i64 (Hp : Int), .int .i64 (Pr : Int), .string (bsL s), .string (bsL d), .slice A n cap]) ⟨Cl, Lb, Hp, Pr, s, d, C⟩) (hR : RightP ⟨Cl, Lb, Hp, Pr, s, d, C⟩) (hb : (chainL C Pr).length + bd.length ≤ 65535) :
    Calls Try.prog 19 #[.agg #[.int .i64 (Cl : Int), .int .i64 (Lb : Int), .int .i64 (Hp : Int), .int .i64 (Pr : Int), .string (bsL s), .string (bsL d), .slice A n cap], .string (bsL bd)] w fun e w' => ∃ B : Value, e = .returned (.tuple #[.string (bsL (putL ⟨Cl, Lb, Hp, Pr, s, d, C⟩ bd)), B]) ∧ Below w.heap.size w w' := by
  have HR : Hid (RightP ⟨Cl, Lb, Hp, Pr, s, d, C⟩) := hR
  have hN : C.length ≤ 8 := hR.2.2.2.2.2.2.2.1
  obtain ⟨v, ev, hv⟩ := hF
  have ev2 : v = .slice A n cap := by simp only [Value.agg.injEq, Array.mk.injEq, List.cons.injEq, and_true, true_and] at ev; exact ev.symm
  subst ev2
  clear ev
  obtain ⟨A', cap', g, o, e5, h2, h4⟩ := hv.read
  have hC : C.length = n := by cases e5; rfl
  have hA : A = A' := by cases e5; rfl
  subst hA
  clear e5 hv h2
  rw [hC] at h4 hN
  have HC : Hid (C.length = n) := hC
  have cell : Hid (∀ i, i < n → A = some ⟨g, o, none⟩ ∧ ∃ (K : Int) (D : List UInt8), C[i]? = some ⟨K, D⟩ ∧ g < w.heap.size ∧ w.cell? ⟨g, o + i * 2, none⟩ = some (.int .i64 K) ∧ w.cell? ⟨g, o + i * 2 + 1, none⟩ = some (.string (bsL D))) := h4
  clear h4 hC
  have KM : Hid (∀ k, ∃ M : Nat, headK (C.drop k) Pr = M ∧ M < 256) := fun k => by
    have e : 0 ≤ headK (C.drop k) Pr ∧ headK (C.drop k) Pr ≤ 255 := headK_byte hR.2.2.2.1 (fun i x hx => by rw [List.getElem?_drop] at hx; exact (hR.2.2.2.2.2.2.2.2 _ x hx).1)
    exact ⟨(headK (C.drop k) Pr).toNat, by omega, by omega⟩
  have XP : Hid (∀ (i : Nat) (x : Ex), C[i]? = some x → extP i x) := hR.2.2.2.2.2.2.2.2
  have CD : Hid (∀ j, (chainL (C.drop j) Pr).length + bd.length ≤ 65535) := fun j => by have := chain_drop C Pr j; omega
  have HB : Hid ((chainL C Pr).length + bd.length ≤ 65535) := hb
  obtain ⟨r1, r2, r3, r4, r5, r6, r7, r8, r9⟩ := hR
  simp only at r1 r2 r3 r4 r6 r7
  have C1 : Cl ≤ 255 := by omega
  have L1 : Lb ≤ 1048575 := by omega
  have Hp1 : Hp < 256 := by omega
  have Pr1 : Pr < 256 := by omega
  have LS : s.length = 16 := r6
  have LD : d.length = 16 := r7
  clear r1 r2 r3 r4 r5 r6 r7 r8 r9 hb
  have ST : Hid (Below w.heap.size w (w.alloc (.cells #[.int .i64 (Cl : Int), .int .i64 (Lb : Int), .int .i64 (Hp : Int), .int .i64 (Pr : Int), .string (bsL s), .string (bsL d), .slice A n cap] 31)) ∧ Blk (w.alloc (.cells #[.int .i64 (Cl : Int), .int .i64 (Lb : Int), .int .i64 (Hp : Int), .int .i64 (Pr : Int), .string (bsL s), .string (bsL d), .slice A n cap] 31)) w.heap.size 31 #[.int .i64 (Cl : Int), .int .i64 (Lb : Int), .int .i64 (Hp : Int), .int .i64 (Pr : Int), .string (bsL s), .string (bsL d), .slice A n cap]) := ⟨bel_alloc _ _, Blk.new _ _ _⟩
  have ST2 : Hid (headK (C.drop n) Pr = (Pr : Int) ∧ bd = chainL (C.drop n) Pr ++ bd) := by
    have e : C.drop n = [] := List.drop_eq_nil_of_le (by have := HC.out; omega)
    rw [e]; exact ⟨rfl, rfl⟩
  go_enter Try.func19, Try.ntmps19
  go_wp2_with fail
  go_loopg [6, 7, 8] n (fun gm x y z wr => ∃ (j M : Nat) (S : List UInt8), (gm = j ∧ j ≤ n ∧ headK (C.drop j) Pr = M ∧ M < 256 ∧ S = chainL (C.drop j) Pr ++ bd ∧ Below w.heap.size w wr ∧ Blk wr w.heap.size 31 #[.int .i64 (Cl : Int), .int .i64 (Lb : Int), .int .i64 (Hp : Int), .int .i64 (Pr : Int), .string (bsL s), .string (bsL d), .slice A n cap]) ∧ x = .int .i64 (M : Int) ∧ y = .string (bsL S) ∧ z = .int .i64 ((j : Int) - 1))
  case atStart => exact ⟨n, Pr, bd, ⟨rfl, Nat.le_refl _, ST2.out.1, Pr1, ST2.out.2, ST.out⟩, rfl, rfl, rfl⟩
  case round =>
    clear ST ST2
    obtain ⟨j, M, S, ⟨hg, hj, hM, M1, hS, hB, hL⟩, rfl, rfl, rfl⟩ := hrel
    have HK : Hid (gk = j ∧ headK (C.drop j) Pr = M ∧ S = chainL (C.drop j) Pr ++ bd ∧ Below w.heap.size w wr ∧ Blk wr w.heap.size 31 #[.int .i64 (Cl : Int), .int .i64 (Lb : Int), .int .i64 (Hp : Int), .int .i64 (Pr : Int), .string (bsL s), .string (bsL d), .slice A n cap]) := ⟨hg, hM, hS, hB, hL⟩
    have Sl : S.length ≤ 65535 := by rw [hS, List.length_append]; exact CD.out j
    have xl : w.heap.size < wr.heap.size := hL.lt
    clear hg hM hS
    cases j with
    | zero =>
      have FIN : Hid (∀ N : Nat, N = S.length → putL ⟨Cl, Lb, Hp, Pr, s, d, C⟩ bd = bytesL (1610612736 + 1048576 * Cl + Lb) 4 ++ (bytesL N 2 ++ (bytesL M 1 ++ (bytesL Hp 1 ++ (s ++ (d ++ S)))))) := fun N hN => by
        have e1 : headK C Pr = M := HK.out.2.1
        have e2 : S = chainL C Pr ++ bd := HK.out.2.2.1
        unfold putL frontL
        simp only [e1, Int.toNat_natCast, hN, e2, List.append_assoc, List.length_append]
      have BV : Hid (Below w.heap.size w wr) := hB
      have KV : Hid (Blk wr w.heap.size 31 #[.int .i64 (Cl : Int), .int .i64 (Lb : Int), .int .i64 (Hp : Int), .int .i64 (Pr : Int), .string (bsL s), .string (bsL d), .slice A n cap]) := hL
      obtain ⟨G, hG⟩ : ∃ G, G = 1048576 * Cl := ⟨_, rfl⟩
      obtain ⟨Hh, hH⟩ : ∃ H, H = 1610612736 + G := ⟨_, rfl⟩
      obtain ⟨W, hW⟩ : ∃ W, W = Hh + Lb := ⟨_, rfl⟩
      obtain ⟨Wa, hWa⟩ : ∃ x, x = W / 65536 := ⟨_, rfl⟩
      obtain ⟨Wb, hWb⟩ : ∃ x, x = W % 65536 := ⟨_, rfl⟩
      have zG : (1048576 : Int) * (Cl : Int) = (G : Int) := by omega
      have zH : (1610612736 : Int) + (G : Int) = (Hh : Int) := by omega
      have zW : (Hh : Int) + (Lb : Int) = (W : Int) := by omega
      have zWa : (W : Int) / 65536 = (Wa : Int) := by omega
      have zWb : (W : Int) % 65536 = (Wb : Int) := by omega
      have Gl : G ≤ 267386880 := by omega
      have Hl : Hh ≤ 1877999616 := by omega
      have Wl : W ≤ 1879048191 := by omega
      have zS : (S.length : Int) % 65536 = (S.length : Int) := by omega
      have w1 : IntKind.i64.wrap (Wa : Int) = (Wa : Int) := by rw [IntKind.wrap_i64]; omega
      have w2 : IntKind.i64.wrap (Wb : Int) = (Wb : Int) := by rw [IntKind.wrap_i64]; omega
      have w3 : IntKind.i64.wrap (S.length : Int) = (S.length : Int) := by rw [IntKind.wrap_i64]; omega
      have tW : (W : Int).tmod 65536 = (Wb : Int) := by rw [Int.tmod_eq_emod_of_nonneg (by omega)]; exact zWb
      have tS : (S.length : Int).tmod 65536 = (S.length : Int) := by rw [Int.tmod_eq_emod_of_nonneg (by omega)]; exact zS
      have Wa1 : Wa < 65536 := by omega
      have Wb1 : Wb < 65536 := by omega
      have Sn1 : S.length < 65536 := by omega
      obtain ⟨x1, hx1⟩ : ∃ x, x = bytesL Wa 2 := ⟨_, rfl⟩
      obtain ⟨x2, hx2⟩ : ∃ x, x = bytesL Wb 2 := ⟨_, rfl⟩
      obtain ⟨x3, hx3⟩ : ∃ x, x = bytesL S.length 2 := ⟨_, rfl⟩
      obtain ⟨x4, hx4⟩ : ∃ x, x = bytesL M 1 := ⟨_, rfl⟩
      obtain ⟨x5, hx5⟩ : ∃ x, x = bytesL Hp 1 := ⟨_, rfl⟩
      have lx1 : x1.length = 2 := by rw [hx1, bytesL_len]
      have lx2 : x2.length = 2 := by rw [hx2, bytesL_len]
      have lx3 : x3.length = 2 := by rw [hx3, bytesL_len]
      have lx4 : x4.length = 1 := by rw [hx4, bytesL_len]
      have lx5 : x5.length = 1 := by rw [hx5, bytesL_len]
      have HX1 : Hid (bytesL Wa 2 = x1) := hx1.symm
      have HX2 : Hid (bytesL Wb 2 = x2) := hx2.symm
      have HX3 : Hid (bytesL S.length 2 = x3) := hx3.symm
      have HX4 : Hid (bytesL M 1 = x4) := hx4.symm
      have HX5 : Hid (bytesL Hp 1 = x5) := hx5.symm
      have FN : Hid (putL ⟨Cl, Lb, Hp, Pr, s, d, C⟩ bd = x1 ++ (x2 ++ (x3 ++ (x4 ++ (x5 ++ (s ++ (d ++ S))))))) := by
        show _ = _
        rw [FIN.out S.length rfl, show 1610612736 + 1048576 * Cl + Lb = W by omega, bytes_four W, ← hWa, ← hWb, ← hx1, ← hx2, ← hx3, ← hx4, ← hx5, List.append_assoc]
      clear hG hH hW hWa hWb hx1 hx2 hx3 hx4 hx5 hB hL FIN
      have g1 : ¬ 9223372036854775807 < 40 + S.length := by omega
      have nj : ((0 : Nat) : Int) - 1 = -1 := by omega
      have e0 : wr.cell? ⟨w.heap.size, 0, none⟩ = some (.int .i64 (Cl : Int)) := KV.out.cell 0
      have e1 : wr.cell? ⟨w.heap.size, 1, none⟩ = some (.int .i64 (Lb : Int)) := KV.out.cell 1
      have e2 : wr.cell? ⟨w.heap.size, 2, none⟩ = some (.int .i64 (Hp : Int)) := KV.out.cell 2
      have e3 : wr.cell? ⟨w.heap.size, 3, none⟩ = some (.int .i64 (Pr : Int)) := KV.out.cell 3
      have e4 : wr.cell? ⟨w.heap.size, 4, none⟩ = some (.string (bsL s)) := KV.out.cell 4
      have e5 : wr.cell? ⟨w.heap.size, 5, none⟩ = some (.string (bsL d)) := KV.out.cell 5
      have e6 : wr.cell? ⟨w.heap.size, 6, none⟩ = some (.slice A n cap) := KV.out.cell 6
      rw [nj]
      go_wp2_with fail
      go_region_held3 (fun w' => w'.cell? ⟨w.heap.size, 2, none⟩ = some (.int .i64 (Hp : Int)) ∧ w'.cell? ⟨w.heap.size, 4, none⟩ = some (.string (bsL s)) ∧ w'.cell? ⟨w.heap.size, 5, none⟩ = some (.string (bsL d))) (first | go_keep | exact KQ1.out | exact KQ2.out | exact KQ3.out | exact KQ4.out | exact KQ5.out) (first
        | (go_simp; have fl := KB4; clear fl; go_at_call 32; refine (rone_any (Hp) _ Hp1).mono ?_; rintro e q5 ⟨rfl, c5⟩; rw [HX5.out]; have BQ5 : Hid (Below w.heap.size w q5) := bel_trans BQ4.out c5; have KB5 : Hid (Blk q5 w.heap.size 31 #[.int .i64 (Cl : Int), .int .i64 (Lb : Int), .int .i64 (Hp : Int), .int .i64 (Pr : Int), .string (bsL s), .string (bsL d), .slice A n cap]) := KB4.out.since c5; have KQ5 : Hid (q5.cell? ⟨w.heap.size, 2, none⟩ = some (.int .i64 (Hp : Int)) ∧ q5.cell? ⟨w.heap.size, 4, none⟩ = some (.string (bsL s)) ∧ q5.cell? ⟨w.heap.size, 5, none⟩ = some (.string (bsL d))) := ⟨KB5.out.cell 2, KB5.out.cell 4, KB5.out.cell 5⟩; clear c5)
        | (go_simp; have fl := KB3; clear fl; go_at_call 32; refine (rone_any (M) _ M1).mono ?_; rintro e q4 ⟨rfl, c4⟩; rw [HX4.out]; have BQ4 : Hid (Below w.heap.size w q4) := bel_trans BQ3.out c4; have KB4 : Hid (Blk q4 w.heap.size 31 #[.int .i64 (Cl : Int), .int .i64 (Lb : Int), .int .i64 (Hp : Int), .int .i64 (Pr : Int), .string (bsL s), .string (bsL d), .slice A n cap]) := KB3.out.since c4; have KQ4 : Hid (q4.cell? ⟨w.heap.size, 2, none⟩ = some (.int .i64 (Hp : Int)) ∧ q4.cell? ⟨w.heap.size, 4, none⟩ = some (.string (bsL s)) ∧ q4.cell? ⟨w.heap.size, 5, none⟩ = some (.string (bsL d))) := ⟨KB4.out.cell 2, KB4.out.cell 4, KB4.out.cell 5⟩; clear c4)
        | (go_simp; have fl := KB2; clear fl; go_at_call 33; refine (rtwo_any (S.length) _ Sn1).mono ?_; rintro e q3 ⟨rfl, c3⟩; rw [HX3.out]; have BQ3 : Hid (Below w.heap.size w q3) := bel_trans BQ2.out c3; have KB3 : Hid (Blk q3 w.heap.size 31 #[.int .i64 (Cl : Int), .int .i64 (Lb : Int), .int .i64 (Hp : Int), .int .i64 (Pr : Int), .string (bsL s), .string (bsL d), .slice A n cap]) := KB2.out.since c3; have KQ3 : Hid (q3.cell? ⟨w.heap.size, 2, none⟩ = some (.int .i64 (Hp : Int)) ∧ q3.cell? ⟨w.heap.size, 4, none⟩ = some (.string (bsL s)) ∧ q3.cell? ⟨w.heap.size, 5, none⟩ = some (.string (bsL d))) := ⟨KB3.out.cell 2, KB3.out.cell 4, KB3.out.cell 5⟩; clear c3)
        | (go_simp; have fl := KB1; clear fl; go_at_call 33; refine (rtwo_any (Wb) _ Wb1).mono ?_; rintro e q2 ⟨rfl, c2⟩; rw [HX2.out]; have BQ2 : Hid (Below w.heap.size w q2) := bel_trans BQ1.out c2; have KB2 : Hid (Blk q2 w.heap.size 31 #[.int .i64 (Cl : Int), .int .i64 (Lb : Int), .int .i64 (Hp : Int), .int .i64 (Pr : Int), .string (bsL s), .string (bsL d), .slice A n cap]) := KB1.out.since c2; have KQ2 : Hid (q2.cell? ⟨w.heap.size, 2, none⟩ = some (.int .i64 (Hp : Int)) ∧ q2.cell? ⟨w.heap.size, 4, none⟩ = some (.string (bsL s)) ∧ q2.cell? ⟨w.heap.size, 5, none⟩ = some (.string (bsL d))) := ⟨KB2.out.cell 2, KB2.out.cell 4, KB2.out.cell 5⟩; clear c2)
        | (go_simp; go_at_call 33; refine (rtwo_any (Wa) _ Wa1).mono ?_; rintro e q1 ⟨rfl, c1⟩; rw [HX1.out]; have BQ1 : Hid (Below w.heap.size w q1) := bel_trans BV.out ⟨c1.os, c1.tape, c1.output, c1.size, c1.block⟩; have KB1 : Hid (Blk q1 w.heap.size 31 #[.int .i64 (Cl : Int), .int .i64 (Lb : Int), .int .i64 (Hp : Int), .int .i64 (Pr : Int), .string (bsL s), .string (bsL d), .slice A n cap]) := KV.out.drew.since c1; have KQ1 : Hid (q1.cell? ⟨w.heap.size, 2, none⟩ = some (.int .i64 (Hp : Int)) ∧ q1.cell? ⟨w.heap.size, 4, none⟩ = some (.string (bsL s)) ∧ q1.cell? ⟨w.heap.size, 5, none⟩ = some (.string (bsL d))) := ⟨KB1.out.cell 2, KB1.out.cell 4, KB1.out.cell 5⟩; clear c1))
      all_goals go_wp2_with fail
      all_goals go_returns
      all_goals exact ⟨_, by rw [FN.out]; first | rfl | (simp only [List.append_assoc]; rfl), BQ5.out⟩
    | succ j =>
      obtain ⟨rfl, K, D, hx, hb, e1, e2⟩ := cell.out j (by omega)
      have t1 := (hB.cell (World.block_lt_of_cell? _ _ e1)).trans e1
      have t2 := (hB.cell (World.block_lt_of_cell? _ _ e2)).trans e2
      have x6 : wr.cell? ⟨w.heap.size, 6, none⟩ = some (.slice (some ⟨g, o, none⟩) n cap) := hL.cell 6
      have bn : (j : Int) < n := by omega
      have HX : Hid (C[j]? = some ⟨K, D⟩) := hx
      have XQ : Hid (extP j ⟨K, D⟩) := XP.out j _ hx
      have nj : ((j + 1 : Nat) : Int) - 1 = (j : Int) := by omega
      have BX : Hid (Below w.heap.size w (wr.alloc (.cells #[.int .i64 K, .string (bsL D)] 58)) ∧ Blk (wr.alloc (.cells #[.int .i64 K, .string (bsL D)] 58)) w.heap.size 31 #[.int .i64 (Cl : Int), .int .i64 (Lb : Int), .int .i64 (Hp : Int), .int .i64 (Pr : Int), .string (bsL s), .string (bsL d), .slice (some ⟨g, o, none⟩) n cap] ∧ Blk (wr.alloc (.cells #[.int .i64 K, .string (bsL D)] 58)) wr.heap.size 58 #[.int .i64 K, .string (bsL D)]) := ⟨hB.alloc hB.size _, hL.alloc _, Blk.new _ _ _⟩
      obtain ⟨y1, hy1⟩ : ∃ y, y = bytesL M 1 := ⟨_, rfl⟩
      have ly1 : y1.length = 1 := by rw [hy1, bytesL_len]
      have HY1 : Hid (bytesL M 1 = y1) := hy1.symm
      have hDl : D.length ≤ 2046 := data_le (XP.out j _ hx).2.2
      clear hB hL e1 e2 hx hy1
      rw [nj]
      by_cases hk4 : K = 44
      · subst hk4
        have NX : Hid (y1 ++ (D ++ S) = chainL (C.drop j) Pr ++ bd) := by
          show _ = _
          rw [← HY1.out]; exact put_four HX.out HK.out.2.1 HK.out.2.2.1
        go_upto_region 8 with fail
        generalize wr.alloc (.cells #[.int .i64 44, .string (bsL D)] 58) = q0 at BX ⊢
        generalize wr.heap.size = gx at BX ⊢
        have c1 : q0.cell? ⟨gx, 1, none⟩ = some (.string (bsL D)) := BX.out.2.2.cell 1
        have c0 : q0.cell? ⟨gx, 0, none⟩ = some (.int .i64 44) := BX.out.2.2.cell 0
        clear x6 t1 t2
        have k1 : ¬ 9223372036854775807 < 1 + D.length := by omega
        have k2 : ¬ 9223372036854775807 < 1 + D.length + S.length := by omega
        have k3 : ¬ 9223372036854775807 < 1 + (D.length + S.length) := by omega
        go_wp2_with fail
        go_region_held3 (fun w' => w'.cell? ⟨gx, 0, none⟩ = some (.int .i64 44) ∧ w'.cell? ⟨gx, 1, none⟩ = some (.string (bsL D))) (first | go_keep | exact KQ1.out) (first
          | (go_simp; go_at_call 32; refine (rone_any M _ M1).mono ?_; rintro e q1 ⟨rfl, d1⟩; rw [HY1.out]; have R1 : Hid (Below w.heap.size w q1 ∧ Blk q1 w.heap.size 31 #[.int .i64 (Cl : Int), .int .i64 (Lb : Int), .int .i64 (Hp : Int), .int .i64 (Pr : Int), .string (bsL s), .string (bsL d), .slice (some ⟨g, o, none⟩) n cap] ∧ Blk q1 gx 58 #[.int .i64 44, .string (bsL D)]) := ⟨bel_trans BX.out.1 ⟨d1.os, d1.tape, d1.output, d1.size, d1.block⟩, BX.out.2.1.drew.since d1, BX.out.2.2.drew.since d1⟩; have KQ1 : Hid (q1.cell? ⟨gx, 0, none⟩ = some (.int .i64 44) ∧ q1.cell? ⟨gx, 1, none⟩ = some (.string (bsL D))) := ⟨R1.out.2.2.cell 0, R1.out.2.2.cell 1⟩; clear d1))
        all_goals have d0 : q1.cell? ⟨gx, 0, none⟩ = some (.int .i64 44) := R1.out.2.2.cell 0
        all_goals go_wp2_with fail
        all_goals go_roundg j
        all_goals first | (have := HK.out.1; omega) | exact ⟨j, 44, _, ⟨rfl, by omega, headK_at HX.out _, by omega, (by first | exact NX.out | (rw [← NX.out]; simp only [List.append_assoc])), R1.out.1, R1.out.2.1⟩, rfl, rfl, by go_num⟩
      · have q4 : (K == 44) = false := by simpa using hk4
        have H4 : Hid (K ≠ 44) := hk4
        have hD := XQ.out.2.2.2 hk4
        change 6 ≤ D.length ∧ D.length ≤ 2046 ∧ D.length % 8 = 6 at hD
        obtain ⟨KN, hKN, KN1⟩ : ∃ KN : Nat, K = KN ∧ KN < 256 := ⟨K.toNat, by have := isX_byte XQ.out.1; simp only at this; omega, by have := isX_byte XQ.out.1; simp only at this; omega⟩
        subst hKN
        obtain ⟨U, hU⟩ : ∃ U, U = D.length / 8 := ⟨_, rfl⟩
        have HU : Hid (U = D.length / 8) := hU
        have U1 : U < 256 := by omega
        have zU : (D.length : Int) / 8 = (U : Int) := by omega
        have zU2 : IntKind.i64.wrap (U : Int) = (U : Int) := by rw [IntKind.wrap_i64]; omega
        obtain ⟨y2, hy2⟩ : ∃ y, y = bytesL U 1 := ⟨_, rfl⟩
        have ly2 : y2.length = 1 := by rw [hy2, bytesL_len]
        have HY2 : Hid (bytesL U 1 = y2) := hy2.symm
        have NX : Hid (y1 ++ (y2 ++ (D ++ S)) = chainL (C.drop j) Pr ++ bd) := by
          show _ = _
          rw [← HY1.out, ← HY2.out]; exact put_else HX.out H4.out HK.out.2.1 HU.out HK.out.2.2.1
        clear hk4 hD hU hy2
        go_upto_region 9 with fail
        generalize wr.alloc (.cells #[.int .i64 (KN : Int), .string (bsL D)] 58) = q0 at BX ⊢
        generalize wr.heap.size = gx at BX ⊢
        have c1 : q0.cell? ⟨gx, 1, none⟩ = some (.string (bsL D)) := BX.out.2.2.cell 1
        have c0 : q0.cell? ⟨gx, 0, none⟩ = some (.int .i64 (KN : Int)) := BX.out.2.2.cell 0
        clear x6 t1 t2
        have k1 : ¬ 9223372036854775807 < 2 + D.length := by omega
        have k2 : ¬ 9223372036854775807 < 2 + D.length + S.length := by omega
        have k3 : ¬ 9223372036854775807 < 2 + (D.length + S.length) := by omega
        have k4 : ¬ 9223372036854775807 < 1 + (1 + D.length) + S.length := by omega
        have k5 : ¬ 9223372036854775807 < 1 + (1 + (D.length + S.length)) := by omega
        go_wp2_with fail
        go_region_held3 (fun w' => w'.cell? ⟨gx, 0, none⟩ = some (.int .i64 (KN : Int)) ∧ w'.cell? ⟨gx, 1, none⟩ = some (.string (bsL D))) (first | go_keep | exact KQ2.out | exact KQ1.out) (first
          | (go_simp; have fl := R1; clear fl; go_at_call 32; refine (rone_any U _ U1).mono ?_; rintro e q2 ⟨rfl, d2⟩; rw [HY2.out]; have R2 : Hid (Below w.heap.size w q2 ∧ Blk q2 w.heap.size 31 #[.int .i64 (Cl : Int), .int .i64 (Lb : Int), .int .i64 (Hp : Int), .int .i64 (Pr : Int), .string (bsL s), .string (bsL d), .slice (some ⟨g, o, none⟩) n cap] ∧ Blk q2 gx 58 #[.int .i64 (KN : Int), .string (bsL D)]) := ⟨bel_trans R1.out.1 d2, R1.out.2.1.since d2, R1.out.2.2.since d2⟩; have KQ2 : Hid (q2.cell? ⟨gx, 0, none⟩ = some (.int .i64 (KN : Int)) ∧ q2.cell? ⟨gx, 1, none⟩ = some (.string (bsL D))) := ⟨R2.out.2.2.cell 0, R2.out.2.2.cell 1⟩; clear d2)
          | (go_simp; go_at_call 32; refine (rone_any M _ M1).mono ?_; rintro e q1 ⟨rfl, d1⟩; rw [HY1.out]; have R1 : Hid (Below w.heap.size w q1 ∧ Blk q1 w.heap.size 31 #[.int .i64 (Cl : Int), .int .i64 (Lb : Int), .int .i64 (Hp : Int), .int .i64 (Pr : Int), .string (bsL s), .string (bsL d), .slice (some ⟨g, o, none⟩) n cap] ∧ Blk q1 gx 58 #[.int .i64 (KN : Int), .string (bsL D)]) := ⟨bel_trans BX.out.1 ⟨d1.os, d1.tape, d1.output, d1.size, d1.block⟩, BX.out.2.1.drew.since d1, BX.out.2.2.drew.since d1⟩; have KQ1 : Hid (q1.cell? ⟨gx, 0, none⟩ = some (.int .i64 (KN : Int)) ∧ q1.cell? ⟨gx, 1, none⟩ = some (.string (bsL D))) := ⟨R1.out.2.2.cell 0, R1.out.2.2.cell 1⟩; clear d1))
        all_goals have d0 : q2.cell? ⟨gx, 0, none⟩ = some (.int .i64 (KN : Int)) := R2.out.2.2.cell 0
        all_goals go_wp2_with fail
        all_goals go_roundg j
        all_goals first | (have := HK.out.1; omega) | exact ⟨j, KN, _, ⟨rfl, by omega, headK_at HX.out _, KN1, (by first | exact NX.out | (rw [← NX.out]; simp only [List.append_assoc])), R2.out.1, R2.out.2.1⟩, rfl, rfl, by go_num⟩
end Go.Proofs.Ytjbpbahaekbmlaa
