
/-
  Put: what it answers of any header.
-/
import Derived.Test.YticopigpgaomjaaIp4Take
namespace Go.Proofs.Yticopigpgaomjaa.L6
open Go.RowKit Oc Ip4 Go.Deep
set_option linter.unusedVariables false

/-- What Put tells. -/
def Wrote (w : World) (s : List UInt8) (c : Int) (e : Ending) (w' : World) : Prop := e = .returned (.tuple #[.string (bsL s), .int .i64 c]) ∧ Below w.heap.size w w'
theorem or64 (X : Nat) (h : X ≤ 15) : bits .or .i64 64 (X : Int) = ((64 + X : Nat) : Int) := by
  have k := bits_or_i64 (2 ^ 6 * 1) X (by omega) (by omega)
  rw [← Nat.two_pow_add_eq_or_of_lt (i := 6) (by omega)] at k
  exact k
theorem or13 (F O : Nat) (hF : F ≤ 7) (hO : O ≤ 8191) : bits .or .i64 ((8192 * F : Nat) : Int) (O : Int) = ((8192 * F + O : Nat) : Int) := by
  have k := bits_or_i64 (2 ^ 13 * F) O (by omega) (by omega)
  rw [← Nat.two_pow_add_eq_or_of_lt (i := 13) (by omega)] at k
  exact k
set_option maxHeartbeats 1600000 in
theorem pput_no (w : World) (t i f o h p : Int) (s d q b : List UInt8) (hR : ¬ RightP ⟨t, i, f, o, h, p, s, d, q⟩) : Calls Try.prog 21 #[.agg #[.int .i64 t, .int .i64 i, .int .i64 f, .int .i64 o, .int .i64 h, .int .i64 p, .string (bsL s), .string (bsL d), .string (bsL q)], .string (bsL b)] w (Wrote w [] 1) := by
  have HR : Hid (¬ RightP ⟨t, i, f, o, h, p, s, d, q⟩) := hR
  have B1 : Hid (Below w.heap.size w (w.alloc (.cells #[.int .i64 t, .int .i64 i, .int .i64 f, .int .i64 o, .int .i64 h, .int .i64 p, .string (bsL s), .string (bsL d), .string (bsL q)] 42))) := bel_alloc _ _
  clear hR
  go_enter Try.func21, Try.ntmps21
  go_wp2_with fail
  refine (right_any _ t i f o h p s d q).mono ?_
  rintro e u1 ⟨B, rfl, hB, b1⟩
  have eB : B = false := by cases B with
    | false => rfl
    | true => exact absurd (hB.1 rfl) HR.out
  subst eB
  clear hB
  go_wp2_with fail
  go_returns
  exact ⟨rfl, bel_trans B1.out b1⟩
set_option maxHeartbeats 1600000 in
theorem pput_long (w : World) (t i f o h p : Int) (s d q b : List UInt8) (hR : RightP ⟨t, i, f, o, h, p, s, d, q⟩) (hb : 65535 < 20 + q.length + b.length) : Calls Try.prog 21 #[.agg #[.int .i64 t, .int .i64 i, .int .i64 f, .int .i64 o, .int .i64 h, .int .i64 p, .string (bsL s), .string (bsL d), .string (bsL q)], .string (bsL b)] w (Wrote w [] 1) := by
  have HR : Hid (RightP ⟨t, i, f, o, h, p, s, d, q⟩) := hR
  have B1 : Hid (Below w.heap.size w (w.alloc (.cells #[.int .i64 t, .int .i64 i, .int .i64 f, .int .i64 o, .int .i64 h, .int .i64 p, .string (bsL s), .string (bsL d), .string (bsL q)] 42))) := bel_alloc _ _
  have q40 : q.length ≤ 40 := hR.2.2.2.2.2.2.2.2.1
  have hb' : (65535 : Int) - (20 + (q.length : Int)) < (b.length : Int) := by omega
  clear hR
  go_enter Try.func21, Try.ntmps21
  go_wp2_with fail
  refine (right_any _ t i f o h p s d q).mono ?_
  rintro e u1 ⟨B, rfl, hB, b1⟩
  have eB : B = true := hB.2 HR.out
  subst eB
  clear hB
  go_wp2_with fail
  go_returns
  exact ⟨rfl, bel_trans B1.out b1⟩
set_option maxHeartbeats 3200000 in
theorem pput_ok (w : World) (T I F O L P : Nat) (s d q b : List UInt8) (hR : RightP ⟨T, I, F, O, L, P, s, d, q⟩) (hb : 20 + q.length + b.length ≤ 65535) : Calls Try.prog 21 #[.agg #[.int .i64 (T : Int), .int .i64 (I : Int), .int .i64 (F : Int), .int .i64 (O : Int), .int .i64 (L : Int), .int .i64 (P : Int), .string (bsL s), .string (bsL d), .string (bsL q)], .string (bsL b)] w (Wrote w (headL T I F O L P s d q b.length ++ b) 0) := by
  have HR : Hid (RightP ⟨T, I, F, O, L, P, s, d, q⟩) := hR
  have B1 : Hid (Below w.heap.size w (w.alloc (.cells #[.int .i64 (T : Int), .int .i64 (I : Int), .int .i64 (F : Int), .int .i64 (O : Int), .int .i64 (L : Int), .int .i64 (P : Int), .string (bsL s), .string (bsL d), .string (bsL q)] 42))) := bel_alloc _ _
  have K0 : Hid (Blk (w.alloc (.cells #[.int .i64 (T : Int), .int .i64 (I : Int), .int .i64 (F : Int), .int .i64 (O : Int), .int .i64 (L : Int), .int .i64 (P : Int), .string (bsL s), .string (bsL d), .string (bsL q)] 42)) w.heap.size 42 #[.int .i64 (T : Int), .int .i64 (I : Int), .int .i64 (F : Int), .int .i64 (O : Int), .int .i64 (L : Int), .int .i64 (P : Int), .string (bsL s), .string (bsL d), .string (bsL q)]) := Blk.new _ _ _
  obtain ⟨r1, r2, r3, r4, r5, r6, r7, r8, r9, r10⟩ := hR
  simp only at r1 r2 r3 r4 r5 r6 r7 r8 r9 r10
  have T1 : T < 256 := by omega
  have L1 : L < 256 := by omega
  have P1 : P < 256 := by omega
  have I1 : I < 65536 := by omega
  obtain ⟨Sz, hSz⟩ : ∃ Sz, Sz = 20 + q.length := ⟨_, rfl⟩
  obtain ⟨X, hX⟩ : ∃ X, X = Sz / 4 := ⟨_, rfl⟩
  obtain ⟨A, hA⟩ : ∃ A, A = 64 + X := ⟨_, rfl⟩
  obtain ⟨Ln, hLn⟩ : ∃ Ln, Ln = Sz + b.length := ⟨_, rfl⟩
  obtain ⟨G, hG⟩ : ∃ G, G = 8192 * F := ⟨_, rfl⟩
  obtain ⟨H, hH⟩ : ∃ H, H = 8192 * F + O := ⟨_, rfl⟩
  have E64 := or64 X (by omega)
  have E13 := or13 F O (by omega) (by omega)
  rw [← hA] at E64
  rw [← hH, ← hG] at E13
  have A1 : A < 256 := by omega
  have Ln1 : Ln < 65536 := by omega
  have H1 : H < 65536 := by omega
  have z1 : (20 : Int) + (q.length : Int) = (Sz : Int) := by omega
  have z2 : (Sz : Int) / 4 = (X : Int) := by omega
  have z3 : IntKind.i64.wrap (X : Int) = (X : Int) := by rw [IntKind.wrap_i64]; omega
  have z4 : (Sz : Int) + (b.length : Int) = (Ln : Int) := by omega
  have z5 : IntKind.i64.wrap (Ln : Int) = (Ln : Int) := by rw [IntKind.wrap_i64]; omega
  have z6 : (F : Int) * 8192 = (G : Int) := by omega
  have z7 : IntKind.i64.wrap (G : Int) = (G : Int) := by rw [IntKind.wrap_i64]; omega
  have z8 : ¬ (65535 : Int) - (Sz : Int) < (b.length : Int) := by omega
  have q40 : q.length ≤ 40 := r9
  have Sz1 : Sz ≤ 60 := by omega
  have b65 : b.length ≤ 65535 := by omega
  have FIN : Hid (A = 64 + (20 + q.length) / 4 ∧ Ln = 20 + q.length + b.length ∧ H = 8192 * F + O) := ⟨by omega, by omega, hH⟩
  have LS : s.length = 4 := r7
  have LD : d.length = 4 := r8
  clear r1 r2 r3 r4 r5 r6 r7 r8 r9 r10 hSz hX hA hLn hG hH hb
  obtain ⟨x1, hx1⟩ : ∃ x, x = bytesL A 1 := ⟨_, rfl⟩
  obtain ⟨x2, hx2⟩ : ∃ x, x = bytesL T 1 := ⟨_, rfl⟩
  obtain ⟨x3, hx3⟩ : ∃ x, x = bytesL Ln 2 := ⟨_, rfl⟩
  obtain ⟨x4, hx4⟩ : ∃ x, x = bytesL I 2 := ⟨_, rfl⟩
  obtain ⟨x5, hx5⟩ : ∃ x, x = bytesL H 2 := ⟨_, rfl⟩
  obtain ⟨x6, hx6⟩ : ∃ x, x = bytesL L 1 := ⟨_, rfl⟩
  obtain ⟨x7, hx7⟩ : ∃ x, x = bytesL P 1 := ⟨_, rfl⟩
  have lx1 : x1.length = 1 := by rw [hx1, bytesL_len]
  have lx2 : x2.length = 1 := by rw [hx2, bytesL_len]
  have lx3 : x3.length = 2 := by rw [hx3, bytesL_len]
  have lx4 : x4.length = 2 := by rw [hx4, bytesL_len]
  have lx5 : x5.length = 2 := by rw [hx5, bytesL_len]
  have lx6 : x6.length = 1 := by rw [hx6, bytesL_len]
  have lx7 : x7.length = 1 := by rw [hx7, bytesL_len]
  have HX1 : Hid (bytesL A 1 = x1) := hx1.symm
  have HX2 : Hid (bytesL T 1 = x2) := hx2.symm
  have HX3 : Hid (bytesL Ln 2 = x3) := hx3.symm
  have HX4 : Hid (bytesL I 2 = x4) := hx4.symm
  have HX5 : Hid (bytesL H 2 = x5) := hx5.symm
  have HX6 : Hid (bytesL L 1 = x6) := hx6.symm
  have HX7 : Hid (bytesL P 1 = x7) := hx7.symm
  have FR : Hid (x1 ++ (x2 ++ (x3 ++ (x4 ++ (x5 ++ (x6 ++ x7))))) = frontL A T Ln I H L P) := by
    show _ = _
    unfold frontL
    rw [hx1, hx2, hx3, hx4, hx5, hx6, hx7]
    simp only [List.append_assoc]
  clear hx1 hx2 hx3 hx4 hx5 hx6 hx7
  go_enter Try.func21, Try.ntmps21
  go_wp2_with fail
  refine (right_any _ T I F O L P s d q).mono ?_
  rintro e u1 ⟨B, rfl, hB, b1⟩
  have eB : B = true := hB.2 HR.out
  subst eB
  clear hB
  have BU : Hid (Below w.heap.size w u1) := bel_trans B1.out b1
  have KU : Hid (Blk u1 w.heap.size 42 #[.int .i64 (T : Int), .int .i64 (I : Int), .int .i64 (F : Int), .int .i64 (O : Int), .int .i64 (L : Int), .int .i64 (P : Int), .string (bsL s), .string (bsL d), .string (bsL q)]) := K0.out.since b1
  clear b1
  have u10 : u1.cell? ⟨w.heap.size, 0, none⟩ = some (.int .i64 (T : Int)) := KU.out.cell 0
  have u11 : u1.cell? ⟨w.heap.size, 1, none⟩ = some (.int .i64 (I : Int)) := KU.out.cell 1
  have u12 : u1.cell? ⟨w.heap.size, 2, none⟩ = some (.int .i64 (F : Int)) := KU.out.cell 2
  have u13 : u1.cell? ⟨w.heap.size, 3, none⟩ = some (.int .i64 (O : Int)) := KU.out.cell 3
  have u14 : u1.cell? ⟨w.heap.size, 4, none⟩ = some (.int .i64 (L : Int)) := KU.out.cell 4
  have u15 : u1.cell? ⟨w.heap.size, 5, none⟩ = some (.int .i64 (P : Int)) := KU.out.cell 5
  have u16 : u1.cell? ⟨w.heap.size, 6, none⟩ = some (.string (bsL s)) := KU.out.cell 6
  have u17 : u1.cell? ⟨w.heap.size, 7, none⟩ = some (.string (bsL d)) := KU.out.cell 7
  have u18 : u1.cell? ⟨w.heap.size, 8, none⟩ = some (.string (bsL q)) := KU.out.cell 8
  go_wp2_with fail
  go_region_held3 (fun w' => w'.cell? ⟨w.heap.size, 0, none⟩ = some (.int .i64 (T : Int)) ∧ w'.cell? ⟨w.heap.size, 1, none⟩ = some (.int .i64 (I : Int)) ∧ w'.cell? ⟨w.heap.size, 2, none⟩ = some (.int .i64 (F : Int)) ∧ w'.cell? ⟨w.heap.size, 3, none⟩ = some (.int .i64 (O : Int)) ∧ w'.cell? ⟨w.heap.size, 4, none⟩ = some (.int .i64 (L : Int)) ∧ w'.cell? ⟨w.heap.size, 5, none⟩ = some (.int .i64 (P : Int))) (first | go_keep | exact KQ1.out | exact KQ2.out | exact KQ3.out | exact KQ4.out | exact KQ5.out | exact KQ6.out | exact KQ7.out) (first
    | (go_simp; have fl := KB6; clear fl; go_at_call 40; refine (numw_any P 1 _ (by omega) (by omega) (by omega)).mono ?_; rintro e q7 ⟨rfl, c7⟩; rw [HX7.out]; have BQ7 : Hid (Below w.heap.size w q7) := bel_trans BQ6.out c7; have KB7 : Hid (Blk q7 w.heap.size 42 #[.int .i64 (T : Int), .int .i64 (I : Int), .int .i64 (F : Int), .int .i64 (O : Int), .int .i64 (L : Int), .int .i64 (P : Int), .string (bsL s), .string (bsL d), .string (bsL q)]) := KB6.out.since c7; have KQ7 : Hid (q7.cell? ⟨w.heap.size, 0, none⟩ = some (.int .i64 (T : Int)) ∧ q7.cell? ⟨w.heap.size, 1, none⟩ = some (.int .i64 (I : Int)) ∧ q7.cell? ⟨w.heap.size, 2, none⟩ = some (.int .i64 (F : Int)) ∧ q7.cell? ⟨w.heap.size, 3, none⟩ = some (.int .i64 (O : Int)) ∧ q7.cell? ⟨w.heap.size, 4, none⟩ = some (.int .i64 (L : Int)) ∧ q7.cell? ⟨w.heap.size, 5, none⟩ = some (.int .i64 (P : Int))) := ⟨KB7.out.cell 0, KB7.out.cell 1, KB7.out.cell 2, KB7.out.cell 3, KB7.out.cell 4, KB7.out.cell 5⟩; clear c7)
    | (go_simp; have fl := KB5; clear fl; go_at_call 40; refine (numw_any L 1 _ (by omega) (by omega) (by omega)).mono ?_; rintro e q6 ⟨rfl, c6⟩; rw [HX6.out]; have BQ6 : Hid (Below w.heap.size w q6) := bel_trans BQ5.out c6; have KB6 : Hid (Blk q6 w.heap.size 42 #[.int .i64 (T : Int), .int .i64 (I : Int), .int .i64 (F : Int), .int .i64 (O : Int), .int .i64 (L : Int), .int .i64 (P : Int), .string (bsL s), .string (bsL d), .string (bsL q)]) := KB5.out.since c6; have KQ6 : Hid (q6.cell? ⟨w.heap.size, 0, none⟩ = some (.int .i64 (T : Int)) ∧ q6.cell? ⟨w.heap.size, 1, none⟩ = some (.int .i64 (I : Int)) ∧ q6.cell? ⟨w.heap.size, 2, none⟩ = some (.int .i64 (F : Int)) ∧ q6.cell? ⟨w.heap.size, 3, none⟩ = some (.int .i64 (O : Int)) ∧ q6.cell? ⟨w.heap.size, 4, none⟩ = some (.int .i64 (L : Int)) ∧ q6.cell? ⟨w.heap.size, 5, none⟩ = some (.int .i64 (P : Int))) := ⟨KB6.out.cell 0, KB6.out.cell 1, KB6.out.cell 2, KB6.out.cell 3, KB6.out.cell 4, KB6.out.cell 5⟩; clear c6)
    | (go_simp; have fl := KB4; clear fl; go_at_call 40; refine (numw_any H 2 _ (by omega) (by omega) (by omega)).mono ?_; rintro e q5 ⟨rfl, c5⟩; rw [HX5.out]; have BQ5 : Hid (Below w.heap.size w q5) := bel_trans BQ4.out c5; have KB5 : Hid (Blk q5 w.heap.size 42 #[.int .i64 (T : Int), .int .i64 (I : Int), .int .i64 (F : Int), .int .i64 (O : Int), .int .i64 (L : Int), .int .i64 (P : Int), .string (bsL s), .string (bsL d), .string (bsL q)]) := KB4.out.since c5; have KQ5 : Hid (q5.cell? ⟨w.heap.size, 0, none⟩ = some (.int .i64 (T : Int)) ∧ q5.cell? ⟨w.heap.size, 1, none⟩ = some (.int .i64 (I : Int)) ∧ q5.cell? ⟨w.heap.size, 2, none⟩ = some (.int .i64 (F : Int)) ∧ q5.cell? ⟨w.heap.size, 3, none⟩ = some (.int .i64 (O : Int)) ∧ q5.cell? ⟨w.heap.size, 4, none⟩ = some (.int .i64 (L : Int)) ∧ q5.cell? ⟨w.heap.size, 5, none⟩ = some (.int .i64 (P : Int))) := ⟨KB5.out.cell 0, KB5.out.cell 1, KB5.out.cell 2, KB5.out.cell 3, KB5.out.cell 4, KB5.out.cell 5⟩; clear c5)
    | (go_simp; have fl := KB3; clear fl; go_at_call 40; refine (numw_any I 2 _ (by omega) (by omega) (by omega)).mono ?_; rintro e q4 ⟨rfl, c4⟩; rw [HX4.out]; have BQ4 : Hid (Below w.heap.size w q4) := bel_trans BQ3.out c4; have KB4 : Hid (Blk q4 w.heap.size 42 #[.int .i64 (T : Int), .int .i64 (I : Int), .int .i64 (F : Int), .int .i64 (O : Int), .int .i64 (L : Int), .int .i64 (P : Int), .string (bsL s), .string (bsL d), .string (bsL q)]) := KB3.out.since c4; have KQ4 : Hid (q4.cell? ⟨w.heap.size, 0, none⟩ = some (.int .i64 (T : Int)) ∧ q4.cell? ⟨w.heap.size, 1, none⟩ = some (.int .i64 (I : Int)) ∧ q4.cell? ⟨w.heap.size, 2, none⟩ = some (.int .i64 (F : Int)) ∧ q4.cell? ⟨w.heap.size, 3, none⟩ = some (.int .i64 (O : Int)) ∧ q4.cell? ⟨w.heap.size, 4, none⟩ = some (.int .i64 (L : Int)) ∧ q4.cell? ⟨w.heap.size, 5, none⟩ = some (.int .i64 (P : Int))) := ⟨KB4.out.cell 0, KB4.out.cell 1, KB4.out.cell 2, KB4.out.cell 3, KB4.out.cell 4, KB4.out.cell 5⟩; clear c4)
    | (go_simp; have fl := KB2; clear fl; go_at_call 40; refine (numw_any Ln 2 _ (by omega) (by omega) (by omega)).mono ?_; rintro e q3 ⟨rfl, c3⟩; rw [HX3.out]; have BQ3 : Hid (Below w.heap.size w q3) := bel_trans BQ2.out c3; have KB3 : Hid (Blk q3 w.heap.size 42 #[.int .i64 (T : Int), .int .i64 (I : Int), .int .i64 (F : Int), .int .i64 (O : Int), .int .i64 (L : Int), .int .i64 (P : Int), .string (bsL s), .string (bsL d), .string (bsL q)]) := KB2.out.since c3; have KQ3 : Hid (q3.cell? ⟨w.heap.size, 0, none⟩ = some (.int .i64 (T : Int)) ∧ q3.cell? ⟨w.heap.size, 1, none⟩ = some (.int .i64 (I : Int)) ∧ q3.cell? ⟨w.heap.size, 2, none⟩ = some (.int .i64 (F : Int)) ∧ q3.cell? ⟨w.heap.size, 3, none⟩ = some (.int .i64 (O : Int)) ∧ q3.cell? ⟨w.heap.size, 4, none⟩ = some (.int .i64 (L : Int)) ∧ q3.cell? ⟨w.heap.size, 5, none⟩ = some (.int .i64 (P : Int))) := ⟨KB3.out.cell 0, KB3.out.cell 1, KB3.out.cell 2, KB3.out.cell 3, KB3.out.cell 4, KB3.out.cell 5⟩; clear c3)
    | (go_simp; have fl := KB1; clear fl; go_at_call 40; refine (numw_any T 1 _ (by omega) (by omega) (by omega)).mono ?_; rintro e q2 ⟨rfl, c2⟩; rw [HX2.out]; have BQ2 : Hid (Below w.heap.size w q2) := bel_trans BQ1.out c2; have KB2 : Hid (Blk q2 w.heap.size 42 #[.int .i64 (T : Int), .int .i64 (I : Int), .int .i64 (F : Int), .int .i64 (O : Int), .int .i64 (L : Int), .int .i64 (P : Int), .string (bsL s), .string (bsL d), .string (bsL q)]) := KB1.out.since c2; have KQ2 : Hid (q2.cell? ⟨w.heap.size, 0, none⟩ = some (.int .i64 (T : Int)) ∧ q2.cell? ⟨w.heap.size, 1, none⟩ = some (.int .i64 (I : Int)) ∧ q2.cell? ⟨w.heap.size, 2, none⟩ = some (.int .i64 (F : Int)) ∧ q2.cell? ⟨w.heap.size, 3, none⟩ = some (.int .i64 (O : Int)) ∧ q2.cell? ⟨w.heap.size, 4, none⟩ = some (.int .i64 (L : Int)) ∧ q2.cell? ⟨w.heap.size, 5, none⟩ = some (.int .i64 (P : Int))) := ⟨KB2.out.cell 0, KB2.out.cell 1, KB2.out.cell 2, KB2.out.cell 3, KB2.out.cell 4, KB2.out.cell 5⟩; clear c2)
    | (go_simp; go_at_call 40; refine (numw_any A 1 _ (by omega) (by omega) (by omega)).mono ?_; rintro e q1 ⟨rfl, c1⟩; rw [HX1.out]; have BQ1 : Hid (Below w.heap.size w q1) := bel_trans BU.out ⟨c1.os, c1.tape, c1.output, c1.size, c1.block⟩; have KB1 : Hid (Blk q1 w.heap.size 42 #[.int .i64 (T : Int), .int .i64 (I : Int), .int .i64 (F : Int), .int .i64 (O : Int), .int .i64 (L : Int), .int .i64 (P : Int), .string (bsL s), .string (bsL d), .string (bsL q)]) := KU.out.drew.since c1; have KQ1 : Hid (q1.cell? ⟨w.heap.size, 0, none⟩ = some (.int .i64 (T : Int)) ∧ q1.cell? ⟨w.heap.size, 1, none⟩ = some (.int .i64 (I : Int)) ∧ q1.cell? ⟨w.heap.size, 2, none⟩ = some (.int .i64 (F : Int)) ∧ q1.cell? ⟨w.heap.size, 3, none⟩ = some (.int .i64 (O : Int)) ∧ q1.cell? ⟨w.heap.size, 4, none⟩ = some (.int .i64 (L : Int)) ∧ q1.cell? ⟨w.heap.size, 5, none⟩ = some (.int .i64 (P : Int))) := ⟨KB1.out.cell 0, KB1.out.cell 1, KB1.out.cell 2, KB1.out.cell 3, KB1.out.cell 4, KB1.out.cell 5⟩; clear c1))
  have v6 : q7.cell? ⟨w.heap.size, 6, none⟩ = some (.string (bsL s)) := KB7.out.cell 6
  have v7 : q7.cell? ⟨w.heap.size, 7, none⟩ = some (.string (bsL d)) := KB7.out.cell 7
  have v8 : q7.cell? ⟨w.heap.size, 8, none⟩ = some (.string (bsL q)) := KB7.out.cell 8
  rw [FR.out]
  obtain ⟨Y, hY⟩ : ∃ Y, Y = frontL A T Ln I H L P := ⟨_, rfl⟩
  rw [← hY]
  have lY : Y.length = 10 := by rw [hY, front_len]
  have HY : Hid (Y = frontL A T Ln I H L P) := hY
  clear KQ1 KQ2 KQ3 KQ4 KQ5 KQ6 KQ7 KB1 KB2 KB3 KB4 KB5 KB6 BQ1 BQ2 BQ3 BQ4 BQ5 BQ6 HX1 HX2 HX3 HX4 HX5 HX6 HX7 FR hY lx1 lx2 lx3 lx4 lx5 lx6 lx7
  go_wp2_with fail
  refine (numw_any 0 2 _ (by omega) (by omega) (by omega)).mono ?_
  rintro e q8 ⟨rfl, c8⟩
  have lZ : (bytesL 0 2).length = 2 := bytesL_len 0 2
  go_wp2_with fail
  refine (sum_any _ _ (by simp only [List.length_append, lY, lZ, LS, LD]; omega)).mono ?_
  rintro e q9 ⟨rfl, rfl⟩
  obtain ⟨M, hM⟩ : ∃ M, M = sumL (Y ++ (bytesL 0 2 ++ (s ++ (d ++ q)))) := ⟨_, rfl⟩
  have hM1 : M < 65536 := by rw [hM]; have := sumL_le (Y ++ (bytesL 0 2 ++ (s ++ (d ++ q)))); omega
  rw [← hM]
  have HM : Hid (M = sum0 A T Ln I H L P s d q) := by
    show M = _
    rw [hM, HY.out]
    unfold sum0 headS
    simp only [List.append_assoc]
  clear hM lZ
  go_wp2_with fail
  refine (numw_any M 2 _ (by omega) (by omega) (by omega)).mono ?_
  rintro e q10 ⟨rfl, c10⟩
  have lM : (bytesL M 2).length = 2 := bytesL_len M 2
  go_wp2_with fail
  go_returns
  refine ⟨?_, bel_trans (bel_trans BQ7.out c8) c10⟩
  have e1 : Y ++ (bytesL M 2 ++ (s ++ (d ++ (q ++ b)))) = headL T I F O L P s d q b.length ++ b := by
    unfold headL headS
    rw [HY.out, HM.out, FIN.out.1, FIN.out.2.1, FIN.out.2.2]
    simp only [List.append_assoc]
  rw [← e1]
  rfl
end Go.Proofs.Yticopigpgaomjaa.L6
