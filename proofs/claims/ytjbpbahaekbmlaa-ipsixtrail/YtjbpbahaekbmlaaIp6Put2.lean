/-
  Put: what it answers of any header with any body.
-/
import Derived.Test.YtjbpbahaekbmlaaIp6Put
namespace Go.Proofs.Ytjbpbahaekbmlaa
open Go.RowKit Oc Ip6 Go.Deep
set_option linter.unusedVariables false

/-- What Put tells. -/
def Wrote (w : World) (s : List UInt8) (c : Int) (e : Ending) (w' : World) : Prop := e = .returned (.tuple #[.string (bsL s), .int .i64 c]) ∧ Below w.heap.size w w'
theorem or28 (G : Nat) (h : G < 268435456) : bits .or .i64 1610612736 (G : Int) = ((1610612736 + G : Nat) : Int) := by
  have k := bits_or_i64 (2 ^ 28 * 6) G (by omega) (by omega)
  rw [← Nat.two_pow_add_eq_or_of_lt (i := 28) (by omega)] at k
  exact k
theorem or20 (C L : Nat) (hC : C ≤ 255) (hL : L ≤ 1048575) : bits .or .i64 ((1610612736 + 1048576 * C : Nat) : Int) (L : Int) = ((1610612736 + 1048576 * C + L : Nat) : Int) := by
  have k := bits_or_i64 (2 ^ 20 * (1536 + C)) L (by omega) (by omega)
  rw [← Nat.two_pow_add_eq_or_of_lt (i := 20) (by omega)] at k
  rw [show 2 ^ 20 * (1536 + C) = 1610612736 + 1048576 * C by omega] at k
  exact k
set_option maxHeartbeats 1600000 in
theorem pput_no (w : World) (x : Value) (F : Hd) (bd : List UInt8) (hF : HdAt w x F) (hn : F.ch.length ≤ 9223372036854775807) (hR : ¬ RightP F) : Calls Try.prog 16 #[x, .string (bsL bd)] w (Wrote w [] 1) := by
  have HR : Hid (¬ RightP F) := hR
  have HF : Hid (∀ w' : World, Keep w w' → HdAt w' x F) := fun w' k => hF.keep k
  have HN : Hid (F.ch.length ≤ 9223372036854775807) := hn
  clear hR hn
  obtain ⟨v, rfl, hv⟩ := hF
  have B1 : Hid (Below w.heap.size w (w.alloc (.cells #[.int .i64 F.cls, .int .i64 F.lab, .int .i64 F.hop, .int .i64 F.pro, .string (bsL F.src), .string (bsL F.dst), v] 25))) := bel_alloc _ _
  clear hv
  go_enter Try.func16, Try.ntmps16
  go_wp2_with fail
  refine (right_any _ _ F (HF.out _ (keep_of_below B1.out)) HN.out).mono ?_
  rintro e u1 ⟨B, rfl, hB, b1⟩
  have eB : B = false := by cases B with
    | false => rfl
    | true => exact absurd (hB.1 rfl) HR.out
  subst eB
  clear hB
  go_wp2_with fail
  go_returns
  exact ⟨rfl, bel_trans B1.out b1⟩
/-- A right header's numbers. -/
theorem right_nat {F : Hd} (hR : RightP F) : ∃ Cl Lb Hp Pr : Nat, F = ⟨Cl, Lb, Hp, Pr, F.src, F.dst, F.ch⟩ ∧ Cl ≤ 255 ∧ Lb ≤ 1048575 ∧ Hp ≤ 255 ∧ Pr ≤ 255 := by
  obtain ⟨c, b, h, p, s, d, C⟩ := F
  obtain ⟨r1, r2, r3, r4, _⟩ := hR
  simp only at r1 r2 r3 r4
  refine ⟨c.toNat, b.toNat, h.toNat, p.toNat, ?_, by omega, by omega, by omega, by omega⟩
  simp only [Hd.mk.injEq, and_true]
  omega
set_option maxHeartbeats 3200000 in
theorem pput_two (w : World) (Cl Lb Hp Pr : Nat) (s d bd : List UInt8) (C : List Ex) (A : Option Addr) (n cap : Nat) (hF : HdAt w (.agg #[.int .i64 (Cl : Int), .int .i64 (Lb : Int), .int .i64 (Hp : Int), .int .i64 (Pr : Int), .string (bsL s), .string (bsL d), .slice A n cap]) ⟨Cl, Lb, Hp, Pr, s, d, C⟩) (hR : RightP ⟨Cl, Lb, Hp, Pr, s, d, C⟩) (hb : bd.length ≤ 1152921504606846976) :
    Calls Try.prog 16 #[.agg #[.int .i64 (Cl : Int), .int .i64 (Lb : Int), .int .i64 (Hp : Int), .int .i64 (Pr : Int), .string (bsL s), .string (bsL d), .slice A n cap], .string (bsL bd)] w (fun e w' => ((chainL C Pr).length + bd.length ≤ 65535 → Wrote w (putL ⟨Cl, Lb, Hp, Pr, s, d, C⟩ bd) 0 e w') ∧ (65535 < (chainL C Pr).length + bd.length → Wrote w [] 1 e w')) := by
  have HF : Hid (∀ w' : World, Keep w w' → HdAt w' (.agg #[.int .i64 (Cl : Int), .int .i64 (Lb : Int), .int .i64 (Hp : Int), .int .i64 (Pr : Int), .string (bsL s), .string (bsL d), .slice A n cap]) ⟨Cl, Lb, Hp, Pr, s, d, C⟩) := fun w' k => hF.keep k
  have HR : Hid (RightP ⟨Cl, Lb, Hp, Pr, s, d, C⟩) := hR
  have B1 : Hid (Below w.heap.size w (w.alloc (.cells #[.int .i64 (Cl : Int), .int .i64 (Lb : Int), .int .i64 (Hp : Int), .int .i64 (Pr : Int), .string (bsL s), .string (bsL d), .slice A n cap] 25))) := bel_alloc _ _
  have K0 : Hid (Blk (w.alloc (.cells #[.int .i64 (Cl : Int), .int .i64 (Lb : Int), .int .i64 (Hp : Int), .int .i64 (Pr : Int), .string (bsL s), .string (bsL d), .slice A n cap] 25)) w.heap.size 25 #[.int .i64 (Cl : Int), .int .i64 (Lb : Int), .int .i64 (Hp : Int), .int .i64 (Pr : Int), .string (bsL s), .string (bsL d), .slice A n cap]) := Blk.new _ _ _
  have hN : C.length ≤ 8 := hR.2.2.2.2.2.2.2.1
  have XL := right_len hR
  change (chainL C Pr).length ≤ 16384 at XL
  have hM0 := right_head hR
  change 0 ≤ headK C Pr ∧ headK C Pr ≤ 255 at hM0
  obtain ⟨r1, r2, r3, r4, r5, r6, r7, r8, r9⟩ := hR
  simp only at r1 r2 r3 r4 r6 r7
  have C1 : Cl ≤ 255 := by omega
  have L1 : Lb ≤ 1048575 := by omega
  have Hp1 : Hp < 256 := by omega
  have LS : s.length = 16 := r6
  have LD : d.length = 16 := r7
  clear r1 r2 r3 r4 r5 r6 r7 r8 r9
  obtain ⟨M, hM⟩ : ∃ M : Nat, headK C Pr = M := ⟨(headK C Pr).toNat, by omega⟩
  have M1 : M < 256 := by omega
  have KF : Hid (∀ w' : World, Keep w w' → Calls Try.prog 28 #[.agg #[.int .i64 (Cl : Int), .int .i64 (Lb : Int), .int .i64 (Hp : Int), .int .i64 (Pr : Int), .string (bsL s), .string (bsL d), .slice A n cap], .int .i64 0] w' fun e w'' => e = .returned (.int .i64 (M : Int)) ∧ Below w'.heap.size w' w'') := fun w' kp => by
    have t := kind_any w' _ _ 0 (HF.out w' kp) (Nat.zero_le _) (by show C.length ≤ 9223372036854775807; omega)
    simp only [List.drop_zero, hM] at t
    exact t
  have CB : Hid (∀ w' : World, Keep w w' → Calls Try.prog 26 #[.agg #[.int .i64 (Cl : Int), .int .i64 (Lb : Int), .int .i64 (Hp : Int), .int .i64 (Pr : Int), .string (bsL s), .string (bsL d), .slice A n cap]] w' fun e w'' => e = .returned (.string (bsL (chainL C Pr))) ∧ Below w'.heap.size w' w'') := fun w' kp => bytes_any w' _ _ (HF.out w' kp) HR.out
  have PE : Hid (∀ N, N = (chainL C Pr).length + bd.length → putL ⟨Cl, Lb, Hp, Pr, s, d, C⟩ bd = bytesL (1610612736 + 1048576 * Cl + Lb) 4 ++ (bytesL N 2 ++ (bytesL M 1 ++ (bytesL Hp 1 ++ (s ++ (d ++ (chainL C Pr ++ bd))))))) := fun N hN => by
    unfold putL frontL
    simp only [hM, Int.toNat_natCast, hN, List.append_assoc]
  generalize chainL C Pr = X at XL CB PE ⊢
  clear hM0 hM
  obtain ⟨G, hG⟩ : ∃ G, G = 1048576 * Cl := ⟨_, rfl⟩
  obtain ⟨Hh, hH⟩ : ∃ H, H = 1610612736 + G := ⟨_, rfl⟩
  obtain ⟨W, hW⟩ : ∃ W, W = Hh + Lb := ⟨_, rfl⟩
  have E1 : bits .or .i64 1610612736 (G : Int) = (Hh : Int) := by rw [or28 G (by omega), hH]
  have E2 : bits .or .i64 (Hh : Int) (Lb : Int) = (W : Int) := by rw [hH, hG, or20 Cl Lb C1 L1, hW, hH, hG]
  have zG : (Cl : Int) * 1048576 = (G : Int) := by omega
  have zG2 : IntKind.i64.wrap (G : Int) = (G : Int) := by rw [IntKind.wrap_i64]; omega
  have W1 : W < 4294967296 := by omega
  have HWd : Hid (1610612736 + 1048576 * Cl + Lb = W) := by show _ = _; omega
  obtain ⟨Ln, hLn⟩ : ∃ Ln, Ln = X.length + bd.length := ⟨_, rfl⟩
  have zL : (X.length : Int) + (bd.length : Int) = (Ln : Int) := by omega
  have HLn : Hid (Ln = X.length + bd.length) := hLn
  have Ln9 : Ln ≤ 1152921504606863360 := by omega
  clear hG hH hW hLn
  by_cases hl : (65535 : Int) < Ln
  · go_enter Try.func16, Try.ntmps16
    go_wp2_with fail
    refine (right_any _ _ ⟨Cl, Lb, Hp, Pr, s, d, C⟩ (HF.out _ (keep_of_below B1.out)) (by show C.length ≤ 9223372036854775807; omega)).mono ?_
    rintro e u1 ⟨B, rfl, hB, b1⟩
    have eB : B = true := hB.2 HR.out
    subst eB
    clear hB
    have BU : Hid (Below w.heap.size w u1) := bel_trans B1.out b1
    have KU : Hid (Blk u1 w.heap.size 25 #[.int .i64 (Cl : Int), .int .i64 (Lb : Int), .int .i64 (Hp : Int), .int .i64 (Pr : Int), .string (bsL s), .string (bsL d), .slice A n cap]) := K0.out.since b1
    clear b1
    have x0 : u1.cell? ⟨w.heap.size, 0, none⟩ = some (.int .i64 (Cl : Int)) := KU.out.cell 0
    have a1 : u1.cell? ⟨w.heap.size, 1, none⟩ = some (.int .i64 (Lb : Int)) := KU.out.cell 1
    have a2 : u1.cell? ⟨w.heap.size, 2, none⟩ = some (.int .i64 (Hp : Int)) := KU.out.cell 2
    have a3 : u1.cell? ⟨w.heap.size, 3, none⟩ = some (.int .i64 (Pr : Int)) := KU.out.cell 3
    have a4 : u1.cell? ⟨w.heap.size, 4, none⟩ = some (.string (bsL s)) := KU.out.cell 4
    have a5 : u1.cell? ⟨w.heap.size, 5, none⟩ = some (.string (bsL d)) := KU.out.cell 5
    have a6 : u1.cell? ⟨w.heap.size, 6, none⟩ = some (.slice A n cap) := KU.out.cell 6
    go_wp2_with fail
    refine (CB.out _ (keep_of_below BU.out)).mono ?_
    rintro e u2 ⟨rfl, b2⟩
    go_wp2_with fail
    go_returns
    exact ⟨fun h => by have := HLn.out; omega, fun _ => ⟨rfl, bel_trans BU.out b2⟩⟩
  have Ln1 : Ln < 65536 := by omega
  obtain ⟨x1, hx1⟩ : ∃ x, x = bytesL W 4 := ⟨_, rfl⟩
  obtain ⟨x2, hx2⟩ : ∃ x, x = bytesL Ln 2 := ⟨_, rfl⟩
  obtain ⟨x3, hx3⟩ : ∃ x, x = bytesL M 1 := ⟨_, rfl⟩
  obtain ⟨x4, hx4⟩ : ∃ x, x = bytesL Hp 1 := ⟨_, rfl⟩
  have lx1 : x1.length = 4 := by rw [hx1, bytesL_len]
  have lx2 : x2.length = 2 := by rw [hx2, bytesL_len]
  have lx3 : x3.length = 1 := by rw [hx3, bytesL_len]
  have lx4 : x4.length = 1 := by rw [hx4, bytesL_len]
  have HX1 : Hid (bytesL W 4 = x1) := hx1.symm
  have HX2 : Hid (bytesL Ln 2 = x2) := hx2.symm
  have HX3 : Hid (bytesL M 1 = x3) := hx3.symm
  have HX4 : Hid (bytesL Hp 1 = x4) := hx4.symm
  have FIN : Hid (putL ⟨Cl, Lb, Hp, Pr, s, d, C⟩ bd = x1 ++ (x2 ++ (x3 ++ (x4 ++ (s ++ (d ++ (X ++ bd))))))) := by
    show _ = _
    rw [PE.out Ln HLn.out, HWd.out, hx1, hx2, hx3, hx4]
  clear hx1 hx2 hx3 hx4
  have bb : bd.length ≤ 65535 := by omega
  have g1 : ¬ 9223372036854775807 < 40 + X.length := by omega
  have g2 : ¬ 9223372036854775807 < 40 + X.length + bd.length := by omega
  have g3 : ¬ 9223372036854775807 < 40 + (X.length + bd.length) := by omega
  have g4 : ¬ 9223372036854775807 < 4 + (2 + (1 + (1 + (16 + (16 + X.length))))) + bd.length := by omega
  have g5 : ¬ 9223372036854775807 < 4 + (2 + (1 + (1 + (16 + (16 + (X.length + bd.length)))))) := by omega
  have g6 : ¬ 9223372036854775807 < X.length + 40 + bd.length := by omega
  go_enter Try.func16, Try.ntmps16
  go_wp2_with fail
  refine (right_any _ _ ⟨Cl, Lb, Hp, Pr, s, d, C⟩ (HF.out _ (keep_of_below B1.out)) (by show C.length ≤ 9223372036854775807; omega)).mono ?_
  rintro e u1 ⟨B, rfl, hB, b1⟩
  have eB : B = true := hB.2 HR.out
  subst eB
  clear hB
  have BU : Hid (Below w.heap.size w u1) := bel_trans B1.out b1
  have KU : Hid (Blk u1 w.heap.size 25 #[.int .i64 (Cl : Int), .int .i64 (Lb : Int), .int .i64 (Hp : Int), .int .i64 (Pr : Int), .string (bsL s), .string (bsL d), .slice A n cap]) := K0.out.since b1
  clear b1
  have x0 : u1.cell? ⟨w.heap.size, 0, none⟩ = some (.int .i64 (Cl : Int)) := KU.out.cell 0
  have a1 : u1.cell? ⟨w.heap.size, 1, none⟩ = some (.int .i64 (Lb : Int)) := KU.out.cell 1
  have a2 : u1.cell? ⟨w.heap.size, 2, none⟩ = some (.int .i64 (Hp : Int)) := KU.out.cell 2
  have a3 : u1.cell? ⟨w.heap.size, 3, none⟩ = some (.int .i64 (Pr : Int)) := KU.out.cell 3
  have a4 : u1.cell? ⟨w.heap.size, 4, none⟩ = some (.string (bsL s)) := KU.out.cell 4
  have a5 : u1.cell? ⟨w.heap.size, 5, none⟩ = some (.string (bsL d)) := KU.out.cell 5
  have a6 : u1.cell? ⟨w.heap.size, 6, none⟩ = some (.slice A n cap) := KU.out.cell 6
  go_wp2_with fail
  refine (CB.out _ (keep_of_below BU.out)).mono ?_
  rintro e u2 ⟨rfl, b2⟩
  have BV : Hid (Below w.heap.size w u2) := bel_trans BU.out b2
  have KV : Hid (Blk u2 w.heap.size 25 #[.int .i64 (Cl : Int), .int .i64 (Lb : Int), .int .i64 (Hp : Int), .int .i64 (Pr : Int), .string (bsL s), .string (bsL d), .slice A n cap]) := KU.out.since b2
  clear b2 x0 a1 a2 a3 a4 a5 a6
  have e0 : u2.cell? ⟨w.heap.size, 0, none⟩ = some (.int .i64 (Cl : Int)) := KV.out.cell 0
  have e1 : u2.cell? ⟨w.heap.size, 1, none⟩ = some (.int .i64 (Lb : Int)) := KV.out.cell 1
  have e2 : u2.cell? ⟨w.heap.size, 2, none⟩ = some (.int .i64 (Hp : Int)) := KV.out.cell 2
  have e3 : u2.cell? ⟨w.heap.size, 3, none⟩ = some (.int .i64 (Pr : Int)) := KV.out.cell 3
  have e4 : u2.cell? ⟨w.heap.size, 4, none⟩ = some (.string (bsL s)) := KV.out.cell 4
  have e5 : u2.cell? ⟨w.heap.size, 5, none⟩ = some (.string (bsL d)) := KV.out.cell 5
  have e6 : u2.cell? ⟨w.heap.size, 6, none⟩ = some (.slice A n cap) := KV.out.cell 6
  go_wp2_with fail
  go_region_held3 (fun w' => w'.cell? ⟨w.heap.size, 0, none⟩ = some (.int .i64 (Cl : Int)) ∧ w'.cell? ⟨w.heap.size, 1, none⟩ = some (.int .i64 (Lb : Int)) ∧ w'.cell? ⟨w.heap.size, 2, none⟩ = some (.int .i64 (Hp : Int)) ∧ w'.cell? ⟨w.heap.size, 3, none⟩ = some (.int .i64 (Pr : Int)) ∧ w'.cell? ⟨w.heap.size, 4, none⟩ = some (.string (bsL s)) ∧ w'.cell? ⟨w.heap.size, 5, none⟩ = some (.string (bsL d)) ∧ w'.cell? ⟨w.heap.size, 6, none⟩ = some (.slice A n cap)) (first | go_keep | exact KQ1.out | exact KQ2.out | exact KQ3.out | exact KQ4.out | exact KQ5.out) (first
    | (go_simp; have fl := KB4; clear fl; go_at_call 27; refine (numw_any Hp 1 _ (by omega) (by omega) (by omega)).mono ?_; rintro e q5 ⟨rfl, c5⟩; rw [HX4.out]; have BQ5 : Hid (Below w.heap.size w q5) := bel_trans BQ4.out c5; have KB5 : Hid (Blk q5 w.heap.size 25 #[.int .i64 (Cl : Int), .int .i64 (Lb : Int), .int .i64 (Hp : Int), .int .i64 (Pr : Int), .string (bsL s), .string (bsL d), .slice A n cap]) := KB4.out.since c5; have KQ5 : Hid (q5.cell? ⟨w.heap.size, 0, none⟩ = some (.int .i64 (Cl : Int)) ∧ q5.cell? ⟨w.heap.size, 1, none⟩ = some (.int .i64 (Lb : Int)) ∧ q5.cell? ⟨w.heap.size, 2, none⟩ = some (.int .i64 (Hp : Int)) ∧ q5.cell? ⟨w.heap.size, 3, none⟩ = some (.int .i64 (Pr : Int)) ∧ q5.cell? ⟨w.heap.size, 4, none⟩ = some (.string (bsL s)) ∧ q5.cell? ⟨w.heap.size, 5, none⟩ = some (.string (bsL d)) ∧ q5.cell? ⟨w.heap.size, 6, none⟩ = some (.slice A n cap)) := ⟨KB5.out.cell 0, KB5.out.cell 1, KB5.out.cell 2, KB5.out.cell 3, KB5.out.cell 4, KB5.out.cell 5, KB5.out.cell 6⟩; clear c5)
    | (go_simp; have fl := KB3; clear fl; go_at_call 27; refine (numw_any M 1 _ (by omega) (by omega) (by omega)).mono ?_; rintro e q4 ⟨rfl, c4⟩; rw [HX3.out]; have BQ4 : Hid (Below w.heap.size w q4) := bel_trans BQ3.out c4; have KB4 : Hid (Blk q4 w.heap.size 25 #[.int .i64 (Cl : Int), .int .i64 (Lb : Int), .int .i64 (Hp : Int), .int .i64 (Pr : Int), .string (bsL s), .string (bsL d), .slice A n cap]) := KB3.out.since c4; have KQ4 : Hid (q4.cell? ⟨w.heap.size, 0, none⟩ = some (.int .i64 (Cl : Int)) ∧ q4.cell? ⟨w.heap.size, 1, none⟩ = some (.int .i64 (Lb : Int)) ∧ q4.cell? ⟨w.heap.size, 2, none⟩ = some (.int .i64 (Hp : Int)) ∧ q4.cell? ⟨w.heap.size, 3, none⟩ = some (.int .i64 (Pr : Int)) ∧ q4.cell? ⟨w.heap.size, 4, none⟩ = some (.string (bsL s)) ∧ q4.cell? ⟨w.heap.size, 5, none⟩ = some (.string (bsL d)) ∧ q4.cell? ⟨w.heap.size, 6, none⟩ = some (.slice A n cap)) := ⟨KB4.out.cell 0, KB4.out.cell 1, KB4.out.cell 2, KB4.out.cell 3, KB4.out.cell 4, KB4.out.cell 5, KB4.out.cell 6⟩; clear c4)
    | (go_simp; have fl := KB2; clear fl; go_at_call 28; refine (KF.out _ (keep_of_below BQ2.out)).mono ?_; rintro e q3 ⟨rfl, c3⟩; have BQ3 : Hid (Below w.heap.size w q3) := bel_trans BQ2.out c3; have KB3 : Hid (Blk q3 w.heap.size 25 #[.int .i64 (Cl : Int), .int .i64 (Lb : Int), .int .i64 (Hp : Int), .int .i64 (Pr : Int), .string (bsL s), .string (bsL d), .slice A n cap]) := KB2.out.since c3; have KQ3 : Hid (q3.cell? ⟨w.heap.size, 0, none⟩ = some (.int .i64 (Cl : Int)) ∧ q3.cell? ⟨w.heap.size, 1, none⟩ = some (.int .i64 (Lb : Int)) ∧ q3.cell? ⟨w.heap.size, 2, none⟩ = some (.int .i64 (Hp : Int)) ∧ q3.cell? ⟨w.heap.size, 3, none⟩ = some (.int .i64 (Pr : Int)) ∧ q3.cell? ⟨w.heap.size, 4, none⟩ = some (.string (bsL s)) ∧ q3.cell? ⟨w.heap.size, 5, none⟩ = some (.string (bsL d)) ∧ q3.cell? ⟨w.heap.size, 6, none⟩ = some (.slice A n cap)) := ⟨KB3.out.cell 0, KB3.out.cell 1, KB3.out.cell 2, KB3.out.cell 3, KB3.out.cell 4, KB3.out.cell 5, KB3.out.cell 6⟩; clear c3)
    | (go_simp; have fl := KB1; clear fl; go_at_call 27; refine (numw_any Ln 2 _ (by omega) (by omega) (by omega)).mono ?_; rintro e q2 ⟨rfl, c2⟩; rw [HX2.out]; have BQ2 : Hid (Below w.heap.size w q2) := bel_trans BQ1.out c2; have KB2 : Hid (Blk q2 w.heap.size 25 #[.int .i64 (Cl : Int), .int .i64 (Lb : Int), .int .i64 (Hp : Int), .int .i64 (Pr : Int), .string (bsL s), .string (bsL d), .slice A n cap]) := KB1.out.since c2; have KQ2 : Hid (q2.cell? ⟨w.heap.size, 0, none⟩ = some (.int .i64 (Cl : Int)) ∧ q2.cell? ⟨w.heap.size, 1, none⟩ = some (.int .i64 (Lb : Int)) ∧ q2.cell? ⟨w.heap.size, 2, none⟩ = some (.int .i64 (Hp : Int)) ∧ q2.cell? ⟨w.heap.size, 3, none⟩ = some (.int .i64 (Pr : Int)) ∧ q2.cell? ⟨w.heap.size, 4, none⟩ = some (.string (bsL s)) ∧ q2.cell? ⟨w.heap.size, 5, none⟩ = some (.string (bsL d)) ∧ q2.cell? ⟨w.heap.size, 6, none⟩ = some (.slice A n cap)) := ⟨KB2.out.cell 0, KB2.out.cell 1, KB2.out.cell 2, KB2.out.cell 3, KB2.out.cell 4, KB2.out.cell 5, KB2.out.cell 6⟩; clear c2)
    | (go_simp; go_at_call 27; refine (numw_any W 4 _ (by omega) (by omega) (by omega)).mono ?_; rintro e q1 ⟨rfl, c1⟩; rw [HX1.out]; have BQ1 : Hid (Below w.heap.size w q1) := bel_trans BV.out ⟨c1.os, c1.tape, c1.output, c1.size, c1.block⟩; have KB1 : Hid (Blk q1 w.heap.size 25 #[.int .i64 (Cl : Int), .int .i64 (Lb : Int), .int .i64 (Hp : Int), .int .i64 (Pr : Int), .string (bsL s), .string (bsL d), .slice A n cap]) := KV.out.drew.since c1; have KQ1 : Hid (q1.cell? ⟨w.heap.size, 0, none⟩ = some (.int .i64 (Cl : Int)) ∧ q1.cell? ⟨w.heap.size, 1, none⟩ = some (.int .i64 (Lb : Int)) ∧ q1.cell? ⟨w.heap.size, 2, none⟩ = some (.int .i64 (Hp : Int)) ∧ q1.cell? ⟨w.heap.size, 3, none⟩ = some (.int .i64 (Pr : Int)) ∧ q1.cell? ⟨w.heap.size, 4, none⟩ = some (.string (bsL s)) ∧ q1.cell? ⟨w.heap.size, 5, none⟩ = some (.string (bsL d)) ∧ q1.cell? ⟨w.heap.size, 6, none⟩ = some (.slice A n cap)) := ⟨KB1.out.cell 0, KB1.out.cell 1, KB1.out.cell 2, KB1.out.cell 3, KB1.out.cell 4, KB1.out.cell 5, KB1.out.cell 6⟩; clear c1))
  all_goals go_wp2_with fail
  all_goals go_returns
  all_goals exact ⟨fun _ => ⟨by rw [FIN.out]; first | rfl | (simp only [List.append_assoc]; rfl), BQ5.out⟩, fun h => by have := HLn.out; omega⟩
end Go.Proofs.Ytjbpbahaekbmlaa
