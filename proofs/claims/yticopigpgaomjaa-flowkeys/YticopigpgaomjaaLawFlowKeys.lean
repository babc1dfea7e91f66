/-
  Any flow has the key that the document says, and is its flow, or is refused. No condition.
-/
import Derived.Test.YticopigpgaomjaaRows
import Derived.Test.YticopigpgaomjaaFlowRef
import Derived.Test.YticopigpgaomjaaFlowOpen
import Derived.WalkKit
import Derived.ProofKit
import Derived.OpenShut
import Derived.ShutString
import Derived.ChangeOld
import Derived.ChangeMaps5
import Derived.Below
import Derived.Carry
import Derived.Laws.StructEq
import Derived.Deep.Cut
import Derived.Deep.CutRange
namespace Go.Proofs.Yticopigpgaomjaa.flowKeys
open Oc Pt Fl Go.Deep
open Go.ChangeShapes Go.WideShapes Go.ChangeAt Go.RowKit Go.ChangeMaps
set_option linter.unusedVariables false

theorem own : ownKnob Try.prog.godebug = none := by kernel_rfl

theorem source_b (l : List UInt8) (w : World) (hl : l.length ≤ 1152921504606846976) : Calls Try.prog 17 #[.string (bsL l)] w fun e w' => e = .returned (.string (bsL (srcK l))) ∧ Below w.heap.size w w' :=
  (fl_source l w hl).mono fun e w2 h => ⟨h.1, by rw [h.2]; exact Below.refl _ _⟩
theorem target_b (l : List UInt8) (w : World) (hl : l.length ≤ 1152921504606846976) : Calls Try.prog 18 #[.string (bsL l)] w fun e w' => e = .returned (.string (bsL (dstK l))) ∧ Below w.heap.size w w' :=
  (fl_target l w hl).mono fun e w2 h => ⟨h.1, by rw [h.2]; exact Below.refl _ _⟩
set_option maxRecDepth 8000 in
set_option maxHeartbeats 6400000 in
theorem walk (x : Value) (F : Vw) (w : World) (hx : FlowAt x F) :
    Calls Try.prog 4 #[x] w fun e w' => e = .returned (.bool true) ∧ Below w.heap.size w w' := by
  obtain ⟨s, d, p, a, b⟩ := F
  have hx' : x = .agg #[.string (bsL s), .string (bsL d), .int .i64 p, .int .i64 a, .int .i64 b] := hx
  subst hx'
  clear hx
  have B0 : Hid (Below w.heap.size w (w.alloc (.cells #[.string (bsL s), .string (bsL d), .int .i64 p, .int .i64 a, .int .i64 b] 24))) := bel_alloc _ _
  have K0 : Hid (Blk (w.alloc (.cells #[.string (bsL s), .string (bsL d), .int .i64 p, .int .i64 a, .int .i64 b] 24)) w.heap.size 24 #[.string (bsL s), .string (bsL d), .int .i64 p, .int .i64 a, .int .i64 b]) := Blk.new _ _ _
  by_cases hR : RightF ⟨s, d, p, a, b⟩
  rotate_left
  · have HR : Hid (¬ RightF ⟨s, d, p, a, b⟩) := hR
    clear hR
    go_enter Try.func4, Try.ntmps4
    go_wp2_with fail
    refine (fl_key_no _ s d p a b HR.out).mono ?_
    rintro e u1 ⟨rfl, b1⟩
    have K1 : Hid (Blk u1 w.heap.size 24 #[.string (bsL s), .string (bsL d), .int .i64 p, .int .i64 a, .int .i64 b]) := K0.out.since b1
    have B1 : Hid (Below w.heap.size w u1) := bel_trans B0.out b1
    clear b1
    rw [show bsL [] = ⟨#[]⟩ from rfl]
    have x0 : u1.cell? ⟨w.heap.size, 0, none⟩ = some (.string (bsL s)) := K1.out.cell 0
    have x1 : u1.cell? ⟨w.heap.size, 1, none⟩ = some (.string (bsL d)) := K1.out.cell 1
    have x2 : u1.cell? ⟨w.heap.size, 2, none⟩ = some (.int .i64 p) := K1.out.cell 2
    have x3 : u1.cell? ⟨w.heap.size, 3, none⟩ = some (.int .i64 a) := K1.out.cell 3
    have x4 : u1.cell? ⟨w.heap.size, 4, none⟩ = some (.int .i64 b) := K1.out.cell 4
    go_wp2_with fail
    refine (fl_rright _ s d p a b).mono ?_
    rintro e u2 ⟨C, rfl, hC, b2⟩
    have eC : C = false := by
      cases C
      · rfl
      · exact absurd (hC.1 rfl) HR.out
    subst eC
    clear hC
    have K2 : Hid (Blk u2 w.heap.size 24 #[.string (bsL s), .string (bsL d), .int .i64 p, .int .i64 a, .int .i64 b]) := K1.out.since b2
    have B2 : Hid (Below w.heap.size w u2) := bel_trans B1.out b2
    clear b2 x0 x1 x2 x3 x4
    have x0 : u2.cell? ⟨w.heap.size, 0, none⟩ = some (.string (bsL s)) := K2.out.cell 0
    have x1 : u2.cell? ⟨w.heap.size, 1, none⟩ = some (.string (bsL d)) := K2.out.cell 1
    have x2 : u2.cell? ⟨w.heap.size, 2, none⟩ = some (.int .i64 p) := K2.out.cell 2
    have x3 : u2.cell? ⟨w.heap.size, 3, none⟩ = some (.int .i64 a) := K2.out.cell 3
    have x4 : u2.cell? ⟨w.heap.size, 4, none⟩ = some (.int .i64 b) := K2.out.cell 4
    go_wp2_with fail
    refine (fl_right _ s d p a b).mono ?_
    rintro e u3 ⟨C, rfl, hC, b3⟩
    have eC : C = false := by
      cases C
      · rfl
      · exact absurd (hC.1 rfl) HR.out
    subst eC
    clear hC
    have B3 : Hid (Below w.heap.size w u3) := bel_trans B2.out b3
    clear b3
    go_wp2_with fail
    refine (fl_awake _).mono ?_
    rintro e u9 ⟨rfl, b9⟩
    go_wp2_with fail
    go_ret
    exact ⟨rfl, bel_trans B3.out b9⟩
  obtain ⟨P, rfl⟩ : ∃ P : Nat, p = P := ⟨p.toNat, by have := hR.2.2.1; simp only at this; omega⟩
  obtain ⟨A, rfl⟩ : ∃ A : Nat, a = A := ⟨a.toNat, by have := hR.2.2.2.1; simp only at this; omega⟩
  obtain ⟨B, rfl⟩ : ∃ B : Nat, b = B := ⟨b.toNat, by have := hR.2.2.2.2; simp only at this; omega⟩
  have HR : Hid (RightF ⟨s, d, P, A, B⟩) := hR
  have FK : Hid ((keyL s d P A B).length = 37 ∧ ansK (keyL s d P A B) = ⟨⟨s, d, P, A, B⟩, 0⟩ ∧ srcK (keyL s d P A B) = s ∧ dstK (keyL s d P A B) = d) := by
    obtain ⟨r1, r2, r3, r4, r5⟩ := hR
    simp only at r1 r2 r3 r4 r5
    have l := key_len r1 r2 P A B
    obtain ⟨k1, k2, k3, k4, k5⟩ := key_back (P := P) (A := A) (B := B) r1 r2 (by omega) (by omega) (by omega)
    refine ⟨l, ?_, ?_, ?_⟩
    · unfold ansK
      rw [view_yes l, if_pos l, k1, k2, k3, k4, k5]
    · unfold srcK
      rw [if_pos l, k1]
    · unfold dstK
      rw [if_pos l, k2]
  clear hR
  obtain ⟨K, hK⟩ : ∃ K, K = keyL s d P A B := ⟨_, rfl⟩
  have HK : Hid (keyL s d P A B = K) := hK.symm
  rw [← hK] at FK
  clear hK
  have kl : K.length ≤ 1152921504606846976 := by have := FK.out.1; omega
  go_enter Try.func4, Try.ntmps4
  go_wp2_with fail
  refine (fl_key_ok _ s d P A B HR.out).mono ?_
  rintro e u1 ⟨rfl, b1⟩
  rw [HK.out]
  have K1 : Hid (Blk u1 w.heap.size 24 #[.string (bsL s), .string (bsL d), .int .i64 (P : Int), .int .i64 (A : Int), .int .i64 (B : Int)]) := K0.out.since b1
  have B1 : Hid (Below w.heap.size w u1) := bel_trans B0.out b1
  clear b1
  have x0 : u1.cell? ⟨w.heap.size, 0, none⟩ = some (.string (bsL s)) := K1.out.cell 0
  have x1 : u1.cell? ⟨w.heap.size, 1, none⟩ = some (.string (bsL d)) := K1.out.cell 1
  have x2 : u1.cell? ⟨w.heap.size, 2, none⟩ = some (.int .i64 (P : Int)) := K1.out.cell 2
  have x3 : u1.cell? ⟨w.heap.size, 3, none⟩ = some (.int .i64 (A : Int)) := K1.out.cell 3
  have x4 : u1.cell? ⟨w.heap.size, 4, none⟩ = some (.int .i64 (B : Int)) := K1.out.cell 4
  go_wp2_with fail
  refine (fl_rright _ s d P A B).mono ?_
  rintro e u2 ⟨C, rfl, hC, b2⟩
  have eC : C = true := hC.2 HR.out
  subst eC
  clear hC
  have K2 : Hid (Blk u2 w.heap.size 24 #[.string (bsL s), .string (bsL d), .int .i64 (P : Int), .int .i64 (A : Int), .int .i64 (B : Int)]) := K1.out.since b2
  have B2 : Hid (Below w.heap.size w u2) := bel_trans B1.out b2
  clear b2 x0 x1 x2 x3 x4
  have x0 : u2.cell? ⟨w.heap.size, 0, none⟩ = some (.string (bsL s)) := K2.out.cell 0
  have x1 : u2.cell? ⟨w.heap.size, 1, none⟩ = some (.string (bsL d)) := K2.out.cell 1
  have x2 : u2.cell? ⟨w.heap.size, 2, none⟩ = some (.int .i64 (P : Int)) := K2.out.cell 2
  have x3 : u2.cell? ⟨w.heap.size, 3, none⟩ = some (.int .i64 (A : Int)) := K2.out.cell 3
  have x4 : u2.cell? ⟨w.heap.size, 4, none⟩ = some (.int .i64 (B : Int)) := K2.out.cell 4
  go_wp2_with fail
  refine (fl_right _ s d P A B).mono ?_
  rintro e u3 ⟨C, rfl, hC, b3⟩
  have eC : C = true := hC.2 HR.out
  subst eC
  clear hC
  have K3 : Hid (Blk u3 w.heap.size 24 #[.string (bsL s), .string (bsL d), .int .i64 (P : Int), .int .i64 (A : Int), .int .i64 (B : Int)]) := K2.out.since b3
  have B3 : Hid (Below w.heap.size w u3) := bel_trans B2.out b3
  clear b3 x0 x1 x2 x3 x4
  go_wp2_with fail
  refine (fl_of _ K kl).mono ?_
  rintro e u4 ⟨s2, d2, p2, a2, c2, E2, rfl, hE, b4⟩
  rw [FK.out.2.1] at hE
  obtain ⟨g0, rfl⟩ := Ans.mk.inj hE
  obtain ⟨rfl, rfl, rfl, rfl, rfl⟩ := Fw.mk.inj g0
  clear g0 hE
  have K4 : Hid (Blk u4 w.heap.size 24 #[.string (bsL s), .string (bsL d), .int .i64 (P : Int), .int .i64 (A : Int), .int .i64 (B : Int)]) := K3.out.since b4
  have B4 : Hid (Below w.heap.size w u4) := bel_trans B3.out b4
  clear b4
  have pl : w.heap.size < u4.heap.size := K4.out.lt
  have x0 : u4.cell? ⟨w.heap.size, 0, none⟩ = some (.string (bsL s)) := K4.out.cell 0
  have x1 : u4.cell? ⟨w.heap.size, 1, none⟩ = some (.string (bsL d)) := K4.out.cell 1
  have x2 : u4.cell? ⟨w.heap.size, 2, none⟩ = some (.int .i64 (P : Int)) := K4.out.cell 2
  have x3 : u4.cell? ⟨w.heap.size, 3, none⟩ = some (.int .i64 (A : Int)) := K4.out.cell 3
  have x4 : u4.cell? ⟨w.heap.size, 4, none⟩ = some (.int .i64 (B : Int)) := K4.out.cell 4
  go_upto_region 8 with fail
  have KX : Hid (Blk (u4.alloc (.cells #[.string (bsL s), .string (bsL d), .int .i64 (P : Int), .int .i64 (A : Int), .int .i64 (B : Int)] 24)) w.heap.size 24 #[.string (bsL s), .string (bsL d), .int .i64 (P : Int), .int .i64 (A : Int), .int .i64 (B : Int)] ∧ Blk (u4.alloc (.cells #[.string (bsL s), .string (bsL d), .int .i64 (P : Int), .int .i64 (A : Int), .int .i64 (B : Int)] 24)) u4.heap.size 24 #[.string (bsL s), .string (bsL d), .int .i64 (P : Int), .int .i64 (A : Int), .int .i64 (B : Int)]) := ⟨K4.out.alloc _, Blk.new _ _ _⟩
  have BX : Hid (Below w.heap.size w (u4.alloc (.cells #[.string (bsL s), .string (bsL d), .int .i64 (P : Int), .int .i64 (A : Int), .int .i64 (B : Int)] 24))) := bel_trans B4.out (bel_alloc _ _)
  generalize u4.alloc (.cells #[.string (bsL s), .string (bsL d), .int .i64 (P : Int), .int .i64 (A : Int), .int .i64 (B : Int)] 24) = X at KX BX ⊢
  generalize u4.heap.size = gg at KX pl ⊢
  clear x0 x1 x2 x3 x4
  have x0 : X.cell? ⟨w.heap.size, 0, none⟩ = some (.string (bsL s)) := KX.out.1.cell 0
  have x1 : X.cell? ⟨w.heap.size, 1, none⟩ = some (.string (bsL d)) := KX.out.1.cell 1
  have x2 : X.cell? ⟨w.heap.size, 2, none⟩ = some (.int .i64 (P : Int)) := KX.out.1.cell 2
  have x3 : X.cell? ⟨w.heap.size, 3, none⟩ = some (.int .i64 (A : Int)) := KX.out.1.cell 3
  have x4 : X.cell? ⟨w.heap.size, 4, none⟩ = some (.int .i64 (B : Int)) := KX.out.1.cell 4
  have y0 : X.cell? ⟨gg, 0, none⟩ = some (.string (bsL s)) := KX.out.2.cell 0
  have y1 : X.cell? ⟨gg, 1, none⟩ = some (.string (bsL d)) := KX.out.2.cell 1
  have y2 : X.cell? ⟨gg, 2, none⟩ = some (.int .i64 (P : Int)) := KX.out.2.cell 2
  have y3 : X.cell? ⟨gg, 3, none⟩ = some (.int .i64 (A : Int)) := KX.out.2.cell 3
  have y4 : X.cell? ⟨gg, 4, none⟩ = some (.int .i64 (B : Int)) := KX.out.2.cell 4
  go_region_held3 (fun w' => w'.cell? ⟨w.heap.size, 0, none⟩ = some (.string (bsL s)) ∧ w'.cell? ⟨w.heap.size, 1, none⟩ = some (.string (bsL d)) ∧ w'.cell? ⟨w.heap.size, 2, none⟩ = some (.int .i64 (P : Int)) ∧ w'.cell? ⟨w.heap.size, 3, none⟩ = some (.int .i64 (A : Int)) ∧ w'.cell? ⟨w.heap.size, 4, none⟩ = some (.int .i64 (B : Int)) ∧ w'.cell? ⟨gg, 0, none⟩ = some (.string (bsL s)) ∧ w'.cell? ⟨gg, 1, none⟩ = some (.string (bsL d)) ∧ w'.cell? ⟨gg, 2, none⟩ = some (.int .i64 (P : Int)) ∧ w'.cell? ⟨gg, 3, none⟩ = some (.int .i64 (A : Int)) ∧ w'.cell? ⟨gg, 4, none⟩ = some (.int .i64 (B : Int))) (first | go_keep | exact KQ4.out | exact KQ3.out | exact KQ2.out | exact KQ1.out) (first
    | (go_simp; go_at_call 16; refine (fl_rkey _ s d P A B HR.out).mono ?_; rintro e q1 ⟨rfl, cc1⟩; rw [HK.out]; have KB1 : Hid (Blk q1 w.heap.size 24 #[.string (bsL s), .string (bsL d), .int .i64 (P : Int), .int .i64 (A : Int), .int .i64 (B : Int)] ∧ Blk q1 gg 24 #[.string (bsL s), .string (bsL d), .int .i64 (P : Int), .int .i64 (A : Int), .int .i64 (B : Int)]) := ⟨KX.out.1.drew.since cc1, KX.out.2.drew.since cc1⟩; have BQ1 : Hid (Below w.heap.size w q1) := bel_trans BX.out ⟨cc1.os, cc1.tape, cc1.output, cc1.size, cc1.block⟩; have KQ1 : Hid (q1.cell? ⟨w.heap.size, 0, none⟩ = some (.string (bsL s)) ∧ q1.cell? ⟨w.heap.size, 1, none⟩ = some (.string (bsL d)) ∧ q1.cell? ⟨w.heap.size, 2, none⟩ = some (.int .i64 (P : Int)) ∧ q1.cell? ⟨w.heap.size, 3, none⟩ = some (.int .i64 (A : Int)) ∧ q1.cell? ⟨w.heap.size, 4, none⟩ = some (.int .i64 (B : Int)) ∧ q1.cell? ⟨gg, 0, none⟩ = some (.string (bsL s)) ∧ q1.cell? ⟨gg, 1, none⟩ = some (.string (bsL d)) ∧ q1.cell? ⟨gg, 2, none⟩ = some (.int .i64 (P : Int)) ∧ q1.cell? ⟨gg, 3, none⟩ = some (.int .i64 (A : Int)) ∧ q1.cell? ⟨gg, 4, none⟩ = some (.int .i64 (B : Int))) := ⟨KB1.out.1.cell 0, KB1.out.1.cell 1, KB1.out.1.cell 2, KB1.out.1.cell 3, KB1.out.1.cell 4, KB1.out.2.cell 0, KB1.out.2.cell 1, KB1.out.2.cell 2, KB1.out.2.cell 3, KB1.out.2.cell 4⟩; clear cc1)
    | (go_simp; go_at_call 17; refine (source_b K _ kl).mono ?_; rintro e q2 ⟨rfl, cc2⟩; rw [FK.out.2.2.1]; have KB2 : Hid (Blk q2 w.heap.size 24 #[.string (bsL s), .string (bsL d), .int .i64 (P : Int), .int .i64 (A : Int), .int .i64 (B : Int)] ∧ Blk q2 gg 24 #[.string (bsL s), .string (bsL d), .int .i64 (P : Int), .int .i64 (A : Int), .int .i64 (B : Int)]) := ⟨KB1.out.1.since cc2, KB1.out.2.since cc2⟩; have BQ2 : Hid (Below w.heap.size w q2) := bel_trans BQ1.out cc2; have KQ2 : Hid (q2.cell? ⟨w.heap.size, 0, none⟩ = some (.string (bsL s)) ∧ q2.cell? ⟨w.heap.size, 1, none⟩ = some (.string (bsL d)) ∧ q2.cell? ⟨w.heap.size, 2, none⟩ = some (.int .i64 (P : Int)) ∧ q2.cell? ⟨w.heap.size, 3, none⟩ = some (.int .i64 (A : Int)) ∧ q2.cell? ⟨w.heap.size, 4, none⟩ = some (.int .i64 (B : Int)) ∧ q2.cell? ⟨gg, 0, none⟩ = some (.string (bsL s)) ∧ q2.cell? ⟨gg, 1, none⟩ = some (.string (bsL d)) ∧ q2.cell? ⟨gg, 2, none⟩ = some (.int .i64 (P : Int)) ∧ q2.cell? ⟨gg, 3, none⟩ = some (.int .i64 (A : Int)) ∧ q2.cell? ⟨gg, 4, none⟩ = some (.int .i64 (B : Int))) := ⟨KB2.out.1.cell 0, KB2.out.1.cell 1, KB2.out.1.cell 2, KB2.out.1.cell 3, KB2.out.1.cell 4, KB2.out.2.cell 0, KB2.out.2.cell 1, KB2.out.2.cell 2, KB2.out.2.cell 3, KB2.out.2.cell 4⟩; clear cc2)
    | (go_simp; go_at_call 18; refine (target_b K _ kl).mono ?_; rintro e q3 ⟨rfl, cc3⟩; rw [FK.out.2.2.2]; have KB3 : Hid (Blk q3 w.heap.size 24 #[.string (bsL s), .string (bsL d), .int .i64 (P : Int), .int .i64 (A : Int), .int .i64 (B : Int)] ∧ Blk q3 gg 24 #[.string (bsL s), .string (bsL d), .int .i64 (P : Int), .int .i64 (A : Int), .int .i64 (B : Int)]) := ⟨KB2.out.1.since cc3, KB2.out.2.since cc3⟩; have BQ3 : Hid (Below w.heap.size w q3) := bel_trans BQ2.out cc3; have KQ3 : Hid (q3.cell? ⟨w.heap.size, 0, none⟩ = some (.string (bsL s)) ∧ q3.cell? ⟨w.heap.size, 1, none⟩ = some (.string (bsL d)) ∧ q3.cell? ⟨w.heap.size, 2, none⟩ = some (.int .i64 (P : Int)) ∧ q3.cell? ⟨w.heap.size, 3, none⟩ = some (.int .i64 (A : Int)) ∧ q3.cell? ⟨w.heap.size, 4, none⟩ = some (.int .i64 (B : Int)) ∧ q3.cell? ⟨gg, 0, none⟩ = some (.string (bsL s)) ∧ q3.cell? ⟨gg, 1, none⟩ = some (.string (bsL d)) ∧ q3.cell? ⟨gg, 2, none⟩ = some (.int .i64 (P : Int)) ∧ q3.cell? ⟨gg, 3, none⟩ = some (.int .i64 (A : Int)) ∧ q3.cell? ⟨gg, 4, none⟩ = some (.int .i64 (B : Int))) := ⟨KB3.out.1.cell 0, KB3.out.1.cell 1, KB3.out.1.cell 2, KB3.out.1.cell 3, KB3.out.1.cell 4, KB3.out.2.cell 0, KB3.out.2.cell 1, KB3.out.2.cell 2, KB3.out.2.cell 3, KB3.out.2.cell 4⟩; clear cc3)
    | (go_simp; go_at_call 9; refine (fl_awake _).mono ?_; rintro e q4 ⟨rfl, cc4⟩; have KB4 : Hid (Blk q4 w.heap.size 24 #[.string (bsL s), .string (bsL d), .int .i64 (P : Int), .int .i64 (A : Int), .int .i64 (B : Int)] ∧ Blk q4 gg 24 #[.string (bsL s), .string (bsL d), .int .i64 (P : Int), .int .i64 (A : Int), .int .i64 (B : Int)]) := ⟨KB3.out.1.since cc4, KB3.out.2.since cc4⟩; have BQ4 : Hid (Below w.heap.size w q4) := bel_trans BQ3.out cc4; have KQ4 : Hid (q4.cell? ⟨w.heap.size, 0, none⟩ = some (.string (bsL s)) ∧ q4.cell? ⟨w.heap.size, 1, none⟩ = some (.string (bsL d)) ∧ q4.cell? ⟨w.heap.size, 2, none⟩ = some (.int .i64 (P : Int)) ∧ q4.cell? ⟨w.heap.size, 3, none⟩ = some (.int .i64 (A : Int)) ∧ q4.cell? ⟨w.heap.size, 4, none⟩ = some (.int .i64 (B : Int)) ∧ q4.cell? ⟨gg, 0, none⟩ = some (.string (bsL s)) ∧ q4.cell? ⟨gg, 1, none⟩ = some (.string (bsL d)) ∧ q4.cell? ⟨gg, 2, none⟩ = some (.int .i64 (P : Int)) ∧ q4.cell? ⟨gg, 3, none⟩ = some (.int .i64 (A : Int)) ∧ q4.cell? ⟨gg, 4, none⟩ = some (.int .i64 (B : Int))) := ⟨KB4.out.1.cell 0, KB4.out.1.cell 1, KB4.out.1.cell 2, KB4.out.1.cell 3, KB4.out.1.cell 4, KB4.out.2.cell 0, KB4.out.2.cell 1, KB4.out.2.cell 2, KB4.out.2.cell 3, KB4.out.2.cell 4⟩; clear cc4))
  all_goals go_wp2_with fail
  all_goals go_ret
  all_goals exact ⟨rfl, BQ4.out⟩

/-! ### The row -/
theorem laidOut : laidOutB Try.prog = true := by kernel_rfl
set_option maxRecDepth 100000 in
theorem lifted (os : Os) (started : os.Started) (H : Type) (enc : TypeId × Value → H) :
    ReturnsInHanded {} Try.checked os 4 .any (Rows.flowKeysSpec.pre6 enc Try.prog Try.f4 Rows.flowKeysRow.domain false) (Rows.flowKeysSpec.post enc Try.prog Try.f4 false true false false) := by
  refine returnsInHanded_of_change (C := Try.checked) own started (by kernel_rfl) Try.func4
    (ChangeSpec.witness6 (enc := enc) (C := Try.checked) false ⟨#[], #[.agg #[.string ⟨#[]⟩, .string ⟨#[]⟩, .int .i64 0, .int .i64 0, .int .i64 0]], []⟩ 8 (by kernel_rfl) (by kernel_rfl) (by kernel_rfl) (by kernel_rfl)) ?_
  intro W base args ds gs before hval0 hW hcnd _
  have hval : ∀ (j : Nat) t v, Try.f4.params[j]? = some t → args[j]? = some v → Value.okWide Try.prog W .any base t v := hval0
  have hW' := hW
  obtain ⟨p, q, hA0, hV, rfl, hfz, hnd⟩ := hW
  have hA : DataW.TrodAll enc Try.prog W 0 (fun _ => true) true Try.f4.params.toList args.toList ds p := hA0
  rw [Try.params4] at hA hval
  obtain ⟨v0, vs0, d0, ds0, p0, q0, hargs, rfl, rfl, h0, r0⟩ := trodAll_cons hA
  obtain ⟨rfl, rfl, rfl⟩ := trodAll_nil r0
  obtain rfl : args = #[v0] := by cases args; simp_all
  obtain ⟨rfl, rfl⟩ := trodVars_none hV
  have k0 := h0
  have lt0 : ∀ x ∈ p0, x.block < W.heap.size := by obtain ⟨m, hm⟩ := k0; exact DataW.trod_lt m _ _ _ hm
  obtain ⟨F0, w0⟩ := open_flow (hval 0 24 v0 rfl rfl) h0
  clear hA0 hval0
  refine (walk v0 F0 W w0).mono fun e W' ⟨he, bel⟩ => ?_
  subst he
  exact ⟨_, rfl, _, _, _, [], _, [], hW', trodAll_mk1 (shut_bool Try.underlying4 _), (trodAll_cons_mk (Below.trod laidOut (by kernel_rfl) (of_decide_eq_true (by kernel_rfl)) k0 bel lt0) trodAll_mk0), rfl, bel.frame _, fun h => by cases h⟩

theorem over : Rows.flowKeysRow.holds Try.pinned (OpenSpec.ofChange Rows.flowKeysSpec) :=
  OpenClaim.holds_of_wide 4 Try.f4 rfl rfl rfl rfl rfl rfl rfl ⟨rfl, rfl, rfl, rfl, rfl⟩ rfl rfl rfl rfl rfl (by kernel_rfl) Try.func4 (by kernel_rfl)
    (of_decide_eq_true (by kernel_rfl)) (by unfold Func.isWrapper; first | (rw [if_pos (by decide +kernel)]; kernel_rfl) | (rw [if_neg (by decide +kernel)]; exact ⟨rfl, rfl⟩))
    (fun os started H enc _ => lifted os started H enc)

theorem proved : Rows.FlowKeysSaid := over
end Go.Proofs.Yticopigpgaomjaa.flowKeys
namespace Go.Proofs.Yticopigpgaomjaa
theorem flowKeys_holds : Rows.FlowKeysSaid := flowKeys.proved
#print axioms flowKeys_holds
end Go.Proofs.Yticopigpgaomjaa
