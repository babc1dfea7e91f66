/-
  The reference's Put, whole.
-/
import Derived.Test.YtmblgiidfknodaaIp4RPut
namespace Go.Proofs.Ytmblgiidfknodaa
open Go.RowKit Oc Ip4 Go.Deep
set_option linter.unusedVariables false

set_option maxHeartbeats 3200000 in
theorem rpput_ok (w : World) (T I F O L P n : Nat) (s d q : List UInt8) (hR : RightP ⟨T, I, F, O, L, P, s, d, q⟩) (hb : 20 + q.length + n ≤ 65535) : Calls Try.prog 14 #[.agg #[.int .i64 (T : Int), .int .i64 (I : Int), .int .i64 (F : Int), .int .i64 (O : Int), .int .i64 (L : Int), .int .i64 (P : Int), .string (bsL s), .string (bsL d), .string (bsL q)], .int .i64 (n : Int)] w fun e w' => e = .returned (.string (bsL (headL T I F O L P s d q n))) ∧ Below w.heap.size w w' := by
  have HR : Hid (RightP ⟨T, I, F, O, L, P, s, d, q⟩) := hR
  have B1 : Hid (Below w.heap.size w (w.alloc (.cells #[.int .i64 (T : Int), .int .i64 (I : Int), .int .i64 (F : Int), .int .i64 (O : Int), .int .i64 (L : Int), .int .i64 (P : Int), .string (bsL s), .string (bsL d), .string (bsL q)] 28))) := bel_alloc _ _
  have K0 : Hid (Blk (w.alloc (.cells #[.int .i64 (T : Int), .int .i64 (I : Int), .int .i64 (F : Int), .int .i64 (O : Int), .int .i64 (L : Int), .int .i64 (P : Int), .string (bsL s), .string (bsL d), .string (bsL q)] 28)) w.heap.size 28 #[.int .i64 (T : Int), .int .i64 (I : Int), .int .i64 (F : Int), .int .i64 (O : Int), .int .i64 (L : Int), .int .i64 (P : Int), .string (bsL s), .string (bsL d), .string (bsL q)]) := Blk.new _ _ _
  have q40 : q.length ≤ 40 := hR.2.2.2.2.2.2.2.2.1
  have hl : (headS (64 + (20 + q.length) / 4) T (20 + q.length + n) I (8192 * F + O) L P 0 s d q).length ≤ 1152921504606846976 := by
    have h7 : s.length = 4 := hR.2.2.2.2.2.2.1
    have h8 : d.length = 4 := hR.2.2.2.2.2.2.2.1
    rw [headS_len]; omega
  have SM : Hid (sumL (headS (64 + (20 + q.length) / 4) T (20 + q.length + n) I (8192 * F + O) L P 0 s d q) = sum0 (64 + (20 + q.length) / 4) T (20 + q.length + n) I (8192 * F + O) L P s d q) := rfl
  have FIN : Hid (headS (64 + (20 + q.length) / 4) T (20 + q.length + n) I (8192 * F + O) L P (sum0 (64 + (20 + q.length) / 4) T (20 + q.length + n) I (8192 * F + O) L P s d q) s d q = headL T I F O L P s d q n) := rfl
  have M1 := sum0_lt (64 + (20 + q.length) / 4) T (20 + q.length + n) I (8192 * F + O) L P s d q
  generalize sum0 (64 + (20 + q.length) / 4) T (20 + q.length + n) I (8192 * F + O) L P s d q = M at SM FIN M1
  obtain ⟨Z, hZ⟩ : ∃ Z, headS (64 + (20 + q.length) / 4) T (20 + q.length + n) I (8192 * F + O) L P 0 s d q = Z := ⟨_, rfl⟩
  rw [hZ] at hl SM
  have HZ : Hid (headS (64 + (20 + q.length) / 4) T (20 + q.length + n) I (8192 * F + O) L P 0 s d q = Z) := hZ
  clear hR hZ
  go_enter Try.func14, Try.ntmps14
  go_wp2_with fail
  go_region_held3 (fun w' => w'.cell? ⟨w.heap.size, 0, none⟩ = some (.int .i64 (T : Int)) ∧ w'.cell? ⟨w.heap.size, 1, none⟩ = some (.int .i64 (I : Int)) ∧ w'.cell? ⟨w.heap.size, 2, none⟩ = some (.int .i64 (F : Int)) ∧ w'.cell? ⟨w.heap.size, 3, none⟩ = some (.int .i64 (O : Int)) ∧ w'.cell? ⟨w.heap.size, 4, none⟩ = some (.int .i64 (L : Int)) ∧ w'.cell? ⟨w.heap.size, 5, none⟩ = some (.int .i64 (P : Int)) ∧ w'.cell? ⟨w.heap.size, 6, none⟩ = some (.string (bsL s)) ∧ w'.cell? ⟨w.heap.size, 7, none⟩ = some (.string (bsL d)) ∧ w'.cell? ⟨w.heap.size, 8, none⟩ = some (.string (bsL q))) (first | go_keep | exact KQ1.out | exact KQ2.out) (first
    | (go_simp; go_at_call 18; refine (rsum_any Z _ hl).mono ?_; rintro e q9 ⟨rfl, rfl⟩; rw [SM.out])
    | (go_simp; have fl := KB1; clear fl; go_at_call 22; refine (rhead_ok _ T I F O L P n M s d q HR.out hb M1).mono ?_; rintro e q2 ⟨rfl, c2⟩; rw [FIN.out]; have BQ2 : Hid (Below w.heap.size w q2) := bel_trans BQ1.out c2; have KB2 : Hid (Blk q2 w.heap.size 28 #[.int .i64 (T : Int), .int .i64 (I : Int), .int .i64 (F : Int), .int .i64 (O : Int), .int .i64 (L : Int), .int .i64 (P : Int), .string (bsL s), .string (bsL d), .string (bsL q)]) := KB1.out.since c2; have KQ2 : Hid (q2.cell? ⟨w.heap.size, 0, none⟩ = some (.int .i64 (T : Int)) ∧ q2.cell? ⟨w.heap.size, 1, none⟩ = some (.int .i64 (I : Int)) ∧ q2.cell? ⟨w.heap.size, 2, none⟩ = some (.int .i64 (F : Int)) ∧ q2.cell? ⟨w.heap.size, 3, none⟩ = some (.int .i64 (O : Int)) ∧ q2.cell? ⟨w.heap.size, 4, none⟩ = some (.int .i64 (L : Int)) ∧ q2.cell? ⟨w.heap.size, 5, none⟩ = some (.int .i64 (P : Int)) ∧ q2.cell? ⟨w.heap.size, 6, none⟩ = some (.string (bsL s)) ∧ q2.cell? ⟨w.heap.size, 7, none⟩ = some (.string (bsL d)) ∧ q2.cell? ⟨w.heap.size, 8, none⟩ = some (.string (bsL q))) := ⟨KB2.out.cell 0, KB2.out.cell 1, KB2.out.cell 2, KB2.out.cell 3, KB2.out.cell 4, KB2.out.cell 5, KB2.out.cell 6, KB2.out.cell 7, KB2.out.cell 8⟩; clear c2)
    | (go_simp; go_at_call 22; refine (rhead_ok _ T I F O L P n 0 s d q HR.out hb (by omega)).mono ?_; rintro e q1 ⟨rfl, c1⟩; rw [HZ.out]; have BQ1 : Hid (Below w.heap.size w q1) := bel_trans B1.out ⟨c1.os, c1.tape, c1.output, c1.size, c1.block⟩; have KB1 : Hid (Blk q1 w.heap.size 28 #[.int .i64 (T : Int), .int .i64 (I : Int), .int .i64 (F : Int), .int .i64 (O : Int), .int .i64 (L : Int), .int .i64 (P : Int), .string (bsL s), .string (bsL d), .string (bsL q)]) := K0.out.drew.since c1; have KQ1 : Hid (q1.cell? ⟨w.heap.size, 0, none⟩ = some (.int .i64 (T : Int)) ∧ q1.cell? ⟨w.heap.size, 1, none⟩ = some (.int .i64 (I : Int)) ∧ q1.cell? ⟨w.heap.size, 2, none⟩ = some (.int .i64 (F : Int)) ∧ q1.cell? ⟨w.heap.size, 3, none⟩ = some (.int .i64 (O : Int)) ∧ q1.cell? ⟨w.heap.size, 4, none⟩ = some (.int .i64 (L : Int)) ∧ q1.cell? ⟨w.heap.size, 5, none⟩ = some (.int .i64 (P : Int)) ∧ q1.cell? ⟨w.heap.size, 6, none⟩ = some (.string (bsL s)) ∧ q1.cell? ⟨w.heap.size, 7, none⟩ = some (.string (bsL d)) ∧ q1.cell? ⟨w.heap.size, 8, none⟩ = some (.string (bsL q))) := ⟨KB1.out.cell 0, KB1.out.cell 1, KB1.out.cell 2, KB1.out.cell 3, KB1.out.cell 4, KB1.out.cell 5, KB1.out.cell 6, KB1.out.cell 7, KB1.out.cell 8⟩; clear c1))
  go_wp2_with fail
  go_ret
  exact ⟨rfl, BQ2.out⟩
end Go.Proofs.Ytmblgiidfknodaa
