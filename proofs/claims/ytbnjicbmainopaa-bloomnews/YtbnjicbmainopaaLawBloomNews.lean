
/-
  BloomNews: a filter of any numbers is told as the document says, or refused. No condition.
-/
import Derived.Test.YtbnjicbmainopaaRows
import Derived.Test.YtbnjicbmainopaaBlmAwake
import Derived.Test.YtbnjicbmainopaaBlmRef
import Derived.WalkKit
import Derived.ProofKit
import Derived.OpenShut
import Derived.ShutString
import Derived.ChangeOld
import Derived.ChangeMaps5
import Derived.Below
import Derived.Carry
import Derived.Laws.StructEq
namespace Go.Proofs.Ytbnjicbmainopaa.bloomNews
open Fm Bl L2 Go.Deep
open Go.ChangeShapes Go.WideShapes Go.ChangeAt Go.RowKit Go.ChangeMaps
set_option linter.unusedVariables false

theorem own : ownKnob Try.prog.godebug = none := by kernel_rfl

set_option maxRecDepth 8000 in
set_option maxHeartbeats 3200000 in
theorem walk (a0 a1 a2 : Int) (w : World) (w0 : (Lit.int .u64 a0).wf = true) (w1 : (Lit.int .i64 a1).wf = true) (w2 : (Lit.int .i64 a2).wf = true) :
    Calls Try.prog 3 #[.int .u64 a0, .int .i64 a1, .int .i64 a2] w fun e w' => e = .returned (.bool true) ∧ Below w.heap.size w w' := by
  have uS : U a0 := bounds_u64 w0
  by_cases hf : fitsB a1 a2 = true
  rotate_left
  · have BEL0 : Hid (Below w.heap.size w w) := Below.refl _ _
    have hff : fitsB a1 a2 = false := by simpa using hf
    have hN := hf
    rw [fitsB_iff] at hN
    have HN : Hid (¬ (1 ≤ a1 ∧ a1 ≤ 256 ∧ 1 ≤ a2 ∧ a2 ≤ 7)) := hN
    clear hN hf
    go_enter Try.func3, Try.ntmps3
    go_wp2_with fail
    refine (new_bad a0 a1 a2 _ hff).mono ?_
    rintro e ww1 ⟨rfl, b1⟩
    have BEL1 : Hid (Below w.heap.size w ww1) := bel_trans BEL0.out b1
    clear BEL0
    clear b1
    clear hff
    have BEL2 : Hid (Below w.heap.size w (ww1.alloc (.cells #[.int .u64 0, .int .i64 0, .slice none 0 0] 25))) := bel_trans BEL1.out (bel_alloc _ _)
    clear BEL1
    have KB_f_2 : Hid (Blk (ww1.alloc (.cells #[.int .u64 0, .int .i64 0, .slice none 0 0] 25)) (ww1.heap.size) 25 #[.int .u64 0, .int .i64 0, .slice none 0 0]) := Blk.new _ _ _
    have FA_z_2 : Hid (FilterAt (ww1.alloc (.cells #[.int .u64 0, .int .i64 0, .slice none 0 0] 25)) (.agg #[.int .u64 0, .int .i64 0, .slice none 0 0]) 0 0 0 (fun _ => false)) := ⟨_, rfl, none, 0, 0, 0, rfl, Nat.le_refl _, fun h => absurd h (by omega), fun i h => absurd h (by omega)⟩
    by_cases d0 : a1 < 1
    · go_wp2_with fail
      refine (ref_any _ _ 0 0 0 _ FA_z_2.out).mono ?_
      rintro e ww2 ⟨rfl, b2⟩
      have BEL3 : Hid (Below w.heap.size w ww2) := bel_trans BEL2.out b2
      have FA_z_3 : Hid (FilterAt ww2 (.agg #[.int .u64 0, .int .i64 0, .slice none 0 0]) 0 0 0 (fun _ => false)) := FA_z_2.out.keep (keep_of_below b2)
      have KB_f_3 : Hid (Blk ww2 (ww1.heap.size) 25 #[.int .u64 0, .int .i64 0, .slice none 0 0]) := KB_f_2.out.since b2
      clear BEL2 FA_z_2 KB_f_2
      clear b2
      go_wp2_with fail
      refine (requal_any _ _ _ 0 0 0 0 0 0 _ _ FA_z_3.out FA_z_3.out (by omega)).mono ?_
      rintro e ww3 ⟨c3, rfl, h3, b3⟩
      have BEL4 : Hid (Below w.heap.size w ww3) := bel_trans BEL3.out b3
      have FA_z_4 : Hid (FilterAt ww3 (.agg #[.int .u64 0, .int .i64 0, .slice none 0 0]) 0 0 0 (fun _ => false)) := FA_z_3.out.keep (keep_of_below b3)
      have KB_f_4 : Hid (Blk ww3 (ww1.heap.size) 25 #[.int .u64 0, .int .i64 0, .slice none 0 0]) := KB_f_3.out.since b3
      clear BEL3 FA_z_3 KB_f_3
      clear b3
      obtain rfl : c3 = true := h3.2 ⟨rfl, rfl, rfl, fun i hi => rfl⟩
      clear h3
      go_wp2_with fail
      refine (awake_any _).mono ?_
      rintro e ww99 ⟨rfl, b9⟩
      have BEL5 : Hid (Below w.heap.size w ww99) := bel_trans BEL4.out b9
      have FA_z_5 : Hid (FilterAt ww99 (.agg #[.int .u64 0, .int .i64 0, .slice none 0 0]) 0 0 0 (fun _ => false)) := FA_z_4.out.keep (keep_of_below b9)
      have KB_f_5 : Hid (Blk ww99 (ww1.heap.size) 25 #[.int .u64 0, .int .i64 0, .slice none 0 0]) := KB_f_4.out.since b9
      clear BEL4 FA_z_4 KB_f_4
      clear b9
      go_wp2_with fail
      go_ret
      exact ⟨rfl, BEL5.out⟩
    by_cases d1 : 256 < a1
    · go_wp2_with fail
      refine (ref_any _ _ 0 0 0 _ FA_z_2.out).mono ?_
      rintro e ww2 ⟨rfl, b2⟩
      have BEL3 : Hid (Below w.heap.size w ww2) := bel_trans BEL2.out b2
      have FA_z_3 : Hid (FilterAt ww2 (.agg #[.int .u64 0, .int .i64 0, .slice none 0 0]) 0 0 0 (fun _ => false)) := FA_z_2.out.keep (keep_of_below b2)
      have KB_f_3 : Hid (Blk ww2 (ww1.heap.size) 25 #[.int .u64 0, .int .i64 0, .slice none 0 0]) := KB_f_2.out.since b2
      clear BEL2 FA_z_2 KB_f_2
      clear b2
      go_wp2_with fail
      refine (requal_any _ _ _ 0 0 0 0 0 0 _ _ FA_z_3.out FA_z_3.out (by omega)).mono ?_
      rintro e ww3 ⟨c3, rfl, h3, b3⟩
      have BEL4 : Hid (Below w.heap.size w ww3) := bel_trans BEL3.out b3
      have FA_z_4 : Hid (FilterAt ww3 (.agg #[.int .u64 0, .int .i64 0, .slice none 0 0]) 0 0 0 (fun _ => false)) := FA_z_3.out.keep (keep_of_below b3)
      have KB_f_4 : Hid (Blk ww3 (ww1.heap.size) 25 #[.int .u64 0, .int .i64 0, .slice none 0 0]) := KB_f_3.out.since b3
      clear BEL3 FA_z_3 KB_f_3
      clear b3
      obtain rfl : c3 = true := h3.2 ⟨rfl, rfl, rfl, fun i hi => rfl⟩
      clear h3
      go_wp2_with fail
      refine (awake_any _).mono ?_
      rintro e ww99 ⟨rfl, b9⟩
      have BEL5 : Hid (Below w.heap.size w ww99) := bel_trans BEL4.out b9
      have FA_z_5 : Hid (FilterAt ww99 (.agg #[.int .u64 0, .int .i64 0, .slice none 0 0]) 0 0 0 (fun _ => false)) := FA_z_4.out.keep (keep_of_below b9)
      have KB_f_5 : Hid (Blk ww99 (ww1.heap.size) 25 #[.int .u64 0, .int .i64 0, .slice none 0 0]) := KB_f_4.out.since b9
      clear BEL4 FA_z_4 KB_f_4
      clear b9
      go_wp2_with fail
      go_ret
      exact ⟨rfl, BEL5.out⟩
    by_cases d2 : a2 < 1
    · go_wp2_with fail
      refine (ref_any _ _ 0 0 0 _ FA_z_2.out).mono ?_
      rintro e ww2 ⟨rfl, b2⟩
      have BEL3 : Hid (Below w.heap.size w ww2) := bel_trans BEL2.out b2
      have FA_z_3 : Hid (FilterAt ww2 (.agg #[.int .u64 0, .int .i64 0, .slice none 0 0]) 0 0 0 (fun _ => false)) := FA_z_2.out.keep (keep_of_below b2)
      have KB_f_3 : Hid (Blk ww2 (ww1.heap.size) 25 #[.int .u64 0, .int .i64 0, .slice none 0 0]) := KB_f_2.out.since b2
      clear BEL2 FA_z_2 KB_f_2
      clear b2
      go_wp2_with fail
      refine (requal_any _ _ _ 0 0 0 0 0 0 _ _ FA_z_3.out FA_z_3.out (by omega)).mono ?_
      rintro e ww3 ⟨c3, rfl, h3, b3⟩
      have BEL4 : Hid (Below w.heap.size w ww3) := bel_trans BEL3.out b3
      have FA_z_4 : Hid (FilterAt ww3 (.agg #[.int .u64 0, .int .i64 0, .slice none 0 0]) 0 0 0 (fun _ => false)) := FA_z_3.out.keep (keep_of_below b3)
      have KB_f_4 : Hid (Blk ww3 (ww1.heap.size) 25 #[.int .u64 0, .int .i64 0, .slice none 0 0]) := KB_f_3.out.since b3
      clear BEL3 FA_z_3 KB_f_3
      clear b3
      obtain rfl : c3 = true := h3.2 ⟨rfl, rfl, rfl, fun i hi => rfl⟩
      clear h3
      go_wp2_with fail
      refine (awake_any _).mono ?_
      rintro e ww99 ⟨rfl, b9⟩
      have BEL5 : Hid (Below w.heap.size w ww99) := bel_trans BEL4.out b9
      have FA_z_5 : Hid (FilterAt ww99 (.agg #[.int .u64 0, .int .i64 0, .slice none 0 0]) 0 0 0 (fun _ => false)) := FA_z_4.out.keep (keep_of_below b9)
      have KB_f_5 : Hid (Blk ww99 (ww1.heap.size) 25 #[.int .u64 0, .int .i64 0, .slice none 0 0]) := KB_f_4.out.since b9
      clear BEL4 FA_z_4 KB_f_4
      clear b9
      go_wp2_with fail
      go_ret
      exact ⟨rfl, BEL5.out⟩
    have d3 : 7 < a2 := by have := HN.out; omega
    go_wp2_with fail
    refine (ref_any _ _ 0 0 0 _ FA_z_2.out).mono ?_
    rintro e ww2 ⟨rfl, b2⟩
    have BEL3 : Hid (Below w.heap.size w ww2) := bel_trans BEL2.out b2
    have FA_z_3 : Hid (FilterAt ww2 (.agg #[.int .u64 0, .int .i64 0, .slice none 0 0]) 0 0 0 (fun _ => false)) := FA_z_2.out.keep (keep_of_below b2)
    have KB_f_3 : Hid (Blk ww2 (ww1.heap.size) 25 #[.int .u64 0, .int .i64 0, .slice none 0 0]) := KB_f_2.out.since b2
    clear BEL2 FA_z_2 KB_f_2
    clear b2
    go_wp2_with fail
    refine (requal_any _ _ _ 0 0 0 0 0 0 _ _ FA_z_3.out FA_z_3.out (by omega)).mono ?_
    rintro e ww3 ⟨c3, rfl, h3, b3⟩
    have BEL4 : Hid (Below w.heap.size w ww3) := bel_trans BEL3.out b3
    have FA_z_4 : Hid (FilterAt ww3 (.agg #[.int .u64 0, .int .i64 0, .slice none 0 0]) 0 0 0 (fun _ => false)) := FA_z_3.out.keep (keep_of_below b3)
    have KB_f_4 : Hid (Blk ww3 (ww1.heap.size) 25 #[.int .u64 0, .int .i64 0, .slice none 0 0]) := KB_f_3.out.since b3
    clear BEL3 FA_z_3 KB_f_3
    clear b3
    obtain rfl : c3 = true := h3.2 ⟨rfl, rfl, rfl, fun i hi => rfl⟩
    clear h3
    go_wp2_with fail
    refine (awake_any _).mono ?_
    rintro e ww99 ⟨rfl, b9⟩
    have BEL5 : Hid (Below w.heap.size w ww99) := bel_trans BEL4.out b9
    have FA_z_5 : Hid (FilterAt ww99 (.agg #[.int .u64 0, .int .i64 0, .slice none 0 0]) 0 0 0 (fun _ => false)) := FA_z_4.out.keep (keep_of_below b9)
    have KB_f_5 : Hid (Blk ww99 (ww1.heap.size) 25 #[.int .u64 0, .int .i64 0, .slice none 0 0]) := KB_f_4.out.since b9
    clear BEL4 FA_z_4 KB_f_4
    clear b9
    go_wp2_with fail
    go_ret
    exact ⟨rfl, BEL5.out⟩
  have BEL0 : Hid (Below w.heap.size w w) := Below.refl _ _
  have hR := (fitsB_iff _ _).1 hf
  obtain ⟨n, rfl⟩ : ∃ n : Nat, a1 = n := ⟨a1.toNat, by omega⟩
  have n1 : 1 ≤ n := by omega
  have n2 : n ≤ 256 := by omega
  have d0 : ¬ (n : Int) < 1 := by omega
  have d1 : ¬ 256 < (n : Int) := by omega
  have d2 : ¬ a2 < 1 := by omega
  have d3 : ¬ 7 < a2 := by omega
  have HF : Hid (fitsB n a2 = true) := hf
  clear hR
  go_enter Try.func3, Try.ntmps3
  go_wp2_with fail
  refine (new_ok a0 n a2 _ HF.out).mono ?_
  rintro e ww1 ⟨x1, rfl, f1, b1⟩
  have BEL1 : Hid (Below w.heap.size w ww1) := bel_trans BEL0.out b1
  clear BEL0
  clear b1
  have FA_f_1 : Hid (FilterAt ww1 (x1) a0 a2 n (fun _ => false)) := f1
  obtain ⟨v1, rfl, A1, cap1, bb1, oo1, rfl, hx1, hx2, hx3⟩ := f1
  clear hx1 hx2 hx3
  have BEL2 : Hid (Below w.heap.size w (ww1.alloc (.cells #[.int .u64 a0, .int .i64 a2, .slice A1 n cap1] 25))) := bel_trans BEL1.out (bel_alloc _ _)
  have FA_f_2 : Hid (FilterAt (ww1.alloc (.cells #[.int .u64 a0, .int .i64 a2, .slice A1 n cap1] 25)) (.agg #[.int .u64 a0, .int .i64 a2, .slice A1 n cap1]) a0 a2 n (fun _ => false)) := FA_f_1.out.keep (keep_of_below (bel_alloc _ _))
  clear BEL1 FA_f_1
  have KB_f_2 : Hid (Blk (ww1.alloc (.cells #[.int .u64 a0, .int .i64 a2, .slice A1 n cap1] 25)) (ww1.heap.size) 25 #[.int .u64 a0, .int .i64 a2, .slice A1 n cap1]) := Blk.new _ _ _
  go_wp2_with fail
  refine (ref_any _ _ a0 a2 n _ FA_f_2.out).mono ?_
  rintro e ww2 ⟨rfl, b2⟩
  have BEL3 : Hid (Below w.heap.size w ww2) := bel_trans BEL2.out b2
  have FA_f_3 : Hid (FilterAt ww2 (.agg #[.int .u64 a0, .int .i64 a2, .slice A1 n cap1]) a0 a2 n (fun _ => false)) := FA_f_2.out.keep (keep_of_below b2)
  have KB_f_3 : Hid (Blk ww2 (ww1.heap.size) 25 #[.int .u64 a0, .int .i64 a2, .slice A1 n cap1]) := KB_f_2.out.since b2
  clear BEL2 FA_f_2 KB_f_2
  clear b2
  have CE_f_0 : ww2.cell? ⟨ww1.heap.size, 0, none⟩ = some (.int .u64 a0) := KB_f_3.out.cell 0
  have CE_f_1 : ww2.cell? ⟨ww1.heap.size, 1, none⟩ = some (.int .i64 a2) := KB_f_3.out.cell 1
  have CE_f_2 : ww2.cell? ⟨ww1.heap.size, 2, none⟩ = some (.slice A1 n cap1) := KB_f_3.out.cell 2
  have CE_f_lt : ww1.heap.size < ww2.heap.size := KB_f_3.out.lt
  go_wp2_with fail
  refine (rnew_ok a0 n a2 _ HF.out).mono ?_
  rintro e ww3 ⟨x3, rfl, f3, b3⟩
  clear CE_f_0 CE_f_1 CE_f_2 CE_f_lt
  have BEL4 : Hid (Below w.heap.size w ww3) := bel_trans BEL3.out b3
  have FA_f_4 : Hid (FilterAt ww3 (.agg #[.int .u64 a0, .int .i64 a2, .slice A1 n cap1]) a0 a2 n (fun _ => false)) := FA_f_3.out.keep (keep_of_below b3)
  have KB_f_4 : Hid (Blk ww3 (ww1.heap.size) 25 #[.int .u64 a0, .int .i64 a2, .slice A1 n cap1]) := KB_f_3.out.since b3
  clear BEL3 FA_f_3 KB_f_3
  clear b3
  have FA_g_4 : Hid (FilterAt ww3 (x3) a0 a2 n (fun _ => false)) := f3
  obtain ⟨v3, rfl, A3, cap3, bb3, oo3, rfl, hx1, hx2, hx3⟩ := f3
  clear hx1 hx2 hx3
  go_wp2_with fail
  refine (requal_any _ _ _ a0 a2 a0 a2 n n _ _ FA_f_4.out FA_g_4.out (by omega)).mono ?_
  rintro e ww4 ⟨c3, rfl, h3, b4⟩
  have BEL5 : Hid (Below w.heap.size w ww4) := bel_trans BEL4.out b4
  have FA_f_5 : Hid (FilterAt ww4 (.agg #[.int .u64 a0, .int .i64 a2, .slice A1 n cap1]) a0 a2 n (fun _ => false)) := FA_f_4.out.keep (keep_of_below b4)
  have FA_g_5 : Hid (FilterAt ww4 (.agg #[.int .u64 a0, .int .i64 a2, .slice A3 n cap3]) a0 a2 n (fun _ => false)) := FA_g_4.out.keep (keep_of_below b4)
  have KB_f_5 : Hid (Blk ww4 (ww1.heap.size) 25 #[.int .u64 a0, .int .i64 a2, .slice A1 n cap1]) := KB_f_4.out.since b4
  clear BEL4 FA_f_4 FA_g_4 KB_f_4
  clear b4
  obtain rfl : c3 = true := h3.2 ⟨rfl, rfl, rfl, fun i hi => rfl⟩
  clear h3
  have CE_f_0 : ww4.cell? ⟨ww1.heap.size, 0, none⟩ = some (.int .u64 a0) := KB_f_5.out.cell 0
  have CE_f_1 : ww4.cell? ⟨ww1.heap.size, 1, none⟩ = some (.int .i64 a2) := KB_f_5.out.cell 1
  have CE_f_2 : ww4.cell? ⟨ww1.heap.size, 2, none⟩ = some (.slice A1 n cap1) := KB_f_5.out.cell 2
  have CE_f_lt : ww1.heap.size < ww4.heap.size := KB_f_5.out.lt
  go_wp2_with fail
  refine (right_any _ _ a0 a2 n _ FA_f_5.out).mono ?_
  rintro e ww5 ⟨rfl, b5⟩
  clear CE_f_0 CE_f_1 CE_f_2 CE_f_lt
  have BEL6 : Hid (Below w.heap.size w ww5) := bel_trans BEL5.out b5
  have FA_f_6 : Hid (FilterAt ww5 (.agg #[.int .u64 a0, .int .i64 a2, .slice A1 n cap1]) a0 a2 n (fun _ => false)) := FA_f_5.out.keep (keep_of_below b5)
  have FA_g_6 : Hid (FilterAt ww5 (.agg #[.int .u64 a0, .int .i64 a2, .slice A3 n cap3]) a0 a2 n (fun _ => false)) := FA_g_5.out.keep (keep_of_below b5)
  have KB_f_6 : Hid (Blk ww5 (ww1.heap.size) 25 #[.int .u64 a0, .int .i64 a2, .slice A1 n cap1]) := KB_f_5.out.since b5
  clear BEL5 FA_f_5 FA_g_5 KB_f_5
  clear b5
  rw [HF.out]
  have CE_f_0 : ww5.cell? ⟨ww1.heap.size, 0, none⟩ = some (.int .u64 a0) := KB_f_6.out.cell 0
  have CE_f_1 : ww5.cell? ⟨ww1.heap.size, 1, none⟩ = some (.int .i64 a2) := KB_f_6.out.cell 1
  have CE_f_2 : ww5.cell? ⟨ww1.heap.size, 2, none⟩ = some (.slice A1 n cap1) := KB_f_6.out.cell 2
  have CE_f_lt : ww1.heap.size < ww5.heap.size := KB_f_6.out.lt
  have SB : Hid (setB n a2 (fun _ => false) = 0) := (if_pos HF.out).trans (cntB_none _ fun i _ => rfl)
  go_wp2_with fail
  refine (set_any _ _ a0 a2 n _ FA_f_6.out).mono ?_
  rintro e ww6 ⟨rfl, b6⟩
  clear CE_f_0 CE_f_1 CE_f_2 CE_f_lt
  have BEL7 : Hid (Below w.heap.size w ww6) := bel_trans BEL6.out b6
  have FA_f_7 : Hid (FilterAt ww6 (.agg #[.int .u64 a0, .int .i64 a2, .slice A1 n cap1]) a0 a2 n (fun _ => false)) := FA_f_6.out.keep (keep_of_below b6)
  have FA_g_7 : Hid (FilterAt ww6 (.agg #[.int .u64 a0, .int .i64 a2, .slice A3 n cap3]) a0 a2 n (fun _ => false)) := FA_g_6.out.keep (keep_of_below b6)
  have KB_f_7 : Hid (Blk ww6 (ww1.heap.size) 25 #[.int .u64 a0, .int .i64 a2, .slice A1 n cap1]) := KB_f_6.out.since b6
  clear BEL6 FA_f_6 FA_g_6 KB_f_6
  clear b6
  rw [SB.out]
  go_wp2_with fail
  refine (awake_any _).mono ?_
  rintro e ww99 ⟨rfl, b9⟩
  have BEL8 : Hid (Below w.heap.size w ww99) := bel_trans BEL7.out b9
  have FA_f_8 : Hid (FilterAt ww99 (.agg #[.int .u64 a0, .int .i64 a2, .slice A1 n cap1]) a0 a2 n (fun _ => false)) := FA_f_7.out.keep (keep_of_below b9)
  have FA_g_8 : Hid (FilterAt ww99 (.agg #[.int .u64 a0, .int .i64 a2, .slice A3 n cap3]) a0 a2 n (fun _ => false)) := FA_g_7.out.keep (keep_of_below b9)
  have KB_f_8 : Hid (Blk ww99 (ww1.heap.size) 25 #[.int .u64 a0, .int .i64 a2, .slice A1 n cap1]) := KB_f_7.out.since b9
  clear BEL7 FA_f_7 FA_g_7 KB_f_7
  clear b9
  go_wp2_with fail
  go_ret
  exact ⟨rfl, BEL8.out⟩

/-! ### The row -/
theorem laidOut : laidOutB Try.prog = true := by kernel_rfl
set_option maxRecDepth 100000 in
theorem lifted (os : Os) (started : os.Started) (H : Type) (enc : TypeId × Value → H) :
    ReturnsInHanded {} Try.checked os 3 .any (Rows.bloomNewsSpec.pre6 enc Try.prog Try.f3 Rows.bloomNewsRow.domain false) (Rows.bloomNewsSpec.post enc Try.prog Try.f3 false true false false) := by
  refine returnsInHanded_of_change (C := Try.checked) own started (by kernel_rfl) Try.func3
    (ChangeSpec.witness6 (enc := enc) (C := Try.checked) false ⟨#[], #[.int .u64 0, .int .i64 0, .int .i64 0], []⟩ 8 (by kernel_rfl) (by kernel_rfl) (by kernel_rfl) (by kernel_rfl)) ?_
  intro W base args ds gs before hval0 hW hcnd _
  have hval : ∀ (j : Nat) t v, Try.f3.params[j]? = some t → args[j]? = some v → Value.okWide Try.prog W .any base t v := hval0
  have hW' := hW
  obtain ⟨p, q, hA0, hV, rfl, hfz, hnd⟩ := hW
  have hA : DataW.TrodAll enc Try.prog W 0 (fun _ => true) true Try.f3.params.toList args.toList ds p := hA0
  rw [Try.params3] at hA hval
  obtain ⟨v0, vs0, d0, ds0, p0, q0, hargs, rfl, rfl, h0, r0⟩ := trodAll_cons hA
  obtain ⟨v1, vs1, d1, ds1, p1, q1, rfl, rfl, rfl, h1, r1⟩ := trodAll_cons r0
  obtain ⟨v2, vs2, d2, ds2, p2, q2, rfl, rfl, rfl, h2, r2⟩ := trodAll_cons r1
  obtain ⟨rfl, rfl, rfl⟩ := trodAll_nil r2
  obtain rfl : args = #[v0, v1, v2] := by cases args; simp_all
  obtain ⟨rfl, rfl⟩ := trodVars_none hV
  obtain ⟨a0, rfl, rfl, rfl, w0⟩ := open_int Try.underlying22 (hval 0 22 v0 rfl rfl) h0
  obtain ⟨a1, rfl, rfl, rfl, w1⟩ := open_int Try.underlying3 (hval 1 3 v1 rfl rfl) h1
  obtain ⟨a2, rfl, rfl, rfl, w2⟩ := open_int Try.underlying3 (hval 2 3 v2 rfl rfl) h2
  clear hA0 hval0
  refine (walk a0 a1 a2 W w0 w1 w2).mono fun e W' ⟨he, bel⟩ => ?_
  subst he
  exact ⟨_, rfl, _, _, _, [], _, [], hW', trodAll_mk1 (shut_bool Try.underlying4 _), (trodAll_cons_mk (shut_int Try.underlying22 w0) (trodAll_cons_mk (shut_int Try.underlying3 w1) (trodAll_cons_mk (shut_int Try.underlying3 w2) trodAll_mk0))), rfl, bel.frame _, fun h => by cases h⟩

theorem over : Rows.bloomNewsRow.holds Try.pinned (OpenSpec.ofChange Rows.bloomNewsSpec) :=
  OpenClaim.holds_of_wide 3 Try.f3 rfl rfl rfl rfl rfl rfl rfl ⟨rfl, rfl, rfl, rfl, rfl⟩ rfl rfl rfl rfl rfl (by kernel_rfl) Try.func3 (by kernel_rfl)
    (of_decide_eq_true (by kernel_rfl)) (by unfold Func.isWrapper; first | (rw [if_pos (by decide +kernel)]; kernel_rfl) | (rw [if_neg (by decide +kernel)]; exact ⟨rfl, rfl⟩))
    (fun os started H enc _ => lifted os started H enc)

theorem proved : Rows.BloomNewsSaid := over
end Go.Proofs.Ytbnjicbmainopaa.bloomNews
namespace Go.Proofs.Ytbnjicbmainopaa
theorem bloomNews_holds : Rows.BloomNewsSaid := bloomNews.proved
#print axioms bloomNews_holds
end Go.Proofs.Ytbnjicbmainopaa
