
/-
  BloomMerges: any two filters are merged as the document says, or refused. No condition.
-/
import Derived.Test.YtbnjicbmainopaaRows
import Derived.Test.YtbnjicbmainopaaBlmAwake
import Derived.Test.YtbnjicbmainopaaBlmRef
import Derived.Test.YtbnjicbmainopaaBlmMerge
import Derived.WalkKit
import Derived.ProofKit
import Derived.OpenShut
import Derived.ShutString
import Derived.ChangeOld
import Derived.ChangeMaps5
import Derived.Below
import Derived.Carry
import Derived.Laws.StructEq
import Derived.BigQuiet
import Derived.Deep.Cut
import Derived.Deep.CutRange
namespace Go.Proofs.Ytbnjicbmainopaa.bloomMerges
open Fm Bl L2 Go.Deep
open Go.ChangeShapes Go.WideShapes Go.ChangeAt Go.RowKit Go.ChangeMaps
set_option linter.unusedVariables false

theorem own : ownKnob Try.prog.godebug = none := by kernel_rfl

set_option maxRecDepth 8000 in
set_option maxHeartbeats 3200000 in
theorem walk (v0 : Value) (F0 : Flt) (v1 : Value) (F1 : Flt) (w : World) (h0 : FilterIn w v0 F0) (h1 : FilterIn w v1 F1) :
    Calls Try.prog 5 #[v0, v1] w fun e w' => e = .returned (.bool true) ∧ Below w.heap.size w w' := by
  obtain ⟨S, H, n, B⟩ := F0
  obtain ⟨hF, uS, iH⟩ := h0
  obtain ⟨S', H', m, C⟩ := F1
  obtain ⟨hG, uS', iH'⟩ := h1
  simp only at hF uS iH hG uS' iH'
  obtain ⟨v, rfl, A, cap, bq, oq, rfl, hcap, q3, q4⟩ := id hF
  obtain ⟨v', rfl, A', cap', bq', oq', rfl, hcap', q3', q4'⟩ := id hG
  by_cases c0 : 300 < n
  · have BEL0 : Hid (Below w.heap.size w w) := Below.refl _ _
    have FA_a_0 : Hid (FilterAt w (.agg #[.int .u64 S, .int .i64 H, .slice A n cap]) S H n B) := hF
    have FA_b_0 : Hid (FilterAt w (.agg #[.int .u64 S', .int .i64 H', .slice A' m cap']) S' H' m C) := hG
    clear hF hG q3 q4 hcap q3' q4' hcap'
    go_enter Try.func5, Try.ntmps5
    have BEL1 : Hid (Below w.heap.size w (w.alloc (.cells #[.int .u64 S, .int .i64 H, .slice A n cap] 25))) := bel_trans BEL0.out (bel_alloc _ _)
    have FA_a_1 : Hid (FilterAt (w.alloc (.cells #[.int .u64 S, .int .i64 H, .slice A n cap] 25)) (.agg #[.int .u64 S, .int .i64 H, .slice A n cap]) S H n B) := FA_a_0.out.keep (keep_of_below (bel_alloc _ _))
    have FA_b_1 : Hid (FilterAt (w.alloc (.cells #[.int .u64 S, .int .i64 H, .slice A n cap] 25)) (.agg #[.int .u64 S', .int .i64 H', .slice A' m cap']) S' H' m C) := FA_b_0.out.keep (keep_of_below (bel_alloc _ _))
    clear BEL0 FA_a_0 FA_b_0
    have KB_bx_1 : Hid (Blk (w.alloc (.cells #[.int .u64 S, .int .i64 H, .slice A n cap] 25)) (w.heap.size) 25 #[.int .u64 S, .int .i64 H, .slice A n cap]) := Blk.new _ _ _
    have BEL2 : Hid (Below w.heap.size w ((w.alloc (.cells #[.int .u64 S, .int .i64 H, .slice A n cap] 25)).alloc (.cells #[.int .u64 S', .int .i64 H', .slice A' m cap'] 25))) := bel_trans BEL1.out (bel_alloc _ _)
    have FA_a_2 : Hid (FilterAt ((w.alloc (.cells #[.int .u64 S, .int .i64 H, .slice A n cap] 25)).alloc (.cells #[.int .u64 S', .int .i64 H', .slice A' m cap'] 25)) (.agg #[.int .u64 S, .int .i64 H, .slice A n cap]) S H n B) := FA_a_1.out.keep (keep_of_below (bel_alloc _ _))
    have FA_b_2 : Hid (FilterAt ((w.alloc (.cells #[.int .u64 S, .int .i64 H, .slice A n cap] 25)).alloc (.cells #[.int .u64 S', .int .i64 H', .slice A' m cap'] 25)) (.agg #[.int .u64 S', .int .i64 H', .slice A' m cap']) S' H' m C) := FA_b_1.out.keep (keep_of_below (bel_alloc _ _))
    have KB_bx_2 : Hid (Blk ((w.alloc (.cells #[.int .u64 S, .int .i64 H, .slice A n cap] 25)).alloc (.cells #[.int .u64 S', .int .i64 H', .slice A' m cap'] 25)) (w.heap.size) 25 #[.int .u64 S, .int .i64 H, .slice A n cap]) := KB_bx_1.out.since (bel_alloc _ _)
    clear BEL1 FA_a_1 FA_b_1 KB_bx_1
    have KB_by_2 : Hid (Blk ((w.alloc (.cells #[.int .u64 S, .int .i64 H, .slice A n cap] 25)).alloc (.cells #[.int .u64 S', .int .i64 H', .slice A' m cap'] 25)) (w.heap.size + 1) 25 #[.int .u64 S', .int .i64 H', .slice A' m cap']) := by
      have e := Blk.new (w.alloc (.cells #[.int .u64 S, .int .i64 H, .slice A n cap] 25)) 25 #[.int .u64 S', .int .i64 H', .slice A' m cap']
      simp only [World.size_alloc] at e
      exact e
    go_wp2_with fail
    refine (awake_any _).mono ?_
    rintro e ww99 ⟨rfl, b9⟩
    have BEL3 : Hid (Below w.heap.size w ww99) := bel_trans BEL2.out b9
    have FA_a_3 : Hid (FilterAt ww99 (.agg #[.int .u64 S, .int .i64 H, .slice A n cap]) S H n B) := FA_a_2.out.keep (keep_of_below b9)
    have FA_b_3 : Hid (FilterAt ww99 (.agg #[.int .u64 S', .int .i64 H', .slice A' m cap']) S' H' m C) := FA_b_2.out.keep (keep_of_below b9)
    have KB_bx_3 : Hid (Blk ww99 (w.heap.size) 25 #[.int .u64 S, .int .i64 H, .slice A n cap]) := KB_bx_2.out.since b9
    have KB_by_3 : Hid (Blk ww99 (w.heap.size + 1) 25 #[.int .u64 S', .int .i64 H', .slice A' m cap']) := KB_by_2.out.since b9
    clear BEL2 FA_a_2 FA_b_2 KB_bx_2 KB_by_2
    clear b9
    go_wp2_with fail
    go_ret
    exact ⟨rfl, BEL3.out⟩
  by_cases c1 : 300 < m
  · have BEL0 : Hid (Below w.heap.size w w) := Below.refl _ _
    have FA_a_0 : Hid (FilterAt w (.agg #[.int .u64 S, .int .i64 H, .slice A n cap]) S H n B) := hF
    have FA_b_0 : Hid (FilterAt w (.agg #[.int .u64 S', .int .i64 H', .slice A' m cap']) S' H' m C) := hG
    clear hF hG q3 q4 hcap q3' q4' hcap'
    go_enter Try.func5, Try.ntmps5
    have BEL1 : Hid (Below w.heap.size w (w.alloc (.cells #[.int .u64 S, .int .i64 H, .slice A n cap] 25))) := bel_trans BEL0.out (bel_alloc _ _)
    have FA_a_1 : Hid (FilterAt (w.alloc (.cells #[.int .u64 S, .int .i64 H, .slice A n cap] 25)) (.agg #[.int .u64 S, .int .i64 H, .slice A n cap]) S H n B) := FA_a_0.out.keep (keep_of_below (bel_alloc _ _))
    have FA_b_1 : Hid (FilterAt (w.alloc (.cells #[.int .u64 S, .int .i64 H, .slice A n cap] 25)) (.agg #[.int .u64 S', .int .i64 H', .slice A' m cap']) S' H' m C) := FA_b_0.out.keep (keep_of_below (bel_alloc _ _))
    clear BEL0 FA_a_0 FA_b_0
    have KB_bx_1 : Hid (Blk (w.alloc (.cells #[.int .u64 S, .int .i64 H, .slice A n cap] 25)) (w.heap.size) 25 #[.int .u64 S, .int .i64 H, .slice A n cap]) := Blk.new _ _ _
    have BEL2 : Hid (Below w.heap.size w ((w.alloc (.cells #[.int .u64 S, .int .i64 H, .slice A n cap] 25)).alloc (.cells #[.int .u64 S', .int .i64 H', .slice A' m cap'] 25))) := bel_trans BEL1.out (bel_alloc _ _)
    have FA_a_2 : Hid (FilterAt ((w.alloc (.cells #[.int .u64 S, .int .i64 H, .slice A n cap] 25)).alloc (.cells #[.int .u64 S', .int .i64 H', .slice A' m cap'] 25)) (.agg #[.int .u64 S, .int .i64 H, .slice A n cap]) S H n B) := FA_a_1.out.keep (keep_of_below (bel_alloc _ _))
    have FA_b_2 : Hid (FilterAt ((w.alloc (.cells #[.int .u64 S, .int .i64 H, .slice A n cap] 25)).alloc (.cells #[.int .u64 S', .int .i64 H', .slice A' m cap'] 25)) (.agg #[.int .u64 S', .int .i64 H', .slice A' m cap']) S' H' m C) := FA_b_1.out.keep (keep_of_below (bel_alloc _ _))
    have KB_bx_2 : Hid (Blk ((w.alloc (.cells #[.int .u64 S, .int .i64 H, .slice A n cap] 25)).alloc (.cells #[.int .u64 S', .int .i64 H', .slice A' m cap'] 25)) (w.heap.size) 25 #[.int .u64 S, .int .i64 H, .slice A n cap]) := KB_bx_1.out.since (bel_alloc _ _)
    clear BEL1 FA_a_1 FA_b_1 KB_bx_1
    have KB_by_2 : Hid (Blk ((w.alloc (.cells #[.int .u64 S, .int .i64 H, .slice A n cap] 25)).alloc (.cells #[.int .u64 S', .int .i64 H', .slice A' m cap'] 25)) (w.heap.size + 1) 25 #[.int .u64 S', .int .i64 H', .slice A' m cap']) := by
      have e := Blk.new (w.alloc (.cells #[.int .u64 S, .int .i64 H, .slice A n cap] 25)) 25 #[.int .u64 S', .int .i64 H', .slice A' m cap']
      simp only [World.size_alloc] at e
      exact e
    go_wp2_with fail
    refine (awake_any _).mono ?_
    rintro e ww99 ⟨rfl, b9⟩
    have BEL3 : Hid (Below w.heap.size w ww99) := bel_trans BEL2.out b9
    have FA_a_3 : Hid (FilterAt ww99 (.agg #[.int .u64 S, .int .i64 H, .slice A n cap]) S H n B) := FA_a_2.out.keep (keep_of_below b9)
    have FA_b_3 : Hid (FilterAt ww99 (.agg #[.int .u64 S', .int .i64 H', .slice A' m cap']) S' H' m C) := FA_b_2.out.keep (keep_of_below b9)
    have KB_bx_3 : Hid (Blk ww99 (w.heap.size) 25 #[.int .u64 S, .int .i64 H, .slice A n cap]) := KB_bx_2.out.since b9
    have KB_by_3 : Hid (Blk ww99 (w.heap.size + 1) 25 #[.int .u64 S', .int .i64 H', .slice A' m cap']) := KB_by_2.out.since b9
    clear BEL2 FA_a_2 FA_b_2 KB_bx_2 KB_by_2
    clear b9
    go_wp2_with fail
    go_ret
    exact ⟨rfl, BEL3.out⟩
  by_cases hA0 : fitsB n H = true
  rotate_left
  · have hA : fitsB n H = false := by simpa using hA0
    clear hA0
    have BEL0 : Hid (Below w.heap.size w w) := Below.refl _ _
    have FA_a_0 : Hid (FilterAt w (.agg #[.int .u64 S, .int .i64 H, .slice A n cap]) S H n B) := hF
    have FA_b_0 : Hid (FilterAt w (.agg #[.int .u64 S', .int .i64 H', .slice A' m cap']) S' H' m C) := hG
    clear hF hG q3 q4 hcap q3' q4' hcap'
    go_enter Try.func5, Try.ntmps5
    have BEL1 : Hid (Below w.heap.size w (w.alloc (.cells #[.int .u64 S, .int .i64 H, .slice A n cap] 25))) := bel_trans BEL0.out (bel_alloc _ _)
    have FA_a_1 : Hid (FilterAt (w.alloc (.cells #[.int .u64 S, .int .i64 H, .slice A n cap] 25)) (.agg #[.int .u64 S, .int .i64 H, .slice A n cap]) S H n B) := FA_a_0.out.keep (keep_of_below (bel_alloc _ _))
    have FA_b_1 : Hid (FilterAt (w.alloc (.cells #[.int .u64 S, .int .i64 H, .slice A n cap] 25)) (.agg #[.int .u64 S', .int .i64 H', .slice A' m cap']) S' H' m C) := FA_b_0.out.keep (keep_of_below (bel_alloc _ _))
    clear BEL0 FA_a_0 FA_b_0
    have KB_bx_1 : Hid (Blk (w.alloc (.cells #[.int .u64 S, .int .i64 H, .slice A n cap] 25)) (w.heap.size) 25 #[.int .u64 S, .int .i64 H, .slice A n cap]) := Blk.new _ _ _
    have BEL2 : Hid (Below w.heap.size w ((w.alloc (.cells #[.int .u64 S, .int .i64 H, .slice A n cap] 25)).alloc (.cells #[.int .u64 S', .int .i64 H', .slice A' m cap'] 25))) := bel_trans BEL1.out (bel_alloc _ _)
    have FA_a_2 : Hid (FilterAt ((w.alloc (.cells #[.int .u64 S, .int .i64 H, .slice A n cap] 25)).alloc (.cells #[.int .u64 S', .int .i64 H', .slice A' m cap'] 25)) (.agg #[.int .u64 S, .int .i64 H, .slice A n cap]) S H n B) := FA_a_1.out.keep (keep_of_below (bel_alloc _ _))
    have FA_b_2 : Hid (FilterAt ((w.alloc (.cells #[.int .u64 S, .int .i64 H, .slice A n cap] 25)).alloc (.cells #[.int .u64 S', .int .i64 H', .slice A' m cap'] 25)) (.agg #[.int .u64 S', .int .i64 H', .slice A' m cap']) S' H' m C) := FA_b_1.out.keep (keep_of_below (bel_alloc _ _))
    have KB_bx_2 : Hid (Blk ((w.alloc (.cells #[.int .u64 S, .int .i64 H, .slice A n cap] 25)).alloc (.cells #[.int .u64 S', .int .i64 H', .slice A' m cap'] 25)) (w.heap.size) 25 #[.int .u64 S, .int .i64 H, .slice A n cap]) := KB_bx_1.out.since (bel_alloc _ _)
    clear BEL1 FA_a_1 FA_b_1 KB_bx_1
    have KB_by_2 : Hid (Blk ((w.alloc (.cells #[.int .u64 S, .int .i64 H, .slice A n cap] 25)).alloc (.cells #[.int .u64 S', .int .i64 H', .slice A' m cap'] 25)) (w.heap.size + 1) 25 #[.int .u64 S', .int .i64 H', .slice A' m cap']) := by
      have e := Blk.new (w.alloc (.cells #[.int .u64 S, .int .i64 H, .slice A n cap] 25)) 25 #[.int .u64 S', .int .i64 H', .slice A' m cap']
      simp only [World.size_alloc] at e
      exact e
    have CE_bx_0 : (((w.alloc (.cells #[.int .u64 S, .int .i64 H, .slice A n cap] 25)).alloc (.cells #[.int .u64 S', .int .i64 H', .slice A' m cap'] 25))).cell? ⟨w.heap.size, 0, none⟩ = some (.int .u64 S) := KB_bx_2.out.cell 0
    have CE_bx_1 : (((w.alloc (.cells #[.int .u64 S, .int .i64 H, .slice A n cap] 25)).alloc (.cells #[.int .u64 S', .int .i64 H', .slice A' m cap'] 25))).cell? ⟨w.heap.size, 1, none⟩ = some (.int .i64 H) := KB_bx_2.out.cell 1
    have CE_bx_2 : (((w.alloc (.cells #[.int .u64 S, .int .i64 H, .slice A n cap] 25)).alloc (.cells #[.int .u64 S', .int .i64 H', .slice A' m cap'] 25))).cell? ⟨w.heap.size, 2, none⟩ = some (.slice A n cap) := KB_bx_2.out.cell 2
    have CE_bx_lt : w.heap.size < (((w.alloc (.cells #[.int .u64 S, .int .i64 H, .slice A n cap] 25)).alloc (.cells #[.int .u64 S', .int .i64 H', .slice A' m cap'] 25))).heap.size := KB_bx_2.out.lt
    have CE_by_0 : (((w.alloc (.cells #[.int .u64 S, .int .i64 H, .slice A n cap] 25)).alloc (.cells #[.int .u64 S', .int .i64 H', .slice A' m cap'] 25))).cell? ⟨w.heap.size + 1, 0, none⟩ = some (.int .u64 S') := KB_by_2.out.cell 0
    have CE_by_1 : (((w.alloc (.cells #[.int .u64 S, .int .i64 H, .slice A n cap] 25)).alloc (.cells #[.int .u64 S', .int .i64 H', .slice A' m cap'] 25))).cell? ⟨w.heap.size + 1, 1, none⟩ = some (.int .i64 H') := KB_by_2.out.cell 1
    have CE_by_2 : (((w.alloc (.cells #[.int .u64 S, .int .i64 H, .slice A n cap] 25)).alloc (.cells #[.int .u64 S', .int .i64 H', .slice A' m cap'] 25))).cell? ⟨w.heap.size + 1, 2, none⟩ = some (.slice A' m cap') := KB_by_2.out.cell 2
    have CE_by_lt : w.heap.size + 1 < (((w.alloc (.cells #[.int .u64 S, .int .i64 H, .slice A n cap] 25)).alloc (.cells #[.int .u64 S', .int .i64 H', .slice A' m cap'] 25))).heap.size := KB_by_2.out.lt
    go_wp2_with fail
    refine (merge_bad _ _ _ S H S' H' n m _ _ FA_a_2.out FA_b_2.out (by omega) (fun h => by rw [hA] at h; cases h.1)).mono ?_
    rintro e ww1 ⟨rfl, b1⟩
    clear CE_bx_0 CE_bx_1 CE_bx_2 CE_bx_lt CE_by_0 CE_by_1 CE_by_2 CE_by_lt
    have BEL3 : Hid (Below w.heap.size w ww1) := bel_trans BEL2.out b1
    have FA_a_3 : Hid (FilterAt ww1 (.agg #[.int .u64 S, .int .i64 H, .slice A n cap]) S H n B) := FA_a_2.out.keep (keep_of_below b1)
    have FA_b_3 : Hid (FilterAt ww1 (.agg #[.int .u64 S', .int .i64 H', .slice A' m cap']) S' H' m C) := FA_b_2.out.keep (keep_of_below b1)
    have KB_bx_3 : Hid (Blk ww1 (w.heap.size) 25 #[.int .u64 S, .int .i64 H, .slice A n cap]) := KB_bx_2.out.since b1
    have KB_by_3 : Hid (Blk ww1 (w.heap.size + 1) 25 #[.int .u64 S', .int .i64 H', .slice A' m cap']) := KB_by_2.out.since b1
    clear BEL2 FA_a_2 FA_b_2 KB_bx_2 KB_by_2
    clear b1
    have CE_bx_0 : ww1.cell? ⟨w.heap.size, 0, none⟩ = some (.int .u64 S) := KB_bx_3.out.cell 0
    have CE_bx_1 : ww1.cell? ⟨w.heap.size, 1, none⟩ = some (.int .i64 H) := KB_bx_3.out.cell 1
    have CE_bx_2 : ww1.cell? ⟨w.heap.size, 2, none⟩ = some (.slice A n cap) := KB_bx_3.out.cell 2
    have CE_bx_lt : w.heap.size < ww1.heap.size := KB_bx_3.out.lt
    have CE_by_0 : ww1.cell? ⟨w.heap.size + 1, 0, none⟩ = some (.int .u64 S') := KB_by_3.out.cell 0
    have CE_by_1 : ww1.cell? ⟨w.heap.size + 1, 1, none⟩ = some (.int .i64 H') := KB_by_3.out.cell 1
    have CE_by_2 : ww1.cell? ⟨w.heap.size + 1, 2, none⟩ = some (.slice A' m cap') := KB_by_3.out.cell 2
    have CE_by_lt : w.heap.size + 1 < ww1.heap.size := KB_by_3.out.lt
    go_upto_region 4 with fail
    clear CE_bx_0 CE_bx_1 CE_bx_2 CE_bx_lt CE_by_0 CE_by_1 CE_by_2 CE_by_lt
    have BEL4 : Hid (Below w.heap.size w (ww1.alloc (.cells #[.int .u64 0, .int .i64 0, .slice none 0 0] 25))) := bel_trans BEL3.out (bel_alloc _ _)
    have FA_a_4 : Hid (FilterAt (ww1.alloc (.cells #[.int .u64 0, .int .i64 0, .slice none 0 0] 25)) (.agg #[.int .u64 S, .int .i64 H, .slice A n cap]) S H n B) := FA_a_3.out.keep (keep_of_below (bel_alloc _ _))
    have FA_b_4 : Hid (FilterAt (ww1.alloc (.cells #[.int .u64 0, .int .i64 0, .slice none 0 0] 25)) (.agg #[.int .u64 S', .int .i64 H', .slice A' m cap']) S' H' m C) := FA_b_3.out.keep (keep_of_below (bel_alloc _ _))
    have KB_bx_4 : Hid (Blk (ww1.alloc (.cells #[.int .u64 0, .int .i64 0, .slice none 0 0] 25)) (w.heap.size) 25 #[.int .u64 S, .int .i64 H, .slice A n cap]) := KB_bx_3.out.since (bel_alloc _ _)
    have KB_by_4 : Hid (Blk (ww1.alloc (.cells #[.int .u64 0, .int .i64 0, .slice none 0 0] 25)) (w.heap.size + 1) 25 #[.int .u64 S', .int .i64 H', .slice A' m cap']) := KB_by_3.out.since (bel_alloc _ _)
    clear BEL3 FA_a_3 FA_b_3 KB_bx_3 KB_by_3
    have KB_m_4 : Hid (Blk (ww1.alloc (.cells #[.int .u64 0, .int .i64 0, .slice none 0 0] 25)) (ww1.heap.size) 25 #[.int .u64 0, .int .i64 0, .slice none 0 0]) := Blk.new _ _ _
    have FA_z_4 : Hid (FilterAt (ww1.alloc (.cells #[.int .u64 0, .int .i64 0, .slice none 0 0] 25)) (.agg #[.int .u64 0, .int .i64 0, .slice none 0 0]) 0 0 0 (fun _ => false)) := ⟨_, rfl, none, 0, 0, 0, rfl, Nat.le_refl _, fun h => absurd h (by omega), fun i h => absurd h (by omega)⟩
    have CE_bx_0 : ((ww1.alloc (.cells #[.int .u64 0, .int .i64 0, .slice none 0 0] 25))).cell? ⟨w.heap.size, 0, none⟩ = some (.int .u64 S) := KB_bx_4.out.cell 0
    have CE_bx_1 : ((ww1.alloc (.cells #[.int .u64 0, .int .i64 0, .slice none 0 0] 25))).cell? ⟨w.heap.size, 1, none⟩ = some (.int .i64 H) := KB_bx_4.out.cell 1
    have CE_bx_2 : ((ww1.alloc (.cells #[.int .u64 0, .int .i64 0, .slice none 0 0] 25))).cell? ⟨w.heap.size, 2, none⟩ = some (.slice A n cap) := KB_bx_4.out.cell 2
    have CE_bx_lt : w.heap.size < ((ww1.alloc (.cells #[.int .u64 0, .int .i64 0, .slice none 0 0] 25))).heap.size := KB_bx_4.out.lt
    have CE_by_0 : ((ww1.alloc (.cells #[.int .u64 0, .int .i64 0, .slice none 0 0] 25))).cell? ⟨w.heap.size + 1, 0, none⟩ = some (.int .u64 S') := KB_by_4.out.cell 0
    have CE_by_1 : ((ww1.alloc (.cells #[.int .u64 0, .int .i64 0, .slice none 0 0] 25))).cell? ⟨w.heap.size + 1, 1, none⟩ = some (.int .i64 H') := KB_by_4.out.cell 1
    have CE_by_2 : ((ww1.alloc (.cells #[.int .u64 0, .int .i64 0, .slice none 0 0] 25))).cell? ⟨w.heap.size + 1, 2, none⟩ = some (.slice A' m cap') := KB_by_4.out.cell 2
    have CE_by_lt : w.heap.size + 1 < ((ww1.alloc (.cells #[.int .u64 0, .int .i64 0, .slice none 0 0] 25))).heap.size := KB_by_4.out.lt
    have CE_m_0 : ((ww1.alloc (.cells #[.int .u64 0, .int .i64 0, .slice none 0 0] 25))).cell? ⟨ww1.heap.size, 0, none⟩ = some (.int .u64 0) := KB_m_4.out.cell 0
    have CE_m_1 : ((ww1.alloc (.cells #[.int .u64 0, .int .i64 0, .slice none 0 0] 25))).cell? ⟨ww1.heap.size, 1, none⟩ = some (.int .i64 0) := KB_m_4.out.cell 1
    have CE_m_2 : ((ww1.alloc (.cells #[.int .u64 0, .int .i64 0, .slice none 0 0] 25))).cell? ⟨ww1.heap.size, 2, none⟩ = some (.slice none 0 0) := KB_m_4.out.cell 2
    have CE_m_lt : ww1.heap.size < ((ww1.alloc (.cells #[.int .u64 0, .int .i64 0, .slice none 0 0] 25))).heap.size := KB_m_4.out.lt
    go_wp2_with fail
    refine (ref_any _ _ S H n _ FA_a_4.out).mono ?_
    rintro e ww2 ⟨rfl, b2⟩
    clear CE_bx_0 CE_bx_1 CE_bx_2 CE_bx_lt CE_by_0 CE_by_1 CE_by_2 CE_by_lt CE_m_0 CE_m_1 CE_m_2 CE_m_lt
    have BEL5 : Hid (Below w.heap.size w ww2) := bel_trans BEL4.out b2
    have FA_a_5 : Hid (FilterAt ww2 (.agg #[.int .u64 S, .int .i64 H, .slice A n cap]) S H n B) := FA_a_4.out.keep (keep_of_below b2)
    have FA_b_5 : Hid (FilterAt ww2 (.agg #[.int .u64 S', .int .i64 H', .slice A' m cap']) S' H' m C) := FA_b_4.out.keep (keep_of_below b2)
    have FA_z_5 : Hid (FilterAt ww2 (.agg #[.int .u64 0, .int .i64 0, .slice none 0 0]) 0 0 0 (fun _ => false)) := FA_z_4.out.keep (keep_of_below b2)
    have KB_bx_5 : Hid (Blk ww2 (w.heap.size) 25 #[.int .u64 S, .int .i64 H, .slice A n cap]) := KB_bx_4.out.since b2
    have KB_by_5 : Hid (Blk ww2 (w.heap.size + 1) 25 #[.int .u64 S', .int .i64 H', .slice A' m cap']) := KB_by_4.out.since b2
    have KB_m_5 : Hid (Blk ww2 (ww1.heap.size) 25 #[.int .u64 0, .int .i64 0, .slice none 0 0]) := KB_m_4.out.since b2
    clear BEL4 FA_a_4 FA_b_4 FA_z_4 KB_bx_4 KB_by_4 KB_m_4
    clear b2
    go_wp2_with fail
    refine (rright_any _ _ S H n _ FA_a_5.out).mono ?_
    rintro e ww3 ⟨rfl, b3⟩
    have BEL6 : Hid (Below w.heap.size w ww3) := bel_trans BEL5.out b3
    have FA_a_6 : Hid (FilterAt ww3 (.agg #[.int .u64 S, .int .i64 H, .slice A n cap]) S H n B) := FA_a_5.out.keep (keep_of_below b3)
    have FA_b_6 : Hid (FilterAt ww3 (.agg #[.int .u64 S', .int .i64 H', .slice A' m cap']) S' H' m C) := FA_b_5.out.keep (keep_of_below b3)
    have FA_z_6 : Hid (FilterAt ww3 (.agg #[.int .u64 0, .int .i64 0, .slice none 0 0]) 0 0 0 (fun _ => false)) := FA_z_5.out.keep (keep_of_below b3)
    have KB_bx_6 : Hid (Blk ww3 (w.heap.size) 25 #[.int .u64 S, .int .i64 H, .slice A n cap]) := KB_bx_5.out.since b3
    have KB_by_6 : Hid (Blk ww3 (w.heap.size + 1) 25 #[.int .u64 S', .int .i64 H', .slice A' m cap']) := KB_by_5.out.since b3
    have KB_m_6 : Hid (Blk ww3 (ww1.heap.size) 25 #[.int .u64 0, .int .i64 0, .slice none 0 0]) := KB_m_5.out.since b3
    clear BEL5 FA_a_5 FA_b_5 FA_z_5 KB_bx_5 KB_by_5 KB_m_5
    clear b3
    rw [hA]
    have CE_bx_0 : ww3.cell? ⟨w.heap.size, 0, none⟩ = some (.int .u64 S) := KB_bx_6.out.cell 0
    have CE_bx_1 : ww3.cell? ⟨w.heap.size, 1, none⟩ = some (.int .i64 H) := KB_bx_6.out.cell 1
    have CE_bx_2 : ww3.cell? ⟨w.heap.size, 2, none⟩ = some (.slice A n cap) := KB_bx_6.out.cell 2
    have CE_bx_lt : w.heap.size < ww3.heap.size := KB_bx_6.out.lt
    have CE_by_0 : ww3.cell? ⟨w.heap.size + 1, 0, none⟩ = some (.int .u64 S') := KB_by_6.out.cell 0
    have CE_by_1 : ww3.cell? ⟨w.heap.size + 1, 1, none⟩ = some (.int .i64 H') := KB_by_6.out.cell 1
    have CE_by_2 : ww3.cell? ⟨w.heap.size + 1, 2, none⟩ = some (.slice A' m cap') := KB_by_6.out.cell 2
    have CE_by_lt : w.heap.size + 1 < ww3.heap.size := KB_by_6.out.lt
    have CE_m_0 : ww3.cell? ⟨ww1.heap.size, 0, none⟩ = some (.int .u64 0) := KB_m_6.out.cell 0
    have CE_m_1 : ww3.cell? ⟨ww1.heap.size, 1, none⟩ = some (.int .i64 0) := KB_m_6.out.cell 1
    have CE_m_2 : ww3.cell? ⟨ww1.heap.size, 2, none⟩ = some (.slice none 0 0) := KB_m_6.out.cell 2
    have CE_m_lt : ww1.heap.size < ww3.heap.size := KB_m_6.out.lt
    go_wp2_with fail
    refine (ref_any _ _ 0 0 0 _ FA_z_6.out).mono ?_
    rintro e ww6 ⟨rfl, b6⟩
    clear CE_bx_0 CE_bx_1 CE_bx_2 CE_bx_lt CE_by_0 CE_by_1 CE_by_2 CE_by_lt CE_m_0 CE_m_1 CE_m_2 CE_m_lt
    have BEL7 : Hid (Below w.heap.size w ww6) := bel_trans BEL6.out b6
    have FA_a_7 : Hid (FilterAt ww6 (.agg #[.int .u64 S, .int .i64 H, .slice A n cap]) S H n B) := FA_a_6.out.keep (keep_of_below b6)
    have FA_b_7 : Hid (FilterAt ww6 (.agg #[.int .u64 S', .int .i64 H', .slice A' m cap']) S' H' m C) := FA_b_6.out.keep (keep_of_below b6)
    have FA_z_7 : Hid (FilterAt ww6 (.agg #[.int .u64 0, .int .i64 0, .slice none 0 0]) 0 0 0 (fun _ => false)) := FA_z_6.out.keep (keep_of_below b6)
    have KB_bx_7 : Hid (Blk ww6 (w.heap.size) 25 #[.int .u64 S, .int .i64 H, .slice A n cap]) := KB_bx_6.out.since b6
    have KB_by_7 : Hid (Blk ww6 (w.heap.size + 1) 25 #[.int .u64 S', .int .i64 H', .slice A' m cap']) := KB_by_6.out.since b6
    have KB_m_7 : Hid (Blk ww6 (ww1.heap.size) 25 #[.int .u64 0, .int .i64 0, .slice none 0 0]) := KB_m_6.out.since b6
    clear BEL6 FA_a_6 FA_b_6 FA_z_6 KB_bx_6 KB_by_6 KB_m_6
    clear b6
    go_wp2_with fail
    refine (requal_any _ _ _ 0 0 0 0 0 0 _ _ FA_z_7.out FA_z_7.out (by omega)).mono ?_
    rintro e ww7 ⟨c3, rfl, h3, b7⟩
    have BEL8 : Hid (Below w.heap.size w ww7) := bel_trans BEL7.out b7
    have FA_a_8 : Hid (FilterAt ww7 (.agg #[.int .u64 S, .int .i64 H, .slice A n cap]) S H n B) := FA_a_7.out.keep (keep_of_below b7)
    have FA_b_8 : Hid (FilterAt ww7 (.agg #[.int .u64 S', .int .i64 H', .slice A' m cap']) S' H' m C) := FA_b_7.out.keep (keep_of_below b7)
    have FA_z_8 : Hid (FilterAt ww7 (.agg #[.int .u64 0, .int .i64 0, .slice none 0 0]) 0 0 0 (fun _ => false)) := FA_z_7.out.keep (keep_of_below b7)
    have KB_bx_8 : Hid (Blk ww7 (w.heap.size) 25 #[.int .u64 S, .int .i64 H, .slice A n cap]) := KB_bx_7.out.since b7
    have KB_by_8 : Hid (Blk ww7 (w.heap.size + 1) 25 #[.int .u64 S', .int .i64 H', .slice A' m cap']) := KB_by_7.out.since b7
    have KB_m_8 : Hid (Blk ww7 (ww1.heap.size) 25 #[.int .u64 0, .int .i64 0, .slice none 0 0]) := KB_m_7.out.since b7
    clear BEL7 FA_a_7 FA_b_7 FA_z_7 KB_bx_7 KB_by_7 KB_m_7
    clear b7
    obtain rfl : c3 = true := h3.2 ⟨rfl, rfl, rfl, fun i hi => rfl⟩
    clear h3
    go_wp2_with fail
    refine (awake_any _).mono ?_
    rintro e ww99 ⟨rfl, b9⟩
    have BEL9 : Hid (Below w.heap.size w ww99) := bel_trans BEL8.out b9
    have FA_a_9 : Hid (FilterAt ww99 (.agg #[.int .u64 S, .int .i64 H, .slice A n cap]) S H n B) := FA_a_8.out.keep (keep_of_below b9)
    have FA_b_9 : Hid (FilterAt ww99 (.agg #[.int .u64 S', .int .i64 H', .slice A' m cap']) S' H' m C) := FA_b_8.out.keep (keep_of_below b9)
    have FA_z_9 : Hid (FilterAt ww99 (.agg #[.int .u64 0, .int .i64 0, .slice none 0 0]) 0 0 0 (fun _ => false)) := FA_z_8.out.keep (keep_of_below b9)
    have KB_bx_9 : Hid (Blk ww99 (w.heap.size) 25 #[.int .u64 S, .int .i64 H, .slice A n cap]) := KB_bx_8.out.since b9
    have KB_by_9 : Hid (Blk ww99 (w.heap.size + 1) 25 #[.int .u64 S', .int .i64 H', .slice A' m cap']) := KB_by_8.out.since b9
    have KB_m_9 : Hid (Blk ww99 (ww1.heap.size) 25 #[.int .u64 0, .int .i64 0, .slice none 0 0]) := KB_m_8.out.since b9
    clear BEL8 FA_a_8 FA_b_8 FA_z_8 KB_bx_8 KB_by_8 KB_m_8
    clear b9
    go_wp2_with fail
    go_ret
    exact ⟨rfl, BEL9.out⟩
  have hA : fitsB n H = true := hA0
  clear hA0
  by_cases hB0 : fitsB m H' = true
  rotate_left
  · have hB : fitsB m H' = false := by simpa using hB0
    clear hB0
    have BEL0 : Hid (Below w.heap.size w w) := Below.refl _ _
    have FA_a_0 : Hid (FilterAt w (.agg #[.int .u64 S, .int .i64 H, .slice A n cap]) S H n B) := hF
    have FA_b_0 : Hid (FilterAt w (.agg #[.int .u64 S', .int .i64 H', .slice A' m cap']) S' H' m C) := hG
    clear hF hG q3 q4 hcap q3' q4' hcap'
    go_enter Try.func5, Try.ntmps5
    have BEL1 : Hid (Below w.heap.size w (w.alloc (.cells #[.int .u64 S, .int .i64 H, .slice A n cap] 25))) := bel_trans BEL0.out (bel_alloc _ _)
    have FA_a_1 : Hid (FilterAt (w.alloc (.cells #[.int .u64 S, .int .i64 H, .slice A n cap] 25)) (.agg #[.int .u64 S, .int .i64 H, .slice A n cap]) S H n B) := FA_a_0.out.keep (keep_of_below (bel_alloc _ _))
    have FA_b_1 : Hid (FilterAt (w.alloc (.cells #[.int .u64 S, .int .i64 H, .slice A n cap] 25)) (.agg #[.int .u64 S', .int .i64 H', .slice A' m cap']) S' H' m C) := FA_b_0.out.keep (keep_of_below (bel_alloc _ _))
    clear BEL0 FA_a_0 FA_b_0
    have KB_bx_1 : Hid (Blk (w.alloc (.cells #[.int .u64 S, .int .i64 H, .slice A n cap] 25)) (w.heap.size) 25 #[.int .u64 S, .int .i64 H, .slice A n cap]) := Blk.new _ _ _
    have BEL2 : Hid (Below w.heap.size w ((w.alloc (.cells #[.int .u64 S, .int .i64 H, .slice A n cap] 25)).alloc (.cells #[.int .u64 S', .int .i64 H', .slice A' m cap'] 25))) := bel_trans BEL1.out (bel_alloc _ _)
    have FA_a_2 : Hid (FilterAt ((w.alloc (.cells #[.int .u64 S, .int .i64 H, .slice A n cap] 25)).alloc (.cells #[.int .u64 S', .int .i64 H', .slice A' m cap'] 25)) (.agg #[.int .u64 S, .int .i64 H, .slice A n cap]) S H n B) := FA_a_1.out.keep (keep_of_below (bel_alloc _ _))
    have FA_b_2 : Hid (FilterAt ((w.alloc (.cells #[.int .u64 S, .int .i64 H, .slice A n cap] 25)).alloc (.cells #[.int .u64 S', .int .i64 H', .slice A' m cap'] 25)) (.agg #[.int .u64 S', .int .i64 H', .slice A' m cap']) S' H' m C) := FA_b_1.out.keep (keep_of_below (bel_alloc _ _))
    have KB_bx_2 : Hid (Blk ((w.alloc (.cells #[.int .u64 S, .int .i64 H, .slice A n cap] 25)).alloc (.cells #[.int .u64 S', .int .i64 H', .slice A' m cap'] 25)) (w.heap.size) 25 #[.int .u64 S, .int .i64 H, .slice A n cap]) := KB_bx_1.out.since (bel_alloc _ _)
    clear BEL1 FA_a_1 FA_b_1 KB_bx_1
    have KB_by_2 : Hid (Blk ((w.alloc (.cells #[.int .u64 S, .int .i64 H, .slice A n cap] 25)).alloc (.cells #[.int .u64 S', .int .i64 H', .slice A' m cap'] 25)) (w.heap.size + 1) 25 #[.int .u64 S', .int .i64 H', .slice A' m cap']) := by
      have e := Blk.new (w.alloc (.cells #[.int .u64 S, .int .i64 H, .slice A n cap] 25)) 25 #[.int .u64 S', .int .i64 H', .slice A' m cap']
      simp only [World.size_alloc] at e
      exact e
    have CE_bx_0 : (((w.alloc (.cells #[.int .u64 S, .int .i64 H, .slice A n cap] 25)).alloc (.cells #[.int .u64 S', .int .i64 H', .slice A' m cap'] 25))).cell? ⟨w.heap.size, 0, none⟩ = some (.int .u64 S) := KB_bx_2.out.cell 0
    have CE_bx_1 : (((w.alloc (.cells #[.int .u64 S, .int .i64 H, .slice A n cap] 25)).alloc (.cells #[.int .u64 S', .int .i64 H', .slice A' m cap'] 25))).cell? ⟨w.heap.size, 1, none⟩ = some (.int .i64 H) := KB_bx_2.out.cell 1
    have CE_bx_2 : (((w.alloc (.cells #[.int .u64 S, .int .i64 H, .slice A n cap] 25)).alloc (.cells #[.int .u64 S', .int .i64 H', .slice A' m cap'] 25))).cell? ⟨w.heap.size, 2, none⟩ = some (.slice A n cap) := KB_bx_2.out.cell 2
    have CE_bx_lt : w.heap.size < (((w.alloc (.cells #[.int .u64 S, .int .i64 H, .slice A n cap] 25)).alloc (.cells #[.int .u64 S', .int .i64 H', .slice A' m cap'] 25))).heap.size := KB_bx_2.out.lt
    have CE_by_0 : (((w.alloc (.cells #[.int .u64 S, .int .i64 H, .slice A n cap] 25)).alloc (.cells #[.int .u64 S', .int .i64 H', .slice A' m cap'] 25))).cell? ⟨w.heap.size + 1, 0, none⟩ = some (.int .u64 S') := KB_by_2.out.cell 0
    have CE_by_1 : (((w.alloc (.cells #[.int .u64 S, .int .i64 H, .slice A n cap] 25)).alloc (.cells #[.int .u64 S', .int .i64 H', .slice A' m cap'] 25))).cell? ⟨w.heap.size + 1, 1, none⟩ = some (.int .i64 H') := KB_by_2.out.cell 1
    have CE_by_2 : (((w.alloc (.cells #[.int .u64 S, .int .i64 H, .slice A n cap] 25)).alloc (.cells #[.int .u64 S', .int .i64 H', .slice A' m cap'] 25))).cell? ⟨w.heap.size + 1, 2, none⟩ = some (.slice A' m cap') := KB_by_2.out.cell 2
    have CE_by_lt : w.heap.size + 1 < (((w.alloc (.cells #[.int .u64 S, .int .i64 H, .slice A n cap] 25)).alloc (.cells #[.int .u64 S', .int .i64 H', .slice A' m cap'] 25))).heap.size := KB_by_2.out.lt
    go_wp2_with fail
    refine (merge_bad _ _ _ S H S' H' n m _ _ FA_a_2.out FA_b_2.out (by omega) (fun h => by rw [hB] at h; cases h.2.1)).mono ?_
    rintro e ww1 ⟨rfl, b1⟩
    clear CE_bx_0 CE_bx_1 CE_bx_2 CE_bx_lt CE_by_0 CE_by_1 CE_by_2 CE_by_lt
    have BEL3 : Hid (Below w.heap.size w ww1) := bel_trans BEL2.out b1
    have FA_a_3 : Hid (FilterAt ww1 (.agg #[.int .u64 S, .int .i64 H, .slice A n cap]) S H n B) := FA_a_2.out.keep (keep_of_below b1)
    have FA_b_3 : Hid (FilterAt ww1 (.agg #[.int .u64 S', .int .i64 H', .slice A' m cap']) S' H' m C) := FA_b_2.out.keep (keep_of_below b1)
    have KB_bx_3 : Hid (Blk ww1 (w.heap.size) 25 #[.int .u64 S, .int .i64 H, .slice A n cap]) := KB_bx_2.out.since b1
    have KB_by_3 : Hid (Blk ww1 (w.heap.size + 1) 25 #[.int .u64 S', .int .i64 H', .slice A' m cap']) := KB_by_2.out.since b1
    clear BEL2 FA_a_2 FA_b_2 KB_bx_2 KB_by_2
    clear b1
    have CE_bx_0 : ww1.cell? ⟨w.heap.size, 0, none⟩ = some (.int .u64 S) := KB_bx_3.out.cell 0
    have CE_bx_1 : ww1.cell? ⟨w.heap.size, 1, none⟩ = some (.int .i64 H) := KB_bx_3.out.cell 1
    have CE_bx_2 : ww1.cell? ⟨w.heap.size, 2, none⟩ = some (.slice A n cap) := KB_bx_3.out.cell 2
    have CE_bx_lt : w.heap.size < ww1.heap.size := KB_bx_3.out.lt
    have CE_by_0 : ww1.cell? ⟨w.heap.size + 1, 0, none⟩ = some (.int .u64 S') := KB_by_3.out.cell 0
    have CE_by_1 : ww1.cell? ⟨w.heap.size + 1, 1, none⟩ = some (.int .i64 H') := KB_by_3.out.cell 1
    have CE_by_2 : ww1.cell? ⟨w.heap.size + 1, 2, none⟩ = some (.slice A' m cap') := KB_by_3.out.cell 2
    have CE_by_lt : w.heap.size + 1 < ww1.heap.size := KB_by_3.out.lt
    go_upto_region 4 with fail
    clear CE_bx_0 CE_bx_1 CE_bx_2 CE_bx_lt CE_by_0 CE_by_1 CE_by_2 CE_by_lt
    have BEL4 : Hid (Below w.heap.size w (ww1.alloc (.cells #[.int .u64 0, .int .i64 0, .slice none 0 0] 25))) := bel_trans BEL3.out (bel_alloc _ _)
    have FA_a_4 : Hid (FilterAt (ww1.alloc (.cells #[.int .u64 0, .int .i64 0, .slice none 0 0] 25)) (.agg #[.int .u64 S, .int .i64 H, .slice A n cap]) S H n B) := FA_a_3.out.keep (keep_of_below (bel_alloc _ _))
    have FA_b_4 : Hid (FilterAt (ww1.alloc (.cells #[.int .u64 0, .int .i64 0, .slice none 0 0] 25)) (.agg #[.int .u64 S', .int .i64 H', .slice A' m cap']) S' H' m C) := FA_b_3.out.keep (keep_of_below (bel_alloc _ _))
    have KB_bx_4 : Hid (Blk (ww1.alloc (.cells #[.int .u64 0, .int .i64 0, .slice none 0 0] 25)) (w.heap.size) 25 #[.int .u64 S, .int .i64 H, .slice A n cap]) := KB_bx_3.out.since (bel_alloc _ _)
    have KB_by_4 : Hid (Blk (ww1.alloc (.cells #[.int .u64 0, .int .i64 0, .slice none 0 0] 25)) (w.heap.size + 1) 25 #[.int .u64 S', .int .i64 H', .slice A' m cap']) := KB_by_3.out.since (bel_alloc _ _)
    clear BEL3 FA_a_3 FA_b_3 KB_bx_3 KB_by_3
    have KB_m_4 : Hid (Blk (ww1.alloc (.cells #[.int .u64 0, .int .i64 0, .slice none 0 0] 25)) (ww1.heap.size) 25 #[.int .u64 0, .int .i64 0, .slice none 0 0]) := Blk.new _ _ _
    have FA_z_4 : Hid (FilterAt (ww1.alloc (.cells #[.int .u64 0, .int .i64 0, .slice none 0 0] 25)) (.agg #[.int .u64 0, .int .i64 0, .slice none 0 0]) 0 0 0 (fun _ => false)) := ⟨_, rfl, none, 0, 0, 0, rfl, Nat.le_refl _, fun h => absurd h (by omega), fun i h => absurd h (by omega)⟩
    have CE_bx_0 : ((ww1.alloc (.cells #[.int .u64 0, .int .i64 0, .slice none 0 0] 25))).cell? ⟨w.heap.size, 0, none⟩ = some (.int .u64 S) := KB_bx_4.out.cell 0
    have CE_bx_1 : ((ww1.alloc (.cells #[.int .u64 0, .int .i64 0, .slice none 0 0] 25))).cell? ⟨w.heap.size, 1, none⟩ = some (.int .i64 H) := KB_bx_4.out.cell 1
    have CE_bx_2 : ((ww1.alloc (.cells #[.int .u64 0, .int .i64 0, .slice none 0 0] 25))).cell? ⟨w.heap.size, 2, none⟩ = some (.slice A n cap) := KB_bx_4.out.cell 2
    have CE_bx_lt : w.heap.size < ((ww1.alloc (.cells #[.int .u64 0, .int .i64 0, .slice none 0 0] 25))).heap.size := KB_bx_4.out.lt
    have CE_by_0 : ((ww1.alloc (.cells #[.int .u64 0, .int .i64 0, .slice none 0 0] 25))).cell? ⟨w.heap.size + 1, 0, none⟩ = some (.int .u64 S') := KB_by_4.out.cell 0
    have CE_by_1 : ((ww1.alloc (.cells #[.int .u64 0, .int .i64 0, .slice none 0 0] 25))).cell? ⟨w.heap.size + 1, 1, none⟩ = some (.int .i64 H') := KB_by_4.out.cell 1
    have CE_by_2 : ((ww1.alloc (.cells #[.int .u64 0, .int .i64 0, .slice none 0 0] 25))).cell? ⟨w.heap.size + 1, 2, none⟩ = some (.slice A' m cap') := KB_by_4.out.cell 2
    have CE_by_lt : w.heap.size + 1 < ((ww1.alloc (.cells #[.int .u64 0, .int .i64 0, .slice none 0 0] 25))).heap.size := KB_by_4.out.lt
    have CE_m_0 : ((ww1.alloc (.cells #[.int .u64 0, .int .i64 0, .slice none 0 0] 25))).cell? ⟨ww1.heap.size, 0, none⟩ = some (.int .u64 0) := KB_m_4.out.cell 0
    have CE_m_1 : ((ww1.alloc (.cells #[.int .u64 0, .int .i64 0, .slice none 0 0] 25))).cell? ⟨ww1.heap.size, 1, none⟩ = some (.int .i64 0) := KB_m_4.out.cell 1
    have CE_m_2 : ((ww1.alloc (.cells #[.int .u64 0, .int .i64 0, .slice none 0 0] 25))).cell? ⟨ww1.heap.size, 2, none⟩ = some (.slice none 0 0) := KB_m_4.out.cell 2
    have CE_m_lt : ww1.heap.size < ((ww1.alloc (.cells #[.int .u64 0, .int .i64 0, .slice none 0 0] 25))).heap.size := KB_m_4.out.lt
    go_wp2_with fail
    refine (ref_any _ _ S H n _ FA_a_4.out).mono ?_
    rintro e ww2 ⟨rfl, b2⟩
    clear CE_bx_0 CE_bx_1 CE_bx_2 CE_bx_lt CE_by_0 CE_by_1 CE_by_2 CE_by_lt CE_m_0 CE_m_1 CE_m_2 CE_m_lt
    have BEL5 : Hid (Below w.heap.size w ww2) := bel_trans BEL4.out b2
    have FA_a_5 : Hid (FilterAt ww2 (.agg #[.int .u64 S, .int .i64 H, .slice A n cap]) S H n B) := FA_a_4.out.keep (keep_of_below b2)
    have FA_b_5 : Hid (FilterAt ww2 (.agg #[.int .u64 S', .int .i64 H', .slice A' m cap']) S' H' m C) := FA_b_4.out.keep (keep_of_below b2)
    have FA_z_5 : Hid (FilterAt ww2 (.agg #[.int .u64 0, .int .i64 0, .slice none 0 0]) 0 0 0 (fun _ => false)) := FA_z_4.out.keep (keep_of_below b2)
    have KB_bx_5 : Hid (Blk ww2 (w.heap.size) 25 #[.int .u64 S, .int .i64 H, .slice A n cap]) := KB_bx_4.out.since b2
    have KB_by_5 : Hid (Blk ww2 (w.heap.size + 1) 25 #[.int .u64 S', .int .i64 H', .slice A' m cap']) := KB_by_4.out.since b2
    have KB_m_5 : Hid (Blk ww2 (ww1.heap.size) 25 #[.int .u64 0, .int .i64 0, .slice none 0 0]) := KB_m_4.out.since b2
    clear BEL4 FA_a_4 FA_b_4 FA_z_4 KB_bx_4 KB_by_4 KB_m_4
    clear b2
    go_wp2_with fail
    refine (rright_any _ _ S H n _ FA_a_5.out).mono ?_
    rintro e ww3 ⟨rfl, b3⟩
    have BEL6 : Hid (Below w.heap.size w ww3) := bel_trans BEL5.out b3
    have FA_a_6 : Hid (FilterAt ww3 (.agg #[.int .u64 S, .int .i64 H, .slice A n cap]) S H n B) := FA_a_5.out.keep (keep_of_below b3)
    have FA_b_6 : Hid (FilterAt ww3 (.agg #[.int .u64 S', .int .i64 H', .slice A' m cap']) S' H' m C) := FA_b_5.out.keep (keep_of_below b3)
    have FA_z_6 : Hid (FilterAt ww3 (.agg #[.int .u64 0, .int .i64 0, .slice none 0 0]) 0 0 0 (fun _ => false)) := FA_z_5.out.keep (keep_of_below b3)
    have KB_bx_6 : Hid (Blk ww3 (w.heap.size) 25 #[.int .u64 S, .int .i64 H, .slice A n cap]) := KB_bx_5.out.since b3
    have KB_by_6 : Hid (Blk ww3 (w.heap.size + 1) 25 #[.int .u64 S', .int .i64 H', .slice A' m cap']) := KB_by_5.out.since b3
    have KB_m_6 : Hid (Blk ww3 (ww1.heap.size) 25 #[.int .u64 0, .int .i64 0, .slice none 0 0]) := KB_m_5.out.since b3
    clear BEL5 FA_a_5 FA_b_5 FA_z_5 KB_bx_5 KB_by_5 KB_m_5
    clear b3
    rw [hA]
    have CE_bx_0 : ww3.cell? ⟨w.heap.size, 0, none⟩ = some (.int .u64 S) := KB_bx_6.out.cell 0
    have CE_bx_1 : ww3.cell? ⟨w.heap.size, 1, none⟩ = some (.int .i64 H) := KB_bx_6.out.cell 1
    have CE_bx_2 : ww3.cell? ⟨w.heap.size, 2, none⟩ = some (.slice A n cap) := KB_bx_6.out.cell 2
    have CE_bx_lt : w.heap.size < ww3.heap.size := KB_bx_6.out.lt
    have CE_by_0 : ww3.cell? ⟨w.heap.size + 1, 0, none⟩ = some (.int .u64 S') := KB_by_6.out.cell 0
    have CE_by_1 : ww3.cell? ⟨w.heap.size + 1, 1, none⟩ = some (.int .i64 H') := KB_by_6.out.cell 1
    have CE_by_2 : ww3.cell? ⟨w.heap.size + 1, 2, none⟩ = some (.slice A' m cap') := KB_by_6.out.cell 2
    have CE_by_lt : w.heap.size + 1 < ww3.heap.size := KB_by_6.out.lt
    have CE_m_0 : ww3.cell? ⟨ww1.heap.size, 0, none⟩ = some (.int .u64 0) := KB_m_6.out.cell 0
    have CE_m_1 : ww3.cell? ⟨ww1.heap.size, 1, none⟩ = some (.int .i64 0) := KB_m_6.out.cell 1
    have CE_m_2 : ww3.cell? ⟨ww1.heap.size, 2, none⟩ = some (.slice none 0 0) := KB_m_6.out.cell 2
    have CE_m_lt : ww1.heap.size < ww3.heap.size := KB_m_6.out.lt
    go_wp2_with fail
    refine (ref_any _ _ S' H' m _ FA_b_6.out).mono ?_
    rintro e ww4 ⟨rfl, b4⟩
    clear CE_bx_0 CE_bx_1 CE_bx_2 CE_bx_lt CE_by_0 CE_by_1 CE_by_2 CE_by_lt CE_m_0 CE_m_1 CE_m_2 CE_m_lt
    have BEL7 : Hid (Below w.heap.size w ww4) := bel_trans BEL6.out b4
    have FA_a_7 : Hid (FilterAt ww4 (.agg #[.int .u64 S, .int .i64 H, .slice A n cap]) S H n B) := FA_a_6.out.keep (keep_of_below b4)
    have FA_b_7 : Hid (FilterAt ww4 (.agg #[.int .u64 S', .int .i64 H', .slice A' m cap']) S' H' m C) := FA_b_6.out.keep (keep_of_below b4)
    have FA_z_7 : Hid (FilterAt ww4 (.agg #[.int .u64 0, .int .i64 0, .slice none 0 0]) 0 0 0 (fun _ => false)) := FA_z_6.out.keep (keep_of_below b4)
    have KB_bx_7 : Hid (Blk ww4 (w.heap.size) 25 #[.int .u64 S, .int .i64 H, .slice A n cap]) := KB_bx_6.out.since b4
    have KB_by_7 : Hid (Blk ww4 (w.heap.size + 1) 25 #[.int .u64 S', .int .i64 H', .slice A' m cap']) := KB_by_6.out.since b4
    have KB_m_7 : Hid (Blk ww4 (ww1.heap.size) 25 #[.int .u64 0, .int .i64 0, .slice none 0 0]) := KB_m_6.out.since b4
    clear BEL6 FA_a_6 FA_b_6 FA_z_6 KB_bx_6 KB_by_6 KB_m_6
    clear b4
    go_wp2_with fail
    refine (rright_any _ _ S' H' m _ FA_b_7.out).mono ?_
    rintro e ww5 ⟨rfl, b5⟩
    have BEL8 : Hid (Below w.heap.size w ww5) := bel_trans BEL7.out b5
    have FA_a_8 : Hid (FilterAt ww5 (.agg #[.int .u64 S, .int .i64 H, .slice A n cap]) S H n B) := FA_a_7.out.keep (keep_of_below b5)
    have FA_b_8 : Hid (FilterAt ww5 (.agg #[.int .u64 S', .int .i64 H', .slice A' m cap']) S' H' m C) := FA_b_7.out.keep (keep_of_below b5)
    have FA_z_8 : Hid (FilterAt ww5 (.agg #[.int .u64 0, .int .i64 0, .slice none 0 0]) 0 0 0 (fun _ => false)) := FA_z_7.out.keep (keep_of_below b5)
    have KB_bx_8 : Hid (Blk ww5 (w.heap.size) 25 #[.int .u64 S, .int .i64 H, .slice A n cap]) := KB_bx_7.out.since b5
    have KB_by_8 : Hid (Blk ww5 (w.heap.size + 1) 25 #[.int .u64 S', .int .i64 H', .slice A' m cap']) := KB_by_7.out.since b5
    have KB_m_8 : Hid (Blk ww5 (ww1.heap.size) 25 #[.int .u64 0, .int .i64 0, .slice none 0 0]) := KB_m_7.out.since b5
    clear BEL7 FA_a_7 FA_b_7 FA_z_7 KB_bx_7 KB_by_7 KB_m_7
    clear b5
    rw [hB]
    have CE_bx_0 : ww5.cell? ⟨w.heap.size, 0, none⟩ = some (.int .u64 S) := KB_bx_8.out.cell 0
    have CE_bx_1 : ww5.cell? ⟨w.heap.size, 1, none⟩ = some (.int .i64 H) := KB_bx_8.out.cell 1
    have CE_bx_2 : ww5.cell? ⟨w.heap.size, 2, none⟩ = some (.slice A n cap) := KB_bx_8.out.cell 2
    have CE_bx_lt : w.heap.size < ww5.heap.size := KB_bx_8.out.lt
    have CE_by_0 : ww5.cell? ⟨w.heap.size + 1, 0, none⟩ = some (.int .u64 S') := KB_by_8.out.cell 0
    have CE_by_1 : ww5.cell? ⟨w.heap.size + 1, 1, none⟩ = some (.int .i64 H') := KB_by_8.out.cell 1
    have CE_by_2 : ww5.cell? ⟨w.heap.size + 1, 2, none⟩ = some (.slice A' m cap') := KB_by_8.out.cell 2
    have CE_by_lt : w.heap.size + 1 < ww5.heap.size := KB_by_8.out.lt
    have CE_m_0 : ww5.cell? ⟨ww1.heap.size, 0, none⟩ = some (.int .u64 0) := KB_m_8.out.cell 0
    have CE_m_1 : ww5.cell? ⟨ww1.heap.size, 1, none⟩ = some (.int .i64 0) := KB_m_8.out.cell 1
    have CE_m_2 : ww5.cell? ⟨ww1.heap.size, 2, none⟩ = some (.slice none 0 0) := KB_m_8.out.cell 2
    have CE_m_lt : ww1.heap.size < ww5.heap.size := KB_m_8.out.lt
    go_wp2_with fail
    refine (ref_any _ _ 0 0 0 _ FA_z_8.out).mono ?_
    rintro e ww6 ⟨rfl, b6⟩
    clear CE_bx_0 CE_bx_1 CE_bx_2 CE_bx_lt CE_by_0 CE_by_1 CE_by_2 CE_by_lt CE_m_0 CE_m_1 CE_m_2 CE_m_lt
    have BEL9 : Hid (Below w.heap.size w ww6) := bel_trans BEL8.out b6
    have FA_a_9 : Hid (FilterAt ww6 (.agg #[.int .u64 S, .int .i64 H, .slice A n cap]) S H n B) := FA_a_8.out.keep (keep_of_below b6)
    have FA_b_9 : Hid (FilterAt ww6 (.agg #[.int .u64 S', .int .i64 H', .slice A' m cap']) S' H' m C) := FA_b_8.out.keep (keep_of_below b6)
    have FA_z_9 : Hid (FilterAt ww6 (.agg #[.int .u64 0, .int .i64 0, .slice none 0 0]) 0 0 0 (fun _ => false)) := FA_z_8.out.keep (keep_of_below b6)
    have KB_bx_9 : Hid (Blk ww6 (w.heap.size) 25 #[.int .u64 S, .int .i64 H, .slice A n cap]) := KB_bx_8.out.since b6
    have KB_by_9 : Hid (Blk ww6 (w.heap.size + 1) 25 #[.int .u64 S', .int .i64 H', .slice A' m cap']) := KB_by_8.out.since b6
    have KB_m_9 : Hid (Blk ww6 (ww1.heap.size) 25 #[.int .u64 0, .int .i64 0, .slice none 0 0]) := KB_m_8.out.since b6
    clear BEL8 FA_a_8 FA_b_8 FA_z_8 KB_bx_8 KB_by_8 KB_m_8
    clear b6
    go_wp2_with fail
    refine (requal_any _ _ _ 0 0 0 0 0 0 _ _ FA_z_9.out FA_z_9.out (by omega)).mono ?_
    rintro e ww7 ⟨c3, rfl, h3, b7⟩
    have BEL10 : Hid (Below w.heap.size w ww7) := bel_trans BEL9.out b7
    have FA_a_10 : Hid (FilterAt ww7 (.agg #[.int .u64 S, .int .i64 H, .slice A n cap]) S H n B) := FA_a_9.out.keep (keep_of_below b7)
    have FA_b_10 : Hid (FilterAt ww7 (.agg #[.int .u64 S', .int .i64 H', .slice A' m cap']) S' H' m C) := FA_b_9.out.keep (keep_of_below b7)
    have FA_z_10 : Hid (FilterAt ww7 (.agg #[.int .u64 0, .int .i64 0, .slice none 0 0]) 0 0 0 (fun _ => false)) := FA_z_9.out.keep (keep_of_below b7)
    have KB_bx_10 : Hid (Blk ww7 (w.heap.size) 25 #[.int .u64 S, .int .i64 H, .slice A n cap]) := KB_bx_9.out.since b7
    have KB_by_10 : Hid (Blk ww7 (w.heap.size + 1) 25 #[.int .u64 S', .int .i64 H', .slice A' m cap']) := KB_by_9.out.since b7
    have KB_m_10 : Hid (Blk ww7 (ww1.heap.size) 25 #[.int .u64 0, .int .i64 0, .slice none 0 0]) := KB_m_9.out.since b7
    clear BEL9 FA_a_9 FA_b_9 FA_z_9 KB_bx_9 KB_by_9 KB_m_9
    clear b7
    obtain rfl : c3 = true := h3.2 ⟨rfl, rfl, rfl, fun i hi => rfl⟩
    clear h3
    go_wp2_with fail
    refine (awake_any _).mono ?_
    rintro e ww99 ⟨rfl, b9⟩
    have BEL11 : Hid (Below w.heap.size w ww99) := bel_trans BEL10.out b9
    have FA_a_11 : Hid (FilterAt ww99 (.agg #[.int .u64 S, .int .i64 H, .slice A n cap]) S H n B) := FA_a_10.out.keep (keep_of_below b9)
    have FA_b_11 : Hid (FilterAt ww99 (.agg #[.int .u64 S', .int .i64 H', .slice A' m cap']) S' H' m C) := FA_b_10.out.keep (keep_of_below b9)
    have FA_z_11 : Hid (FilterAt ww99 (.agg #[.int .u64 0, .int .i64 0, .slice none 0 0]) 0 0 0 (fun _ => false)) := FA_z_10.out.keep (keep_of_below b9)
    have KB_bx_11 : Hid (Blk ww99 (w.heap.size) 25 #[.int .u64 S, .int .i64 H, .slice A n cap]) := KB_bx_10.out.since b9
    have KB_by_11 : Hid (Blk ww99 (w.heap.size + 1) 25 #[.int .u64 S', .int .i64 H', .slice A' m cap']) := KB_by_10.out.since b9
    have KB_m_11 : Hid (Blk ww99 (ww1.heap.size) 25 #[.int .u64 0, .int .i64 0, .slice none 0 0]) := KB_m_10.out.since b9
    clear BEL10 FA_a_10 FA_b_10 FA_z_10 KB_bx_10 KB_by_10 KB_m_10
    clear b9
    go_wp2_with fail
    go_ret
    exact ⟨rfl, BEL11.out⟩
  have hB : fitsB m H' = true := hB0
  clear hB0
  by_cases e1 : S = S'
  rotate_left
  · have q : (S != S') = true := by simpa using e1
    have AL : Hid (alikeB S H n S' H' m = false) := decide_eq_false (fun x => e1 x.1)
    clear e1
    have BEL0 : Hid (Below w.heap.size w w) := Below.refl _ _
    have FA_a_0 : Hid (FilterAt w (.agg #[.int .u64 S, .int .i64 H, .slice A n cap]) S H n B) := hF
    have FA_b_0 : Hid (FilterAt w (.agg #[.int .u64 S', .int .i64 H', .slice A' m cap']) S' H' m C) := hG
    clear hF hG q3 q4 hcap q3' q4' hcap'
    go_enter Try.func5, Try.ntmps5
    have BEL1 : Hid (Below w.heap.size w (w.alloc (.cells #[.int .u64 S, .int .i64 H, .slice A n cap] 25))) := bel_trans BEL0.out (bel_alloc _ _)
    have FA_a_1 : Hid (FilterAt (w.alloc (.cells #[.int .u64 S, .int .i64 H, .slice A n cap] 25)) (.agg #[.int .u64 S, .int .i64 H, .slice A n cap]) S H n B) := FA_a_0.out.keep (keep_of_below (bel_alloc _ _))
    have FA_b_1 : Hid (FilterAt (w.alloc (.cells #[.int .u64 S, .int .i64 H, .slice A n cap] 25)) (.agg #[.int .u64 S', .int .i64 H', .slice A' m cap']) S' H' m C) := FA_b_0.out.keep (keep_of_below (bel_alloc _ _))
    clear BEL0 FA_a_0 FA_b_0
    have KB_bx_1 : Hid (Blk (w.alloc (.cells #[.int .u64 S, .int .i64 H, .slice A n cap] 25)) (w.heap.size) 25 #[.int .u64 S, .int .i64 H, .slice A n cap]) := Blk.new _ _ _
    have BEL2 : Hid (Below w.heap.size w ((w.alloc (.cells #[.int .u64 S, .int .i64 H, .slice A n cap] 25)).alloc (.cells #[.int .u64 S', .int .i64 H', .slice A' m cap'] 25))) := bel_trans BEL1.out (bel_alloc _ _)
    have FA_a_2 : Hid (FilterAt ((w.alloc (.cells #[.int .u64 S, .int .i64 H, .slice A n cap] 25)).alloc (.cells #[.int .u64 S', .int .i64 H', .slice A' m cap'] 25)) (.agg #[.int .u64 S, .int .i64 H, .slice A n cap]) S H n B) := FA_a_1.out.keep (keep_of_below (bel_alloc _ _))
    have FA_b_2 : Hid (FilterAt ((w.alloc (.cells #[.int .u64 S, .int .i64 H, .slice A n cap] 25)).alloc (.cells #[.int .u64 S', .int .i64 H', .slice A' m cap'] 25)) (.agg #[.int .u64 S', .int .i64 H', .slice A' m cap']) S' H' m C) := FA_b_1.out.keep (keep_of_below (bel_alloc _ _))
    have KB_bx_2 : Hid (Blk ((w.alloc (.cells #[.int .u64 S, .int .i64 H, .slice A n cap] 25)).alloc (.cells #[.int .u64 S', .int .i64 H', .slice A' m cap'] 25)) (w.heap.size) 25 #[.int .u64 S, .int .i64 H, .slice A n cap]) := KB_bx_1.out.since (bel_alloc _ _)
    clear BEL1 FA_a_1 FA_b_1 KB_bx_1
    have KB_by_2 : Hid (Blk ((w.alloc (.cells #[.int .u64 S, .int .i64 H, .slice A n cap] 25)).alloc (.cells #[.int .u64 S', .int .i64 H', .slice A' m cap'] 25)) (w.heap.size + 1) 25 #[.int .u64 S', .int .i64 H', .slice A' m cap']) := by
      have e := Blk.new (w.alloc (.cells #[.int .u64 S, .int .i64 H, .slice A n cap] 25)) 25 #[.int .u64 S', .int .i64 H', .slice A' m cap']
      simp only [World.size_alloc] at e
      exact e
    have CE_bx_0 : (((w.alloc (.cells #[.int .u64 S, .int .i64 H, .slice A n cap] 25)).alloc (.cells #[.int .u64 S', .int .i64 H', .slice A' m cap'] 25))).cell? ⟨w.heap.size, 0, none⟩ = some (.int .u64 S) := KB_bx_2.out.cell 0
    have CE_bx_1 : (((w.alloc (.cells #[.int .u64 S, .int .i64 H, .slice A n cap] 25)).alloc (.cells #[.int .u64 S', .int .i64 H', .slice A' m cap'] 25))).cell? ⟨w.heap.size, 1, none⟩ = some (.int .i64 H) := KB_bx_2.out.cell 1
    have CE_bx_2 : (((w.alloc (.cells #[.int .u64 S, .int .i64 H, .slice A n cap] 25)).alloc (.cells #[.int .u64 S', .int .i64 H', .slice A' m cap'] 25))).cell? ⟨w.heap.size, 2, none⟩ = some (.slice A n cap) := KB_bx_2.out.cell 2
    have CE_bx_lt : w.heap.size < (((w.alloc (.cells #[.int .u64 S, .int .i64 H, .slice A n cap] 25)).alloc (.cells #[.int .u64 S', .int .i64 H', .slice A' m cap'] 25))).heap.size := KB_bx_2.out.lt
    have CE_by_0 : (((w.alloc (.cells #[.int .u64 S, .int .i64 H, .slice A n cap] 25)).alloc (.cells #[.int .u64 S', .int .i64 H', .slice A' m cap'] 25))).cell? ⟨w.heap.size + 1, 0, none⟩ = some (.int .u64 S') := KB_by_2.out.cell 0
    have CE_by_1 : (((w.alloc (.cells #[.int .u64 S, .int .i64 H, .slice A n cap] 25)).alloc (.cells #[.int .u64 S', .int .i64 H', .slice A' m cap'] 25))).cell? ⟨w.heap.size + 1, 1, none⟩ = some (.int .i64 H') := KB_by_2.out.cell 1
    have CE_by_2 : (((w.alloc (.cells #[.int .u64 S, .int .i64 H, .slice A n cap] 25)).alloc (.cells #[.int .u64 S', .int .i64 H', .slice A' m cap'] 25))).cell? ⟨w.heap.size + 1, 2, none⟩ = some (.slice A' m cap') := KB_by_2.out.cell 2
    have CE_by_lt : w.heap.size + 1 < (((w.alloc (.cells #[.int .u64 S, .int .i64 H, .slice A n cap] 25)).alloc (.cells #[.int .u64 S', .int .i64 H', .slice A' m cap'] 25))).heap.size := KB_by_2.out.lt
    go_wp2_with fail
    refine (merge_bad _ _ _ S H S' H' n m _ _ FA_a_2.out FA_b_2.out (by omega) (fun h => by rw [AL.out] at h; cases h.2.2)).mono ?_
    rintro e ww1 ⟨rfl, b1⟩
    clear CE_bx_0 CE_bx_1 CE_bx_2 CE_bx_lt CE_by_0 CE_by_1 CE_by_2 CE_by_lt
    have BEL3 : Hid (Below w.heap.size w ww1) := bel_trans BEL2.out b1
    have FA_a_3 : Hid (FilterAt ww1 (.agg #[.int .u64 S, .int .i64 H, .slice A n cap]) S H n B) := FA_a_2.out.keep (keep_of_below b1)
    have FA_b_3 : Hid (FilterAt ww1 (.agg #[.int .u64 S', .int .i64 H', .slice A' m cap']) S' H' m C) := FA_b_2.out.keep (keep_of_below b1)
    have KB_bx_3 : Hid (Blk ww1 (w.heap.size) 25 #[.int .u64 S, .int .i64 H, .slice A n cap]) := KB_bx_2.out.since b1
    have KB_by_3 : Hid (Blk ww1 (w.heap.size + 1) 25 #[.int .u64 S', .int .i64 H', .slice A' m cap']) := KB_by_2.out.since b1
    clear BEL2 FA_a_2 FA_b_2 KB_bx_2 KB_by_2
    clear b1
    have CE_bx_0 : ww1.cell? ⟨w.heap.size, 0, none⟩ = some (.int .u64 S) := KB_bx_3.out.cell 0
    have CE_bx_1 : ww1.cell? ⟨w.heap.size, 1, none⟩ = some (.int .i64 H) := KB_bx_3.out.cell 1
    have CE_bx_2 : ww1.cell? ⟨w.heap.size, 2, none⟩ = some (.slice A n cap) := KB_bx_3.out.cell 2
    have CE_bx_lt : w.heap.size < ww1.heap.size := KB_bx_3.out.lt
    have CE_by_0 : ww1.cell? ⟨w.heap.size + 1, 0, none⟩ = some (.int .u64 S') := KB_by_3.out.cell 0
    have CE_by_1 : ww1.cell? ⟨w.heap.size + 1, 1, none⟩ = some (.int .i64 H') := KB_by_3.out.cell 1
    have CE_by_2 : ww1.cell? ⟨w.heap.size + 1, 2, none⟩ = some (.slice A' m cap') := KB_by_3.out.cell 2
    have CE_by_lt : w.heap.size + 1 < ww1.heap.size := KB_by_3.out.lt
    go_upto_region 4 with fail
    clear CE_bx_0 CE_bx_1 CE_bx_2 CE_bx_lt CE_by_0 CE_by_1 CE_by_2 CE_by_lt
    have BEL4 : Hid (Below w.heap.size w (ww1.alloc (.cells #[.int .u64 0, .int .i64 0, .slice none 0 0] 25))) := bel_trans BEL3.out (bel_alloc _ _)
    have FA_a_4 : Hid (FilterAt (ww1.alloc (.cells #[.int .u64 0, .int .i64 0, .slice none 0 0] 25)) (.agg #[.int .u64 S, .int .i64 H, .slice A n cap]) S H n B) := FA_a_3.out.keep (keep_of_below (bel_alloc _ _))
    have FA_b_4 : Hid (FilterAt (ww1.alloc (.cells #[.int .u64 0, .int .i64 0, .slice none 0 0] 25)) (.agg #[.int .u64 S', .int .i64 H', .slice A' m cap']) S' H' m C) := FA_b_3.out.keep (keep_of_below (bel_alloc _ _))
    have KB_bx_4 : Hid (Blk (ww1.alloc (.cells #[.int .u64 0, .int .i64 0, .slice none 0 0] 25)) (w.heap.size) 25 #[.int .u64 S, .int .i64 H, .slice A n cap]) := KB_bx_3.out.since (bel_alloc _ _)
    have KB_by_4 : Hid (Blk (ww1.alloc (.cells #[.int .u64 0, .int .i64 0, .slice none 0 0] 25)) (w.heap.size + 1) 25 #[.int .u64 S', .int .i64 H', .slice A' m cap']) := KB_by_3.out.since (bel_alloc _ _)
    clear BEL3 FA_a_3 FA_b_3 KB_bx_3 KB_by_3
    have KB_m_4 : Hid (Blk (ww1.alloc (.cells #[.int .u64 0, .int .i64 0, .slice none 0 0] 25)) (ww1.heap.size) 25 #[.int .u64 0, .int .i64 0, .slice none 0 0]) := Blk.new _ _ _
    have FA_z_4 : Hid (FilterAt (ww1.alloc (.cells #[.int .u64 0, .int .i64 0, .slice none 0 0] 25)) (.agg #[.int .u64 0, .int .i64 0, .slice none 0 0]) 0 0 0 (fun _ => false)) := ⟨_, rfl, none, 0, 0, 0, rfl, Nat.le_refl _, fun h => absurd h (by omega), fun i h => absurd h (by omega)⟩
    have CE_bx_0 : ((ww1.alloc (.cells #[.int .u64 0, .int .i64 0, .slice none 0 0] 25))).cell? ⟨w.heap.size, 0, none⟩ = some (.int .u64 S) := KB_bx_4.out.cell 0
    have CE_bx_1 : ((ww1.alloc (.cells #[.int .u64 0, .int .i64 0, .slice none 0 0] 25))).cell? ⟨w.heap.size, 1, none⟩ = some (.int .i64 H) := KB_bx_4.out.cell 1
    have CE_bx_2 : ((ww1.alloc (.cells #[.int .u64 0, .int .i64 0, .slice none 0 0] 25))).cell? ⟨w.heap.size, 2, none⟩ = some (.slice A n cap) := KB_bx_4.out.cell 2
    have CE_bx_lt : w.heap.size < ((ww1.alloc (.cells #[.int .u64 0, .int .i64 0, .slice none 0 0] 25))).heap.size := KB_bx_4.out.lt
    have CE_by_0 : ((ww1.alloc (.cells #[.int .u64 0, .int .i64 0, .slice none 0 0] 25))).cell? ⟨w.heap.size + 1, 0, none⟩ = some (.int .u64 S') := KB_by_4.out.cell 0
    have CE_by_1 : ((ww1.alloc (.cells #[.int .u64 0, .int .i64 0, .slice none 0 0] 25))).cell? ⟨w.heap.size + 1, 1, none⟩ = some (.int .i64 H') := KB_by_4.out.cell 1
    have CE_by_2 : ((ww1.alloc (.cells #[.int .u64 0, .int .i64 0, .slice none 0 0] 25))).cell? ⟨w.heap.size + 1, 2, none⟩ = some (.slice A' m cap') := KB_by_4.out.cell 2
    have CE_by_lt : w.heap.size + 1 < ((ww1.alloc (.cells #[.int .u64 0, .int .i64 0, .slice none 0 0] 25))).heap.size := KB_by_4.out.lt
    have CE_m_0 : ((ww1.alloc (.cells #[.int .u64 0, .int .i64 0, .slice none 0 0] 25))).cell? ⟨ww1.heap.size, 0, none⟩ = some (.int .u64 0) := KB_m_4.out.cell 0
    have CE_m_1 : ((ww1.alloc (.cells #[.int .u64 0, .int .i64 0, .slice none 0 0] 25))).cell? ⟨ww1.heap.size, 1, none⟩ = some (.int .i64 0) := KB_m_4.out.cell 1
    have CE_m_2 : ((ww1.alloc (.cells #[.int .u64 0, .int .i64 0, .slice none 0 0] 25))).cell? ⟨ww1.heap.size, 2, none⟩ = some (.slice none 0 0) := KB_m_4.out.cell 2
    have CE_m_lt : ww1.heap.size < ((ww1.alloc (.cells #[.int .u64 0, .int .i64 0, .slice none 0 0] 25))).heap.size := KB_m_4.out.lt
    go_wp2_with fail
    refine (ref_any _ _ S H n _ FA_a_4.out).mono ?_
    rintro e ww2 ⟨rfl, b2⟩
    clear CE_bx_0 CE_bx_1 CE_bx_2 CE_bx_lt CE_by_0 CE_by_1 CE_by_2 CE_by_lt CE_m_0 CE_m_1 CE_m_2 CE_m_lt
    have BEL5 : Hid (Below w.heap.size w ww2) := bel_trans BEL4.out b2
    have FA_a_5 : Hid (FilterAt ww2 (.agg #[.int .u64 S, .int .i64 H, .slice A n cap]) S H n B) := FA_a_4.out.keep (keep_of_below b2)
    have FA_b_5 : Hid (FilterAt ww2 (.agg #[.int .u64 S', .int .i64 H', .slice A' m cap']) S' H' m C) := FA_b_4.out.keep (keep_of_below b2)
    have FA_z_5 : Hid (FilterAt ww2 (.agg #[.int .u64 0, .int .i64 0, .slice none 0 0]) 0 0 0 (fun _ => false)) := FA_z_4.out.keep (keep_of_below b2)
    have KB_bx_5 : Hid (Blk ww2 (w.heap.size) 25 #[.int .u64 S, .int .i64 H, .slice A n cap]) := KB_bx_4.out.since b2
    have KB_by_5 : Hid (Blk ww2 (w.heap.size + 1) 25 #[.int .u64 S', .int .i64 H', .slice A' m cap']) := KB_by_4.out.since b2
    have KB_m_5 : Hid (Blk ww2 (ww1.heap.size) 25 #[.int .u64 0, .int .i64 0, .slice none 0 0]) := KB_m_4.out.since b2
    clear BEL4 FA_a_4 FA_b_4 FA_z_4 KB_bx_4 KB_by_4 KB_m_4
    clear b2
    go_wp2_with fail
    refine (rright_any _ _ S H n _ FA_a_5.out).mono ?_
    rintro e ww3 ⟨rfl, b3⟩
    have BEL6 : Hid (Below w.heap.size w ww3) := bel_trans BEL5.out b3
    have FA_a_6 : Hid (FilterAt ww3 (.agg #[.int .u64 S, .int .i64 H, .slice A n cap]) S H n B) := FA_a_5.out.keep (keep_of_below b3)
    have FA_b_6 : Hid (FilterAt ww3 (.agg #[.int .u64 S', .int .i64 H', .slice A' m cap']) S' H' m C) := FA_b_5.out.keep (keep_of_below b3)
    have FA_z_6 : Hid (FilterAt ww3 (.agg #[.int .u64 0, .int .i64 0, .slice none 0 0]) 0 0 0 (fun _ => false)) := FA_z_5.out.keep (keep_of_below b3)
    have KB_bx_6 : Hid (Blk ww3 (w.heap.size) 25 #[.int .u64 S, .int .i64 H, .slice A n cap]) := KB_bx_5.out.since b3
    have KB_by_6 : Hid (Blk ww3 (w.heap.size + 1) 25 #[.int .u64 S', .int .i64 H', .slice A' m cap']) := KB_by_5.out.since b3
    have KB_m_6 : Hid (Blk ww3 (ww1.heap.size) 25 #[.int .u64 0, .int .i64 0, .slice none 0 0]) := KB_m_5.out.since b3
    clear BEL5 FA_a_5 FA_b_5 FA_z_5 KB_bx_5 KB_by_5 KB_m_5
    clear b3
    rw [hA]
    have CE_bx_0 : ww3.cell? ⟨w.heap.size, 0, none⟩ = some (.int .u64 S) := KB_bx_6.out.cell 0
    have CE_bx_1 : ww3.cell? ⟨w.heap.size, 1, none⟩ = some (.int .i64 H) := KB_bx_6.out.cell 1
    have CE_bx_2 : ww3.cell? ⟨w.heap.size, 2, none⟩ = some (.slice A n cap) := KB_bx_6.out.cell 2
    have CE_bx_lt : w.heap.size < ww3.heap.size := KB_bx_6.out.lt
    have CE_by_0 : ww3.cell? ⟨w.heap.size + 1, 0, none⟩ = some (.int .u64 S') := KB_by_6.out.cell 0
    have CE_by_1 : ww3.cell? ⟨w.heap.size + 1, 1, none⟩ = some (.int .i64 H') := KB_by_6.out.cell 1
    have CE_by_2 : ww3.cell? ⟨w.heap.size + 1, 2, none⟩ = some (.slice A' m cap') := KB_by_6.out.cell 2
    have CE_by_lt : w.heap.size + 1 < ww3.heap.size := KB_by_6.out.lt
    have CE_m_0 : ww3.cell? ⟨ww1.heap.size, 0, none⟩ = some (.int .u64 0) := KB_m_6.out.cell 0
    have CE_m_1 : ww3.cell? ⟨ww1.heap.size, 1, none⟩ = some (.int .i64 0) := KB_m_6.out.cell 1
    have CE_m_2 : ww3.cell? ⟨ww1.heap.size, 2, none⟩ = some (.slice none 0 0) := KB_m_6.out.cell 2
    have CE_m_lt : ww1.heap.size < ww3.heap.size := KB_m_6.out.lt
    go_wp2_with fail
    refine (ref_any _ _ S' H' m _ FA_b_6.out).mono ?_
    rintro e ww4 ⟨rfl, b4⟩
    clear CE_bx_0 CE_bx_1 CE_bx_2 CE_bx_lt CE_by_0 CE_by_1 CE_by_2 CE_by_lt CE_m_0 CE_m_1 CE_m_2 CE_m_lt
    have BEL7 : Hid (Below w.heap.size w ww4) := bel_trans BEL6.out b4
    have FA_a_7 : Hid (FilterAt ww4 (.agg #[.int .u64 S, .int .i64 H, .slice A n cap]) S H n B) := FA_a_6.out.keep (keep_of_below b4)
    have FA_b_7 : Hid (FilterAt ww4 (.agg #[.int .u64 S', .int .i64 H', .slice A' m cap']) S' H' m C) := FA_b_6.out.keep (keep_of_below b4)
    have FA_z_7 : Hid (FilterAt ww4 (.agg #[.int .u64 0, .int .i64 0, .slice none 0 0]) 0 0 0 (fun _ => false)) := FA_z_6.out.keep (keep_of_below b4)
    have KB_bx_7 : Hid (Blk ww4 (w.heap.size) 25 #[.int .u64 S, .int .i64 H, .slice A n cap]) := KB_bx_6.out.since b4
    have KB_by_7 : Hid (Blk ww4 (w.heap.size + 1) 25 #[.int .u64 S', .int .i64 H', .slice A' m cap']) := KB_by_6.out.since b4
    have KB_m_7 : Hid (Blk ww4 (ww1.heap.size) 25 #[.int .u64 0, .int .i64 0, .slice none 0 0]) := KB_m_6.out.since b4
    clear BEL6 FA_a_6 FA_b_6 FA_z_6 KB_bx_6 KB_by_6 KB_m_6
    clear b4
    go_wp2_with fail
    refine (rright_any _ _ S' H' m _ FA_b_7.out).mono ?_
    rintro e ww5 ⟨rfl, b5⟩
    have BEL8 : Hid (Below w.heap.size w ww5) := bel_trans BEL7.out b5
    have FA_a_8 : Hid (FilterAt ww5 (.agg #[.int .u64 S, .int .i64 H, .slice A n cap]) S H n B) := FA_a_7.out.keep (keep_of_below b5)
    have FA_b_8 : Hid (FilterAt ww5 (.agg #[.int .u64 S', .int .i64 H', .slice A' m cap']) S' H' m C) := FA_b_7.out.keep (keep_of_below b5)
    have FA_z_8 : Hid (FilterAt ww5 (.agg #[.int .u64 0, .int .i64 0, .slice none 0 0]) 0 0 0 (fun _ => false)) := FA_z_7.out.keep (keep_of_below b5)
    have KB_bx_8 : Hid (Blk ww5 (w.heap.size) 25 #[.int .u64 S, .int .i64 H, .slice A n cap]) := KB_bx_7.out.since b5
    have KB_by_8 : Hid (Blk ww5 (w.heap.size + 1) 25 #[.int .u64 S', .int .i64 H', .slice A' m cap']) := KB_by_7.out.since b5
    have KB_m_8 : Hid (Blk ww5 (ww1.heap.size) 25 #[.int .u64 0, .int .i64 0, .slice none 0 0]) := KB_m_7.out.since b5
    clear BEL7 FA_a_7 FA_b_7 FA_z_7 KB_bx_7 KB_by_7 KB_m_7
    clear b5
    rw [hB]
    have CE_bx_0 : ww5.cell? ⟨w.heap.size, 0, none⟩ = some (.int .u64 S) := KB_bx_8.out.cell 0
    have CE_bx_1 : ww5.cell? ⟨w.heap.size, 1, none⟩ = some (.int .i64 H) := KB_bx_8.out.cell 1
    have CE_bx_2 : ww5.cell? ⟨w.heap.size, 2, none⟩ = some (.slice A n cap) := KB_bx_8.out.cell 2
    have CE_bx_lt : w.heap.size < ww5.heap.size := KB_bx_8.out.lt
    have CE_by_0 : ww5.cell? ⟨w.heap.size + 1, 0, none⟩ = some (.int .u64 S') := KB_by_8.out.cell 0
    have CE_by_1 : ww5.cell? ⟨w.heap.size + 1, 1, none⟩ = some (.int .i64 H') := KB_by_8.out.cell 1
    have CE_by_2 : ww5.cell? ⟨w.heap.size + 1, 2, none⟩ = some (.slice A' m cap') := KB_by_8.out.cell 2
    have CE_by_lt : w.heap.size + 1 < ww5.heap.size := KB_by_8.out.lt
    have CE_m_0 : ww5.cell? ⟨ww1.heap.size, 0, none⟩ = some (.int .u64 0) := KB_m_8.out.cell 0
    have CE_m_1 : ww5.cell? ⟨ww1.heap.size, 1, none⟩ = some (.int .i64 0) := KB_m_8.out.cell 1
    have CE_m_2 : ww5.cell? ⟨ww1.heap.size, 2, none⟩ = some (.slice none 0 0) := KB_m_8.out.cell 2
    have CE_m_lt : ww1.heap.size < ww5.heap.size := KB_m_8.out.lt
    go_wp2_with fail
    refine (ref_any _ _ 0 0 0 _ FA_z_8.out).mono ?_
    rintro e ww6 ⟨rfl, b6⟩
    clear CE_bx_0 CE_bx_1 CE_bx_2 CE_bx_lt CE_by_0 CE_by_1 CE_by_2 CE_by_lt CE_m_0 CE_m_1 CE_m_2 CE_m_lt
    have BEL9 : Hid (Below w.heap.size w ww6) := bel_trans BEL8.out b6
    have FA_a_9 : Hid (FilterAt ww6 (.agg #[.int .u64 S, .int .i64 H, .slice A n cap]) S H n B) := FA_a_8.out.keep (keep_of_below b6)
    have FA_b_9 : Hid (FilterAt ww6 (.agg #[.int .u64 S', .int .i64 H', .slice A' m cap']) S' H' m C) := FA_b_8.out.keep (keep_of_below b6)
    have FA_z_9 : Hid (FilterAt ww6 (.agg #[.int .u64 0, .int .i64 0, .slice none 0 0]) 0 0 0 (fun _ => false)) := FA_z_8.out.keep (keep_of_below b6)
    have KB_bx_9 : Hid (Blk ww6 (w.heap.size) 25 #[.int .u64 S, .int .i64 H, .slice A n cap]) := KB_bx_8.out.since b6
    have KB_by_9 : Hid (Blk ww6 (w.heap.size + 1) 25 #[.int .u64 S', .int .i64 H', .slice A' m cap']) := KB_by_8.out.since b6
    have KB_m_9 : Hid (Blk ww6 (ww1.heap.size) 25 #[.int .u64 0, .int .i64 0, .slice none 0 0]) := KB_m_8.out.since b6
    clear BEL8 FA_a_8 FA_b_8 FA_z_8 KB_bx_8 KB_by_8 KB_m_8
    clear b6
    go_wp2_with fail
    refine (requal_any _ _ _ 0 0 0 0 0 0 _ _ FA_z_9.out FA_z_9.out (by omega)).mono ?_
    rintro e ww7 ⟨c3, rfl, h3, b7⟩
    have BEL10 : Hid (Below w.heap.size w ww7) := bel_trans BEL9.out b7
    have FA_a_10 : Hid (FilterAt ww7 (.agg #[.int .u64 S, .int .i64 H, .slice A n cap]) S H n B) := FA_a_9.out.keep (keep_of_below b7)
    have FA_b_10 : Hid (FilterAt ww7 (.agg #[.int .u64 S', .int .i64 H', .slice A' m cap']) S' H' m C) := FA_b_9.out.keep (keep_of_below b7)
    have FA_z_10 : Hid (FilterAt ww7 (.agg #[.int .u64 0, .int .i64 0, .slice none 0 0]) 0 0 0 (fun _ => false)) := FA_z_9.out.keep (keep_of_below b7)
    have KB_bx_10 : Hid (Blk ww7 (w.heap.size) 25 #[.int .u64 S, .int .i64 H, .slice A n cap]) := KB_bx_9.out.since b7
    have KB_by_10 : Hid (Blk ww7 (w.heap.size + 1) 25 #[.int .u64 S', .int .i64 H', .slice A' m cap']) := KB_by_9.out.since b7
    have KB_m_10 : Hid (Blk ww7 (ww1.heap.size) 25 #[.int .u64 0, .int .i64 0, .slice none 0 0]) := KB_m_9.out.since b7
    clear BEL9 FA_a_9 FA_b_9 FA_z_9 KB_bx_9 KB_by_9 KB_m_9
    clear b7
    obtain rfl : c3 = true := h3.2 ⟨rfl, rfl, rfl, fun i hi => rfl⟩
    clear h3
    go_wp2_with fail
    refine (awake_any _).mono ?_
    rintro e ww99 ⟨rfl, b9⟩
    have BEL11 : Hid (Below w.heap.size w ww99) := bel_trans BEL10.out b9
    have FA_a_11 : Hid (FilterAt ww99 (.agg #[.int .u64 S, .int .i64 H, .slice A n cap]) S H n B) := FA_a_10.out.keep (keep_of_below b9)
    have FA_b_11 : Hid (FilterAt ww99 (.agg #[.int .u64 S', .int .i64 H', .slice A' m cap']) S' H' m C) := FA_b_10.out.keep (keep_of_below b9)
    have FA_z_11 : Hid (FilterAt ww99 (.agg #[.int .u64 0, .int .i64 0, .slice none 0 0]) 0 0 0 (fun _ => false)) := FA_z_10.out.keep (keep_of_below b9)
    have KB_bx_11 : Hid (Blk ww99 (w.heap.size) 25 #[.int .u64 S, .int .i64 H, .slice A n cap]) := KB_bx_10.out.since b9
    have KB_by_11 : Hid (Blk ww99 (w.heap.size + 1) 25 #[.int .u64 S', .int .i64 H', .slice A' m cap']) := KB_by_10.out.since b9
    have KB_m_11 : Hid (Blk ww99 (ww1.heap.size) 25 #[.int .u64 0, .int .i64 0, .slice none 0 0]) := KB_m_10.out.since b9
    clear BEL10 FA_a_10 FA_b_10 FA_z_10 KB_bx_10 KB_by_10 KB_m_10
    clear b9
    go_wp2_with fail
    go_ret
    exact ⟨rfl, BEL11.out⟩
  subst e1
  by_cases e1 : H = H'
  rotate_left
  · have q : (H != H') = true := by simpa using e1
    have AL : Hid (alikeB S H n S H' m = false) := decide_eq_false (fun x => e1 x.2.1)
    clear e1
    have BEL0 : Hid (Below w.heap.size w w) := Below.refl _ _
    have FA_a_0 : Hid (FilterAt w (.agg #[.int .u64 S, .int .i64 H, .slice A n cap]) S H n B) := hF
    have FA_b_0 : Hid (FilterAt w (.agg #[.int .u64 S, .int .i64 H', .slice A' m cap']) S H' m C) := hG
    clear hF hG q3 q4 hcap q3' q4' hcap'
    go_enter Try.func5, Try.ntmps5
    have BEL1 : Hid (Below w.heap.size w (w.alloc (.cells #[.int .u64 S, .int .i64 H, .slice A n cap] 25))) := bel_trans BEL0.out (bel_alloc _ _)
    have FA_a_1 : Hid (FilterAt (w.alloc (.cells #[.int .u64 S, .int .i64 H, .slice A n cap] 25)) (.agg #[.int .u64 S, .int .i64 H, .slice A n cap]) S H n B) := FA_a_0.out.keep (keep_of_below (bel_alloc _ _))
    have FA_b_1 : Hid (FilterAt (w.alloc (.cells #[.int .u64 S, .int .i64 H, .slice A n cap] 25)) (.agg #[.int .u64 S, .int .i64 H', .slice A' m cap']) S H' m C) := FA_b_0.out.keep (keep_of_below (bel_alloc _ _))
    clear BEL0 FA_a_0 FA_b_0
    have KB_bx_1 : Hid (Blk (w.alloc (.cells #[.int .u64 S, .int .i64 H, .slice A n cap] 25)) (w.heap.size) 25 #[.int .u64 S, .int .i64 H, .slice A n cap]) := Blk.new _ _ _
    have BEL2 : Hid (Below w.heap.size w ((w.alloc (.cells #[.int .u64 S, .int .i64 H, .slice A n cap] 25)).alloc (.cells #[.int .u64 S, .int .i64 H', .slice A' m cap'] 25))) := bel_trans BEL1.out (bel_alloc _ _)
    have FA_a_2 : Hid (FilterAt ((w.alloc (.cells #[.int .u64 S, .int .i64 H, .slice A n cap] 25)).alloc (.cells #[.int .u64 S, .int .i64 H', .slice A' m cap'] 25)) (.agg #[.int .u64 S, .int .i64 H, .slice A n cap]) S H n B) := FA_a_1.out.keep (keep_of_below (bel_alloc _ _))
    have FA_b_2 : Hid (FilterAt ((w.alloc (.cells #[.int .u64 S, .int .i64 H, .slice A n cap] 25)).alloc (.cells #[.int .u64 S, .int .i64 H', .slice A' m cap'] 25)) (.agg #[.int .u64 S, .int .i64 H', .slice A' m cap']) S H' m C) := FA_b_1.out.keep (keep_of_below (bel_alloc _ _))
    have KB_bx_2 : Hid (Blk ((w.alloc (.cells #[.int .u64 S, .int .i64 H, .slice A n cap] 25)).alloc (.cells #[.int .u64 S, .int .i64 H', .slice A' m cap'] 25)) (w.heap.size) 25 #[.int .u64 S, .int .i64 H, .slice A n cap]) := KB_bx_1.out.since (bel_alloc _ _)
    clear BEL1 FA_a_1 FA_b_1 KB_bx_1
    have KB_by_2 : Hid (Blk ((w.alloc (.cells #[.int .u64 S, .int .i64 H, .slice A n cap] 25)).alloc (.cells #[.int .u64 S, .int .i64 H', .slice A' m cap'] 25)) (w.heap.size + 1) 25 #[.int .u64 S, .int .i64 H', .slice A' m cap']) := by
      have e := Blk.new (w.alloc (.cells #[.int .u64 S, .int .i64 H, .slice A n cap] 25)) 25 #[.int .u64 S, .int .i64 H', .slice A' m cap']
      simp only [World.size_alloc] at e
      exact e
    have CE_bx_0 : (((w.alloc (.cells #[.int .u64 S, .int .i64 H, .slice A n cap] 25)).alloc (.cells #[.int .u64 S, .int .i64 H', .slice A' m cap'] 25))).cell? ⟨w.heap.size, 0, none⟩ = some (.int .u64 S) := KB_bx_2.out.cell 0
    have CE_bx_1 : (((w.alloc (.cells #[.int .u64 S, .int .i64 H, .slice A n cap] 25)).alloc (.cells #[.int .u64 S, .int .i64 H', .slice A' m cap'] 25))).cell? ⟨w.heap.size, 1, none⟩ = some (.int .i64 H) := KB_bx_2.out.cell 1
    have CE_bx_2 : (((w.alloc (.cells #[.int .u64 S, .int .i64 H, .slice A n cap] 25)).alloc (.cells #[.int .u64 S, .int .i64 H', .slice A' m cap'] 25))).cell? ⟨w.heap.size, 2, none⟩ = some (.slice A n cap) := KB_bx_2.out.cell 2
    have CE_bx_lt : w.heap.size < (((w.alloc (.cells #[.int .u64 S, .int .i64 H, .slice A n cap] 25)).alloc (.cells #[.int .u64 S, .int .i64 H', .slice A' m cap'] 25))).heap.size := KB_bx_2.out.lt
    have CE_by_0 : (((w.alloc (.cells #[.int .u64 S, .int .i64 H, .slice A n cap] 25)).alloc (.cells #[.int .u64 S, .int .i64 H', .slice A' m cap'] 25))).cell? ⟨w.heap.size + 1, 0, none⟩ = some (.int .u64 S) := KB_by_2.out.cell 0
    have CE_by_1 : (((w.alloc (.cells #[.int .u64 S, .int .i64 H, .slice A n cap] 25)).alloc (.cells #[.int .u64 S, .int .i64 H', .slice A' m cap'] 25))).cell? ⟨w.heap.size + 1, 1, none⟩ = some (.int .i64 H') := KB_by_2.out.cell 1
    have CE_by_2 : (((w.alloc (.cells #[.int .u64 S, .int .i64 H, .slice A n cap] 25)).alloc (.cells #[.int .u64 S, .int .i64 H', .slice A' m cap'] 25))).cell? ⟨w.heap.size + 1, 2, none⟩ = some (.slice A' m cap') := KB_by_2.out.cell 2
    have CE_by_lt : w.heap.size + 1 < (((w.alloc (.cells #[.int .u64 S, .int .i64 H, .slice A n cap] 25)).alloc (.cells #[.int .u64 S, .int .i64 H', .slice A' m cap'] 25))).heap.size := KB_by_2.out.lt
    go_wp2_with fail
    refine (merge_bad _ _ _ S H S H' n m _ _ FA_a_2.out FA_b_2.out (by omega) (fun h => by rw [AL.out] at h; cases h.2.2)).mono ?_
    rintro e ww1 ⟨rfl, b1⟩
    clear CE_bx_0 CE_bx_1 CE_bx_2 CE_bx_lt CE_by_0 CE_by_1 CE_by_2 CE_by_lt
    have BEL3 : Hid (Below w.heap.size w ww1) := bel_trans BEL2.out b1
    have FA_a_3 : Hid (FilterAt ww1 (.agg #[.int .u64 S, .int .i64 H, .slice A n cap]) S H n B) := FA_a_2.out.keep (keep_of_below b1)
    have FA_b_3 : Hid (FilterAt ww1 (.agg #[.int .u64 S, .int .i64 H', .slice A' m cap']) S H' m C) := FA_b_2.out.keep (keep_of_below b1)
    have KB_bx_3 : Hid (Blk ww1 (w.heap.size) 25 #[.int .u64 S, .int .i64 H, .slice A n cap]) := KB_bx_2.out.since b1
    have KB_by_3 : Hid (Blk ww1 (w.heap.size + 1) 25 #[.int .u64 S, .int .i64 H', .slice A' m cap']) := KB_by_2.out.since b1
    clear BEL2 FA_a_2 FA_b_2 KB_bx_2 KB_by_2
    clear b1
    have CE_bx_0 : ww1.cell? ⟨w.heap.size, 0, none⟩ = some (.int .u64 S) := KB_bx_3.out.cell 0
    have CE_bx_1 : ww1.cell? ⟨w.heap.size, 1, none⟩ = some (.int .i64 H) := KB_bx_3.out.cell 1
    have CE_bx_2 : ww1.cell? ⟨w.heap.size, 2, none⟩ = some (.slice A n cap) := KB_bx_3.out.cell 2
    have CE_bx_lt : w.heap.size < ww1.heap.size := KB_bx_3.out.lt
    have CE_by_0 : ww1.cell? ⟨w.heap.size + 1, 0, none⟩ = some (.int .u64 S) := KB_by_3.out.cell 0
    have CE_by_1 : ww1.cell? ⟨w.heap.size + 1, 1, none⟩ = some (.int .i64 H') := KB_by_3.out.cell 1
    have CE_by_2 : ww1.cell? ⟨w.heap.size + 1, 2, none⟩ = some (.slice A' m cap') := KB_by_3.out.cell 2
    have CE_by_lt : w.heap.size + 1 < ww1.heap.size := KB_by_3.out.lt
    go_upto_region 4 with fail
    clear CE_bx_0 CE_bx_1 CE_bx_2 CE_bx_lt CE_by_0 CE_by_1 CE_by_2 CE_by_lt
    have BEL4 : Hid (Below w.heap.size w (ww1.alloc (.cells #[.int .u64 0, .int .i64 0, .slice none 0 0] 25))) := bel_trans BEL3.out (bel_alloc _ _)
    have FA_a_4 : Hid (FilterAt (ww1.alloc (.cells #[.int .u64 0, .int .i64 0, .slice none 0 0] 25)) (.agg #[.int .u64 S, .int .i64 H, .slice A n cap]) S H n B) := FA_a_3.out.keep (keep_of_below (bel_alloc _ _))
    have FA_b_4 : Hid (FilterAt (ww1.alloc (.cells #[.int .u64 0, .int .i64 0, .slice none 0 0] 25)) (.agg #[.int .u64 S, .int .i64 H', .slice A' m cap']) S H' m C) := FA_b_3.out.keep (keep_of_below (bel_alloc _ _))
    have KB_bx_4 : Hid (Blk (ww1.alloc (.cells #[.int .u64 0, .int .i64 0, .slice none 0 0] 25)) (w.heap.size) 25 #[.int .u64 S, .int .i64 H, .slice A n cap]) := KB_bx_3.out.since (bel_alloc _ _)
    have KB_by_4 : Hid (Blk (ww1.alloc (.cells #[.int .u64 0, .int .i64 0, .slice none 0 0] 25)) (w.heap.size + 1) 25 #[.int .u64 S, .int .i64 H', .slice A' m cap']) := KB_by_3.out.since (bel_alloc _ _)
    clear BEL3 FA_a_3 FA_b_3 KB_bx_3 KB_by_3
    have KB_m_4 : Hid (Blk (ww1.alloc (.cells #[.int .u64 0, .int .i64 0, .slice none 0 0] 25)) (ww1.heap.size) 25 #[.int .u64 0, .int .i64 0, .slice none 0 0]) := Blk.new _ _ _
    have FA_z_4 : Hid (FilterAt (ww1.alloc (.cells #[.int .u64 0, .int .i64 0, .slice none 0 0] 25)) (.agg #[.int .u64 0, .int .i64 0, .slice none 0 0]) 0 0 0 (fun _ => false)) := ⟨_, rfl, none, 0, 0, 0, rfl, Nat.le_refl _, fun h => absurd h (by omega), fun i h => absurd h (by omega)⟩
    have CE_bx_0 : ((ww1.alloc (.cells #[.int .u64 0, .int .i64 0, .slice none 0 0] 25))).cell? ⟨w.heap.size, 0, none⟩ = some (.int .u64 S) := KB_bx_4.out.cell 0
    have CE_bx_1 : ((ww1.alloc (.cells #[.int .u64 0, .int .i64 0, .slice none 0 0] 25))).cell? ⟨w.heap.size, 1, none⟩ = some (.int .i64 H) := KB_bx_4.out.cell 1
    have CE_bx_2 : ((ww1.alloc (.cells #[.int .u64 0, .int .i64 0, .slice none 0 0] 25))).cell? ⟨w.heap.size, 2, none⟩ = some (.slice A n cap) := KB_bx_4.out.cell 2
    have CE_bx_lt : w.heap.size < ((ww1.alloc (.cells #[.int .u64 0, .int .i64 0, .slice none 0 0] 25))).heap.size := KB_bx_4.out.lt
    have CE_by_0 : ((ww1.alloc (.cells #[.int .u64 0, .int .i64 0, .slice none 0 0] 25))).cell? ⟨w.heap.size + 1, 0, none⟩ = some (.int .u64 S) := KB_by_4.out.cell 0
    have CE_by_1 : ((ww1.alloc (.cells #[.int .u64 0, .int .i64 0, .slice none 0 0] 25))).cell? ⟨w.heap.size + 1, 1, none⟩ = some (.int .i64 H') := KB_by_4.out.cell 1
    have CE_by_2 : ((ww1.alloc (.cells #[.int .u64 0, .int .i64 0, .slice none 0 0] 25))).cell? ⟨w.heap.size + 1, 2, none⟩ = some (.slice A' m cap') := KB_by_4.out.cell 2
    have CE_by_lt : w.heap.size + 1 < ((ww1.alloc (.cells #[.int .u64 0, .int .i64 0, .slice none 0 0] 25))).heap.size := KB_by_4.out.lt
    have CE_m_0 : ((ww1.alloc (.cells #[.int .u64 0, .int .i64 0, .slice none 0 0] 25))).cell? ⟨ww1.heap.size, 0, none⟩ = some (.int .u64 0) := KB_m_4.out.cell 0
    have CE_m_1 : ((ww1.alloc (.cells #[.int .u64 0, .int .i64 0, .slice none 0 0] 25))).cell? ⟨ww1.heap.size, 1, none⟩ = some (.int .i64 0) := KB_m_4.out.cell 1
    have CE_m_2 : ((ww1.alloc (.cells #[.int .u64 0, .int .i64 0, .slice none 0 0] 25))).cell? ⟨ww1.heap.size, 2, none⟩ = some (.slice none 0 0) := KB_m_4.out.cell 2
    have CE_m_lt : ww1.heap.size < ((ww1.alloc (.cells #[.int .u64 0, .int .i64 0, .slice none 0 0] 25))).heap.size := KB_m_4.out.lt
    go_wp2_with fail
    refine (ref_any _ _ S H n _ FA_a_4.out).mono ?_
    rintro e ww2 ⟨rfl, b2⟩
    clear CE_bx_0 CE_bx_1 CE_bx_2 CE_bx_lt CE_by_0 CE_by_1 CE_by_2 CE_by_lt CE_m_0 CE_m_1 CE_m_2 CE_m_lt
    have BEL5 : Hid (Below w.heap.size w ww2) := bel_trans BEL4.out b2
    have FA_a_5 : Hid (FilterAt ww2 (.agg #[.int .u64 S, .int .i64 H, .slice A n cap]) S H n B) := FA_a_4.out.keep (keep_of_below b2)
    have FA_b_5 : Hid (FilterAt ww2 (.agg #[.int .u64 S, .int .i64 H', .slice A' m cap']) S H' m C) := FA_b_4.out.keep (keep_of_below b2)
    have FA_z_5 : Hid (FilterAt ww2 (.agg #[.int .u64 0, .int .i64 0, .slice none 0 0]) 0 0 0 (fun _ => false)) := FA_z_4.out.keep (keep_of_below b2)
    have KB_bx_5 : Hid (Blk ww2 (w.heap.size) 25 #[.int .u64 S, .int .i64 H, .slice A n cap]) := KB_bx_4.out.since b2
    have KB_by_5 : Hid (Blk ww2 (w.heap.size + 1) 25 #[.int .u64 S, .int .i64 H', .slice A' m cap']) := KB_by_4.out.since b2
    have KB_m_5 : Hid (Blk ww2 (ww1.heap.size) 25 #[.int .u64 0, .int .i64 0, .slice none 0 0]) := KB_m_4.out.since b2
    clear BEL4 FA_a_4 FA_b_4 FA_z_4 KB_bx_4 KB_by_4 KB_m_4
    clear b2
    go_wp2_with fail
    refine (rright_any _ _ S H n _ FA_a_5.out).mono ?_
    rintro e ww3 ⟨rfl, b3⟩
    have BEL6 : Hid (Below w.heap.size w ww3) := bel_trans BEL5.out b3
    have FA_a_6 : Hid (FilterAt ww3 (.agg #[.int .u64 S, .int .i64 H, .slice A n cap]) S H n B) := FA_a_5.out.keep (keep_of_below b3)
    have FA_b_6 : Hid (FilterAt ww3 (.agg #[.int .u64 S, .int .i64 H', .slice A' m cap']) S H' m C) := FA_b_5.out.keep (keep_of_below b3)
    have FA_z_6 : Hid (FilterAt ww3 (.agg #[.int .u64 0, .int .i64 0, .slice none 0 0]) 0 0 0 (fun _ => false)) := FA_z_5.out.keep (keep_of_below b3)
    have KB_bx_6 : Hid (Blk ww3 (w.heap.size) 25 #[.int .u64 S, .int .i64 H, .slice A n cap]) := KB_bx_5.out.since b3
    have KB_by_6 : Hid (Blk ww3 (w.heap.size + 1) 25 #[.int .u64 S, .int .i64 H', .slice A' m cap']) := KB_by_5.out.since b3
    have KB_m_6 : Hid (Blk ww3 (ww1.heap.size) 25 #[.int .u64 0, .int .i64 0, .slice none 0 0]) := KB_m_5.out.since b3
    clear BEL5 FA_a_5 FA_b_5 FA_z_5 KB_bx_5 KB_by_5 KB_m_5
    clear b3
    rw [hA]
    have CE_bx_0 : ww3.cell? ⟨w.heap.size, 0, none⟩ = some (.int .u64 S) := KB_bx_6.out.cell 0
    have CE_bx_1 : ww3.cell? ⟨w.heap.size, 1, none⟩ = some (.int .i64 H) := KB_bx_6.out.cell 1
    have CE_bx_2 : ww3.cell? ⟨w.heap.size, 2, none⟩ = some (.slice A n cap) := KB_bx_6.out.cell 2
    have CE_bx_lt : w.heap.size < ww3.heap.size := KB_bx_6.out.lt
    have CE_by_0 : ww3.cell? ⟨w.heap.size + 1, 0, none⟩ = some (.int .u64 S) := KB_by_6.out.cell 0
    have CE_by_1 : ww3.cell? ⟨w.heap.size + 1, 1, none⟩ = some (.int .i64 H') := KB_by_6.out.cell 1
    have CE_by_2 : ww3.cell? ⟨w.heap.size + 1, 2, none⟩ = some (.slice A' m cap') := KB_by_6.out.cell 2
    have CE_by_lt : w.heap.size + 1 < ww3.heap.size := KB_by_6.out.lt
    have CE_m_0 : ww3.cell? ⟨ww1.heap.size, 0, none⟩ = some (.int .u64 0) := KB_m_6.out.cell 0
    have CE_m_1 : ww3.cell? ⟨ww1.heap.size, 1, none⟩ = some (.int .i64 0) := KB_m_6.out.cell 1
    have CE_m_2 : ww3.cell? ⟨ww1.heap.size, 2, none⟩ = some (.slice none 0 0) := KB_m_6.out.cell 2
    have CE_m_lt : ww1.heap.size < ww3.heap.size := KB_m_6.out.lt
    go_wp2_with fail
    refine (ref_any _ _ S H' m _ FA_b_6.out).mono ?_
    rintro e ww4 ⟨rfl, b4⟩
    clear CE_bx_0 CE_bx_1 CE_bx_2 CE_bx_lt CE_by_0 CE_by_1 CE_by_2 CE_by_lt CE_m_0 CE_m_1 CE_m_2 CE_m_lt
    have BEL7 : Hid (Below w.heap.size w ww4) := bel_trans BEL6.out b4
    have FA_a_7 : Hid (FilterAt ww4 (.agg #[.int .u64 S, .int .i64 H, .slice A n cap]) S H n B) := FA_a_6.out.keep (keep_of_below b4)
    have FA_b_7 : Hid (FilterAt ww4 (.agg #[.int .u64 S, .int .i64 H', .slice A' m cap']) S H' m C) := FA_b_6.out.keep (keep_of_below b4)
    have FA_z_7 : Hid (FilterAt ww4 (.agg #[.int .u64 0, .int .i64 0, .slice none 0 0]) 0 0 0 (fun _ => false)) := FA_z_6.out.keep (keep_of_below b4)
    have KB_bx_7 : Hid (Blk ww4 (w.heap.size) 25 #[.int .u64 S, .int .i64 H, .slice A n cap]) := KB_bx_6.out.since b4
    have KB_by_7 : Hid (Blk ww4 (w.heap.size + 1) 25 #[.int .u64 S, .int .i64 H', .slice A' m cap']) := KB_by_6.out.since b4
    have KB_m_7 : Hid (Blk ww4 (ww1.heap.size) 25 #[.int .u64 0, .int .i64 0, .slice none 0 0]) := KB_m_6.out.since b4
    clear BEL6 FA_a_6 FA_b_6 FA_z_6 KB_bx_6 KB_by_6 KB_m_6
    clear b4
    go_wp2_with fail
    refine (rright_any _ _ S H' m _ FA_b_7.out).mono ?_
    rintro e ww5 ⟨rfl, b5⟩
    have BEL8 : Hid (Below w.heap.size w ww5) := bel_trans BEL7.out b5
    have FA_a_8 : Hid (FilterAt ww5 (.agg #[.int .u64 S, .int .i64 H, .slice A n cap]) S H n B) := FA_a_7.out.keep (keep_of_below b5)
    have FA_b_8 : Hid (FilterAt ww5 (.agg #[.int .u64 S, .int .i64 H', .slice A' m cap']) S H' m C) := FA_b_7.out.keep (keep_of_below b5)
    have FA_z_8 : Hid (FilterAt ww5 (.agg #[.int .u64 0, .int .i64 0, .slice none 0 0]) 0 0 0 (fun _ => false)) := FA_z_7.out.keep (keep_of_below b5)
    have KB_bx_8 : Hid (Blk ww5 (w.heap.size) 25 #[.int .u64 S, .int .i64 H, .slice A n cap]) := KB_bx_7.out.since b5
    have KB_by_8 : Hid (Blk ww5 (w.heap.size + 1) 25 #[.int .u64 S, .int .i64 H', .slice A' m cap']) := KB_by_7.out.since b5
    have KB_m_8 : Hid (Blk ww5 (ww1.heap.size) 25 #[.int .u64 0, .int .i64 0, .slice none 0 0]) := KB_m_7.out.since b5
    clear BEL7 FA_a_7 FA_b_7 FA_z_7 KB_bx_7 KB_by_7 KB_m_7
    clear b5
    rw [hB]
    have CE_bx_0 : ww5.cell? ⟨w.heap.size, 0, none⟩ = some (.int .u64 S) := KB_bx_8.out.cell 0
    have CE_bx_1 : ww5.cell? ⟨w.heap.size, 1, none⟩ = some (.int .i64 H) := KB_bx_8.out.cell 1
    have CE_bx_2 : ww5.cell? ⟨w.heap.size, 2, none⟩ = some (.slice A n cap) := KB_bx_8.out.cell 2
    have CE_bx_lt : w.heap.size < ww5.heap.size := KB_bx_8.out.lt
    have CE_by_0 : ww5.cell? ⟨w.heap.size + 1, 0, none⟩ = some (.int .u64 S) := KB_by_8.out.cell 0
    have CE_by_1 : ww5.cell? ⟨w.heap.size + 1, 1, none⟩ = some (.int .i64 H') := KB_by_8.out.cell 1
    have CE_by_2 : ww5.cell? ⟨w.heap.size + 1, 2, none⟩ = some (.slice A' m cap') := KB_by_8.out.cell 2
    have CE_by_lt : w.heap.size + 1 < ww5.heap.size := KB_by_8.out.lt
    have CE_m_0 : ww5.cell? ⟨ww1.heap.size, 0, none⟩ = some (.int .u64 0) := KB_m_8.out.cell 0
    have CE_m_1 : ww5.cell? ⟨ww1.heap.size, 1, none⟩ = some (.int .i64 0) := KB_m_8.out.cell 1
    have CE_m_2 : ww5.cell? ⟨ww1.heap.size, 2, none⟩ = some (.slice none 0 0) := KB_m_8.out.cell 2
    have CE_m_lt : ww1.heap.size < ww5.heap.size := KB_m_8.out.lt
    go_wp2_with fail
    refine (ref_any _ _ 0 0 0 _ FA_z_8.out).mono ?_
    rintro e ww6 ⟨rfl, b6⟩
    clear CE_bx_0 CE_bx_1 CE_bx_2 CE_bx_lt CE_by_0 CE_by_1 CE_by_2 CE_by_lt CE_m_0 CE_m_1 CE_m_2 CE_m_lt
    have BEL9 : Hid (Below w.heap.size w ww6) := bel_trans BEL8.out b6
    have FA_a_9 : Hid (FilterAt ww6 (.agg #[.int .u64 S, .int .i64 H, .slice A n cap]) S H n B) := FA_a_8.out.keep (keep_of_below b6)
    have FA_b_9 : Hid (FilterAt ww6 (.agg #[.int .u64 S, .int .i64 H', .slice A' m cap']) S H' m C) := FA_b_8.out.keep (keep_of_below b6)
    have FA_z_9 : Hid (FilterAt ww6 (.agg #[.int .u64 0, .int .i64 0, .slice none 0 0]) 0 0 0 (fun _ => false)) := FA_z_8.out.keep (keep_of_below b6)
    have KB_bx_9 : Hid (Blk ww6 (w.heap.size) 25 #[.int .u64 S, .int .i64 H, .slice A n cap]) := KB_bx_8.out.since b6
    have KB_by_9 : Hid (Blk ww6 (w.heap.size + 1) 25 #[.int .u64 S, .int .i64 H', .slice A' m cap']) := KB_by_8.out.since b6
    have KB_m_9 : Hid (Blk ww6 (ww1.heap.size) 25 #[.int .u64 0, .int .i64 0, .slice none 0 0]) := KB_m_8.out.since b6
    clear BEL8 FA_a_8 FA_b_8 FA_z_8 KB_bx_8 KB_by_8 KB_m_8
    clear b6
    go_wp2_with fail
    refine (requal_any _ _ _ 0 0 0 0 0 0 _ _ FA_z_9.out FA_z_9.out (by omega)).mono ?_
    rintro e ww7 ⟨c3, rfl, h3, b7⟩
    have BEL10 : Hid (Below w.heap.size w ww7) := bel_trans BEL9.out b7
    have FA_a_10 : Hid (FilterAt ww7 (.agg #[.int .u64 S, .int .i64 H, .slice A n cap]) S H n B) := FA_a_9.out.keep (keep_of_below b7)
    have FA_b_10 : Hid (FilterAt ww7 (.agg #[.int .u64 S, .int .i64 H', .slice A' m cap']) S H' m C) := FA_b_9.out.keep (keep_of_below b7)
    have FA_z_10 : Hid (FilterAt ww7 (.agg #[.int .u64 0, .int .i64 0, .slice none 0 0]) 0 0 0 (fun _ => false)) := FA_z_9.out.keep (keep_of_below b7)
    have KB_bx_10 : Hid (Blk ww7 (w.heap.size) 25 #[.int .u64 S, .int .i64 H, .slice A n cap]) := KB_bx_9.out.since b7
    have KB_by_10 : Hid (Blk ww7 (w.heap.size + 1) 25 #[.int .u64 S, .int .i64 H', .slice A' m cap']) := KB_by_9.out.since b7
    have KB_m_10 : Hid (Blk ww7 (ww1.heap.size) 25 #[.int .u64 0, .int .i64 0, .slice none 0 0]) := KB_m_9.out.since b7
    clear BEL9 FA_a_9 FA_b_9 FA_z_9 KB_bx_9 KB_by_9 KB_m_9
    clear b7
    obtain rfl : c3 = true := h3.2 ⟨rfl, rfl, rfl, fun i hi => rfl⟩
    clear h3
    go_wp2_with fail
    refine (awake_any _).mono ?_
    rintro e ww99 ⟨rfl, b9⟩
    have BEL11 : Hid (Below w.heap.size w ww99) := bel_trans BEL10.out b9
    have FA_a_11 : Hid (FilterAt ww99 (.agg #[.int .u64 S, .int .i64 H, .slice A n cap]) S H n B) := FA_a_10.out.keep (keep_of_below b9)
    have FA_b_11 : Hid (FilterAt ww99 (.agg #[.int .u64 S, .int .i64 H', .slice A' m cap']) S H' m C) := FA_b_10.out.keep (keep_of_below b9)
    have FA_z_11 : Hid (FilterAt ww99 (.agg #[.int .u64 0, .int .i64 0, .slice none 0 0]) 0 0 0 (fun _ => false)) := FA_z_10.out.keep (keep_of_below b9)
    have KB_bx_11 : Hid (Blk ww99 (w.heap.size) 25 #[.int .u64 S, .int .i64 H, .slice A n cap]) := KB_bx_10.out.since b9
    have KB_by_11 : Hid (Blk ww99 (w.heap.size + 1) 25 #[.int .u64 S, .int .i64 H', .slice A' m cap']) := KB_by_10.out.since b9
    have KB_m_11 : Hid (Blk ww99 (ww1.heap.size) 25 #[.int .u64 0, .int .i64 0, .slice none 0 0]) := KB_m_10.out.since b9
    clear BEL10 FA_a_10 FA_b_10 FA_z_10 KB_bx_10 KB_by_10 KB_m_10
    clear b9
    go_wp2_with fail
    go_ret
    exact ⟨rfl, BEL11.out⟩
  subst e1
  by_cases e1 : n = m
  rotate_left
  · have q : ((n : Int) != (m : Int)) = true := by simp; omega
    have AL : Hid (alikeB S H n S H m = false) := decide_eq_false (fun x => e1 x.2.2)
    clear e1
    have BEL0 : Hid (Below w.heap.size w w) := Below.refl _ _
    have FA_a_0 : Hid (FilterAt w (.agg #[.int .u64 S, .int .i64 H, .slice A n cap]) S H n B) := hF
    have FA_b_0 : Hid (FilterAt w (.agg #[.int .u64 S, .int .i64 H, .slice A' m cap']) S H m C) := hG
    clear hF hG q3 q4 hcap q3' q4' hcap'
    go_enter Try.func5, Try.ntmps5
    have BEL1 : Hid (Below w.heap.size w (w.alloc (.cells #[.int .u64 S, .int .i64 H, .slice A n cap] 25))) := bel_trans BEL0.out (bel_alloc _ _)
    have FA_a_1 : Hid (FilterAt (w.alloc (.cells #[.int .u64 S, .int .i64 H, .slice A n cap] 25)) (.agg #[.int .u64 S, .int .i64 H, .slice A n cap]) S H n B) := FA_a_0.out.keep (keep_of_below (bel_alloc _ _))
    have FA_b_1 : Hid (FilterAt (w.alloc (.cells #[.int .u64 S, .int .i64 H, .slice A n cap] 25)) (.agg #[.int .u64 S, .int .i64 H, .slice A' m cap']) S H m C) := FA_b_0.out.keep (keep_of_below (bel_alloc _ _))
    clear BEL0 FA_a_0 FA_b_0
    have KB_bx_1 : Hid (Blk (w.alloc (.cells #[.int .u64 S, .int .i64 H, .slice A n cap] 25)) (w.heap.size) 25 #[.int .u64 S, .int .i64 H, .slice A n cap]) := Blk.new _ _ _
    have BEL2 : Hid (Below w.heap.size w ((w.alloc (.cells #[.int .u64 S, .int .i64 H, .slice A n cap] 25)).alloc (.cells #[.int .u64 S, .int .i64 H, .slice A' m cap'] 25))) := bel_trans BEL1.out (bel_alloc _ _)
    have FA_a_2 : Hid (FilterAt ((w.alloc (.cells #[.int .u64 S, .int .i64 H, .slice A n cap] 25)).alloc (.cells #[.int .u64 S, .int .i64 H, .slice A' m cap'] 25)) (.agg #[.int .u64 S, .int .i64 H, .slice A n cap]) S H n B) := FA_a_1.out.keep (keep_of_below (bel_alloc _ _))
    have FA_b_2 : Hid (FilterAt ((w.alloc (.cells #[.int .u64 S, .int .i64 H, .slice A n cap] 25)).alloc (.cells #[.int .u64 S, .int .i64 H, .slice A' m cap'] 25)) (.agg #[.int .u64 S, .int .i64 H, .slice A' m cap']) S H m C) := FA_b_1.out.keep (keep_of_below (bel_alloc _ _))
    have KB_bx_2 : Hid (Blk ((w.alloc (.cells #[.int .u64 S, .int .i64 H, .slice A n cap] 25)).alloc (.cells #[.int .u64 S, .int .i64 H, .slice A' m cap'] 25)) (w.heap.size) 25 #[.int .u64 S, .int .i64 H, .slice A n cap]) := KB_bx_1.out.since (bel_alloc _ _)
    clear BEL1 FA_a_1 FA_b_1 KB_bx_1
    have KB_by_2 : Hid (Blk ((w.alloc (.cells #[.int .u64 S, .int .i64 H, .slice A n cap] 25)).alloc (.cells #[.int .u64 S, .int .i64 H, .slice A' m cap'] 25)) (w.heap.size + 1) 25 #[.int .u64 S, .int .i64 H, .slice A' m cap']) := by
      have e := Blk.new (w.alloc (.cells #[.int .u64 S, .int .i64 H, .slice A n cap] 25)) 25 #[.int .u64 S, .int .i64 H, .slice A' m cap']
      simp only [World.size_alloc] at e
      exact e
    have CE_bx_0 : (((w.alloc (.cells #[.int .u64 S, .int .i64 H, .slice A n cap] 25)).alloc (.cells #[.int .u64 S, .int .i64 H, .slice A' m cap'] 25))).cell? ⟨w.heap.size, 0, none⟩ = some (.int .u64 S) := KB_bx_2.out.cell 0
    have CE_bx_1 : (((w.alloc (.cells #[.int .u64 S, .int .i64 H, .slice A n cap] 25)).alloc (.cells #[.int .u64 S, .int .i64 H, .slice A' m cap'] 25))).cell? ⟨w.heap.size, 1, none⟩ = some (.int .i64 H) := KB_bx_2.out.cell 1
    have CE_bx_2 : (((w.alloc (.cells #[.int .u64 S, .int .i64 H, .slice A n cap] 25)).alloc (.cells #[.int .u64 S, .int .i64 H, .slice A' m cap'] 25))).cell? ⟨w.heap.size, 2, none⟩ = some (.slice A n cap) := KB_bx_2.out.cell 2
    have CE_bx_lt : w.heap.size < (((w.alloc (.cells #[.int .u64 S, .int .i64 H, .slice A n cap] 25)).alloc (.cells #[.int .u64 S, .int .i64 H, .slice A' m cap'] 25))).heap.size := KB_bx_2.out.lt
    have CE_by_0 : (((w.alloc (.cells #[.int .u64 S, .int .i64 H, .slice A n cap] 25)).alloc (.cells #[.int .u64 S, .int .i64 H, .slice A' m cap'] 25))).cell? ⟨w.heap.size + 1, 0, none⟩ = some (.int .u64 S) := KB_by_2.out.cell 0
    have CE_by_1 : (((w.alloc (.cells #[.int .u64 S, .int .i64 H, .slice A n cap] 25)).alloc (.cells #[.int .u64 S, .int .i64 H, .slice A' m cap'] 25))).cell? ⟨w.heap.size + 1, 1, none⟩ = some (.int .i64 H) := KB_by_2.out.cell 1
    have CE_by_2 : (((w.alloc (.cells #[.int .u64 S, .int .i64 H, .slice A n cap] 25)).alloc (.cells #[.int .u64 S, .int .i64 H, .slice A' m cap'] 25))).cell? ⟨w.heap.size + 1, 2, none⟩ = some (.slice A' m cap') := KB_by_2.out.cell 2
    have CE_by_lt : w.heap.size + 1 < (((w.alloc (.cells #[.int .u64 S, .int .i64 H, .slice A n cap] 25)).alloc (.cells #[.int .u64 S, .int .i64 H, .slice A' m cap'] 25))).heap.size := KB_by_2.out.lt
    go_wp2_with fail
    refine (merge_bad _ _ _ S H S H n m _ _ FA_a_2.out FA_b_2.out (by omega) (fun h => by rw [AL.out] at h; cases h.2.2)).mono ?_
    rintro e ww1 ⟨rfl, b1⟩
    clear CE_bx_0 CE_bx_1 CE_bx_2 CE_bx_lt CE_by_0 CE_by_1 CE_by_2 CE_by_lt
    have BEL3 : Hid (Below w.heap.size w ww1) := bel_trans BEL2.out b1
    have FA_a_3 : Hid (FilterAt ww1 (.agg #[.int .u64 S, .int .i64 H, .slice A n cap]) S H n B) := FA_a_2.out.keep (keep_of_below b1)
    have FA_b_3 : Hid (FilterAt ww1 (.agg #[.int .u64 S, .int .i64 H, .slice A' m cap']) S H m C) := FA_b_2.out.keep (keep_of_below b1)
    have KB_bx_3 : Hid (Blk ww1 (w.heap.size) 25 #[.int .u64 S, .int .i64 H, .slice A n cap]) := KB_bx_2.out.since b1
    have KB_by_3 : Hid (Blk ww1 (w.heap.size + 1) 25 #[.int .u64 S, .int .i64 H, .slice A' m cap']) := KB_by_2.out.since b1
    clear BEL2 FA_a_2 FA_b_2 KB_bx_2 KB_by_2
    clear b1
    have CE_bx_0 : ww1.cell? ⟨w.heap.size, 0, none⟩ = some (.int .u64 S) := KB_bx_3.out.cell 0
    have CE_bx_1 : ww1.cell? ⟨w.heap.size, 1, none⟩ = some (.int .i64 H) := KB_bx_3.out.cell 1
    have CE_bx_2 : ww1.cell? ⟨w.heap.size, 2, none⟩ = some (.slice A n cap) := KB_bx_3.out.cell 2
    have CE_bx_lt : w.heap.size < ww1.heap.size := KB_bx_3.out.lt
    have CE_by_0 : ww1.cell? ⟨w.heap.size + 1, 0, none⟩ = some (.int .u64 S) := KB_by_3.out.cell 0
    have CE_by_1 : ww1.cell? ⟨w.heap.size + 1, 1, none⟩ = some (.int .i64 H) := KB_by_3.out.cell 1
    have CE_by_2 : ww1.cell? ⟨w.heap.size + 1, 2, none⟩ = some (.slice A' m cap') := KB_by_3.out.cell 2
    have CE_by_lt : w.heap.size + 1 < ww1.heap.size := KB_by_3.out.lt
    go_upto_region 4 with fail
    clear CE_bx_0 CE_bx_1 CE_bx_2 CE_bx_lt CE_by_0 CE_by_1 CE_by_2 CE_by_lt
    have BEL4 : Hid (Below w.heap.size w (ww1.alloc (.cells #[.int .u64 0, .int .i64 0, .slice none 0 0] 25))) := bel_trans BEL3.out (bel_alloc _ _)
    have FA_a_4 : Hid (FilterAt (ww1.alloc (.cells #[.int .u64 0, .int .i64 0, .slice none 0 0] 25)) (.agg #[.int .u64 S, .int .i64 H, .slice A n cap]) S H n B) := FA_a_3.out.keep (keep_of_below (bel_alloc _ _))
    have FA_b_4 : Hid (FilterAt (ww1.alloc (.cells #[.int .u64 0, .int .i64 0, .slice none 0 0] 25)) (.agg #[.int .u64 S, .int .i64 H, .slice A' m cap']) S H m C) := FA_b_3.out.keep (keep_of_below (bel_alloc _ _))
    have KB_bx_4 : Hid (Blk (ww1.alloc (.cells #[.int .u64 0, .int .i64 0, .slice none 0 0] 25)) (w.heap.size) 25 #[.int .u64 S, .int .i64 H, .slice A n cap]) := KB_bx_3.out.since (bel_alloc _ _)
    have KB_by_4 : Hid (Blk (ww1.alloc (.cells #[.int .u64 0, .int .i64 0, .slice none 0 0] 25)) (w.heap.size + 1) 25 #[.int .u64 S, .int .i64 H, .slice A' m cap']) := KB_by_3.out.since (bel_alloc _ _)
    clear BEL3 FA_a_3 FA_b_3 KB_bx_3 KB_by_3
    have KB_m_4 : Hid (Blk (ww1.alloc (.cells #[.int .u64 0, .int .i64 0, .slice none 0 0] 25)) (ww1.heap.size) 25 #[.int .u64 0, .int .i64 0, .slice none 0 0]) := Blk.new _ _ _
    have FA_z_4 : Hid (FilterAt (ww1.alloc (.cells #[.int .u64 0, .int .i64 0, .slice none 0 0] 25)) (.agg #[.int .u64 0, .int .i64 0, .slice none 0 0]) 0 0 0 (fun _ => false)) := ⟨_, rfl, none, 0, 0, 0, rfl, Nat.le_refl _, fun h => absurd h (by omega), fun i h => absurd h (by omega)⟩
    have CE_bx_0 : ((ww1.alloc (.cells #[.int .u64 0, .int .i64 0, .slice none 0 0] 25))).cell? ⟨w.heap.size, 0, none⟩ = some (.int .u64 S) := KB_bx_4.out.cell 0
    have CE_bx_1 : ((ww1.alloc (.cells #[.int .u64 0, .int .i64 0, .slice none 0 0] 25))).cell? ⟨w.heap.size, 1, none⟩ = some (.int .i64 H) := KB_bx_4.out.cell 1
    have CE_bx_2 : ((ww1.alloc (.cells #[.int .u64 0, .int .i64 0, .slice none 0 0] 25))).cell? ⟨w.heap.size, 2, none⟩ = some (.slice A n cap) := KB_bx_4.out.cell 2
    have CE_bx_lt : w.heap.size < ((ww1.alloc (.cells #[.int .u64 0, .int .i64 0, .slice none 0 0] 25))).heap.size := KB_bx_4.out.lt
    have CE_by_0 : ((ww1.alloc (.cells #[.int .u64 0, .int .i64 0, .slice none 0 0] 25))).cell? ⟨w.heap.size + 1, 0, none⟩ = some (.int .u64 S) := KB_by_4.out.cell 0
    have CE_by_1 : ((ww1.alloc (.cells #[.int .u64 0, .int .i64 0, .slice none 0 0] 25))).cell? ⟨w.heap.size + 1, 1, none⟩ = some (.int .i64 H) := KB_by_4.out.cell 1
    have CE_by_2 : ((ww1.alloc (.cells #[.int .u64 0, .int .i64 0, .slice none 0 0] 25))).cell? ⟨w.heap.size + 1, 2, none⟩ = some (.slice A' m cap') := KB_by_4.out.cell 2
    have CE_by_lt : w.heap.size + 1 < ((ww1.alloc (.cells #[.int .u64 0, .int .i64 0, .slice none 0 0] 25))).heap.size := KB_by_4.out.lt
    have CE_m_0 : ((ww1.alloc (.cells #[.int .u64 0, .int .i64 0, .slice none 0 0] 25))).cell? ⟨ww1.heap.size, 0, none⟩ = some (.int .u64 0) := KB_m_4.out.cell 0
    have CE_m_1 : ((ww1.alloc (.cells #[.int .u64 0, .int .i64 0, .slice none 0 0] 25))).cell? ⟨ww1.heap.size, 1, none⟩ = some (.int .i64 0) := KB_m_4.out.cell 1
    have CE_m_2 : ((ww1.alloc (.cells #[.int .u64 0, .int .i64 0, .slice none 0 0] 25))).cell? ⟨ww1.heap.size, 2, none⟩ = some (.slice none 0 0) := KB_m_4.out.cell 2
    have CE_m_lt : ww1.heap.size < ((ww1.alloc (.cells #[.int .u64 0, .int .i64 0, .slice none 0 0] 25))).heap.size := KB_m_4.out.lt
    go_wp2_with fail
    refine (ref_any _ _ S H n _ FA_a_4.out).mono ?_
    rintro e ww2 ⟨rfl, b2⟩
    clear CE_bx_0 CE_bx_1 CE_bx_2 CE_bx_lt CE_by_0 CE_by_1 CE_by_2 CE_by_lt CE_m_0 CE_m_1 CE_m_2 CE_m_lt
    have BEL5 : Hid (Below w.heap.size w ww2) := bel_trans BEL4.out b2
    have FA_a_5 : Hid (FilterAt ww2 (.agg #[.int .u64 S, .int .i64 H, .slice A n cap]) S H n B) := FA_a_4.out.keep (keep_of_below b2)
    have FA_b_5 : Hid (FilterAt ww2 (.agg #[.int .u64 S, .int .i64 H, .slice A' m cap']) S H m C) := FA_b_4.out.keep (keep_of_below b2)
    have FA_z_5 : Hid (FilterAt ww2 (.agg #[.int .u64 0, .int .i64 0, .slice none 0 0]) 0 0 0 (fun _ => false)) := FA_z_4.out.keep (keep_of_below b2)
    have KB_bx_5 : Hid (Blk ww2 (w.heap.size) 25 #[.int .u64 S, .int .i64 H, .slice A n cap]) := KB_bx_4.out.since b2
    have KB_by_5 : Hid (Blk ww2 (w.heap.size + 1) 25 #[.int .u64 S, .int .i64 H, .slice A' m cap']) := KB_by_4.out.since b2
    have KB_m_5 : Hid (Blk ww2 (ww1.heap.size) 25 #[.int .u64 0, .int .i64 0, .slice none 0 0]) := KB_m_4.out.since b2
    clear BEL4 FA_a_4 FA_b_4 FA_z_4 KB_bx_4 KB_by_4 KB_m_4
    clear b2
    go_wp2_with fail
    refine (rright_any _ _ S H n _ FA_a_5.out).mono ?_
    rintro e ww3 ⟨rfl, b3⟩
    have BEL6 : Hid (Below w.heap.size w ww3) := bel_trans BEL5.out b3
    have FA_a_6 : Hid (FilterAt ww3 (.agg #[.int .u64 S, .int .i64 H, .slice A n cap]) S H n B) := FA_a_5.out.keep (keep_of_below b3)
    have FA_b_6 : Hid (FilterAt ww3 (.agg #[.int .u64 S, .int .i64 H, .slice A' m cap']) S H m C) := FA_b_5.out.keep (keep_of_below b3)
    have FA_z_6 : Hid (FilterAt ww3 (.agg #[.int .u64 0, .int .i64 0, .slice none 0 0]) 0 0 0 (fun _ => false)) := FA_z_5.out.keep (keep_of_below b3)
    have KB_bx_6 : Hid (Blk ww3 (w.heap.size) 25 #[.int .u64 S, .int .i64 H, .slice A n cap]) := KB_bx_5.out.since b3
    have KB_by_6 : Hid (Blk ww3 (w.heap.size + 1) 25 #[.int .u64 S, .int .i64 H, .slice A' m cap']) := KB_by_5.out.since b3
    have KB_m_6 : Hid (Blk ww3 (ww1.heap.size) 25 #[.int .u64 0, .int .i64 0, .slice none 0 0]) := KB_m_5.out.since b3
    clear BEL5 FA_a_5 FA_b_5 FA_z_5 KB_bx_5 KB_by_5 KB_m_5
    clear b3
    rw [hA]
    have CE_bx_0 : ww3.cell? ⟨w.heap.size, 0, none⟩ = some (.int .u64 S) := KB_bx_6.out.cell 0
    have CE_bx_1 : ww3.cell? ⟨w.heap.size, 1, none⟩ = some (.int .i64 H) := KB_bx_6.out.cell 1
    have CE_bx_2 : ww3.cell? ⟨w.heap.size, 2, none⟩ = some (.slice A n cap) := KB_bx_6.out.cell 2
    have CE_bx_lt : w.heap.size < ww3.heap.size := KB_bx_6.out.lt
    have CE_by_0 : ww3.cell? ⟨w.heap.size + 1, 0, none⟩ = some (.int .u64 S) := KB_by_6.out.cell 0
    have CE_by_1 : ww3.cell? ⟨w.heap.size + 1, 1, none⟩ = some (.int .i64 H) := KB_by_6.out.cell 1
    have CE_by_2 : ww3.cell? ⟨w.heap.size + 1, 2, none⟩ = some (.slice A' m cap') := KB_by_6.out.cell 2
    have CE_by_lt : w.heap.size + 1 < ww3.heap.size := KB_by_6.out.lt
    have CE_m_0 : ww3.cell? ⟨ww1.heap.size, 0, none⟩ = some (.int .u64 0) := KB_m_6.out.cell 0
    have CE_m_1 : ww3.cell? ⟨ww1.heap.size, 1, none⟩ = some (.int .i64 0) := KB_m_6.out.cell 1
    have CE_m_2 : ww3.cell? ⟨ww1.heap.size, 2, none⟩ = some (.slice none 0 0) := KB_m_6.out.cell 2
    have CE_m_lt : ww1.heap.size < ww3.heap.size := KB_m_6.out.lt
    go_wp2_with fail
    refine (ref_any _ _ S H m _ FA_b_6.out).mono ?_
    rintro e ww4 ⟨rfl, b4⟩
    clear CE_bx_0 CE_bx_1 CE_bx_2 CE_bx_lt CE_by_0 CE_by_1 CE_by_2 CE_by_lt CE_m_0 CE_m_1 CE_m_2 CE_m_lt
    have BEL7 : Hid (Below w.heap.size w ww4) := bel_trans BEL6.out b4
    have FA_a_7 : Hid (FilterAt ww4 (.agg #[.int .u64 S, .int .i64 H, .slice A n cap]) S H n B) := FA_a_6.out.keep (keep_of_below b4)
    have FA_b_7 : Hid (FilterAt ww4 (.agg #[.int .u64 S, .int .i64 H, .slice A' m cap']) S H m C) := FA_b_6.out.keep (keep_of_below b4)
    have FA_z_7 : Hid (FilterAt ww4 (.agg #[.int .u64 0, .int .i64 0, .slice none 0 0]) 0 0 0 (fun _ => false)) := FA_z_6.out.keep (keep_of_below b4)
    have KB_bx_7 : Hid (Blk ww4 (w.heap.size) 25 #[.int .u64 S, .int .i64 H, .slice A n cap]) := KB_bx_6.out.since b4
    have KB_by_7 : Hid (Blk ww4 (w.heap.size + 1) 25 #[.int .u64 S, .int .i64 H, .slice A' m cap']) := KB_by_6.out.since b4
    have KB_m_7 : Hid (Blk ww4 (ww1.heap.size) 25 #[.int .u64 0, .int .i64 0, .slice none 0 0]) := KB_m_6.out.since b4
    clear BEL6 FA_a_6 FA_b_6 FA_z_6 KB_bx_6 KB_by_6 KB_m_6
    clear b4
    go_wp2_with fail
    refine (rright_any _ _ S H m _ FA_b_7.out).mono ?_
    rintro e ww5 ⟨rfl, b5⟩
    have BEL8 : Hid (Below w.heap.size w ww5) := bel_trans BEL7.out b5
    have FA_a_8 : Hid (FilterAt ww5 (.agg #[.int .u64 S, .int .i64 H, .slice A n cap]) S H n B) := FA_a_7.out.keep (keep_of_below b5)
    have FA_b_8 : Hid (FilterAt ww5 (.agg #[.int .u64 S, .int .i64 H, .slice A' m cap']) S H m C) := FA_b_7.out.keep (keep_of_below b5)
    have FA_z_8 : Hid (FilterAt ww5 (.agg #[.int .u64 0, .int .i64 0, .slice none 0 0]) 0 0 0 (fun _ => false)) := FA_z_7.out.keep (keep_of_below b5)
    have KB_bx_8 : Hid (Blk ww5 (w.heap.size) 25 #[.int .u64 S, .int .i64 H, .slice A n cap]) := KB_bx_7.out.since b5
    have KB_by_8 : Hid (Blk ww5 (w.heap.size + 1) 25 #[.int .u64 S, .int .i64 H, .slice A' m cap']) := KB_by_7.out.since b5
    have KB_m_8 : Hid (Blk ww5 (ww1.heap.size) 25 #[.int .u64 0, .int .i64 0, .slice none 0 0]) := KB_m_7.out.since b5
    clear BEL7 FA_a_7 FA_b_7 FA_z_7 KB_bx_7 KB_by_7 KB_m_7
    clear b5
    rw [hB]
    have CE_bx_0 : ww5.cell? ⟨w.heap.size, 0, none⟩ = some (.int .u64 S) := KB_bx_8.out.cell 0
    have CE_bx_1 : ww5.cell? ⟨w.heap.size, 1, none⟩ = some (.int .i64 H) := KB_bx_8.out.cell 1
    have CE_bx_2 : ww5.cell? ⟨w.heap.size, 2, none⟩ = some (.slice A n cap) := KB_bx_8.out.cell 2
    have CE_bx_lt : w.heap.size < ww5.heap.size := KB_bx_8.out.lt
    have CE_by_0 : ww5.cell? ⟨w.heap.size + 1, 0, none⟩ = some (.int .u64 S) := KB_by_8.out.cell 0
    have CE_by_1 : ww5.cell? ⟨w.heap.size + 1, 1, none⟩ = some (.int .i64 H) := KB_by_8.out.cell 1
    have CE_by_2 : ww5.cell? ⟨w.heap.size + 1, 2, none⟩ = some (.slice A' m cap') := KB_by_8.out.cell 2
    have CE_by_lt : w.heap.size + 1 < ww5.heap.size := KB_by_8.out.lt
    have CE_m_0 : ww5.cell? ⟨ww1.heap.size, 0, none⟩ = some (.int .u64 0) := KB_m_8.out.cell 0
    have CE_m_1 : ww5.cell? ⟨ww1.heap.size, 1, none⟩ = some (.int .i64 0) := KB_m_8.out.cell 1
    have CE_m_2 : ww5.cell? ⟨ww1.heap.size, 2, none⟩ = some (.slice none 0 0) := KB_m_8.out.cell 2
    have CE_m_lt : ww1.heap.size < ww5.heap.size := KB_m_8.out.lt
    go_wp2_with fail
    refine (ref_any _ _ 0 0 0 _ FA_z_8.out).mono ?_
    rintro e ww6 ⟨rfl, b6⟩
    clear CE_bx_0 CE_bx_1 CE_bx_2 CE_bx_lt CE_by_0 CE_by_1 CE_by_2 CE_by_lt CE_m_0 CE_m_1 CE_m_2 CE_m_lt
    have BEL9 : Hid (Below w.heap.size w ww6) := bel_trans BEL8.out b6
    have FA_a_9 : Hid (FilterAt ww6 (.agg #[.int .u64 S, .int .i64 H, .slice A n cap]) S H n B) := FA_a_8.out.keep (keep_of_below b6)
    have FA_b_9 : Hid (FilterAt ww6 (.agg #[.int .u64 S, .int .i64 H, .slice A' m cap']) S H m C) := FA_b_8.out.keep (keep_of_below b6)
    have FA_z_9 : Hid (FilterAt ww6 (.agg #[.int .u64 0, .int .i64 0, .slice none 0 0]) 0 0 0 (fun _ => false)) := FA_z_8.out.keep (keep_of_below b6)
    have KB_bx_9 : Hid (Blk ww6 (w.heap.size) 25 #[.int .u64 S, .int .i64 H, .slice A n cap]) := KB_bx_8.out.since b6
    have KB_by_9 : Hid (Blk ww6 (w.heap.size + 1) 25 #[.int .u64 S, .int .i64 H, .slice A' m cap']) := KB_by_8.out.since b6
    have KB_m_9 : Hid (Blk ww6 (ww1.heap.size) 25 #[.int .u64 0, .int .i64 0, .slice none 0 0]) := KB_m_8.out.since b6
    clear BEL8 FA_a_8 FA_b_8 FA_z_8 KB_bx_8 KB_by_8 KB_m_8
    clear b6
    go_wp2_with fail
    refine (requal_any _ _ _ 0 0 0 0 0 0 _ _ FA_z_9.out FA_z_9.out (by omega)).mono ?_
    rintro e ww7 ⟨c3, rfl, h3, b7⟩
    have BEL10 : Hid (Below w.heap.size w ww7) := bel_trans BEL9.out b7
    have FA_a_10 : Hid (FilterAt ww7 (.agg #[.int .u64 S, .int .i64 H, .slice A n cap]) S H n B) := FA_a_9.out.keep (keep_of_below b7)
    have FA_b_10 : Hid (FilterAt ww7 (.agg #[.int .u64 S, .int .i64 H, .slice A' m cap']) S H m C) := FA_b_9.out.keep (keep_of_below b7)
    have FA_z_10 : Hid (FilterAt ww7 (.agg #[.int .u64 0, .int .i64 0, .slice none 0 0]) 0 0 0 (fun _ => false)) := FA_z_9.out.keep (keep_of_below b7)
    have KB_bx_10 : Hid (Blk ww7 (w.heap.size) 25 #[.int .u64 S, .int .i64 H, .slice A n cap]) := KB_bx_9.out.since b7
    have KB_by_10 : Hid (Blk ww7 (w.heap.size + 1) 25 #[.int .u64 S, .int .i64 H, .slice A' m cap']) := KB_by_9.out.since b7
    have KB_m_10 : Hid (Blk ww7 (ww1.heap.size) 25 #[.int .u64 0, .int .i64 0, .slice none 0 0]) := KB_m_9.out.since b7
    clear BEL9 FA_a_9 FA_b_9 FA_z_9 KB_bx_9 KB_by_9 KB_m_9
    clear b7
    obtain rfl : c3 = true := h3.2 ⟨rfl, rfl, rfl, fun i hi => rfl⟩
    clear h3
    go_wp2_with fail
    refine (awake_any _).mono ?_
    rintro e ww99 ⟨rfl, b9⟩
    have BEL11 : Hid (Below w.heap.size w ww99) := bel_trans BEL10.out b9
    have FA_a_11 : Hid (FilterAt ww99 (.agg #[.int .u64 S, .int .i64 H, .slice A n cap]) S H n B) := FA_a_10.out.keep (keep_of_below b9)
    have FA_b_11 : Hid (FilterAt ww99 (.agg #[.int .u64 S, .int .i64 H, .slice A' m cap']) S H m C) := FA_b_10.out.keep (keep_of_below b9)
    have FA_z_11 : Hid (FilterAt ww99 (.agg #[.int .u64 0, .int .i64 0, .slice none 0 0]) 0 0 0 (fun _ => false)) := FA_z_10.out.keep (keep_of_below b9)
    have KB_bx_11 : Hid (Blk ww99 (w.heap.size) 25 #[.int .u64 S, .int .i64 H, .slice A n cap]) := KB_bx_10.out.since b9
    have KB_by_11 : Hid (Blk ww99 (w.heap.size + 1) 25 #[.int .u64 S, .int .i64 H, .slice A' m cap']) := KB_by_10.out.since b9
    have KB_m_11 : Hid (Blk ww99 (ww1.heap.size) 25 #[.int .u64 0, .int .i64 0, .slice none 0 0]) := KB_m_10.out.since b9
    clear BEL10 FA_a_10 FA_b_10 FA_z_10 KB_bx_10 KB_by_10 KB_m_10
    clear b9
    go_wp2_with fail
    go_ret
    exact ⟨rfl, BEL11.out⟩
  subst e1
  have hR := (fitsB_iff _ _).1 hA
  have n1 : 1 ≤ n := by omega
  clear hR
  obtain rfl := q3 (by omega)
  obtain rfl := q3' (by omega)
  have Q4 : Hid (∀ i, i < n → w.cell? ⟨bq, oq + i, none⟩ = some (.bool (B i))) := q4
  have R4 : Hid (∀ i, i < n → w.cell? ⟨bq', oq' + i, none⟩ = some (.bool (C i))) := q4'
  have BEL0 : Hid (Below w.heap.size w w) := Below.refl _ _
  have FA_a_0 : Hid (FilterAt w (.agg #[.int .u64 S, .int .i64 H, .slice (some ⟨bq, oq, none⟩) n cap]) S H n B) := hF
  have FA_b_0 : Hid (FilterAt w (.agg #[.int .u64 S, .int .i64 H, .slice (some ⟨bq', oq', none⟩) n cap']) S H n C) := hG
  clear hF hG q3 q4 hcap q3' q4' hcap'
  go_enter Try.func5, Try.ntmps5
  have BEL1 : Hid (Below w.heap.size w (w.alloc (.cells #[.int .u64 S, .int .i64 H, .slice (some ⟨bq, oq, none⟩) n cap] 25))) := bel_trans BEL0.out (bel_alloc _ _)
  have FA_a_1 : Hid (FilterAt (w.alloc (.cells #[.int .u64 S, .int .i64 H, .slice (some ⟨bq, oq, none⟩) n cap] 25)) (.agg #[.int .u64 S, .int .i64 H, .slice (some ⟨bq, oq, none⟩) n cap]) S H n B) := FA_a_0.out.keep (keep_of_below (bel_alloc _ _))
  have FA_b_1 : Hid (FilterAt (w.alloc (.cells #[.int .u64 S, .int .i64 H, .slice (some ⟨bq, oq, none⟩) n cap] 25)) (.agg #[.int .u64 S, .int .i64 H, .slice (some ⟨bq', oq', none⟩) n cap']) S H n C) := FA_b_0.out.keep (keep_of_below (bel_alloc _ _))
  clear BEL0 FA_a_0 FA_b_0
  have KB_bx_1 : Hid (Blk (w.alloc (.cells #[.int .u64 S, .int .i64 H, .slice (some ⟨bq, oq, none⟩) n cap] 25)) (w.heap.size) 25 #[.int .u64 S, .int .i64 H, .slice (some ⟨bq, oq, none⟩) n cap]) := Blk.new _ _ _
  have BEL2 : Hid (Below w.heap.size w ((w.alloc (.cells #[.int .u64 S, .int .i64 H, .slice (some ⟨bq, oq, none⟩) n cap] 25)).alloc (.cells #[.int .u64 S, .int .i64 H, .slice (some ⟨bq', oq', none⟩) n cap'] 25))) := bel_trans BEL1.out (bel_alloc _ _)
  have FA_a_2 : Hid (FilterAt ((w.alloc (.cells #[.int .u64 S, .int .i64 H, .slice (some ⟨bq, oq, none⟩) n cap] 25)).alloc (.cells #[.int .u64 S, .int .i64 H, .slice (some ⟨bq', oq', none⟩) n cap'] 25)) (.agg #[.int .u64 S, .int .i64 H, .slice (some ⟨bq, oq, none⟩) n cap]) S H n B) := FA_a_1.out.keep (keep_of_below (bel_alloc _ _))
  have FA_b_2 : Hid (FilterAt ((w.alloc (.cells #[.int .u64 S, .int .i64 H, .slice (some ⟨bq, oq, none⟩) n cap] 25)).alloc (.cells #[.int .u64 S, .int .i64 H, .slice (some ⟨bq', oq', none⟩) n cap'] 25)) (.agg #[.int .u64 S, .int .i64 H, .slice (some ⟨bq', oq', none⟩) n cap']) S H n C) := FA_b_1.out.keep (keep_of_below (bel_alloc _ _))
  have KB_bx_2 : Hid (Blk ((w.alloc (.cells #[.int .u64 S, .int .i64 H, .slice (some ⟨bq, oq, none⟩) n cap] 25)).alloc (.cells #[.int .u64 S, .int .i64 H, .slice (some ⟨bq', oq', none⟩) n cap'] 25)) (w.heap.size) 25 #[.int .u64 S, .int .i64 H, .slice (some ⟨bq, oq, none⟩) n cap]) := KB_bx_1.out.since (bel_alloc _ _)
  clear BEL1 FA_a_1 FA_b_1 KB_bx_1
  have KB_by_2 : Hid (Blk ((w.alloc (.cells #[.int .u64 S, .int .i64 H, .slice (some ⟨bq, oq, none⟩) n cap] 25)).alloc (.cells #[.int .u64 S, .int .i64 H, .slice (some ⟨bq', oq', none⟩) n cap'] 25)) (w.heap.size + 1) 25 #[.int .u64 S, .int .i64 H, .slice (some ⟨bq', oq', none⟩) n cap']) := by
    have e := Blk.new (w.alloc (.cells #[.int .u64 S, .int .i64 H, .slice (some ⟨bq, oq, none⟩) n cap] 25)) 25 #[.int .u64 S, .int .i64 H, .slice (some ⟨bq', oq', none⟩) n cap']
    simp only [World.size_alloc] at e
    exact e
  have CE_bx_0 : (((w.alloc (.cells #[.int .u64 S, .int .i64 H, .slice (some ⟨bq, oq, none⟩) n cap] 25)).alloc (.cells #[.int .u64 S, .int .i64 H, .slice (some ⟨bq', oq', none⟩) n cap'] 25))).cell? ⟨w.heap.size, 0, none⟩ = some (.int .u64 S) := KB_bx_2.out.cell 0
  have CE_bx_1 : (((w.alloc (.cells #[.int .u64 S, .int .i64 H, .slice (some ⟨bq, oq, none⟩) n cap] 25)).alloc (.cells #[.int .u64 S, .int .i64 H, .slice (some ⟨bq', oq', none⟩) n cap'] 25))).cell? ⟨w.heap.size, 1, none⟩ = some (.int .i64 H) := KB_bx_2.out.cell 1
  have CE_bx_2 : (((w.alloc (.cells #[.int .u64 S, .int .i64 H, .slice (some ⟨bq, oq, none⟩) n cap] 25)).alloc (.cells #[.int .u64 S, .int .i64 H, .slice (some ⟨bq', oq', none⟩) n cap'] 25))).cell? ⟨w.heap.size, 2, none⟩ = some (.slice (some ⟨bq, oq, none⟩) n cap) := KB_bx_2.out.cell 2
  have CE_bx_lt : w.heap.size < (((w.alloc (.cells #[.int .u64 S, .int .i64 H, .slice (some ⟨bq, oq, none⟩) n cap] 25)).alloc (.cells #[.int .u64 S, .int .i64 H, .slice (some ⟨bq', oq', none⟩) n cap'] 25))).heap.size := KB_bx_2.out.lt
  have CE_by_0 : (((w.alloc (.cells #[.int .u64 S, .int .i64 H, .slice (some ⟨bq, oq, none⟩) n cap] 25)).alloc (.cells #[.int .u64 S, .int .i64 H, .slice (some ⟨bq', oq', none⟩) n cap'] 25))).cell? ⟨w.heap.size + 1, 0, none⟩ = some (.int .u64 S) := KB_by_2.out.cell 0
  have CE_by_1 : (((w.alloc (.cells #[.int .u64 S, .int .i64 H, .slice (some ⟨bq, oq, none⟩) n cap] 25)).alloc (.cells #[.int .u64 S, .int .i64 H, .slice (some ⟨bq', oq', none⟩) n cap'] 25))).cell? ⟨w.heap.size + 1, 1, none⟩ = some (.int .i64 H) := KB_by_2.out.cell 1
  have CE_by_2 : (((w.alloc (.cells #[.int .u64 S, .int .i64 H, .slice (some ⟨bq, oq, none⟩) n cap] 25)).alloc (.cells #[.int .u64 S, .int .i64 H, .slice (some ⟨bq', oq', none⟩) n cap'] 25))).cell? ⟨w.heap.size + 1, 2, none⟩ = some (.slice (some ⟨bq', oq', none⟩) n cap') := KB_by_2.out.cell 2
  have CE_by_lt : w.heap.size + 1 < (((w.alloc (.cells #[.int .u64 S, .int .i64 H, .slice (some ⟨bq, oq, none⟩) n cap] 25)).alloc (.cells #[.int .u64 S, .int .i64 H, .slice (some ⟨bq', oq', none⟩) n cap'] 25))).heap.size := KB_by_2.out.lt
  go_wp2_with fail
  refine (merge_ok _ _ _ S H n _ _ FA_a_2.out FA_b_2.out hA).mono ?_
  rintro e ww1 ⟨xm, rfl, fm, b1⟩
  clear CE_bx_0 CE_bx_1 CE_bx_2 CE_bx_lt CE_by_0 CE_by_1 CE_by_2 CE_by_lt
  have BEL3 : Hid (Below w.heap.size w ww1) := bel_trans BEL2.out b1
  have FA_a_3 : Hid (FilterAt ww1 (.agg #[.int .u64 S, .int .i64 H, .slice (some ⟨bq, oq, none⟩) n cap]) S H n B) := FA_a_2.out.keep (keep_of_below b1)
  have FA_b_3 : Hid (FilterAt ww1 (.agg #[.int .u64 S, .int .i64 H, .slice (some ⟨bq', oq', none⟩) n cap']) S H n C) := FA_b_2.out.keep (keep_of_below b1)
  have KB_bx_3 : Hid (Blk ww1 (w.heap.size) 25 #[.int .u64 S, .int .i64 H, .slice (some ⟨bq, oq, none⟩) n cap]) := KB_bx_2.out.since b1
  have KB_by_3 : Hid (Blk ww1 (w.heap.size + 1) 25 #[.int .u64 S, .int .i64 H, .slice (some ⟨bq', oq', none⟩) n cap']) := KB_by_2.out.since b1
  clear BEL2 FA_a_2 FA_b_2 KB_bx_2 KB_by_2
  clear b1
  obtain ⟨vm, rfl, Am, capm, bm, om, rfl, hx1, m3, m4⟩ := fm
  obtain rfl := m3 (by omega)
  have M4 : Hid (∀ i, i < n → ww1.cell? ⟨bm, om + i, none⟩ = some (.bool (B i || C i))) := m4
  clear hx1 m3 m4
  have CE_bx_0 : ww1.cell? ⟨w.heap.size, 0, none⟩ = some (.int .u64 S) := KB_bx_3.out.cell 0
  have CE_bx_1 : ww1.cell? ⟨w.heap.size, 1, none⟩ = some (.int .i64 H) := KB_bx_3.out.cell 1
  have CE_bx_2 : ww1.cell? ⟨w.heap.size, 2, none⟩ = some (.slice (some ⟨bq, oq, none⟩) n cap) := KB_bx_3.out.cell 2
  have CE_bx_lt : w.heap.size < ww1.heap.size := KB_bx_3.out.lt
  have CE_by_0 : ww1.cell? ⟨w.heap.size + 1, 0, none⟩ = some (.int .u64 S) := KB_by_3.out.cell 0
  have CE_by_1 : ww1.cell? ⟨w.heap.size + 1, 1, none⟩ = some (.int .i64 H) := KB_by_3.out.cell 1
  have CE_by_2 : ww1.cell? ⟨w.heap.size + 1, 2, none⟩ = some (.slice (some ⟨bq', oq', none⟩) n cap') := KB_by_3.out.cell 2
  have CE_by_lt : w.heap.size + 1 < ww1.heap.size := KB_by_3.out.lt
  go_upto_region 4 with fail
  clear CE_bx_0 CE_bx_1 CE_bx_2 CE_bx_lt CE_by_0 CE_by_1 CE_by_2 CE_by_lt
  have BEL4 : Hid (Below w.heap.size w (ww1.alloc (.cells #[.int .u64 S, .int .i64 H, .slice (some ⟨bm, om, none⟩) n capm] 25))) := bel_trans BEL3.out (bel_alloc _ _)
  have FA_a_4 : Hid (FilterAt (ww1.alloc (.cells #[.int .u64 S, .int .i64 H, .slice (some ⟨bm, om, none⟩) n capm] 25)) (.agg #[.int .u64 S, .int .i64 H, .slice (some ⟨bq, oq, none⟩) n cap]) S H n B) := FA_a_3.out.keep (keep_of_below (bel_alloc _ _))
  have FA_b_4 : Hid (FilterAt (ww1.alloc (.cells #[.int .u64 S, .int .i64 H, .slice (some ⟨bm, om, none⟩) n capm] 25)) (.agg #[.int .u64 S, .int .i64 H, .slice (some ⟨bq', oq', none⟩) n cap']) S H n C) := FA_b_3.out.keep (keep_of_below (bel_alloc _ _))
  have KB_bx_4 : Hid (Blk (ww1.alloc (.cells #[.int .u64 S, .int .i64 H, .slice (some ⟨bm, om, none⟩) n capm] 25)) (w.heap.size) 25 #[.int .u64 S, .int .i64 H, .slice (some ⟨bq, oq, none⟩) n cap]) := KB_bx_3.out.since (bel_alloc _ _)
  have KB_by_4 : Hid (Blk (ww1.alloc (.cells #[.int .u64 S, .int .i64 H, .slice (some ⟨bm, om, none⟩) n capm] 25)) (w.heap.size + 1) 25 #[.int .u64 S, .int .i64 H, .slice (some ⟨bq', oq', none⟩) n cap']) := KB_by_3.out.since (bel_alloc _ _)
  clear BEL3 FA_a_3 FA_b_3 KB_bx_3 KB_by_3
  have KB_m_4 : Hid (Blk (ww1.alloc (.cells #[.int .u64 S, .int .i64 H, .slice (some ⟨bm, om, none⟩) n capm] 25)) (ww1.heap.size) 25 #[.int .u64 S, .int .i64 H, .slice (some ⟨bm, om, none⟩) n capm]) := Blk.new _ _ _
  have EX_M_4 : Hid (BoolsAt (ww1.alloc (.cells #[.int .u64 S, .int .i64 H, .slice (some ⟨bm, om, none⟩) n capm] 25)) (.slice (some ⟨bm, om, none⟩) n n) n (fun i => B i || C i)) := ⟨_, n, bm, om, rfl, Nat.le_refl _, fun _ => rfl, fun i hi => keep_of_below (bel_alloc _ _) _ _ (M4.out i hi)⟩
  clear M4
  have CE_bx_0 : ((ww1.alloc (.cells #[.int .u64 S, .int .i64 H, .slice (some ⟨bm, om, none⟩) n capm] 25))).cell? ⟨w.heap.size, 0, none⟩ = some (.int .u64 S) := KB_bx_4.out.cell 0
  have CE_bx_1 : ((ww1.alloc (.cells #[.int .u64 S, .int .i64 H, .slice (some ⟨bm, om, none⟩) n capm] 25))).cell? ⟨w.heap.size, 1, none⟩ = some (.int .i64 H) := KB_bx_4.out.cell 1
  have CE_bx_2 : ((ww1.alloc (.cells #[.int .u64 S, .int .i64 H, .slice (some ⟨bm, om, none⟩) n capm] 25))).cell? ⟨w.heap.size, 2, none⟩ = some (.slice (some ⟨bq, oq, none⟩) n cap) := KB_bx_4.out.cell 2
  have CE_bx_lt : w.heap.size < ((ww1.alloc (.cells #[.int .u64 S, .int .i64 H, .slice (some ⟨bm, om, none⟩) n capm] 25))).heap.size := KB_bx_4.out.lt
  have CE_by_0 : ((ww1.alloc (.cells #[.int .u64 S, .int .i64 H, .slice (some ⟨bm, om, none⟩) n capm] 25))).cell? ⟨w.heap.size + 1, 0, none⟩ = some (.int .u64 S) := KB_by_4.out.cell 0
  have CE_by_1 : ((ww1.alloc (.cells #[.int .u64 S, .int .i64 H, .slice (some ⟨bm, om, none⟩) n capm] 25))).cell? ⟨w.heap.size + 1, 1, none⟩ = some (.int .i64 H) := KB_by_4.out.cell 1
  have CE_by_2 : ((ww1.alloc (.cells #[.int .u64 S, .int .i64 H, .slice (some ⟨bm, om, none⟩) n capm] 25))).cell? ⟨w.heap.size + 1, 2, none⟩ = some (.slice (some ⟨bq', oq', none⟩) n cap') := KB_by_4.out.cell 2
  have CE_by_lt : w.heap.size + 1 < ((ww1.alloc (.cells #[.int .u64 S, .int .i64 H, .slice (some ⟨bm, om, none⟩) n capm] 25))).heap.size := KB_by_4.out.lt
  have CE_m_0 : ((ww1.alloc (.cells #[.int .u64 S, .int .i64 H, .slice (some ⟨bm, om, none⟩) n capm] 25))).cell? ⟨ww1.heap.size, 0, none⟩ = some (.int .u64 S) := KB_m_4.out.cell 0
  have CE_m_1 : ((ww1.alloc (.cells #[.int .u64 S, .int .i64 H, .slice (some ⟨bm, om, none⟩) n capm] 25))).cell? ⟨ww1.heap.size, 1, none⟩ = some (.int .i64 H) := KB_m_4.out.cell 1
  have CE_m_2 : ((ww1.alloc (.cells #[.int .u64 S, .int .i64 H, .slice (some ⟨bm, om, none⟩) n capm] 25))).cell? ⟨ww1.heap.size, 2, none⟩ = some (.slice (some ⟨bm, om, none⟩) n capm) := KB_m_4.out.cell 2
  have CE_m_lt : ww1.heap.size < ((ww1.alloc (.cells #[.int .u64 S, .int .i64 H, .slice (some ⟨bm, om, none⟩) n capm] 25))).heap.size := KB_m_4.out.lt
  go_wp2_with fail
  refine (ref_any _ _ S H n _ FA_a_4.out).mono ?_
  rintro e ww2 ⟨rfl, b2⟩
  clear CE_bx_0 CE_bx_1 CE_bx_2 CE_bx_lt CE_by_0 CE_by_1 CE_by_2 CE_by_lt CE_m_0 CE_m_1 CE_m_2 CE_m_lt
  have BEL5 : Hid (Below w.heap.size w ww2) := bel_trans BEL4.out b2
  have FA_a_5 : Hid (FilterAt ww2 (.agg #[.int .u64 S, .int .i64 H, .slice (some ⟨bq, oq, none⟩) n cap]) S H n B) := FA_a_4.out.keep (keep_of_below b2)
  have FA_b_5 : Hid (FilterAt ww2 (.agg #[.int .u64 S, .int .i64 H, .slice (some ⟨bq', oq', none⟩) n cap']) S H n C) := FA_b_4.out.keep (keep_of_below b2)
  have KB_bx_5 : Hid (Blk ww2 (w.heap.size) 25 #[.int .u64 S, .int .i64 H, .slice (some ⟨bq, oq, none⟩) n cap]) := KB_bx_4.out.since b2
  have KB_by_5 : Hid (Blk ww2 (w.heap.size + 1) 25 #[.int .u64 S, .int .i64 H, .slice (some ⟨bq', oq', none⟩) n cap']) := KB_by_4.out.since b2
  have KB_m_5 : Hid (Blk ww2 (ww1.heap.size) 25 #[.int .u64 S, .int .i64 H, .slice (some ⟨bm, om, none⟩) n capm]) := KB_m_4.out.since b2
  have EX_M_5 : Hid (BoolsAt ww2 (.slice (some ⟨bm, om, none⟩) n n) n (fun i => B i || C i)) := EX_M_4.out.keep (keep_of_below b2)
  clear BEL4 FA_a_4 FA_b_4 KB_bx_4 KB_by_4 KB_m_4 EX_M_4
  clear b2
  go_wp2_with fail
  refine (rright_any _ _ S H n _ FA_a_5.out).mono ?_
  rintro e ww3 ⟨rfl, b3⟩
  have BEL6 : Hid (Below w.heap.size w ww3) := bel_trans BEL5.out b3
  have FA_a_6 : Hid (FilterAt ww3 (.agg #[.int .u64 S, .int .i64 H, .slice (some ⟨bq, oq, none⟩) n cap]) S H n B) := FA_a_5.out.keep (keep_of_below b3)
  have FA_b_6 : Hid (FilterAt ww3 (.agg #[.int .u64 S, .int .i64 H, .slice (some ⟨bq', oq', none⟩) n cap']) S H n C) := FA_b_5.out.keep (keep_of_below b3)
  have KB_bx_6 : Hid (Blk ww3 (w.heap.size) 25 #[.int .u64 S, .int .i64 H, .slice (some ⟨bq, oq, none⟩) n cap]) := KB_bx_5.out.since b3
  have KB_by_6 : Hid (Blk ww3 (w.heap.size + 1) 25 #[.int .u64 S, .int .i64 H, .slice (some ⟨bq', oq', none⟩) n cap']) := KB_by_5.out.since b3
  have KB_m_6 : Hid (Blk ww3 (ww1.heap.size) 25 #[.int .u64 S, .int .i64 H, .slice (some ⟨bm, om, none⟩) n capm]) := KB_m_5.out.since b3
  have EX_M_6 : Hid (BoolsAt ww3 (.slice (some ⟨bm, om, none⟩) n n) n (fun i => B i || C i)) := EX_M_5.out.keep (keep_of_below b3)
  clear BEL5 FA_a_5 FA_b_5 KB_bx_5 KB_by_5 KB_m_5 EX_M_5
  clear b3
  rw [hA]
  have CE_bx_0 : ww3.cell? ⟨w.heap.size, 0, none⟩ = some (.int .u64 S) := KB_bx_6.out.cell 0
  have CE_bx_1 : ww3.cell? ⟨w.heap.size, 1, none⟩ = some (.int .i64 H) := KB_bx_6.out.cell 1
  have CE_bx_2 : ww3.cell? ⟨w.heap.size, 2, none⟩ = some (.slice (some ⟨bq, oq, none⟩) n cap) := KB_bx_6.out.cell 2
  have CE_bx_lt : w.heap.size < ww3.heap.size := KB_bx_6.out.lt
  have CE_by_0 : ww3.cell? ⟨w.heap.size + 1, 0, none⟩ = some (.int .u64 S) := KB_by_6.out.cell 0
  have CE_by_1 : ww3.cell? ⟨w.heap.size + 1, 1, none⟩ = some (.int .i64 H) := KB_by_6.out.cell 1
  have CE_by_2 : ww3.cell? ⟨w.heap.size + 1, 2, none⟩ = some (.slice (some ⟨bq', oq', none⟩) n cap') := KB_by_6.out.cell 2
  have CE_by_lt : w.heap.size + 1 < ww3.heap.size := KB_by_6.out.lt
  have CE_m_0 : ww3.cell? ⟨ww1.heap.size, 0, none⟩ = some (.int .u64 S) := KB_m_6.out.cell 0
  have CE_m_1 : ww3.cell? ⟨ww1.heap.size, 1, none⟩ = some (.int .i64 H) := KB_m_6.out.cell 1
  have CE_m_2 : ww3.cell? ⟨ww1.heap.size, 2, none⟩ = some (.slice (some ⟨bm, om, none⟩) n capm) := KB_m_6.out.cell 2
  have CE_m_lt : ww1.heap.size < ww3.heap.size := KB_m_6.out.lt
  go_wp2_with fail
  refine (ref_any _ _ S H n _ FA_b_6.out).mono ?_
  rintro e ww4 ⟨rfl, b4⟩
  clear CE_bx_0 CE_bx_1 CE_bx_2 CE_bx_lt CE_by_0 CE_by_1 CE_by_2 CE_by_lt CE_m_0 CE_m_1 CE_m_2 CE_m_lt
  have BEL7 : Hid (Below w.heap.size w ww4) := bel_trans BEL6.out b4
  have FA_a_7 : Hid (FilterAt ww4 (.agg #[.int .u64 S, .int .i64 H, .slice (some ⟨bq, oq, none⟩) n cap]) S H n B) := FA_a_6.out.keep (keep_of_below b4)
  have FA_b_7 : Hid (FilterAt ww4 (.agg #[.int .u64 S, .int .i64 H, .slice (some ⟨bq', oq', none⟩) n cap']) S H n C) := FA_b_6.out.keep (keep_of_below b4)
  have KB_bx_7 : Hid (Blk ww4 (w.heap.size) 25 #[.int .u64 S, .int .i64 H, .slice (some ⟨bq, oq, none⟩) n cap]) := KB_bx_6.out.since b4
  have KB_by_7 : Hid (Blk ww4 (w.heap.size + 1) 25 #[.int .u64 S, .int .i64 H, .slice (some ⟨bq', oq', none⟩) n cap']) := KB_by_6.out.since b4
  have KB_m_7 : Hid (Blk ww4 (ww1.heap.size) 25 #[.int .u64 S, .int .i64 H, .slice (some ⟨bm, om, none⟩) n capm]) := KB_m_6.out.since b4
  have EX_M_7 : Hid (BoolsAt ww4 (.slice (some ⟨bm, om, none⟩) n n) n (fun i => B i || C i)) := EX_M_6.out.keep (keep_of_below b4)
  clear BEL6 FA_a_6 FA_b_6 KB_bx_6 KB_by_6 KB_m_6 EX_M_6
  clear b4
  go_wp2_with fail
  refine (rright_any _ _ S H n _ FA_b_7.out).mono ?_
  rintro e ww5 ⟨rfl, b5⟩
  have BEL8 : Hid (Below w.heap.size w ww5) := bel_trans BEL7.out b5
  have FA_a_8 : Hid (FilterAt ww5 (.agg #[.int .u64 S, .int .i64 H, .slice (some ⟨bq, oq, none⟩) n cap]) S H n B) := FA_a_7.out.keep (keep_of_below b5)
  have FA_b_8 : Hid (FilterAt ww5 (.agg #[.int .u64 S, .int .i64 H, .slice (some ⟨bq', oq', none⟩) n cap']) S H n C) := FA_b_7.out.keep (keep_of_below b5)
  have KB_bx_8 : Hid (Blk ww5 (w.heap.size) 25 #[.int .u64 S, .int .i64 H, .slice (some ⟨bq, oq, none⟩) n cap]) := KB_bx_7.out.since b5
  have KB_by_8 : Hid (Blk ww5 (w.heap.size + 1) 25 #[.int .u64 S, .int .i64 H, .slice (some ⟨bq', oq', none⟩) n cap']) := KB_by_7.out.since b5
  have KB_m_8 : Hid (Blk ww5 (ww1.heap.size) 25 #[.int .u64 S, .int .i64 H, .slice (some ⟨bm, om, none⟩) n capm]) := KB_m_7.out.since b5
  have EX_M_8 : Hid (BoolsAt ww5 (.slice (some ⟨bm, om, none⟩) n n) n (fun i => B i || C i)) := EX_M_7.out.keep (keep_of_below b5)
  clear BEL7 FA_a_7 FA_b_7 KB_bx_7 KB_by_7 KB_m_7 EX_M_7
  clear b5
  rw [hA]
  have CE_bx_0 : ww5.cell? ⟨w.heap.size, 0, none⟩ = some (.int .u64 S) := KB_bx_8.out.cell 0
  have CE_bx_1 : ww5.cell? ⟨w.heap.size, 1, none⟩ = some (.int .i64 H) := KB_bx_8.out.cell 1
  have CE_bx_2 : ww5.cell? ⟨w.heap.size, 2, none⟩ = some (.slice (some ⟨bq, oq, none⟩) n cap) := KB_bx_8.out.cell 2
  have CE_bx_lt : w.heap.size < ww5.heap.size := KB_bx_8.out.lt
  have CE_by_0 : ww5.cell? ⟨w.heap.size + 1, 0, none⟩ = some (.int .u64 S) := KB_by_8.out.cell 0
  have CE_by_1 : ww5.cell? ⟨w.heap.size + 1, 1, none⟩ = some (.int .i64 H) := KB_by_8.out.cell 1
  have CE_by_2 : ww5.cell? ⟨w.heap.size + 1, 2, none⟩ = some (.slice (some ⟨bq', oq', none⟩) n cap') := KB_by_8.out.cell 2
  have CE_by_lt : w.heap.size + 1 < ww5.heap.size := KB_by_8.out.lt
  have CE_m_0 : ww5.cell? ⟨ww1.heap.size, 0, none⟩ = some (.int .u64 S) := KB_m_8.out.cell 0
  have CE_m_1 : ww5.cell? ⟨ww1.heap.size, 1, none⟩ = some (.int .i64 H) := KB_m_8.out.cell 1
  have CE_m_2 : ww5.cell? ⟨ww1.heap.size, 2, none⟩ = some (.slice (some ⟨bm, om, none⟩) n capm) := KB_m_8.out.cell 2
  have CE_m_lt : ww1.heap.size < ww5.heap.size := KB_m_8.out.lt
  have M4 : Hid (∀ i, i < n → ww5.cell? ⟨bm, om + i, none⟩ = some (.bool (B i || C i))) := by
    obtain ⟨A1, cap1, b1, o1, e1, e2, e3, e4⟩ := EX_M_8.out
    cases e1
    cases e3 (by omega)
    exact e4
  clear EX_M_8
  clear FA_a_8
  clear FA_b_8
  go_wp2_with fail
  clear CE_bx_0 CE_bx_1 CE_bx_2 CE_bx_lt CE_by_0 CE_by_1 CE_by_2 CE_by_lt CE_m_0 CE_m_1 CE_m_2 CE_m_lt
  go_loopg [93] n (fun gk i wr => ∃ k : Nat, (gk = n - k ∧ k ≤ n ∧ Below ww5.heap.size ww5 wr) ∧ i = .int .i64 (k : Int))
  case atStart => exact ⟨0, ⟨rfl, by omega, Below.refl _ _⟩, rfl⟩
  case round =>
    obtain ⟨k, ⟨hg, hk, hb⟩, rfl⟩ := hrel
    have HK : Hid (gk = n - k ∧ Below ww5.heap.size ww5 wr) := ⟨hg, hb⟩
    have x2 : wr.cell? ⟨w.heap.size, 2, none⟩ = some (.slice (some ⟨bq, oq, none⟩) n cap) := (KB_bx_8.out.since hb).cell 2
    have y2 : wr.cell? ⟨w.heap.size + 1, 2, none⟩ = some (.slice (some ⟨bq', oq', none⟩) n cap') := (KB_by_8.out.since hb).cell 2
    have z2 : wr.cell? ⟨ww1.heap.size, 2, none⟩ = some (.slice (some ⟨bm, om, none⟩) n capm) := (KB_m_8.out.since hb).cell 2
    by_cases hlt : k < n
    · have c1 := keep_of_below hb _ _ (M4.out k hlt)
      have c2 := keep_of_below (bel_trans BEL8.out hb) _ _ (Q4.out k hlt)
      have c3 := keep_of_below (bel_trans BEL8.out hb) _ _ (R4.out k hlt)
      have b1 : (k : Int) < (n : Int) := by omega
      clear hg hb
      generalize hB : B k = p at c1 c2
      generalize hC : C k = q at c1 c3
      clear hB hC
      cases p <;> cases q <;> simp only [Bool.or_false, Bool.or_true] at c1
      all_goals go_wp2_with fail
      all_goals go_quiet (fail)
      all_goals go_wp2_with fail
      all_goals go_roundg (n - (k + 1))
      all_goals first | (have := HK.out.1; omega) | exact ⟨k + 1, ⟨rfl, by omega, below_drewN HK.out.2 _⟩, by go_num⟩
    · have b1 : ¬ (k : Int) < (n : Int) := by omega
      clear hg hb
      go_wp2_with fail
      refine (awake_any _).mono ?_
      rintro e ww9 ⟨rfl, b9⟩
      go_wp2_with fail
      go_ret
      exact ⟨rfl, bel_trans (bel_trans BEL8.out HK.out.2) b9⟩

/-! ### The row -/
theorem laidOut : laidOutB Try.prog = true := by kernel_rfl
set_option maxRecDepth 100000 in
theorem lifted (os : Os) (started : os.Started) (H : Type) (enc : TypeId × Value → H) :
    ReturnsInHanded {} Try.checked os 5 .any (Rows.bloomMergesSpec.pre6 enc Try.prog Try.f5 Rows.bloomMergesRow.domain false) (Rows.bloomMergesSpec.post enc Try.prog Try.f5 false true false false) := by
  refine returnsInHanded_of_change (C := Try.checked) own started (by kernel_rfl) Try.func5
    (ChangeSpec.witness6 (enc := enc) (C := Try.checked) false ⟨#[], #[.agg #[.int .u64 0, .int .i64 0, .slice none 0 0], .agg #[.int .u64 0, .int .i64 0, .slice none 0 0]], []⟩ 8 (by kernel_rfl) (by kernel_rfl) (by kernel_rfl) (by kernel_rfl)) ?_
  intro W base args ds gs before hval0 hW hcnd _
  have hval : ∀ (j : Nat) t v, Try.f5.params[j]? = some t → args[j]? = some v → Value.okWide Try.prog W .any base t v := hval0
  have hW' := hW
  obtain ⟨p, q, hA0, hV, rfl, hfz, hnd⟩ := hW
  have hA : DataW.TrodAll enc Try.prog W 0 (fun _ => true) true Try.f5.params.toList args.toList ds p := hA0
  rw [Try.params5] at hA hval
  obtain ⟨v0, vs0, d0, ds0, p0, q0, hargs, rfl, rfl, h0, r0⟩ := trodAll_cons hA
  obtain ⟨v1, vs1, d1, ds1, p1, q1, rfl, rfl, rfl, h1, r1⟩ := trodAll_cons r0
  obtain ⟨rfl, rfl, rfl⟩ := trodAll_nil r1
  obtain rfl : args = #[v0, v1] := by cases args; simp_all
  obtain ⟨rfl, rfl⟩ := trodVars_none hV
  have k0 := h0
  have lt0 : ∀ x ∈ p0, x.block < W.heap.size := by obtain ⟨m, hm⟩ := k0; exact DataW.trod_lt m _ _ _ hm
  obtain ⟨F0, w0⟩ := open_filter (hval 0 25 v0 rfl rfl) h0
  have k1 := h1
  have lt1 : ∀ x ∈ p1, x.block < W.heap.size := by obtain ⟨m, hm⟩ := k1; exact DataW.trod_lt m _ _ _ hm
  obtain ⟨F1, w1⟩ := open_filter (hval 1 25 v1 rfl rfl) h1
  clear hA0 hval0
  refine (walk v0 F0 v1 F1 W w0 w1).mono fun e W' ⟨he, bel⟩ => ?_
  subst he
  exact ⟨_, rfl, _, _, _, [], _, [], hW', trodAll_mk1 (shut_bool Try.underlying4 _), (trodAll_cons_mk (Below.trod laidOut (by kernel_rfl) (of_decide_eq_true (by kernel_rfl)) k0 bel lt0) (trodAll_cons_mk (Below.trod laidOut (by kernel_rfl) (of_decide_eq_true (by kernel_rfl)) k1 bel lt1) trodAll_mk0)), rfl, bel.frame _, fun h => by cases h⟩

theorem over : Rows.bloomMergesRow.holds Try.pinned (OpenSpec.ofChange Rows.bloomMergesSpec) :=
  OpenClaim.holds_of_wide 5 Try.f5 rfl rfl rfl rfl rfl rfl rfl ⟨rfl, rfl, rfl, rfl, rfl⟩ rfl rfl rfl rfl rfl (by kernel_rfl) Try.func5 (by kernel_rfl)
    (of_decide_eq_true (by kernel_rfl)) (by unfold Func.isWrapper; first | (rw [if_pos (by decide +kernel)]; kernel_rfl) | (rw [if_neg (by decide +kernel)]; exact ⟨rfl, rfl⟩))
    (fun os started H enc _ => lifted os started H enc)

theorem proved : Rows.BloomMergesSaid := over
end Go.Proofs.Ytbnjicbmainopaa.bloomMerges
namespace Go.Proofs.Ytbnjicbmainopaa
theorem bloomMerges_holds : Rows.BloomMergesSaid := bloomMerges.proved
#print axioms bloomMerges_holds
end Go.Proofs.Ytbnjicbmainopaa
