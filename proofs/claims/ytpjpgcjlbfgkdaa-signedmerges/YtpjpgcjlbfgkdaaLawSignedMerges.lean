
/-
  SignedMerges: any two sketches are merged as the document says, or refused. No condition.
-/
import Derived.Test.YtpjpgcjlbfgkdaaRows
import Derived.Test.YtpjpgcjlbfgkdaaSgnAwake
import Derived.Test.YtpjpgcjlbfgkdaaSgnRMerge
import Derived.Test.YtpjpgcjlbfgkdaaSgnMerge
import Derived.Test.YtpjpgcjlbfgkdaaRegKit
import Derived.WalkKit
import Derived.ProofKit
import Derived.OpenShut
import Derived.ShutString
import Derived.ChangeOld
import Derived.ChangeMaps5
import Derived.Below
import Derived.Carry
import Derived.Laws.StructEq
import Derived.BigQuiet
import Derived.Deep.Cut
import Derived.Deep.CutRange
import Derived.Deep.RegionHeld
namespace Go.Proofs.Ytpjpgcjlbfgkdaa.signedMerges
open Fm Bl Sg L2 Go.Deep
open Go.ChangeShapes Go.WideShapes Go.ChangeAt Go.RowKit Go.ChangeMaps
set_option linter.unusedVariables false

theorem own : ownKnob Try.prog.godebug = none := by kernel_rfl

set_option maxRecDepth 8000 in
set_option maxHeartbeats 40000000 in
theorem walk (v0 : Value) (F0 : Sgt) (v1 : Value) (F1 : Sgt) (w : World) (h0 : SgIn w v0 F0) (h1 : SgIn w v1 F1) :
    Calls Try.prog 5 #[v0, v1] w fun e w' => e = .returned (.bool true) ∧ Below w.heap.size w w' := by
  obtain ⟨S, R, L, Z⟩ := F0
  obtain ⟨hF, uS, hRm⟩ := h0
  obtain ⟨S', R', L', Y⟩ := F1
  obtain ⟨hG, uS', hRm'⟩ := h1
  simp only at hF uS hRm hG uS' hRm'
  obtain ⟨v, rfl, hv⟩ := id hF
  obtain ⟨A, cap, bq, oq, rfl, hcap, q4⟩ := hv.read
  obtain ⟨v', rfl, hv'⟩ := id hG
  obtain ⟨A', cap', bq', oq', rfl, hcap', q4'⟩ := hv'.read
  have HF : Hid (SgAt w (.agg #[.int .u64 S, .slice A R cap]) S R L Z) := hF
  have HG : Hid (SgAt w (.agg #[.int .u64 S', .slice A' R' cap']) S' R' L' Y) := hG
  have RA : Hid (RowsCells w A R bq oq L Z) := q4
  have RB : Hid (RowsCells w A' R' bq' oq' L' Y) := q4'
  clear hv hv' hcap hcap' q4 q4' hF hG
  have BEL0 : Hid (Below w.heap.size w w) := Below.refl _ _
  have BOX0 : Hid (Boxes w w []) := boxes_none w w
  have FA_a_0 : Hid (HeldX [] (fun uq => SgAt uq (.agg #[.int .u64 S, .slice A R cap]) S R L Z) w) := heldX_keep fun u k => HF.out.keep k
  have FA_b_0 : Hid (HeldX [] (fun uq => SgAt uq (.agg #[.int .u64 S', .slice A' R' cap']) S' R' L' Y) w) := heldX_keep fun u k => HG.out.keep k
  go_enter Try.func5, Try.ntmps5
  have BEL1 := a_bel BEL0 (.cells #[.int .u64 S, .slice A R cap] 25)
  have BOX1 := a_box BOX0 BEL0 (.cells #[.int .u64 S, .slice A R cap] 25)
  have FA_a_1 := a_fact FA_a_0 (.cells #[.int .u64 S, .slice A R cap] 25)
  have FA_b_1 := a_fact FA_b_0 (.cells #[.int .u64 S, .slice A R cap] 25)
  have KB_bx_1 := n_blk (u := w) 25 #[.int .u64 S, .slice A R cap]
  clear BEL0 BOX0 FA_a_0 FA_b_0
  have BEL2 := a_bel BEL1 (.cells #[.int .u64 S', .slice A' R' cap'] 25)
  have BOX2 := a_box BOX1 BEL1 (.cells #[.int .u64 S', .slice A' R' cap'] 25)
  have FA_a_2 := a_fact FA_a_1 (.cells #[.int .u64 S', .slice A' R' cap'] 25)
  have FA_b_2 := a_fact FA_b_1 (.cells #[.int .u64 S', .slice A' R' cap'] 25)
  have KB_bx_2 := a_blk KB_bx_1 (.cells #[.int .u64 S', .slice A' R' cap'] 25)
  have NE_bx_by := n_ne KB_bx_1
  have KB_by_2 := n_blk (u := (w.alloc (.cells #[.int .u64 S, .slice A R cap] 25))) 25 #[.int .u64 S', .slice A' R' cap']
  clear BEL1 BOX1 FA_a_1 FA_b_1 KB_bx_1
  try simp only [World.size_alloc] at BEL2
  try simp only [World.size_alloc] at BOX2
  try simp only [World.size_alloc] at FA_a_2
  try simp only [World.size_alloc] at FA_b_2
  try simp only [World.size_alloc] at NE_bx_by
  try simp only [World.size_alloc] at KB_by_2
  have CE_bx_0 : ((w.alloc (.cells #[.int .u64 S, .slice A R cap] 25)).alloc (.cells #[.int .u64 S', .slice A' R' cap'] 25)).cell? ⟨w.heap.size, 0, none⟩ = some (.int .u64 S) := KB_bx_2.out.cell 0
  have CE_bx_1 : ((w.alloc (.cells #[.int .u64 S, .slice A R cap] 25)).alloc (.cells #[.int .u64 S', .slice A' R' cap'] 25)).cell? ⟨w.heap.size, 1, none⟩ = some (.slice A R cap) := KB_bx_2.out.cell 1
  have CE_bx_lt : w.heap.size < ((w.alloc (.cells #[.int .u64 S, .slice A R cap] 25)).alloc (.cells #[.int .u64 S', .slice A' R' cap'] 25)).heap.size := KB_bx_2.out.lt
  have CE_by_0 : ((w.alloc (.cells #[.int .u64 S, .slice A R cap] 25)).alloc (.cells #[.int .u64 S', .slice A' R' cap'] 25)).cell? ⟨w.heap.size + 1, 0, none⟩ = some (.int .u64 S') := KB_by_2.out.cell 0
  have CE_by_1 : ((w.alloc (.cells #[.int .u64 S, .slice A R cap] 25)).alloc (.cells #[.int .u64 S', .slice A' R' cap'] 25)).cell? ⟨w.heap.size + 1, 1, none⟩ = some (.slice A' R' cap') := KB_by_2.out.cell 1
  have CE_by_lt : w.heap.size + 1 < ((w.alloc (.cells #[.int .u64 S, .slice A R cap] 25)).alloc (.cells #[.int .u64 S', .slice A' R' cap'] 25)).heap.size := KB_by_2.out.lt
  go_wp2_with fail
  refine (small_any _ _ R L _ (by obtain ⟨v2, e2, hv2⟩ := FA_a_2.out.at; cases e2; exact hv2) hRm).mono ?_
  rintro e ww1 ⟨B, rfl, hB, hw⟩
  obtain rfl := hw
  have HB : Hid (B = true ↔ SmallP R L) := hB
  clear hB
  cases B
  · clear CE_bx_0 CE_bx_1 CE_bx_lt CE_by_0 CE_by_1 CE_by_lt
    go_wp2_with fail
    refine (gawake_any _).mono ?_
    rintro e ww99 ⟨rfl, b9⟩
    have BEL3 := h_bel BEL2 b9
    have BOX3 := h_box BOX2 b9
    have FA_a_3 := h_fact FA_a_2 b9
    have FA_b_3 := h_fact FA_b_2 b9
    have KB_bx_3 := h_blk KB_bx_2 b9
    have KB_by_3 := h_blk KB_by_2 b9
    clear BEL2 BOX2 FA_a_2 FA_b_2 KB_bx_2 KB_by_2
    clear b9
    go_wp2_with fail
    go_ret
    exact ⟨rfl, BEL3.out⟩
  obtain ⟨R1, L1⟩ := HB.out.1 rfl
  have LL : Hid (∀ i, i < R → L i ≤ 1000) := fun i hi => by have := L1 i hi; omega
  have R2 : R ≤ 1000 := by omega
  clear HB L1
  go_wp2_with fail
  refine (small_any _ _ R' L' _ (by obtain ⟨v2, e2, hv2⟩ := FA_b_2.out.at; cases e2; exact hv2) hRm').mono ?_
  rintro e ww1 ⟨B, rfl, hB, hw⟩
  obtain rfl := hw
  have HB : Hid (B = true ↔ SmallP R' L') := hB
  clear hB
  cases B
  · clear CE_bx_0 CE_bx_1 CE_bx_lt CE_by_0 CE_by_1 CE_by_lt
    go_wp2_with fail
    refine (gawake_any _).mono ?_
    rintro e ww99 ⟨rfl, b9⟩
    have BEL3 := h_bel BEL2 b9
    have BOX3 := h_box BOX2 b9
    have FA_a_3 := h_fact FA_a_2 b9
    have FA_b_3 := h_fact FA_b_2 b9
    have KB_bx_3 := h_blk KB_bx_2 b9
    have KB_by_3 := h_blk KB_by_2 b9
    clear BEL2 BOX2 FA_a_2 FA_b_2 KB_bx_2 KB_by_2
    clear b9
    go_wp2_with fail
    go_ret
    exact ⟨rfl, BEL3.out⟩
  obtain ⟨R1', L1'⟩ := HB.out.1 rfl
  have LL' : Hid (∀ i, i < R' → L' i ≤ 1000) := fun i hi => by have := L1' i hi; omega
  have R2' : R' ≤ 1000 := by omega
  clear HB L1'
  by_cases hok : RightG R L Z ∧ RightG R' L' Y ∧ AlikeG S R (L 0) S' R' (L' 0)
  rotate_left
  · clear CE_bx_0 CE_bx_1 CE_bx_lt CE_by_0 CE_by_1 CE_by_lt
    have CE_bx_0 : ((w.alloc (.cells #[.int .u64 S, .slice A R cap] 25)).alloc (.cells #[.int .u64 S', .slice A' R' cap'] 25)).cell? ⟨w.heap.size, 0, none⟩ = some (.int .u64 S) := KB_bx_2.out.cell 0
    have CE_bx_1 : ((w.alloc (.cells #[.int .u64 S, .slice A R cap] 25)).alloc (.cells #[.int .u64 S', .slice A' R' cap'] 25)).cell? ⟨w.heap.size, 1, none⟩ = some (.slice A R cap) := KB_bx_2.out.cell 1
    have CE_bx_lt : w.heap.size < ((w.alloc (.cells #[.int .u64 S, .slice A R cap] 25)).alloc (.cells #[.int .u64 S', .slice A' R' cap'] 25)).heap.size := KB_bx_2.out.lt
    have CE_by_0 : ((w.alloc (.cells #[.int .u64 S, .slice A R cap] 25)).alloc (.cells #[.int .u64 S', .slice A' R' cap'] 25)).cell? ⟨w.heap.size + 1, 0, none⟩ = some (.int .u64 S') := KB_by_2.out.cell 0
    have CE_by_1 : ((w.alloc (.cells #[.int .u64 S, .slice A R cap] 25)).alloc (.cells #[.int .u64 S', .slice A' R' cap'] 25)).cell? ⟨w.heap.size + 1, 1, none⟩ = some (.slice A' R' cap') := KB_by_2.out.cell 1
    have CE_by_lt : w.heap.size + 1 < ((w.alloc (.cells #[.int .u64 S, .slice A R cap] 25)).alloc (.cells #[.int .u64 S', .slice A' R' cap'] 25)).heap.size := KB_by_2.out.lt
    go_wp2_with fail
    refine (gmerge_bad _ _ _ S S' R R' L L' Z Y FA_a_2.out.at FA_b_2.out.at R2 LL.out R2' LL'.out hok).mono ?_
    rintro e ww3 ⟨rfl, b3⟩
    clear CE_bx_0 CE_bx_1 CE_bx_lt CE_by_0 CE_by_1 CE_by_lt
    have BEL3 := h_bel BEL2 b3
    have BOX3 := h_box BOX2 b3
    have FA_a_3 := h_fact FA_a_2 b3
    have FA_b_3 := h_fact FA_b_2 b3
    have KB_bx_3 := h_blk KB_bx_2 b3
    have KB_by_3 := h_blk KB_by_2 b3
    clear BEL2 BOX2 FA_a_2 FA_b_2 KB_bx_2 KB_by_2
    clear b3
    go_upto_region 4 with fail
    have BEL4 := a_bel BEL3 (.cells #[.int .u64 0, .slice none 0 0] 25)
    have BOX4 := a_box BOX3 BEL3 (.cells #[.int .u64 0, .slice none 0 0] 25)
    have FA_a_4 := a_fact FA_a_3 (.cells #[.int .u64 0, .slice none 0 0] 25)
    have FA_b_4 := a_fact FA_b_3 (.cells #[.int .u64 0, .slice none 0 0] 25)
    have KB_bx_4 := a_blk KB_bx_3 (.cells #[.int .u64 0, .slice none 0 0] 25)
    have NE_bx_m := n_ne KB_bx_3
    have KB_by_4 := a_blk KB_by_3 (.cells #[.int .u64 0, .slice none 0 0] 25)
    have NE_by_m := n_ne KB_by_3
    have KB_m_4 := n_blk (u := ww3) 25 #[.int .u64 0, .slice none 0 0]
    clear BEL3 BOX3 FA_a_3 FA_b_3 KB_bx_3 KB_by_3
    generalize (ww3.alloc (.cells #[.int .u64 0, .slice none 0 0] 25)) = u2 at BEL4 BOX4 FA_a_4 FA_b_4 KB_bx_4 KB_by_4 KB_m_4 ⊢
    generalize ww3.heap.size = gm at BOX4 FA_a_4 FA_b_4 KB_m_4 NE_bx_m NE_by_m ⊢
    refine letterQ ?_
    intro QQ hQQ
    have BEL5 := h_bel BEL4 ((Below.refl _ _).drew)
    have BOX5 := h_box BOX4 ((Below.refl _ _).drew)
    have FA_a_5 := h_fact FA_a_4 ((Below.refl _ _).drew)
    have FA_b_5 := h_fact FA_b_4 ((Below.refl _ _).drew)
    have KB_bx_5 := h_blk KB_bx_4 ((Below.refl _ _).drew)
    have KB_by_5 := h_blk KB_by_4 ((Below.refl _ _).drew)
    have KB_m_5 := h_blk KB_m_4 ((Below.refl _ _).drew)
    clear BEL4 BOX4 FA_a_4 FA_b_4 KB_bx_4 KB_by_4 KB_m_4
    refine wp_region_held_drew (S := (fun w' => Blk w' w.heap.size 25 #[.int .u64 S, .slice A R cap] ∧ Blk w' (w.heap.size + 1) 25 #[.int .u64 S', .slice A' R' cap'])) (by kernel_rfl) ⟨KB_bx_5.out, KB_by_5.out⟩ (fun hHeld => ?_)
    clear hHeld
    generalize u2.drew = v1 at BEL5 BOX5 FA_a_5 FA_b_5 KB_bx_5 KB_by_5 KB_m_5 ⊢
    refine wpAnyH_take (i := 0) (v := ?_) rfl (by kernel_rfl) (by kernel_rfl) (by kernel_rfl) (fun _ _ _ h => h) (Or.inl ⟨by rfl, ?_⟩) ⟨KB_bx_5.out, KB_by_5.out⟩ ?_
    rotate_left
    · intro wq hSw; have cl0 := hSw.1.cell 0; have cl1 := hSw.1.cell 1; go_simp; first | done | with_reducible rfl
    simp only [List.getElem_toArray, List.getElem_cons_zero, Act.put, List.setIfInBounds_toArray, List.set_cons_zero, List.set_cons_succ]
    refine wpAnyH_take (i := 2) (v := ?_) rfl (by kernel_rfl) (by kernel_rfl) (by kernel_rfl) (fun _ _ _ h => h) (Or.inl ⟨by rfl, ?_⟩) ⟨KB_bx_5.out, KB_by_5.out⟩ ?_
    rotate_left
    · intro wq hSw; have cl0 := hSw.2.cell 0; have cl1 := hSw.2.cell 1; go_simp; first | done | with_reducible rfl
    simp only [List.getElem_toArray, List.getElem_cons_zero, List.getElem_cons_succ, Act.put, List.setIfInBounds_toArray, List.set_cons_zero, List.set_cons_succ]
    refine letterT (T := wpAnyH _ _ _ _ _) ?_
    intro TT hTU hUT
    refine letterA ?_
    intro act0 hact
    have ND_2_xy : Hid (∀ (v : World) (gx : Nat) (gy : Nat) (ll : Array Bool) (aa : Act), ll = #[true, true, true, true, true, true, false, false] → aa = ((((act0.put (some 29) (.agg #[.int .u64 S, .slice A R cap])).put (some 31) (.agg #[.int .u64 S', .slice A' R' cap'])).put (some 7) (.pointer (some ⟨gx, 0, none⟩))).put (some 8) (.pointer (some ⟨gy, 0, none⟩))) → Hid (Below w.heap.size w v) → Hid (Boxes w v [gy, gx, gm, w.heap.size + 1, w.heap.size]) → Hid (HeldX [gy, gx, gm, w.heap.size + 1, w.heap.size] (fun uq => SgAt uq (.agg #[.int .u64 S, .slice A R cap]) S R L Z) v) → Hid (HeldX [gy, gx, gm, w.heap.size + 1, w.heap.size] (fun uq => SgAt uq (.agg #[.int .u64 S', .slice A' R' cap']) S' R' L' Y) v) → Hid (Blk v w.heap.size 25 #[.int .u64 S, .slice A R cap]) → Hid (Blk v (w.heap.size + 1) 25 #[.int .u64 S', .slice A' R' cap']) → Hid (Blk v gm 25 #[.int .u64 0, .slice none 0 0]) → Hid (Blk v gx 30 #[.int .u64 0, .slice none 0 0]) → Hid (Blk v gy 30 #[.int .u64 0, .slice none 0 0]) → Hid (w.heap.size ≠ w.heap.size + 1) → Hid (w.heap.size ≠ gm) → Hid (w.heap.size + 1 ≠ gm) → Hid (w.heap.size ≠ gx) → Hid (w.heap.size ≠ gy) → Hid (w.heap.size + 1 ≠ gx) → Hid (w.heap.size + 1 ≠ gy) → Hid (gm ≠ gx) → Hid (gm ≠ gy) → Hid (gx ≠ gy) → TT 2 ll aa v) := by
      intro v gx gy ll aa hl hA BEL105 BOX105 FA_a_105 FA_b_105 KB_bx_105 KB_by_105 KB_m_105 KB_x_105 KB_y_105 NE_bx_by NE_bx_m NE_by_m NE_bx_x NE_bx_y NE_by_x NE_by_y NE_m_x NE_m_y NE_x_y
      rw [hact.out] at hA
      try simp only [Act.put, List.setIfInBounds_toArray, List.set_cons_zero, List.set_cons_succ] at hA
      subst hl hA
      refine hUT.out _ _ _ _ ?_
      refine wpAnyH_ready (rs := [6]) (by kernel_rfl) (by simp) ?_
      refine AllReadyH.cons rfl (fun K0 hK0 => ?_) ?_
      rotate_left
      · exact AllReadyH.nil
      have CE_x_0 : v.cell? ⟨gx, 0, none⟩ = some (.int .u64 0) := KB_x_105.out.cell 0
      have CF_x_0 : v.frozen? ⟨gx, 0, none⟩ = false := KB_x_105.out.frozen 0
      have CE_x_1 : v.cell? ⟨gx, 1, none⟩ = some (.slice none 0 0) := KB_x_105.out.cell 1
      have CF_x_1 : v.frozen? ⟨gx, 1, none⟩ = false := KB_x_105.out.frozen 1
      have CE_x_lt : gx < v.heap.size := KB_x_105.out.lt
      go_simp
      clear CE_x_0 CF_x_0 CE_x_1 CF_x_1 CE_x_lt
      obtain ⟨vs1, hv⟩ : ∃ q, q = ((v.setCell ⟨gx, 0, none⟩ (.int .u64 S)).setCell ⟨gx, 1, none⟩ (.slice A R cap)) := ⟨_, rfl⟩
      rw [← hv]
      have pe : vs1 = putCells v gx 0 [.int .u64 S, .slice A R cap] := hv
      clear hv
      have BEL106 := p_bel pe BEL105 BOX105 (List.mem_cons_of_mem _ List.mem_cons_self)
      have BOX106 := p_box pe BOX105
      have FA_a_106 := p_fact pe FA_a_105 (List.mem_cons_of_mem _ List.mem_cons_self)
      have FA_b_106 := p_fact pe FA_b_105 (List.mem_cons_of_mem _ List.mem_cons_self)
      have KB_bx_106 := p_oth pe KB_bx_105 NE_bx_x
      have KB_by_106 := p_oth pe KB_by_105 NE_by_x
      have KB_m_106 := p_oth pe KB_m_105 NE_m_x
      have KB_x_106 : Hid (Blk vs1 gx 30 #[.int .u64 S, .slice A R cap]) := p_blk pe KB_x_105 rfl
      have KB_y_106 := p_oth pe KB_y_105 (n_sym NE_x_y)
      clear pe BEL105 BOX105 FA_a_105 FA_b_105 KB_bx_105 KB_by_105 KB_m_105 KB_x_105 KB_y_105
      refine hK0.out _ _ (by exact ⟨KB_bx_106.out, KB_by_106.out⟩) (fun hHeld => ?_)
      clear hK0 K0 hHeld
      refine wpAnyH_ready (rs := [7]) (by kernel_rfl) (by simp) ?_
      refine AllReadyH.cons rfl (fun K0 hK0 => ?_) ?_
      rotate_left
      · exact AllReadyH.nil
      have CE_y_0 : vs1.cell? ⟨gy, 0, none⟩ = some (.int .u64 0) := KB_y_106.out.cell 0
      have CF_y_0 : vs1.frozen? ⟨gy, 0, none⟩ = false := KB_y_106.out.frozen 0
      have CE_y_1 : vs1.cell? ⟨gy, 1, none⟩ = some (.slice none 0 0) := KB_y_106.out.cell 1
      have CF_y_1 : vs1.frozen? ⟨gy, 1, none⟩ = false := KB_y_106.out.frozen 1
      have CE_y_lt : gy < vs1.heap.size := KB_y_106.out.lt
      go_simp
      clear CE_y_0 CF_y_0 CE_y_1 CF_y_1 CE_y_lt
      obtain ⟨vs2, hv⟩ : ∃ q, q = ((vs1.setCell ⟨gy, 0, none⟩ (.int .u64 S')).setCell ⟨gy, 1, none⟩ (.slice A' R' cap')) := ⟨_, rfl⟩
      rw [← hv]
      have pe : vs2 = putCells vs1 gy 0 [.int .u64 S', .slice A' R' cap'] := hv
      clear hv
      have BEL107 := p_bel pe BEL106 BOX106 List.mem_cons_self
      have BOX107 := p_box pe BOX106
      have FA_a_107 := p_fact pe FA_a_106 List.mem_cons_self
      have FA_b_107 := p_fact pe FA_b_106 List.mem_cons_self
      have KB_bx_107 := p_oth pe KB_bx_106 NE_bx_y
      have KB_by_107 := p_oth pe KB_by_106 NE_by_y
      have KB_m_107 := p_oth pe KB_m_106 NE_m_y
      have KB_x_107 := p_oth pe KB_x_106 NE_x_y
      have KB_y_107 : Hid (Blk vs2 gy 30 #[.int .u64 S', .slice A' R' cap']) := p_blk pe KB_y_106 rfl
      clear pe BEL106 BOX106 FA_a_106 FA_b_106 KB_bx_106 KB_by_106 KB_m_106 KB_x_106 KB_y_106
      refine hK0.out _ _ (by exact ⟨KB_bx_107.out, KB_by_107.out⟩) (fun hHeld => ?_)
      clear hK0 K0 hHeld
      refine wpAnyH_done (by kernel_rfl) ?_ _
      refine NoPanic.normal ?_
      refine hQQ.out _ _ ?_
      clear hTU hUT hact hQQ
      generalize vs2 = v9 at BEL107 BOX107 FA_a_107 FA_b_107 KB_bx_107 KB_by_107 KB_m_107 KB_x_107 KB_y_107 ⊢
      by_cases rp : RightG R L Z
      rotate_left
      · have E1 : Hid (∀ w1, Below v9.heap.size v9 w1 → Calls Try.prog 13 #[.agg #[.int .u64 S, .slice A R cap]] w1 fun e w' => e = .returned (.bool false) ∧ Below v9.heap.size v9 w') := fun w1 b1 => (hright_any w1 _ S R _ _ (FA_a_107.out.since b1).at LL.out).mono fun e w' h => ⟨(told h false ⟨fun h => (by cases h), fun h => absurd h rp⟩).1, bel_trans b1 (told h false ⟨fun h => (by cases h), fun h => absurd h rp⟩).2⟩
        clear hok rp LL LL'
        clear FA_a_107 FA_b_107 HF HG
        go_wp2_with fail
        refine letterQ ?_
        intro QQ hQQ
        have Z0 : Hid (Below v9.heap.size v9 v9.drew) := (Below.refl _ _).drew
        refine wp_region_held_drew (S := fun w2 => Below v9.heap.size v9 w2) (by kernel_rfl) Z0.out (fun hHeld => ?_)
        clear hHeld
        generalize v9.drew = q0 at Z0 ⊢
        refine wpAnyH_take (i := 0) (v := ?_) rfl (by kernel_rfl) (by kernel_rfl) (by kernel_rfl) (fun _ _ _ h => h) (Or.inl ⟨by rfl, ?_⟩) Z0.out ?_
        rotate_left
        · intro wq hSw; have cl0 := (KB_x_107.out.since hSw).cell 0; have cl1 := (KB_x_107.out.since hSw).cell 1; go_simp; first | done | with_reducible rfl
        simp only [List.getElem_toArray, List.getElem_cons_zero, Act.put, List.setIfInBounds_toArray, List.set_cons_zero, List.set_cons_succ]
        refine wpAnyH_ready (rs := [1]) (by kernel_rfl) (by simp) ?_
        refine AllReadyH.cons rfl (fun K0 hK0 => ?_) ?_
        rotate_left
        · exact AllReadyH.nil
        refine step_func 13 #[.agg #[.int .u64 S, .slice A R cap]] (by rfl) rfl (by simp [Act.eval]) (fun _ _ => by kernel_rfl) ?_
        refine (E1.out _ Z0.out).mono ?_
        rintro e q1 ⟨rfl, cc⟩
        have Z1 : Hid (Below v9.heap.size v9 q1) := cc
        clear cc
        refine ⟨_, rfl, ?_⟩
        refine hK0.out _ _ Z1.out (fun hHeld => ?_)
        clear hK0 K0 hHeld
        refine wpAnyH_take (i := 2) (v := ?_) rfl (by kernel_rfl) (by kernel_rfl) (by kernel_rfl) (fun _ _ _ h => h) (Or.inl ⟨by rfl, ?_⟩) Z1.out ?_
        rotate_left
        · intro wq hSw; go_simp; first | done | with_reducible rfl
        simp only [List.getElem_toArray, List.getElem_cons_zero, List.getElem_cons_succ, Act.put, List.setIfInBounds_toArray, List.set_cons_zero, List.set_cons_succ]
        refine wpAnyH_take (i := 3) (v := ?_) rfl (by kernel_rfl) (by kernel_rfl) (by kernel_rfl) (fun _ _ _ h => h) (Or.inl ⟨by rfl, ?_⟩) Z1.out ?_
        rotate_left
        · intro wq hSw; go_simp; first | done | with_reducible rfl
        simp only [List.getElem_toArray, List.getElem_cons_zero, List.getElem_cons_succ, Act.put, List.setIfInBounds_toArray, List.set_cons_zero, List.set_cons_succ]
        refine wpAnyH_take (i := 4) (v := undef) rfl (by kernel_rfl) (by kernel_rfl) (by kernel_rfl) (fun _ _ _ h => h) (Or.inr ⟨by rfl, rfl⟩) Z1.out ?_
        simp only [List.getElem_toArray, List.getElem_cons_zero, List.getElem_cons_succ, Act.put, List.setIfInBounds_toArray, List.set_cons_zero, List.set_cons_succ]
        refine wpAnyH_take (i := 5) (v := undef) rfl (by kernel_rfl) (by kernel_rfl) (by kernel_rfl) (fun _ _ _ h => h) (Or.inr ⟨by rfl, rfl⟩) Z1.out ?_
        simp only [List.getElem_toArray, List.getElem_cons_zero, List.getElem_cons_succ, Act.put, List.setIfInBounds_toArray, List.set_cons_zero, List.set_cons_succ]
        refine wpAnyH_take (i := 6) (v := undef) rfl (by kernel_rfl) (by kernel_rfl) (by kernel_rfl) (fun _ _ _ h => h) (Or.inr ⟨by rfl, rfl⟩) Z1.out ?_
        simp only [List.getElem_toArray, List.getElem_cons_zero, List.getElem_cons_succ, Act.put, List.setIfInBounds_toArray, List.set_cons_zero, List.set_cons_succ]
        refine wpAnyH_take (i := 7) (v := ?_) rfl (by kernel_rfl) (by kernel_rfl) (by kernel_rfl) (fun _ _ _ h => h) (Or.inl ⟨by rfl, ?_⟩) Z1.out ?_
        rotate_left
        · intro wq hSw; go_simp; first | done | with_reducible rfl
        simp only [List.getElem_toArray, List.getElem_cons_zero, List.getElem_cons_succ, Act.put, List.setIfInBounds_toArray, List.set_cons_zero, List.set_cons_succ]
        refine wpAnyH_take (i := 8) (v := ?_) rfl (by kernel_rfl) (by kernel_rfl) (by kernel_rfl) (fun _ _ _ h => h) (Or.inl ⟨by rfl, ?_⟩) Z1.out ?_
        rotate_left
        · intro wq hSw; go_simp; first | done | with_reducible rfl
        simp only [List.getElem_toArray, List.getElem_cons_zero, List.getElem_cons_succ, Act.put, List.setIfInBounds_toArray, List.set_cons_zero, List.set_cons_succ]
        refine wpAnyH_take (i := 9) (v := undef) rfl (by kernel_rfl) (by kernel_rfl) (by kernel_rfl) (fun _ _ _ h => h) (Or.inr ⟨by rfl, rfl⟩) Z1.out ?_
        simp only [List.getElem_toArray, List.getElem_cons_zero, List.getElem_cons_succ, Act.put, List.setIfInBounds_toArray, List.set_cons_zero, List.set_cons_succ]
        refine wpAnyH_take (i := 10) (v := undef) rfl (by kernel_rfl) (by kernel_rfl) (by kernel_rfl) (fun _ _ _ h => h) (Or.inr ⟨by rfl, rfl⟩) Z1.out ?_
        simp only [List.getElem_toArray, List.getElem_cons_zero, List.getElem_cons_succ, Act.put, List.setIfInBounds_toArray, List.set_cons_zero, List.set_cons_succ]
        refine wpAnyH_take (i := 11) (v := undef) rfl (by kernel_rfl) (by kernel_rfl) (by kernel_rfl) (fun _ _ _ h => h) (Or.inr ⟨by rfl, rfl⟩) Z1.out ?_
        simp only [List.getElem_toArray, List.getElem_cons_zero, List.getElem_cons_succ, Act.put, List.setIfInBounds_toArray, List.set_cons_zero, List.set_cons_succ]
        refine wpAnyH_take (i := 12) (v := undef) rfl (by kernel_rfl) (by kernel_rfl) (by kernel_rfl) (fun _ _ _ h => h) (Or.inr ⟨by rfl, rfl⟩) Z1.out ?_
        simp only [List.getElem_toArray, List.getElem_cons_zero, List.getElem_cons_succ, Act.put, List.setIfInBounds_toArray, List.set_cons_zero, List.set_cons_succ]
        refine wpAnyH_take (i := 13) (v := undef) rfl (by kernel_rfl) (by kernel_rfl) (by kernel_rfl) (fun _ _ _ h => h) (Or.inr ⟨by rfl, rfl⟩) Z1.out ?_
        simp only [List.getElem_toArray, List.getElem_cons_zero, List.getElem_cons_succ, Act.put, List.setIfInBounds_toArray, List.set_cons_zero, List.set_cons_succ]
        refine wpAnyH_take (i := 14) (v := ?_) rfl (by kernel_rfl) (by kernel_rfl) (by kernel_rfl) (fun _ _ _ h => h) (Or.inl ⟨by rfl, ?_⟩) Z1.out ?_
        rotate_left
        · intro wq hSw; go_simp; first | done | with_reducible rfl
        simp only [List.getElem_toArray, List.getElem_cons_zero, List.getElem_cons_succ, Act.put, List.setIfInBounds_toArray, List.set_cons_zero, List.set_cons_succ]
        refine wpAnyH_take (i := 15) (v := ?_) rfl (by kernel_rfl) (by kernel_rfl) (by kernel_rfl) (fun _ _ _ h => h) (Or.inl ⟨by rfl, ?_⟩) Z1.out ?_
        rotate_left
        · intro wq hSw; go_simp; first | done | with_reducible rfl
        simp only [List.getElem_toArray, List.getElem_cons_zero, List.getElem_cons_succ, Act.put, List.setIfInBounds_toArray, List.set_cons_zero, List.set_cons_succ]
        refine wpAnyH_take (i := 16) (v := undef) rfl (by kernel_rfl) (by kernel_rfl) (by kernel_rfl) (fun _ _ _ h => h) (Or.inr ⟨by rfl, rfl⟩) Z1.out ?_
        simp only [List.getElem_toArray, List.getElem_cons_zero, List.getElem_cons_succ, Act.put, List.setIfInBounds_toArray, List.set_cons_zero, List.set_cons_succ]
        refine wpAnyH_take (i := 17) (v := undef) rfl (by kernel_rfl) (by kernel_rfl) (by kernel_rfl) (fun _ _ _ h => h) (Or.inr ⟨by rfl, rfl⟩) Z1.out ?_
        simp only [List.getElem_toArray, List.getElem_cons_zero, List.getElem_cons_succ, Act.put, List.setIfInBounds_toArray, List.set_cons_zero, List.set_cons_succ]
        refine wpAnyH_take (i := 18) (v := undef) rfl (by kernel_rfl) (by kernel_rfl) (by kernel_rfl) (fun _ _ _ h => h) (Or.inr ⟨by rfl, rfl⟩) Z1.out ?_
        simp only [List.getElem_toArray, List.getElem_cons_zero, List.getElem_cons_succ, Act.put, List.setIfInBounds_toArray, List.set_cons_zero, List.set_cons_succ]
        refine wpAnyH_take (i := 19) (v := undef) rfl (by kernel_rfl) (by kernel_rfl) (by kernel_rfl) (fun _ _ _ h => h) (Or.inr ⟨by rfl, rfl⟩) Z1.out ?_
        simp only [List.getElem_toArray, List.getElem_cons_zero, List.getElem_cons_succ, Act.put, List.setIfInBounds_toArray, List.set_cons_zero, List.set_cons_succ]
        refine wpAnyH_take (i := 20) (v := undef) rfl (by kernel_rfl) (by kernel_rfl) (by kernel_rfl) (fun _ _ _ h => h) (Or.inr ⟨by rfl, rfl⟩) Z1.out ?_
        simp only [List.getElem_toArray, List.getElem_cons_zero, List.getElem_cons_succ, Act.put, List.setIfInBounds_toArray, List.set_cons_zero, List.set_cons_succ]
        refine wpAnyH_take (i := 21) (v := undef) rfl (by kernel_rfl) (by kernel_rfl) (by kernel_rfl) (fun _ _ _ h => h) (Or.inr ⟨by rfl, rfl⟩) Z1.out ?_
        simp only [List.getElem_toArray, List.getElem_cons_zero, List.getElem_cons_succ, Act.put, List.setIfInBounds_toArray, List.set_cons_zero, List.set_cons_succ]
        refine wpAnyH_take (i := 22) (v := undef) rfl (by kernel_rfl) (by kernel_rfl) (by kernel_rfl) (fun _ _ _ h => h) (Or.inr ⟨by rfl, rfl⟩) Z1.out ?_
        simp only [List.getElem_toArray, List.getElem_cons_zero, List.getElem_cons_succ, Act.put, List.setIfInBounds_toArray, List.set_cons_zero, List.set_cons_succ]
        refine wpAnyH_take (i := 23) (v := ?_) rfl (by kernel_rfl) (by kernel_rfl) (by kernel_rfl) (fun _ _ _ h => h) (Or.inl ⟨by rfl, ?_⟩) Z1.out ?_
        rotate_left
        · intro wq hSw; go_simp; first | done | with_reducible rfl
        simp only [List.getElem_toArray, List.getElem_cons_zero, List.getElem_cons_succ, Act.put, List.setIfInBounds_toArray, List.set_cons_zero, List.set_cons_succ]
        refine wpAnyH_take (i := 24) (v := ?_) rfl (by kernel_rfl) (by kernel_rfl) (by kernel_rfl) (fun _ _ _ h => h) (Or.inl ⟨by rfl, ?_⟩) Z1.out ?_
        rotate_left
        · intro wq hSw; go_simp; first | done | with_reducible rfl
        simp only [List.getElem_toArray, List.getElem_cons_zero, List.getElem_cons_succ, Act.put, List.setIfInBounds_toArray, List.set_cons_zero, List.set_cons_succ]
        refine wpAnyH_take (i := 25) (v := undef) rfl (by kernel_rfl) (by kernel_rfl) (by kernel_rfl) (fun _ _ _ h => h) (Or.inr ⟨by rfl, rfl⟩) Z1.out ?_
        simp only [List.getElem_toArray, List.getElem_cons_zero, List.getElem_cons_succ, Act.put, List.setIfInBounds_toArray, List.set_cons_zero, List.set_cons_succ]
        refine wpAnyH_take (i := 26) (v := undef) rfl (by kernel_rfl) (by kernel_rfl) (by kernel_rfl) (fun _ _ _ h => h) (Or.inr ⟨by rfl, rfl⟩) Z1.out ?_
        simp only [List.getElem_toArray, List.getElem_cons_zero, List.getElem_cons_succ, Act.put, List.setIfInBounds_toArray, List.set_cons_zero, List.set_cons_succ]
        refine wpAnyH_take (i := 27) (v := undef) rfl (by kernel_rfl) (by kernel_rfl) (by kernel_rfl) (fun _ _ _ h => h) (Or.inr ⟨by rfl, rfl⟩) Z1.out ?_
        simp only [List.getElem_toArray, List.getElem_cons_zero, List.getElem_cons_succ, Act.put, List.setIfInBounds_toArray, List.set_cons_zero, List.set_cons_succ]
        refine wpAnyH_take (i := 28) (v := undef) rfl (by kernel_rfl) (by kernel_rfl) (by kernel_rfl) (fun _ _ _ h => h) (Or.inr ⟨by rfl, rfl⟩) Z1.out ?_
        simp only [List.getElem_toArray, List.getElem_cons_zero, List.getElem_cons_succ, Act.put, List.setIfInBounds_toArray, List.set_cons_zero, List.set_cons_succ]
        refine wpAnyH_take (i := 29) (v := undef) rfl (by kernel_rfl) (by kernel_rfl) (by kernel_rfl) (fun _ _ _ h => h) (Or.inr ⟨by rfl, rfl⟩) Z1.out ?_
        simp only [List.getElem_toArray, List.getElem_cons_zero, List.getElem_cons_succ, Act.put, List.setIfInBounds_toArray, List.set_cons_zero, List.set_cons_succ]
        refine wpAnyH_take (i := 30) (v := undef) rfl (by kernel_rfl) (by kernel_rfl) (by kernel_rfl) (fun _ _ _ h => h) (Or.inr ⟨by rfl, rfl⟩) Z1.out ?_
        simp only [List.getElem_toArray, List.getElem_cons_zero, List.getElem_cons_succ, Act.put, List.setIfInBounds_toArray, List.set_cons_zero, List.set_cons_succ]
        refine wpAnyH_take (i := 31) (v := undef) rfl (by kernel_rfl) (by kernel_rfl) (by kernel_rfl) (fun _ _ _ h => h) (Or.inr ⟨by rfl, rfl⟩) Z1.out ?_
        simp only [List.getElem_toArray, List.getElem_cons_zero, List.getElem_cons_succ, Act.put, List.setIfInBounds_toArray, List.set_cons_zero, List.set_cons_succ]
        refine wpAnyH_take (i := 32) (v := undef) rfl (by kernel_rfl) (by kernel_rfl) (by kernel_rfl) (fun _ _ _ h => h) (Or.inr ⟨by rfl, rfl⟩) Z1.out ?_
        simp only [List.getElem_toArray, List.getElem_cons_zero, List.getElem_cons_succ, Act.put, List.setIfInBounds_toArray, List.set_cons_zero, List.set_cons_succ]
        refine wpAnyH_take (i := 33) (v := undef) rfl (by kernel_rfl) (by kernel_rfl) (by kernel_rfl) (fun _ _ _ h => h) (Or.inr ⟨by rfl, rfl⟩) Z1.out ?_
        simp only [List.getElem_toArray, List.getElem_cons_zero, List.getElem_cons_succ, Act.put, List.setIfInBounds_toArray, List.set_cons_zero, List.set_cons_succ]
        refine wpAnyH_take (i := 34) (v := undef) rfl (by kernel_rfl) (by kernel_rfl) (by kernel_rfl) (fun _ _ _ h => h) (Or.inr ⟨by rfl, rfl⟩) Z1.out ?_
        simp only [List.getElem_toArray, List.getElem_cons_zero, List.getElem_cons_succ, Act.put, List.setIfInBounds_toArray, List.set_cons_zero, List.set_cons_succ]
        refine wpAnyH_take (i := 35) (v := undef) rfl (by kernel_rfl) (by kernel_rfl) (by kernel_rfl) (fun _ _ _ h => h) (Or.inr ⟨by rfl, rfl⟩) Z1.out ?_
        simp only [List.getElem_toArray, List.getElem_cons_zero, List.getElem_cons_succ, Act.put, List.setIfInBounds_toArray, List.set_cons_zero, List.set_cons_succ]
        refine wpAnyH_take (i := 36) (v := ?_) rfl (by kernel_rfl) (by kernel_rfl) (by kernel_rfl) (fun _ _ _ h => h) (Or.inl ⟨by rfl, ?_⟩) Z1.out ?_
        rotate_left
        · intro wq hSw; go_simp; first | done | with_reducible rfl
        simp only [List.getElem_toArray, List.getElem_cons_zero, List.getElem_cons_succ, Act.put, List.setIfInBounds_toArray, List.set_cons_zero, List.set_cons_succ]
        refine wpAnyH_done (by kernel_rfl) ?_ _
        refine NoPanic.normal ?_
        refine hQQ.out _ _ ?_
        clear hQQ
        have cm : q1.cell? ⟨gm, 1, none⟩ = some (.slice none 0 0) := (KB_m_107.out.since Z1.out).cell 1
        go_wp2_with fail
        refine (gawake_any _).mono ?_
        rintro e ww9 ⟨rfl, b9⟩
        go_wp2_with fail
        go_ret
        exact ⟨rfl, bel_trans (bel_trans BEL107.out Z1.out) b9⟩
      by_cases rq : RightG R' L' Y
      rotate_left
      · have E1 : Hid (∀ w1, Below v9.heap.size v9 w1 → Calls Try.prog 13 #[.agg #[.int .u64 S, .slice A R cap]] w1 fun e w' => e = .returned (.bool true) ∧ Below v9.heap.size v9 w') := fun w1 b1 => (hright_any w1 _ S R _ _ (FA_a_107.out.since b1).at LL.out).mono fun e w' h => ⟨(told h true ⟨fun _ => rp, fun _ => rfl⟩).1, bel_trans b1 (told h true ⟨fun _ => rp, fun _ => rfl⟩).2⟩
        have E2 : Hid (∀ w1, Below v9.heap.size v9 w1 → Calls Try.prog 13 #[.agg #[.int .u64 S', .slice A' R' cap']] w1 fun e w' => e = .returned (.bool false) ∧ Below v9.heap.size v9 w') := fun w1 b1 => (hright_any w1 _ S' R' _ _ (FA_b_107.out.since b1).at LL'.out).mono fun e w' h => ⟨(told h false ⟨fun h => (by cases h), fun h => absurd h rq⟩).1, bel_trans b1 (told h false ⟨fun h => (by cases h), fun h => absurd h rq⟩).2⟩
        clear hok rp rq LL LL'
        clear FA_a_107 FA_b_107 HF HG
        go_wp2_with fail
        refine letterQ ?_
        intro QQ hQQ
        have Z0 : Hid (Below v9.heap.size v9 v9.drew) := (Below.refl _ _).drew
        refine wp_region_held_drew (S := fun w2 => Below v9.heap.size v9 w2) (by kernel_rfl) Z0.out (fun hHeld => ?_)
        clear hHeld
        generalize v9.drew = q0 at Z0 ⊢
        refine wpAnyH_take (i := 0) (v := ?_) rfl (by kernel_rfl) (by kernel_rfl) (by kernel_rfl) (fun _ _ _ h => h) (Or.inl ⟨by rfl, ?_⟩) Z0.out ?_
        rotate_left
        · intro wq hSw; have cl0 := (KB_x_107.out.since hSw).cell 0; have cl1 := (KB_x_107.out.since hSw).cell 1; go_simp; first | done | with_reducible rfl
        simp only [List.getElem_toArray, List.getElem_cons_zero, Act.put, List.setIfInBounds_toArray, List.set_cons_zero, List.set_cons_succ]
        refine wpAnyH_ready (rs := [1]) (by kernel_rfl) (by simp) ?_
        refine AllReadyH.cons rfl (fun K0 hK0 => ?_) ?_
        rotate_left
        · exact AllReadyH.nil
        refine step_func 13 #[.agg #[.int .u64 S, .slice A R cap]] (by rfl) rfl (by simp [Act.eval]) (fun _ _ => by kernel_rfl) ?_
        refine (E1.out _ Z0.out).mono ?_
        rintro e q1 ⟨rfl, cc⟩
        have Z1 : Hid (Below v9.heap.size v9 q1) := cc
        clear cc
        refine ⟨_, rfl, ?_⟩
        refine hK0.out _ _ Z1.out (fun hHeld => ?_)
        clear hK0 K0 hHeld
        refine wpAnyH_take (i := 2) (v := ?_) rfl (by kernel_rfl) (by kernel_rfl) (by kernel_rfl) (fun _ _ _ h => h) (Or.inl ⟨by rfl, ?_⟩) Z1.out ?_
        rotate_left
        · intro wq hSw; go_simp; first | done | with_reducible rfl
        simp only [List.getElem_toArray, List.getElem_cons_zero, List.getElem_cons_succ, Act.put, List.setIfInBounds_toArray, List.set_cons_zero, List.set_cons_succ]
        refine wpAnyH_take (i := 3) (v := ?_) rfl (by kernel_rfl) (by kernel_rfl) (by kernel_rfl) (fun _ _ _ h => h) (Or.inl ⟨by rfl, ?_⟩) Z1.out ?_
        rotate_left
        · intro wq hSw; go_simp; first | done | with_reducible rfl
        simp only [List.getElem_toArray, List.getElem_cons_zero, List.getElem_cons_succ, Act.put, List.setIfInBounds_toArray, List.set_cons_zero, List.set_cons_succ]
        refine wpAnyH_take (i := 4) (v := ?_) rfl (by kernel_rfl) (by kernel_rfl) (by kernel_rfl) (fun _ _ _ h => h) (Or.inl ⟨by rfl, ?_⟩) Z1.out ?_
        rotate_left
        · intro wq hSw; have cl0 := (KB_y_107.out.since hSw).cell 0; have cl1 := (KB_y_107.out.since hSw).cell 1; go_simp; first | done | with_reducible rfl
        simp only [List.getElem_toArray, List.getElem_cons_zero, List.getElem_cons_succ, Act.put, List.setIfInBounds_toArray, List.set_cons_zero, List.set_cons_succ]
        refine wpAnyH_ready (rs := [5]) (by kernel_rfl) (by simp) ?_
        refine AllReadyH.cons rfl (fun K0 hK0 => ?_) ?_
        rotate_left
        · exact AllReadyH.nil
        refine step_func 13 #[.agg #[.int .u64 S', .slice A' R' cap']] (by rfl) rfl (by simp [Act.eval]) (fun _ _ => by kernel_rfl) ?_
        refine (E2.out _ Z1.out).mono ?_
        rintro e q2 ⟨rfl, cc⟩
        have Z2 : Hid (Below v9.heap.size v9 q2) := cc
        clear cc
        refine ⟨_, rfl, ?_⟩
        refine hK0.out _ _ Z2.out (fun hHeld => ?_)
        clear hK0 K0 hHeld
        refine wpAnyH_take (i := 6) (v := ?_) rfl (by kernel_rfl) (by kernel_rfl) (by kernel_rfl) (fun _ _ _ h => h) (Or.inl ⟨by rfl, ?_⟩) Z2.out ?_
        rotate_left
        · intro wq hSw; go_simp; first | done | with_reducible rfl
        simp only [List.getElem_toArray, List.getElem_cons_zero, List.getElem_cons_succ, Act.put, List.setIfInBounds_toArray, List.set_cons_zero, List.set_cons_succ]
        refine wpAnyH_take (i := 7) (v := ?_) rfl (by kernel_rfl) (by kernel_rfl) (by kernel_rfl) (fun _ _ _ h => h) (Or.inl ⟨by rfl, ?_⟩) Z2.out ?_
        rotate_left
        · intro wq hSw; go_simp; first | done | with_reducible rfl
        simp only [List.getElem_toArray, List.getElem_cons_zero, List.getElem_cons_succ, Act.put, List.setIfInBounds_toArray, List.set_cons_zero, List.set_cons_succ]
        refine wpAnyH_take (i := 8) (v := ?_) rfl (by kernel_rfl) (by kernel_rfl) (by kernel_rfl) (fun _ _ _ h => h) (Or.inl ⟨by rfl, ?_⟩) Z2.out ?_
        rotate_left
        · intro wq hSw; go_simp; first | done | with_reducible rfl
        simp only [List.getElem_toArray, List.getElem_cons_zero, List.getElem_cons_succ, Act.put, List.setIfInBounds_toArray, List.set_cons_zero, List.set_cons_succ]
        refine wpAnyH_take (i := 9) (v := undef) rfl (by kernel_rfl) (by kernel_rfl) (by kernel_rfl) (fun _ _ _ h => h) (Or.inr ⟨by rfl, rfl⟩) Z2.out ?_
        simp only [List.getElem_toArray, List.getElem_cons_zero, List.getElem_cons_succ, Act.put, List.setIfInBounds_toArray, List.set_cons_zero, List.set_cons_succ]
        refine wpAnyH_take (i := 10) (v := undef) rfl (by kernel_rfl) (by kernel_rfl) (by kernel_rfl) (fun _ _ _ h => h) (Or.inr ⟨by rfl, rfl⟩) Z2.out ?_
        simp only [List.getElem_toArray, List.getElem_cons_zero, List.getElem_cons_succ, Act.put, List.setIfInBounds_toArray, List.set_cons_zero, List.set_cons_succ]
        refine wpAnyH_take (i := 11) (v := undef) rfl (by kernel_rfl) (by kernel_rfl) (by kernel_rfl) (fun _ _ _ h => h) (Or.inr ⟨by rfl, rfl⟩) Z2.out ?_
        simp only [List.getElem_toArray, List.getElem_cons_zero, List.getElem_cons_succ, Act.put, List.setIfInBounds_toArray, List.set_cons_zero, List.set_cons_succ]
        refine wpAnyH_take (i := 12) (v := undef) rfl (by kernel_rfl) (by kernel_rfl) (by kernel_rfl) (fun _ _ _ h => h) (Or.inr ⟨by rfl, rfl⟩) Z2.out ?_
        simp only [List.getElem_toArray, List.getElem_cons_zero, List.getElem_cons_succ, Act.put, List.setIfInBounds_toArray, List.set_cons_zero, List.set_cons_succ]
        refine wpAnyH_take (i := 13) (v := undef) rfl (by kernel_rfl) (by kernel_rfl) (by kernel_rfl) (fun _ _ _ h => h) (Or.inr ⟨by rfl, rfl⟩) Z2.out ?_
        simp only [List.getElem_toArray, List.getElem_cons_zero, List.getElem_cons_succ, Act.put, List.setIfInBounds_toArray, List.set_cons_zero, List.set_cons_succ]
        refine wpAnyH_take (i := 14) (v := ?_) rfl (by kernel_rfl) (by kernel_rfl) (by kernel_rfl) (fun _ _ _ h => h) (Or.inl ⟨by rfl, ?_⟩) Z2.out ?_
        rotate_left
        · intro wq hSw; go_simp; first | done | with_reducible rfl
        simp only [List.getElem_toArray, List.getElem_cons_zero, List.getElem_cons_succ, Act.put, List.setIfInBounds_toArray, List.set_cons_zero, List.set_cons_succ]
        refine wpAnyH_take (i := 15) (v := ?_) rfl (by kernel_rfl) (by kernel_rfl) (by kernel_rfl) (fun _ _ _ h => h) (Or.inl ⟨by rfl, ?_⟩) Z2.out ?_
        rotate_left
        · intro wq hSw; go_simp; first | done | with_reducible rfl
        simp only [List.getElem_toArray, List.getElem_cons_zero, List.getElem_cons_succ, Act.put, List.setIfInBounds_toArray, List.set_cons_zero, List.set_cons_succ]
        refine wpAnyH_take (i := 16) (v := undef) rfl (by kernel_rfl) (by kernel_rfl) (by kernel_rfl) (fun _ _ _ h => h) (Or.inr ⟨by rfl, rfl⟩) Z2.out ?_
        simp only [List.getElem_toArray, List.getElem_cons_zero, List.getElem_cons_succ, Act.put, List.setIfInBounds_toArray, List.set_cons_zero, List.set_cons_succ]
        refine wpAnyH_take (i := 17) (v := undef) rfl (by kernel_rfl) (by kernel_rfl) (by kernel_rfl) (fun _ _ _ h => h) (Or.inr ⟨by rfl, rfl⟩) Z2.out ?_
        simp only [List.getElem_toArray, List.getElem_cons_zero, List.getElem_cons_succ, Act.put, List.setIfInBounds_toArray, List.set_cons_zero, List.set_cons_succ]
        refine wpAnyH_take (i := 18) (v := undef) rfl (by kernel_rfl) (by kernel_rfl) (by kernel_rfl) (fun _ _ _ h => h) (Or.inr ⟨by rfl, rfl⟩) Z2.out ?_
        simp only [List.getElem_toArray, List.getElem_cons_zero, List.getElem_cons_succ, Act.put, List.setIfInBounds_toArray, List.set_cons_zero, List.set_cons_succ]
        refine wpAnyH_take (i := 19) (v := undef) rfl (by kernel_rfl) (by kernel_rfl) (by kernel_rfl) (fun _ _ _ h => h) (Or.inr ⟨by rfl, rfl⟩) Z2.out ?_
        simp only [List.getElem_toArray, List.getElem_cons_zero, List.getElem_cons_succ, Act.put, List.setIfInBounds_toArray, List.set_cons_zero, List.set_cons_succ]
        refine wpAnyH_take (i := 20) (v := undef) rfl (by kernel_rfl) (by kernel_rfl) (by kernel_rfl) (fun _ _ _ h => h) (Or.inr ⟨by rfl, rfl⟩) Z2.out ?_
        simp only [List.getElem_toArray, List.getElem_cons_zero, List.getElem_cons_succ, Act.put, List.setIfInBounds_toArray, List.set_cons_zero, List.set_cons_succ]
        refine wpAnyH_take (i := 21) (v := undef) rfl (by kernel_rfl) (by kernel_rfl) (by kernel_rfl) (fun _ _ _ h => h) (Or.inr ⟨by rfl, rfl⟩) Z2.out ?_
        simp only [List.getElem_toArray, List.getElem_cons_zero, List.getElem_cons_succ, Act.put, List.setIfInBounds_toArray, List.set_cons_zero, List.set_cons_succ]
        refine wpAnyH_take (i := 22) (v := undef) rfl (by kernel_rfl) (by kernel_rfl) (by kernel_rfl) (fun _ _ _ h => h) (Or.inr ⟨by rfl, rfl⟩) Z2.out ?_
        simp only [List.getElem_toArray, List.getElem_cons_zero, List.getElem_cons_succ, Act.put, List.setIfInBounds_toArray, List.set_cons_zero, List.set_cons_succ]
        refine wpAnyH_take (i := 23) (v := ?_) rfl (by kernel_rfl) (by kernel_rfl) (by kernel_rfl) (fun _ _ _ h => h) (Or.inl ⟨by rfl, ?_⟩) Z2.out ?_
        rotate_left
        · intro wq hSw; go_simp; first | done | with_reducible rfl
        simp only [List.getElem_toArray, List.getElem_cons_zero, List.getElem_cons_succ, Act.put, List.setIfInBounds_toArray, List.set_cons_zero, List.set_cons_succ]
        refine wpAnyH_take (i := 24) (v := ?_) rfl (by kernel_rfl) (by kernel_rfl) (by kernel_rfl) (fun _ _ _ h => h) (Or.inl ⟨by rfl, ?_⟩) Z2.out ?_
        rotate_left
        · intro wq hSw; go_simp; first | done | with_reducible rfl
        simp only [List.getElem_toArray, List.getElem_cons_zero, List.getElem_cons_succ, Act.put, List.setIfInBounds_toArray, List.set_cons_zero, List.set_cons_succ]
        refine wpAnyH_take (i := 25) (v := undef) rfl (by kernel_rfl) (by kernel_rfl) (by kernel_rfl) (fun _ _ _ h => h) (Or.inr ⟨by rfl, rfl⟩) Z2.out ?_
        simp only [List.getElem_toArray, List.getElem_cons_zero, List.getElem_cons_succ, Act.put, List.setIfInBounds_toArray, List.set_cons_zero, List.set_cons_succ]
        refine wpAnyH_take (i := 26) (v := undef) rfl (by kernel_rfl) (by kernel_rfl) (by kernel_rfl) (fun _ _ _ h => h) (Or.inr ⟨by rfl, rfl⟩) Z2.out ?_
        simp only [List.getElem_toArray, List.getElem_cons_zero, List.getElem_cons_succ, Act.put, List.setIfInBounds_toArray, List.set_cons_zero, List.set_cons_succ]
        refine wpAnyH_take (i := 27) (v := undef) rfl (by kernel_rfl) (by kernel_rfl) (by kernel_rfl) (fun _ _ _ h => h) (Or.inr ⟨by rfl, rfl⟩) Z2.out ?_
        simp only [List.getElem_toArray, List.getElem_cons_zero, List.getElem_cons_succ, Act.put, List.setIfInBounds_toArray, List.set_cons_zero, List.set_cons_succ]
        refine wpAnyH_take (i := 28) (v := undef) rfl (by kernel_rfl) (by kernel_rfl) (by kernel_rfl) (fun _ _ _ h => h) (Or.inr ⟨by rfl, rfl⟩) Z2.out ?_
        simp only [List.getElem_toArray, List.getElem_cons_zero, List.getElem_cons_succ, Act.put, List.setIfInBounds_toArray, List.set_cons_zero, List.set_cons_succ]
        refine wpAnyH_take (i := 29) (v := undef) rfl (by kernel_rfl) (by kernel_rfl) (by kernel_rfl) (fun _ _ _ h => h) (Or.inr ⟨by rfl, rfl⟩) Z2.out ?_
        simp only [List.getElem_toArray, List.getElem_cons_zero, List.getElem_cons_succ, Act.put, List.setIfInBounds_toArray, List.set_cons_zero, List.set_cons_succ]
        refine wpAnyH_take (i := 30) (v := undef) rfl (by kernel_rfl) (by kernel_rfl) (by kernel_rfl) (fun _ _ _ h => h) (Or.inr ⟨by rfl, rfl⟩) Z2.out ?_
        simp only [List.getElem_toArray, List.getElem_cons_zero, List.getElem_cons_succ, Act.put, List.setIfInBounds_toArray, List.set_cons_zero, List.set_cons_succ]
        refine wpAnyH_take (i := 31) (v := undef) rfl (by kernel_rfl) (by kernel_rfl) (by kernel_rfl) (fun _ _ _ h => h) (Or.inr ⟨by rfl, rfl⟩) Z2.out ?_
        simp only [List.getElem_toArray, List.getElem_cons_zero, List.getElem_cons_succ, Act.put, List.setIfInBounds_toArray, List.set_cons_zero, List.set_cons_succ]
        refine wpAnyH_take (i := 32) (v := undef) rfl (by kernel_rfl) (by kernel_rfl) (by kernel_rfl) (fun _ _ _ h => h) (Or.inr ⟨by rfl, rfl⟩) Z2.out ?_
        simp only [List.getElem_toArray, List.getElem_cons_zero, List.getElem_cons_succ, Act.put, List.setIfInBounds_toArray, List.set_cons_zero, List.set_cons_succ]
        refine wpAnyH_take (i := 33) (v := undef) rfl (by kernel_rfl) (by kernel_rfl) (by kernel_rfl) (fun _ _ _ h => h) (Or.inr ⟨by rfl, rfl⟩) Z2.out ?_
        simp only [List.getElem_toArray, List.getElem_cons_zero, List.getElem_cons_succ, Act.put, List.setIfInBounds_toArray, List.set_cons_zero, List.set_cons_succ]
        refine wpAnyH_take (i := 34) (v := undef) rfl (by kernel_rfl) (by kernel_rfl) (by kernel_rfl) (fun _ _ _ h => h) (Or.inr ⟨by rfl, rfl⟩) Z2.out ?_
        simp only [List.getElem_toArray, List.getElem_cons_zero, List.getElem_cons_succ, Act.put, List.setIfInBounds_toArray, List.set_cons_zero, List.set_cons_succ]
        refine wpAnyH_take (i := 35) (v := undef) rfl (by kernel_rfl) (by kernel_rfl) (by kernel_rfl) (fun _ _ _ h => h) (Or.inr ⟨by rfl, rfl⟩) Z2.out ?_
        simp only [List.getElem_toArray, List.getElem_cons_zero, List.getElem_cons_succ, Act.put, List.setIfInBounds_toArray, List.set_cons_zero, List.set_cons_succ]
        refine wpAnyH_take (i := 36) (v := ?_) rfl (by kernel_rfl) (by kernel_rfl) (by kernel_rfl) (fun _ _ _ h => h) (Or.inl ⟨by rfl, ?_⟩) Z2.out ?_
        rotate_left
        · intro wq hSw; go_simp; first | done | with_reducible rfl
        simp only [List.getElem_toArray, List.getElem_cons_zero, List.getElem_cons_succ, Act.put, List.setIfInBounds_toArray, List.set_cons_zero, List.set_cons_succ]
        refine wpAnyH_done (by kernel_rfl) ?_ _
        refine NoPanic.normal ?_
        refine hQQ.out _ _ ?_
        clear hQQ
        have cm : q2.cell? ⟨gm, 1, none⟩ = some (.slice none 0 0) := (KB_m_107.out.since Z2.out).cell 1
        go_wp2_with fail
        refine (gawake_any _).mono ?_
        rintro e ww9 ⟨rfl, b9⟩
        go_wp2_with fail
        go_ret
        exact ⟨rfl, bel_trans (bel_trans BEL107.out Z2.out) b9⟩
      have E1 : Hid (∀ w1, Below v9.heap.size v9 w1 → Calls Try.prog 13 #[.agg #[.int .u64 S, .slice A R cap]] w1 fun e w' => e = .returned (.bool true) ∧ Below v9.heap.size v9 w') := fun w1 b1 => (hright_any w1 _ S R _ _ (FA_a_107.out.since b1).at LL.out).mono fun e w' h => ⟨(told h true ⟨fun _ => rp, fun _ => rfl⟩).1, bel_trans b1 (told h true ⟨fun _ => rp, fun _ => rfl⟩).2⟩
      have E2 : Hid (∀ w1, Below v9.heap.size v9 w1 → Calls Try.prog 13 #[.agg #[.int .u64 S', .slice A' R' cap']] w1 fun e w' => e = .returned (.bool true) ∧ Below v9.heap.size v9 w') := fun w1 b1 => (hright_any w1 _ S' R' _ _ (FA_b_107.out.since b1).at LL'.out).mono fun e w' h => ⟨(told h true ⟨fun _ => rq, fun _ => rfl⟩).1, bel_trans b1 (told h true ⟨fun _ => rq, fun _ => rfl⟩).2⟩
      have p1 : 0 < R := by have := rp.1; omega
      have p2 : 0 < R' := by have := rq.1; omega
      obtain ⟨rfl, A2, cap2, b2, o2, d1, _⟩ := RA.out 0 p1
      obtain ⟨rfl, A3, cap3, b3, o3, d3, _⟩ := RB.out 0 p2
      rw [Nat.add_zero] at d1 d3
      obtain ⟨n, hn⟩ : ∃ n, n = L 0 := ⟨_, rfl⟩
      obtain ⟨n', hn'⟩ : ∃ n', n' = L' 0 := ⟨_, rfl⟩
      rw [← hn] at d1
      rw [← hn'] at d3
      have D1 : Hid (w.cell? ⟨bq, oq, none⟩ = some (.slice A2 n cap2)) := d1
      have D3 : Hid (w.cell? ⟨bq', oq', none⟩ = some (.slice A3 n' cap3)) := d3
      have i1 : (0 : Int) < (R : Int) := by omega
      have i2 : (0 : Int) < (R' : Int) := by omega
      have i3 : 0 < R := by omega
      have i4 : 0 < R' := by omega
      clear d1 d3
      by_cases hS : S = S'
      rotate_left
      · have ne : (S != S') = true := by simp; omega
        clear hS
        clear hok rp rq LL LL' hn hn'
        clear FA_a_107 FA_b_107 HF HG RA RB
        go_wp2_with fail
        refine letterQ ?_
        intro QQ hQQ
        have Z0 : Hid (Below v9.heap.size v9 v9.drew) := (Below.refl _ _).drew
        refine wp_region_held_drew (S := fun w2 => Below v9.heap.size v9 w2) (by kernel_rfl) Z0.out (fun hHeld => ?_)
        clear hHeld
        generalize v9.drew = q0 at Z0 ⊢
        refine wpAnyH_take (i := 0) (v := ?_) rfl (by kernel_rfl) (by kernel_rfl) (by kernel_rfl) (fun _ _ _ h => h) (Or.inl ⟨by rfl, ?_⟩) Z0.out ?_
        rotate_left
        · intro wq hSw; have cl0 := (KB_x_107.out.since hSw).cell 0; have cl1 := (KB_x_107.out.since hSw).cell 1; go_simp; first | done | with_reducible rfl
        simp only [List.getElem_toArray, List.getElem_cons_zero, Act.put, List.setIfInBounds_toArray, List.set_cons_zero, List.set_cons_succ]
        refine wpAnyH_ready (rs := [1]) (by kernel_rfl) (by simp) ?_
        refine AllReadyH.cons rfl (fun K0 hK0 => ?_) ?_
        rotate_left
        · exact AllReadyH.nil
        refine step_func 13 #[.agg #[.int .u64 S, .slice (some ⟨bq, oq, none⟩) R cap]] (by rfl) rfl (by simp [Act.eval]) (fun _ _ => by kernel_rfl) ?_
        refine (E1.out _ Z0.out).mono ?_
        rintro e q1 ⟨rfl, cc⟩
        have Z1 : Hid (Below v9.heap.size v9 q1) := cc
        clear cc
        refine ⟨_, rfl, ?_⟩
        refine hK0.out _ _ Z1.out (fun hHeld => ?_)
        clear hK0 K0 hHeld
        refine wpAnyH_take (i := 2) (v := ?_) rfl (by kernel_rfl) (by kernel_rfl) (by kernel_rfl) (fun _ _ _ h => h) (Or.inl ⟨by rfl, ?_⟩) Z1.out ?_
        rotate_left
        · intro wq hSw; go_simp; first | done | with_reducible rfl
        simp only [List.getElem_toArray, List.getElem_cons_zero, List.getElem_cons_succ, Act.put, List.setIfInBounds_toArray, List.set_cons_zero, List.set_cons_succ]
        refine wpAnyH_take (i := 3) (v := ?_) rfl (by kernel_rfl) (by kernel_rfl) (by kernel_rfl) (fun _ _ _ h => h) (Or.inl ⟨by rfl, ?_⟩) Z1.out ?_
        rotate_left
        · intro wq hSw; go_simp; first | done | with_reducible rfl
        simp only [List.getElem_toArray, List.getElem_cons_zero, List.getElem_cons_succ, Act.put, List.setIfInBounds_toArray, List.set_cons_zero, List.set_cons_succ]
        refine wpAnyH_take (i := 4) (v := ?_) rfl (by kernel_rfl) (by kernel_rfl) (by kernel_rfl) (fun _ _ _ h => h) (Or.inl ⟨by rfl, ?_⟩) Z1.out ?_
        rotate_left
        · intro wq hSw; have cl0 := (KB_y_107.out.since hSw).cell 0; have cl1 := (KB_y_107.out.since hSw).cell 1; go_simp; first | done | with_reducible rfl
        simp only [List.getElem_toArray, List.getElem_cons_zero, List.getElem_cons_succ, Act.put, List.setIfInBounds_toArray, List.set_cons_zero, List.set_cons_succ]
        refine wpAnyH_ready (rs := [5]) (by kernel_rfl) (by simp) ?_
        refine AllReadyH.cons rfl (fun K0 hK0 => ?_) ?_
        rotate_left
        · exact AllReadyH.nil
        refine step_func 13 #[.agg #[.int .u64 S', .slice (some ⟨bq', oq', none⟩) R' cap']] (by rfl) rfl (by simp [Act.eval]) (fun _ _ => by kernel_rfl) ?_
        refine (E2.out _ Z1.out).mono ?_
        rintro e q2 ⟨rfl, cc⟩
        have Z2 : Hid (Below v9.heap.size v9 q2) := cc
        clear cc
        refine ⟨_, rfl, ?_⟩
        refine hK0.out _ _ Z2.out (fun hHeld => ?_)
        clear hK0 K0 hHeld
        refine wpAnyH_take (i := 6) (v := ?_) rfl (by kernel_rfl) (by kernel_rfl) (by kernel_rfl) (fun _ _ _ h => h) (Or.inl ⟨by rfl, ?_⟩) Z2.out ?_
        rotate_left
        · intro wq hSw; go_simp; first | done | with_reducible rfl
        simp only [List.getElem_toArray, List.getElem_cons_zero, List.getElem_cons_succ, Act.put, List.setIfInBounds_toArray, List.set_cons_zero, List.set_cons_succ]
        refine wpAnyH_take (i := 7) (v := ?_) rfl (by kernel_rfl) (by kernel_rfl) (by kernel_rfl) (fun _ _ _ h => h) (Or.inl ⟨by rfl, ?_⟩) Z2.out ?_
        rotate_left
        · intro wq hSw; go_simp; first | done | with_reducible rfl
        simp only [List.getElem_toArray, List.getElem_cons_zero, List.getElem_cons_succ, Act.put, List.setIfInBounds_toArray, List.set_cons_zero, List.set_cons_succ]
        refine wpAnyH_take (i := 8) (v := ?_) rfl (by kernel_rfl) (by kernel_rfl) (by kernel_rfl) (fun _ _ _ h => h) (Or.inl ⟨by rfl, ?_⟩) Z2.out ?_
        rotate_left
        · intro wq hSw; go_simp; first | done | with_reducible rfl
        simp only [List.getElem_toArray, List.getElem_cons_zero, List.getElem_cons_succ, Act.put, List.setIfInBounds_toArray, List.set_cons_zero, List.set_cons_succ]
        refine wpAnyH_take (i := 9) (v := ?_) rfl (by kernel_rfl) (by kernel_rfl) (by kernel_rfl) (fun _ _ _ h => h) (Or.inl ⟨by rfl, ?_⟩) Z2.out ?_
        rotate_left
        · intro wq hSw; go_simp; first | done | with_reducible rfl
        simp only [List.getElem_toArray, List.getElem_cons_zero, List.getElem_cons_succ, Act.put, List.setIfInBounds_toArray, List.set_cons_zero, List.set_cons_succ]
        refine wpAnyH_take (i := 10) (v := ?_) rfl (by kernel_rfl) (by kernel_rfl) (by kernel_rfl) (fun _ _ _ h => h) (Or.inl ⟨by rfl, ?_⟩) Z2.out ?_
        rotate_left
        · intro wq hSw; have cl0 := (KB_bx_107.out.since hSw).cell 0; go_simp; first | done | with_reducible rfl
        simp only [List.getElem_toArray, List.getElem_cons_zero, List.getElem_cons_succ, Act.put, List.setIfInBounds_toArray, List.set_cons_zero, List.set_cons_succ]
        refine wpAnyH_take (i := 11) (v := ?_) rfl (by kernel_rfl) (by kernel_rfl) (by kernel_rfl) (fun _ _ _ h => h) (Or.inl ⟨by rfl, ?_⟩) Z2.out ?_
        rotate_left
        · intro wq hSw; go_simp; first | done | with_reducible rfl
        simp only [List.getElem_toArray, List.getElem_cons_zero, List.getElem_cons_succ, Act.put, List.setIfInBounds_toArray, List.set_cons_zero, List.set_cons_succ]
        refine wpAnyH_take (i := 12) (v := ?_) rfl (by kernel_rfl) (by kernel_rfl) (by kernel_rfl) (fun _ _ _ h => h) (Or.inl ⟨by rfl, ?_⟩) Z2.out ?_
        rotate_left
        · intro wq hSw; have cl0 := (KB_by_107.out.since hSw).cell 0; go_simp; first | done | with_reducible rfl
        simp only [List.getElem_toArray, List.getElem_cons_zero, List.getElem_cons_succ, Act.put, List.setIfInBounds_toArray, List.set_cons_zero, List.set_cons_succ]
        refine wpAnyH_take (i := 13) (v := ?_) rfl (by kernel_rfl) (by kernel_rfl) (by kernel_rfl) (fun _ _ _ h => h) (Or.inl ⟨by rfl, ?_⟩) Z2.out ?_
        rotate_left
        · intro wq hSw; go_simp; first | done | with_reducible rfl
        simp only [List.getElem_toArray, List.getElem_cons_zero, List.getElem_cons_succ, Act.put, List.setIfInBounds_toArray, List.set_cons_zero, List.set_cons_succ]
        refine wpAnyH_take (i := 14) (v := ?_) rfl (by kernel_rfl) (by kernel_rfl) (by kernel_rfl) (fun _ _ _ h => h) (Or.inl ⟨by rfl, ?_⟩) Z2.out ?_
        rotate_left
        · intro wq hSw; go_simp; first | done | with_reducible rfl
        simp only [List.getElem_toArray, List.getElem_cons_zero, List.getElem_cons_succ, Act.put, List.setIfInBounds_toArray, List.set_cons_zero, List.set_cons_succ]
        refine wpAnyH_take (i := 15) (v := ?_) rfl (by kernel_rfl) (by kernel_rfl) (by kernel_rfl) (fun _ _ _ h => h) (Or.inl ⟨by rfl, ?_⟩) Z2.out ?_
        rotate_left
        · intro wq hSw; go_simp; first | done | with_reducible rfl
        simp only [List.getElem_toArray, List.getElem_cons_zero, List.getElem_cons_succ, Act.put, List.setIfInBounds_toArray, List.set_cons_zero, List.set_cons_succ]
        refine wpAnyH_take (i := 16) (v := undef) rfl (by kernel_rfl) (by kernel_rfl) (by kernel_rfl) (fun _ _ _ h => h) (Or.inr ⟨by rfl, rfl⟩) Z2.out ?_
        simp only [List.getElem_toArray, List.getElem_cons_zero, List.getElem_cons_succ, Act.put, List.setIfInBounds_toArray, List.set_cons_zero, List.set_cons_succ]
        refine wpAnyH_take (i := 17) (v := undef) rfl (by kernel_rfl) (by kernel_rfl) (by kernel_rfl) (fun _ _ _ h => h) (Or.inr ⟨by rfl, rfl⟩) Z2.out ?_
        simp only [List.getElem_toArray, List.getElem_cons_zero, List.getElem_cons_succ, Act.put, List.setIfInBounds_toArray, List.set_cons_zero, List.set_cons_succ]
        refine wpAnyH_take (i := 18) (v := undef) rfl (by kernel_rfl) (by kernel_rfl) (by kernel_rfl) (fun _ _ _ h => h) (Or.inr ⟨by rfl, rfl⟩) Z2.out ?_
        simp only [List.getElem_toArray, List.getElem_cons_zero, List.getElem_cons_succ, Act.put, List.setIfInBounds_toArray, List.set_cons_zero, List.set_cons_succ]
        refine wpAnyH_take (i := 19) (v := undef) rfl (by kernel_rfl) (by kernel_rfl) (by kernel_rfl) (fun _ _ _ h => h) (Or.inr ⟨by rfl, rfl⟩) Z2.out ?_
        simp only [List.getElem_toArray, List.getElem_cons_zero, List.getElem_cons_succ, Act.put, List.setIfInBounds_toArray, List.set_cons_zero, List.set_cons_succ]
        refine wpAnyH_take (i := 20) (v := undef) rfl (by kernel_rfl) (by kernel_rfl) (by kernel_rfl) (fun _ _ _ h => h) (Or.inr ⟨by rfl, rfl⟩) Z2.out ?_
        simp only [List.getElem_toArray, List.getElem_cons_zero, List.getElem_cons_succ, Act.put, List.setIfInBounds_toArray, List.set_cons_zero, List.set_cons_succ]
        refine wpAnyH_take (i := 21) (v := undef) rfl (by kernel_rfl) (by kernel_rfl) (by kernel_rfl) (fun _ _ _ h => h) (Or.inr ⟨by rfl, rfl⟩) Z2.out ?_
        simp only [List.getElem_toArray, List.getElem_cons_zero, List.getElem_cons_succ, Act.put, List.setIfInBounds_toArray, List.set_cons_zero, List.set_cons_succ]
        refine wpAnyH_take (i := 22) (v := undef) rfl (by kernel_rfl) (by kernel_rfl) (by kernel_rfl) (fun _ _ _ h => h) (Or.inr ⟨by rfl, rfl⟩) Z2.out ?_
        simp only [List.getElem_toArray, List.getElem_cons_zero, List.getElem_cons_succ, Act.put, List.setIfInBounds_toArray, List.set_cons_zero, List.set_cons_succ]
        refine wpAnyH_take (i := 23) (v := ?_) rfl (by kernel_rfl) (by kernel_rfl) (by kernel_rfl) (fun _ _ _ h => h) (Or.inl ⟨by rfl, ?_⟩) Z2.out ?_
        rotate_left
        · intro wq hSw; go_simp; first | done | with_reducible rfl
        simp only [List.getElem_toArray, List.getElem_cons_zero, List.getElem_cons_succ, Act.put, List.setIfInBounds_toArray, List.set_cons_zero, List.set_cons_succ]
        refine wpAnyH_take (i := 24) (v := ?_) rfl (by kernel_rfl) (by kernel_rfl) (by kernel_rfl) (fun _ _ _ h => h) (Or.inl ⟨by rfl, ?_⟩) Z2.out ?_
        rotate_left
        · intro wq hSw; go_simp; first | done | with_reducible rfl
        simp only [List.getElem_toArray, List.getElem_cons_zero, List.getElem_cons_succ, Act.put, List.setIfInBounds_toArray, List.set_cons_zero, List.set_cons_succ]
        refine wpAnyH_take (i := 25) (v := undef) rfl (by kernel_rfl) (by kernel_rfl) (by kernel_rfl) (fun _ _ _ h => h) (Or.inr ⟨by rfl, rfl⟩) Z2.out ?_
        simp only [List.getElem_toArray, List.getElem_cons_zero, List.getElem_cons_succ, Act.put, List.setIfInBounds_toArray, List.set_cons_zero, List.set_cons_succ]
        refine wpAnyH_take (i := 26) (v := undef) rfl (by kernel_rfl) (by kernel_rfl) (by kernel_rfl) (fun _ _ _ h => h) (Or.inr ⟨by rfl, rfl⟩) Z2.out ?_
        simp only [List.getElem_toArray, List.getElem_cons_zero, List.getElem_cons_succ, Act.put, List.setIfInBounds_toArray, List.set_cons_zero, List.set_cons_succ]
        refine wpAnyH_take (i := 27) (v := undef) rfl (by kernel_rfl) (by kernel_rfl) (by kernel_rfl) (fun _ _ _ h => h) (Or.inr ⟨by rfl, rfl⟩) Z2.out ?_
        simp only [List.getElem_toArray, List.getElem_cons_zero, List.getElem_cons_succ, Act.put, List.setIfInBounds_toArray, List.set_cons_zero, List.set_cons_succ]
        refine wpAnyH_take (i := 28) (v := undef) rfl (by kernel_rfl) (by kernel_rfl) (by kernel_rfl) (fun _ _ _ h => h) (Or.inr ⟨by rfl, rfl⟩) Z2.out ?_
        simp only [List.getElem_toArray, List.getElem_cons_zero, List.getElem_cons_succ, Act.put, List.setIfInBounds_toArray, List.set_cons_zero, List.set_cons_succ]
        refine wpAnyH_take (i := 29) (v := undef) rfl (by kernel_rfl) (by kernel_rfl) (by kernel_rfl) (fun _ _ _ h => h) (Or.inr ⟨by rfl, rfl⟩) Z2.out ?_
        simp only [List.getElem_toArray, List.getElem_cons_zero, List.getElem_cons_succ, Act.put, List.setIfInBounds_toArray, List.set_cons_zero, List.set_cons_succ]
        refine wpAnyH_take (i := 30) (v := undef) rfl (by kernel_rfl) (by kernel_rfl) (by kernel_rfl) (fun _ _ _ h => h) (Or.inr ⟨by rfl, rfl⟩) Z2.out ?_
        simp only [List.getElem_toArray, List.getElem_cons_zero, List.getElem_cons_succ, Act.put, List.setIfInBounds_toArray, List.set_cons_zero, List.set_cons_succ]
        refine wpAnyH_take (i := 31) (v := undef) rfl (by kernel_rfl) (by kernel_rfl) (by kernel_rfl) (fun _ _ _ h => h) (Or.inr ⟨by rfl, rfl⟩) Z2.out ?_
        simp only [List.getElem_toArray, List.getElem_cons_zero, List.getElem_cons_succ, Act.put, List.setIfInBounds_toArray, List.set_cons_zero, List.set_cons_succ]
        refine wpAnyH_take (i := 32) (v := undef) rfl (by kernel_rfl) (by kernel_rfl) (by kernel_rfl) (fun _ _ _ h => h) (Or.inr ⟨by rfl, rfl⟩) Z2.out ?_
        simp only [List.getElem_toArray, List.getElem_cons_zero, List.getElem_cons_succ, Act.put, List.setIfInBounds_toArray, List.set_cons_zero, List.set_cons_succ]
        refine wpAnyH_take (i := 33) (v := undef) rfl (by kernel_rfl) (by kernel_rfl) (by kernel_rfl) (fun _ _ _ h => h) (Or.inr ⟨by rfl, rfl⟩) Z2.out ?_
        simp only [List.getElem_toArray, List.getElem_cons_zero, List.getElem_cons_succ, Act.put, List.setIfInBounds_toArray, List.set_cons_zero, List.set_cons_succ]
        refine wpAnyH_take (i := 34) (v := undef) rfl (by kernel_rfl) (by kernel_rfl) (by kernel_rfl) (fun _ _ _ h => h) (Or.inr ⟨by rfl, rfl⟩) Z2.out ?_
        simp only [List.getElem_toArray, List.getElem_cons_zero, List.getElem_cons_succ, Act.put, List.setIfInBounds_toArray, List.set_cons_zero, List.set_cons_succ]
        refine wpAnyH_take (i := 35) (v := undef) rfl (by kernel_rfl) (by kernel_rfl) (by kernel_rfl) (fun _ _ _ h => h) (Or.inr ⟨by rfl, rfl⟩) Z2.out ?_
        simp only [List.getElem_toArray, List.getElem_cons_zero, List.getElem_cons_succ, Act.put, List.setIfInBounds_toArray, List.set_cons_zero, List.set_cons_succ]
        refine wpAnyH_take (i := 36) (v := ?_) rfl (by kernel_rfl) (by kernel_rfl) (by kernel_rfl) (fun _ _ _ h => h) (Or.inl ⟨by rfl, ?_⟩) Z2.out ?_
        rotate_left
        · intro wq hSw; go_simp; first | done | with_reducible rfl
        simp only [List.getElem_toArray, List.getElem_cons_zero, List.getElem_cons_succ, Act.put, List.setIfInBounds_toArray, List.set_cons_zero, List.set_cons_succ]
        refine wpAnyH_done (by kernel_rfl) ?_ _
        refine NoPanic.normal ?_
        refine hQQ.out _ _ ?_
        clear hQQ
        have cm : q2.cell? ⟨gm, 1, none⟩ = some (.slice none 0 0) := (KB_m_107.out.since Z2.out).cell 1
        go_wp2_with fail
        refine (gawake_any _).mono ?_
        rintro e ww9 ⟨rfl, b9⟩
        go_wp2_with fail
        go_ret
        exact ⟨rfl, bel_trans (bel_trans BEL107.out Z2.out) b9⟩
      have eq3 : (S != S') = false := by simp; omega
      have HH3 : Hid (S = S') := hS
      clear hS
      by_cases hR : R = R'
      rotate_left
      · have ne : ((R : Int) != (R' : Int)) = true := by simp; omega
        clear hR
        clear hok rp rq LL LL' hn hn'
        clear FA_a_107 FA_b_107 HF HG RA RB
        go_wp2_with fail
        refine letterQ ?_
        intro QQ hQQ
        have Z0 : Hid (Below v9.heap.size v9 v9.drew) := (Below.refl _ _).drew
        refine wp_region_held_drew (S := fun w2 => Below v9.heap.size v9 w2) (by kernel_rfl) Z0.out (fun hHeld => ?_)
        clear hHeld
        generalize v9.drew = q0 at Z0 ⊢
        refine wpAnyH_take (i := 0) (v := ?_) rfl (by kernel_rfl) (by kernel_rfl) (by kernel_rfl) (fun _ _ _ h => h) (Or.inl ⟨by rfl, ?_⟩) Z0.out ?_
        rotate_left
        · intro wq hSw; have cl0 := (KB_x_107.out.since hSw).cell 0; have cl1 := (KB_x_107.out.since hSw).cell 1; go_simp; first | done | with_reducible rfl
        simp only [List.getElem_toArray, List.getElem_cons_zero, Act.put, List.setIfInBounds_toArray, List.set_cons_zero, List.set_cons_succ]
        refine wpAnyH_ready (rs := [1]) (by kernel_rfl) (by simp) ?_
        refine AllReadyH.cons rfl (fun K0 hK0 => ?_) ?_
        rotate_left
        · exact AllReadyH.nil
        refine step_func 13 #[.agg #[.int .u64 S, .slice (some ⟨bq, oq, none⟩) R cap]] (by rfl) rfl (by simp [Act.eval]) (fun _ _ => by kernel_rfl) ?_
        refine (E1.out _ Z0.out).mono ?_
        rintro e q1 ⟨rfl, cc⟩
        have Z1 : Hid (Below v9.heap.size v9 q1) := cc
        clear cc
        refine ⟨_, rfl, ?_⟩
        refine hK0.out _ _ Z1.out (fun hHeld => ?_)
        clear hK0 K0 hHeld
        refine wpAnyH_take (i := 2) (v := ?_) rfl (by kernel_rfl) (by kernel_rfl) (by kernel_rfl) (fun _ _ _ h => h) (Or.inl ⟨by rfl, ?_⟩) Z1.out ?_
        rotate_left
        · intro wq hSw; go_simp; first | done | with_reducible rfl
        simp only [List.getElem_toArray, List.getElem_cons_zero, List.getElem_cons_succ, Act.put, List.setIfInBounds_toArray, List.set_cons_zero, List.set_cons_succ]
        refine wpAnyH_take (i := 3) (v := ?_) rfl (by kernel_rfl) (by kernel_rfl) (by kernel_rfl) (fun _ _ _ h => h) (Or.inl ⟨by rfl, ?_⟩) Z1.out ?_
        rotate_left
        · intro wq hSw; go_simp; first | done | with_reducible rfl
        simp only [List.getElem_toArray, List.getElem_cons_zero, List.getElem_cons_succ, Act.put, List.setIfInBounds_toArray, List.set_cons_zero, List.set_cons_succ]
        refine wpAnyH_take (i := 4) (v := ?_) rfl (by kernel_rfl) (by kernel_rfl) (by kernel_rfl) (fun _ _ _ h => h) (Or.inl ⟨by rfl, ?_⟩) Z1.out ?_
        rotate_left
        · intro wq hSw; have cl0 := (KB_y_107.out.since hSw).cell 0; have cl1 := (KB_y_107.out.since hSw).cell 1; go_simp; first | done | with_reducible rfl
        simp only [List.getElem_toArray, List.getElem_cons_zero, List.getElem_cons_succ, Act.put, List.setIfInBounds_toArray, List.set_cons_zero, List.set_cons_succ]
        refine wpAnyH_ready (rs := [5]) (by kernel_rfl) (by simp) ?_
        refine AllReadyH.cons rfl (fun K0 hK0 => ?_) ?_
        rotate_left
        · exact AllReadyH.nil
        refine step_func 13 #[.agg #[.int .u64 S', .slice (some ⟨bq', oq', none⟩) R' cap']] (by rfl) rfl (by simp [Act.eval]) (fun _ _ => by kernel_rfl) ?_
        refine (E2.out _ Z1.out).mono ?_
        rintro e q2 ⟨rfl, cc⟩
        have Z2 : Hid (Below v9.heap.size v9 q2) := cc
        clear cc
        refine ⟨_, rfl, ?_⟩
        refine hK0.out _ _ Z2.out (fun hHeld => ?_)
        clear hK0 K0 hHeld
        refine wpAnyH_take (i := 6) (v := ?_) rfl (by kernel_rfl) (by kernel_rfl) (by kernel_rfl) (fun _ _ _ h => h) (Or.inl ⟨by rfl, ?_⟩) Z2.out ?_
        rotate_left
        · intro wq hSw; go_simp; first | done | with_reducible rfl
        simp only [List.getElem_toArray, List.getElem_cons_zero, List.getElem_cons_succ, Act.put, List.setIfInBounds_toArray, List.set_cons_zero, List.set_cons_succ]
        refine wpAnyH_take (i := 7) (v := ?_) rfl (by kernel_rfl) (by kernel_rfl) (by kernel_rfl) (fun _ _ _ h => h) (Or.inl ⟨by rfl, ?_⟩) Z2.out ?_
        rotate_left
        · intro wq hSw; go_simp; first | done | with_reducible rfl
        simp only [List.getElem_toArray, List.getElem_cons_zero, List.getElem_cons_succ, Act.put, List.setIfInBounds_toArray, List.set_cons_zero, List.set_cons_succ]
        refine wpAnyH_take (i := 8) (v := ?_) rfl (by kernel_rfl) (by kernel_rfl) (by kernel_rfl) (fun _ _ _ h => h) (Or.inl ⟨by rfl, ?_⟩) Z2.out ?_
        rotate_left
        · intro wq hSw; go_simp; first | done | with_reducible rfl
        simp only [List.getElem_toArray, List.getElem_cons_zero, List.getElem_cons_succ, Act.put, List.setIfInBounds_toArray, List.set_cons_zero, List.set_cons_succ]
        refine wpAnyH_take (i := 9) (v := ?_) rfl (by kernel_rfl) (by kernel_rfl) (by kernel_rfl) (fun _ _ _ h => h) (Or.inl ⟨by rfl, ?_⟩) Z2.out ?_
        rotate_left
        · intro wq hSw; go_simp; first | done | with_reducible rfl
        simp only [List.getElem_toArray, List.getElem_cons_zero, List.getElem_cons_succ, Act.put, List.setIfInBounds_toArray, List.set_cons_zero, List.set_cons_succ]
        refine wpAnyH_take (i := 10) (v := ?_) rfl (by kernel_rfl) (by kernel_rfl) (by kernel_rfl) (fun _ _ _ h => h) (Or.inl ⟨by rfl, ?_⟩) Z2.out ?_
        rotate_left
        · intro wq hSw; have cl0 := (KB_bx_107.out.since hSw).cell 0; go_simp; first | done | with_reducible rfl
        simp only [List.getElem_toArray, List.getElem_cons_zero, List.getElem_cons_succ, Act.put, List.setIfInBounds_toArray, List.set_cons_zero, List.set_cons_succ]
        refine wpAnyH_take (i := 11) (v := ?_) rfl (by kernel_rfl) (by kernel_rfl) (by kernel_rfl) (fun _ _ _ h => h) (Or.inl ⟨by rfl, ?_⟩) Z2.out ?_
        rotate_left
        · intro wq hSw; go_simp; first | done | with_reducible rfl
        simp only [List.getElem_toArray, List.getElem_cons_zero, List.getElem_cons_succ, Act.put, List.setIfInBounds_toArray, List.set_cons_zero, List.set_cons_succ]
        refine wpAnyH_take (i := 12) (v := ?_) rfl (by kernel_rfl) (by kernel_rfl) (by kernel_rfl) (fun _ _ _ h => h) (Or.inl ⟨by rfl, ?_⟩) Z2.out ?_
        rotate_left
        · intro wq hSw; have cl0 := (KB_by_107.out.since hSw).cell 0; go_simp; first | done | with_reducible rfl
        simp only [List.getElem_toArray, List.getElem_cons_zero, List.getElem_cons_succ, Act.put, List.setIfInBounds_toArray, List.set_cons_zero, List.set_cons_succ]
        refine wpAnyH_take (i := 13) (v := ?_) rfl (by kernel_rfl) (by kernel_rfl) (by kernel_rfl) (fun _ _ _ h => h) (Or.inl ⟨by rfl, ?_⟩) Z2.out ?_
        rotate_left
        · intro wq hSw; go_simp; first | done | with_reducible rfl
        simp only [List.getElem_toArray, List.getElem_cons_zero, List.getElem_cons_succ, Act.put, List.setIfInBounds_toArray, List.set_cons_zero, List.set_cons_succ]
        refine wpAnyH_take (i := 14) (v := ?_) rfl (by kernel_rfl) (by kernel_rfl) (by kernel_rfl) (fun _ _ _ h => h) (Or.inl ⟨by rfl, ?_⟩) Z2.out ?_
        rotate_left
        · intro wq hSw; go_simp; first | done | with_reducible rfl
        simp only [List.getElem_toArray, List.getElem_cons_zero, List.getElem_cons_succ, Act.put, List.setIfInBounds_toArray, List.set_cons_zero, List.set_cons_succ]
        refine wpAnyH_take (i := 15) (v := ?_) rfl (by kernel_rfl) (by kernel_rfl) (by kernel_rfl) (fun _ _ _ h => h) (Or.inl ⟨by rfl, ?_⟩) Z2.out ?_
        rotate_left
        · intro wq hSw; go_simp; first | done | with_reducible rfl
        simp only [List.getElem_toArray, List.getElem_cons_zero, List.getElem_cons_succ, Act.put, List.setIfInBounds_toArray, List.set_cons_zero, List.set_cons_succ]
        refine wpAnyH_take (i := 16) (v := ?_) rfl (by kernel_rfl) (by kernel_rfl) (by kernel_rfl) (fun _ _ _ h => h) (Or.inl ⟨by rfl, ?_⟩) Z2.out ?_
        rotate_left
        · intro wq hSw; go_simp; first | done | with_reducible rfl
        simp only [List.getElem_toArray, List.getElem_cons_zero, List.getElem_cons_succ, Act.put, List.setIfInBounds_toArray, List.set_cons_zero, List.set_cons_succ]
        refine wpAnyH_take (i := 17) (v := ?_) rfl (by kernel_rfl) (by kernel_rfl) (by kernel_rfl) (fun _ _ _ h => h) (Or.inl ⟨by rfl, ?_⟩) Z2.out ?_
        rotate_left
        · intro wq hSw; have cl0 := (KB_bx_107.out.since hSw).cell 1; go_simp; first | done | with_reducible rfl
        simp only [List.getElem_toArray, List.getElem_cons_zero, List.getElem_cons_succ, Act.put, List.setIfInBounds_toArray, List.set_cons_zero, List.set_cons_succ]
        refine wpAnyH_take (i := 18) (v := ?_) rfl (by kernel_rfl) (by kernel_rfl) (by kernel_rfl) (fun _ _ _ h => h) (Or.inl ⟨by rfl, ?_⟩) Z2.out ?_
        rotate_left
        · intro wq hSw; go_simp; first | done | with_reducible rfl
        simp only [List.getElem_toArray, List.getElem_cons_zero, List.getElem_cons_succ, Act.put, List.setIfInBounds_toArray, List.set_cons_zero, List.set_cons_succ]
        refine wpAnyH_take (i := 19) (v := ?_) rfl (by kernel_rfl) (by kernel_rfl) (by kernel_rfl) (fun _ _ _ h => h) (Or.inl ⟨by rfl, ?_⟩) Z2.out ?_
        rotate_left
        · intro wq hSw; go_simp; first | done | with_reducible rfl
        simp only [List.getElem_toArray, List.getElem_cons_zero, List.getElem_cons_succ, Act.put, List.setIfInBounds_toArray, List.set_cons_zero, List.set_cons_succ]
        refine wpAnyH_take (i := 20) (v := ?_) rfl (by kernel_rfl) (by kernel_rfl) (by kernel_rfl) (fun _ _ _ h => h) (Or.inl ⟨by rfl, ?_⟩) Z2.out ?_
        rotate_left
        · intro wq hSw; have cl0 := (KB_by_107.out.since hSw).cell 1; go_simp; first | done | with_reducible rfl
        simp only [List.getElem_toArray, List.getElem_cons_zero, List.getElem_cons_succ, Act.put, List.setIfInBounds_toArray, List.set_cons_zero, List.set_cons_succ]
        refine wpAnyH_take (i := 21) (v := ?_) rfl (by kernel_rfl) (by kernel_rfl) (by kernel_rfl) (fun _ _ _ h => h) (Or.inl ⟨by rfl, ?_⟩) Z2.out ?_
        rotate_left
        · intro wq hSw; go_simp; first | done | with_reducible rfl
        simp only [List.getElem_toArray, List.getElem_cons_zero, List.getElem_cons_succ, Act.put, List.setIfInBounds_toArray, List.set_cons_zero, List.set_cons_succ]
        refine wpAnyH_take (i := 22) (v := ?_) rfl (by kernel_rfl) (by kernel_rfl) (by kernel_rfl) (fun _ _ _ h => h) (Or.inl ⟨by rfl, ?_⟩) Z2.out ?_
        rotate_left
        · intro wq hSw; go_simp; first | done | with_reducible rfl
        simp only [List.getElem_toArray, List.getElem_cons_zero, List.getElem_cons_succ, Act.put, List.setIfInBounds_toArray, List.set_cons_zero, List.set_cons_succ]
        refine wpAnyH_take (i := 23) (v := ?_) rfl (by kernel_rfl) (by kernel_rfl) (by kernel_rfl) (fun _ _ _ h => h) (Or.inl ⟨by rfl, ?_⟩) Z2.out ?_
        rotate_left
        · intro wq hSw; go_simp; first | done | with_reducible rfl
        simp only [List.getElem_toArray, List.getElem_cons_zero, List.getElem_cons_succ, Act.put, List.setIfInBounds_toArray, List.set_cons_zero, List.set_cons_succ]
        refine wpAnyH_take (i := 24) (v := ?_) rfl (by kernel_rfl) (by kernel_rfl) (by kernel_rfl) (fun _ _ _ h => h) (Or.inl ⟨by rfl, ?_⟩) Z2.out ?_
        rotate_left
        · intro wq hSw; go_simp; first | done | with_reducible rfl
        simp only [List.getElem_toArray, List.getElem_cons_zero, List.getElem_cons_succ, Act.put, List.setIfInBounds_toArray, List.set_cons_zero, List.set_cons_succ]
        refine wpAnyH_take (i := 25) (v := undef) rfl (by kernel_rfl) (by kernel_rfl) (by kernel_rfl) (fun _ _ _ h => h) (Or.inr ⟨by rfl, rfl⟩) Z2.out ?_
        simp only [List.getElem_toArray, List.getElem_cons_zero, List.getElem_cons_succ, Act.put, List.setIfInBounds_toArray, List.set_cons_zero, List.set_cons_succ]
        refine wpAnyH_take (i := 26) (v := undef) rfl (by kernel_rfl) (by kernel_rfl) (by kernel_rfl) (fun _ _ _ h => h) (Or.inr ⟨by rfl, rfl⟩) Z2.out ?_
        simp only [List.getElem_toArray, List.getElem_cons_zero, List.getElem_cons_succ, Act.put, List.setIfInBounds_toArray, List.set_cons_zero, List.set_cons_succ]
        refine wpAnyH_take (i := 27) (v := undef) rfl (by kernel_rfl) (by kernel_rfl) (by kernel_rfl) (fun _ _ _ h => h) (Or.inr ⟨by rfl, rfl⟩) Z2.out ?_
        simp only [List.getElem_toArray, List.getElem_cons_zero, List.getElem_cons_succ, Act.put, List.setIfInBounds_toArray, List.set_cons_zero, List.set_cons_succ]
        refine wpAnyH_take (i := 28) (v := undef) rfl (by kernel_rfl) (by kernel_rfl) (by kernel_rfl) (fun _ _ _ h => h) (Or.inr ⟨by rfl, rfl⟩) Z2.out ?_
        simp only [List.getElem_toArray, List.getElem_cons_zero, List.getElem_cons_succ, Act.put, List.setIfInBounds_toArray, List.set_cons_zero, List.set_cons_succ]
        refine wpAnyH_take (i := 29) (v := undef) rfl (by kernel_rfl) (by kernel_rfl) (by kernel_rfl) (fun _ _ _ h => h) (Or.inr ⟨by rfl, rfl⟩) Z2.out ?_
        simp only [List.getElem_toArray, List.getElem_cons_zero, List.getElem_cons_succ, Act.put, List.setIfInBounds_toArray, List.set_cons_zero, List.set_cons_succ]
        refine wpAnyH_take (i := 30) (v := undef) rfl (by kernel_rfl) (by kernel_rfl) (by kernel_rfl) (fun _ _ _ h => h) (Or.inr ⟨by rfl, rfl⟩) Z2.out ?_
        simp only [List.getElem_toArray, List.getElem_cons_zero, List.getElem_cons_succ, Act.put, List.setIfInBounds_toArray, List.set_cons_zero, List.set_cons_succ]
        refine wpAnyH_take (i := 31) (v := undef) rfl (by kernel_rfl) (by kernel_rfl) (by kernel_rfl) (fun _ _ _ h => h) (Or.inr ⟨by rfl, rfl⟩) Z2.out ?_
        simp only [List.getElem_toArray, List.getElem_cons_zero, List.getElem_cons_succ, Act.put, List.setIfInBounds_toArray, List.set_cons_zero, List.set_cons_succ]
        refine wpAnyH_take (i := 32) (v := undef) rfl (by kernel_rfl) (by kernel_rfl) (by kernel_rfl) (fun _ _ _ h => h) (Or.inr ⟨by rfl, rfl⟩) Z2.out ?_
        simp only [List.getElem_toArray, List.getElem_cons_zero, List.getElem_cons_succ, Act.put, List.setIfInBounds_toArray, List.set_cons_zero, List.set_cons_succ]
        refine wpAnyH_take (i := 33) (v := undef) rfl (by kernel_rfl) (by kernel_rfl) (by kernel_rfl) (fun _ _ _ h => h) (Or.inr ⟨by rfl, rfl⟩) Z2.out ?_
        simp only [List.getElem_toArray, List.getElem_cons_zero, List.getElem_cons_succ, Act.put, List.setIfInBounds_toArray, List.set_cons_zero, List.set_cons_succ]
        refine wpAnyH_take (i := 34) (v := undef) rfl (by kernel_rfl) (by kernel_rfl) (by kernel_rfl) (fun _ _ _ h => h) (Or.inr ⟨by rfl, rfl⟩) Z2.out ?_
        simp only [List.getElem_toArray, List.getElem_cons_zero, List.getElem_cons_succ, Act.put, List.setIfInBounds_toArray, List.set_cons_zero, List.set_cons_succ]
        refine wpAnyH_take (i := 35) (v := undef) rfl (by kernel_rfl) (by kernel_rfl) (by kernel_rfl) (fun _ _ _ h => h) (Or.inr ⟨by rfl, rfl⟩) Z2.out ?_
        simp only [List.getElem_toArray, List.getElem_cons_zero, List.getElem_cons_succ, Act.put, List.setIfInBounds_toArray, List.set_cons_zero, List.set_cons_succ]
        refine wpAnyH_take (i := 36) (v := ?_) rfl (by kernel_rfl) (by kernel_rfl) (by kernel_rfl) (fun _ _ _ h => h) (Or.inl ⟨by rfl, ?_⟩) Z2.out ?_
        rotate_left
        · intro wq hSw; go_simp; first | done | with_reducible rfl
        simp only [List.getElem_toArray, List.getElem_cons_zero, List.getElem_cons_succ, Act.put, List.setIfInBounds_toArray, List.set_cons_zero, List.set_cons_succ]
        refine wpAnyH_done (by kernel_rfl) ?_ _
        refine NoPanic.normal ?_
        refine hQQ.out _ _ ?_
        clear hQQ
        have cm : q2.cell? ⟨gm, 1, none⟩ = some (.slice none 0 0) := (KB_m_107.out.since Z2.out).cell 1
        go_wp2_with fail
        refine (gawake_any _).mono ?_
        rintro e ww9 ⟨rfl, b9⟩
        go_wp2_with fail
        go_ret
        exact ⟨rfl, bel_trans (bel_trans BEL107.out Z2.out) b9⟩
      have eq4 : ((R : Int) != (R' : Int)) = false := by simp; omega
      have HH4 : Hid (R = R') := hR
      clear hR
      have hN : ¬ n = n' := fun e => hok ⟨rp, rq, HH3.out, HH4.out, by rw [← hn, ← hn']; exact e⟩
      have ne : ((n : Int) != (n' : Int)) = true := by simp; omega
      clear hok rp rq LL LL' hn hn'
      clear FA_a_107 FA_b_107 HF HG RA RB
      go_wp2_with fail
      refine letterQ ?_
      intro QQ hQQ
      have Z0 : Hid (Below v9.heap.size v9 v9.drew) := (Below.refl _ _).drew
      refine wp_region_held_drew (S := fun w2 => Below v9.heap.size v9 w2) (by kernel_rfl) Z0.out (fun hHeld => ?_)
      clear hHeld
      generalize v9.drew = q0 at Z0 ⊢
      refine wpAnyH_take (i := 0) (v := ?_) rfl (by kernel_rfl) (by kernel_rfl) (by kernel_rfl) (fun _ _ _ h => h) (Or.inl ⟨by rfl, ?_⟩) Z0.out ?_
      rotate_left
      · intro wq hSw; have cl0 := (KB_x_107.out.since hSw).cell 0; have cl1 := (KB_x_107.out.since hSw).cell 1; go_simp; first | done | with_reducible rfl
      simp only [List.getElem_toArray, List.getElem_cons_zero, Act.put, List.setIfInBounds_toArray, List.set_cons_zero, List.set_cons_succ]
      refine wpAnyH_ready (rs := [1]) (by kernel_rfl) (by simp) ?_
      refine AllReadyH.cons rfl (fun K0 hK0 => ?_) ?_
      rotate_left
      · exact AllReadyH.nil
      refine step_func 13 #[.agg #[.int .u64 S, .slice (some ⟨bq, oq, none⟩) R cap]] (by rfl) rfl (by simp [Act.eval]) (fun _ _ => by kernel_rfl) ?_
      refine (E1.out _ Z0.out).mono ?_
      rintro e q1 ⟨rfl, cc⟩
      have Z1 : Hid (Below v9.heap.size v9 q1) := cc
      clear cc
      refine ⟨_, rfl, ?_⟩
      refine hK0.out _ _ Z1.out (fun hHeld => ?_)
      clear hK0 K0 hHeld
      refine wpAnyH_take (i := 2) (v := ?_) rfl (by kernel_rfl) (by kernel_rfl) (by kernel_rfl) (fun _ _ _ h => h) (Or.inl ⟨by rfl, ?_⟩) Z1.out ?_
      rotate_left
      · intro wq hSw; go_simp; first | done | with_reducible rfl
      simp only [List.getElem_toArray, List.getElem_cons_zero, List.getElem_cons_succ, Act.put, List.setIfInBounds_toArray, List.set_cons_zero, List.set_cons_succ]
      refine wpAnyH_take (i := 3) (v := ?_) rfl (by kernel_rfl) (by kernel_rfl) (by kernel_rfl) (fun _ _ _ h => h) (Or.inl ⟨by rfl, ?_⟩) Z1.out ?_
      rotate_left
      · intro wq hSw; go_simp; first | done | with_reducible rfl
      simp only [List.getElem_toArray, List.getElem_cons_zero, List.getElem_cons_succ, Act.put, List.setIfInBounds_toArray, List.set_cons_zero, List.set_cons_succ]
      refine wpAnyH_take (i := 4) (v := ?_) rfl (by kernel_rfl) (by kernel_rfl) (by kernel_rfl) (fun _ _ _ h => h) (Or.inl ⟨by rfl, ?_⟩) Z1.out ?_
      rotate_left
      · intro wq hSw; have cl0 := (KB_y_107.out.since hSw).cell 0; have cl1 := (KB_y_107.out.since hSw).cell 1; go_simp; first | done | with_reducible rfl
      simp only [List.getElem_toArray, List.getElem_cons_zero, List.getElem_cons_succ, Act.put, List.setIfInBounds_toArray, List.set_cons_zero, List.set_cons_succ]
      refine wpAnyH_ready (rs := [5]) (by kernel_rfl) (by simp) ?_
      refine AllReadyH.cons rfl (fun K0 hK0 => ?_) ?_
      rotate_left
      · exact AllReadyH.nil
      refine step_func 13 #[.agg #[.int .u64 S', .slice (some ⟨bq', oq', none⟩) R' cap']] (by rfl) rfl (by simp [Act.eval]) (fun _ _ => by kernel_rfl) ?_
      refine (E2.out _ Z1.out).mono ?_
      rintro e q2 ⟨rfl, cc⟩
      have Z2 : Hid (Below v9.heap.size v9 q2) := cc
      clear cc
      refine ⟨_, rfl, ?_⟩
      refine hK0.out _ _ Z2.out (fun hHeld => ?_)
      clear hK0 K0 hHeld
      refine wpAnyH_take (i := 6) (v := ?_) rfl (by kernel_rfl) (by kernel_rfl) (by kernel_rfl) (fun _ _ _ h => h) (Or.inl ⟨by rfl, ?_⟩) Z2.out ?_
      rotate_left
      · intro wq hSw; go_simp; first | done | with_reducible rfl
      simp only [List.getElem_toArray, List.getElem_cons_zero, List.getElem_cons_succ, Act.put, List.setIfInBounds_toArray, List.set_cons_zero, List.set_cons_succ]
      refine wpAnyH_take (i := 7) (v := ?_) rfl (by kernel_rfl) (by kernel_rfl) (by kernel_rfl) (fun _ _ _ h => h) (Or.inl ⟨by rfl, ?_⟩) Z2.out ?_
      rotate_left
      · intro wq hSw; go_simp; first | done | with_reducible rfl
      simp only [List.getElem_toArray, List.getElem_cons_zero, List.getElem_cons_succ, Act.put, List.setIfInBounds_toArray, List.set_cons_zero, List.set_cons_succ]
      refine wpAnyH_take (i := 8) (v := ?_) rfl (by kernel_rfl) (by kernel_rfl) (by kernel_rfl) (fun _ _ _ h => h) (Or.inl ⟨by rfl, ?_⟩) Z2.out ?_
      rotate_left
      · intro wq hSw; go_simp; first | done | with_reducible rfl
      simp only [List.getElem_toArray, List.getElem_cons_zero, List.getElem_cons_succ, Act.put, List.setIfInBounds_toArray, List.set_cons_zero, List.set_cons_succ]
      refine wpAnyH_take (i := 9) (v := ?_) rfl (by kernel_rfl) (by kernel_rfl) (by kernel_rfl) (fun _ _ _ h => h) (Or.inl ⟨by rfl, ?_⟩) Z2.out ?_
      rotate_left
      · intro wq hSw; go_simp; first | done | with_reducible rfl
      simp only [List.getElem_toArray, List.getElem_cons_zero, List.getElem_cons_succ, Act.put, List.setIfInBounds_toArray, List.set_cons_zero, List.set_cons_succ]
      refine wpAnyH_take (i := 10) (v := ?_) rfl (by kernel_rfl) (by kernel_rfl) (by kernel_rfl) (fun _ _ _ h => h) (Or.inl ⟨by rfl, ?_⟩) Z2.out ?_
      rotate_left
      · intro wq hSw; have cl0 := (KB_bx_107.out.since hSw).cell 0; go_simp; first | done | with_reducible rfl
      simp only [List.getElem_toArray, List.getElem_cons_zero, List.getElem_cons_succ, Act.put, List.setIfInBounds_toArray, List.set_cons_zero, List.set_cons_succ]
      refine wpAnyH_take (i := 11) (v := ?_) rfl (by kernel_rfl) (by kernel_rfl) (by kernel_rfl) (fun _ _ _ h => h) (Or.inl ⟨by rfl, ?_⟩) Z2.out ?_
      rotate_left
      · intro wq hSw; go_simp; first | done | with_reducible rfl
      simp only [List.getElem_toArray, List.getElem_cons_zero, List.getElem_cons_succ, Act.put, List.setIfInBounds_toArray, List.set_cons_zero, List.set_cons_succ]
      refine wpAnyH_take (i := 12) (v := ?_) rfl (by kernel_rfl) (by kernel_rfl) (by kernel_rfl) (fun _ _ _ h => h) (Or.inl ⟨by rfl, ?_⟩) Z2.out ?_
      rotate_left
      · intro wq hSw; have cl0 := (KB_by_107.out.since hSw).cell 0; go_simp; first | done | with_reducible rfl
      simp only [List.getElem_toArray, List.getElem_cons_zero, List.getElem_cons_succ, Act.put, List.setIfInBounds_toArray, List.set_cons_zero, List.set_cons_succ]
      refine wpAnyH_take (i := 13) (v := ?_) rfl (by kernel_rfl) (by kernel_rfl) (by kernel_rfl) (fun _ _ _ h => h) (Or.inl ⟨by rfl, ?_⟩) Z2.out ?_
      rotate_left
      · intro wq hSw; go_simp; first | done | with_reducible rfl
      simp only [List.getElem_toArray, List.getElem_cons_zero, List.getElem_cons_succ, Act.put, List.setIfInBounds_toArray, List.set_cons_zero, List.set_cons_succ]
      refine wpAnyH_take (i := 14) (v := ?_) rfl (by kernel_rfl) (by kernel_rfl) (by kernel_rfl) (fun _ _ _ h => h) (Or.inl ⟨by rfl, ?_⟩) Z2.out ?_
      rotate_left
      · intro wq hSw; go_simp; first | done | with_reducible rfl
      simp only [List.getElem_toArray, List.getElem_cons_zero, List.getElem_cons_succ, Act.put, List.setIfInBounds_toArray, List.set_cons_zero, List.set_cons_succ]
      refine wpAnyH_take (i := 15) (v := ?_) rfl (by kernel_rfl) (by kernel_rfl) (by kernel_rfl) (fun _ _ _ h => h) (Or.inl ⟨by rfl, ?_⟩) Z2.out ?_
      rotate_left
      · intro wq hSw; go_simp; first | done | with_reducible rfl
      simp only [List.getElem_toArray, List.getElem_cons_zero, List.getElem_cons_succ, Act.put, List.setIfInBounds_toArray, List.set_cons_zero, List.set_cons_succ]
      refine wpAnyH_take (i := 16) (v := ?_) rfl (by kernel_rfl) (by kernel_rfl) (by kernel_rfl) (fun _ _ _ h => h) (Or.inl ⟨by rfl, ?_⟩) Z2.out ?_
      rotate_left
      · intro wq hSw; go_simp; first | done | with_reducible rfl
      simp only [List.getElem_toArray, List.getElem_cons_zero, List.getElem_cons_succ, Act.put, List.setIfInBounds_toArray, List.set_cons_zero, List.set_cons_succ]
      refine wpAnyH_take (i := 17) (v := ?_) rfl (by kernel_rfl) (by kernel_rfl) (by kernel_rfl) (fun _ _ _ h => h) (Or.inl ⟨by rfl, ?_⟩) Z2.out ?_
      rotate_left
      · intro wq hSw; have cl0 := (KB_bx_107.out.since hSw).cell 1; go_simp; first | done | with_reducible rfl
      simp only [List.getElem_toArray, List.getElem_cons_zero, List.getElem_cons_succ, Act.put, List.setIfInBounds_toArray, List.set_cons_zero, List.set_cons_succ]
      refine wpAnyH_take (i := 18) (v := ?_) rfl (by kernel_rfl) (by kernel_rfl) (by kernel_rfl) (fun _ _ _ h => h) (Or.inl ⟨by rfl, ?_⟩) Z2.out ?_
      rotate_left
      · intro wq hSw; go_simp; first | done | with_reducible rfl
      simp only [List.getElem_toArray, List.getElem_cons_zero, List.getElem_cons_succ, Act.put, List.setIfInBounds_toArray, List.set_cons_zero, List.set_cons_succ]
      refine wpAnyH_take (i := 19) (v := ?_) rfl (by kernel_rfl) (by kernel_rfl) (by kernel_rfl) (fun _ _ _ h => h) (Or.inl ⟨by rfl, ?_⟩) Z2.out ?_
      rotate_left
      · intro wq hSw; go_simp; first | done | with_reducible rfl
      simp only [List.getElem_toArray, List.getElem_cons_zero, List.getElem_cons_succ, Act.put, List.setIfInBounds_toArray, List.set_cons_zero, List.set_cons_succ]
      refine wpAnyH_take (i := 20) (v := ?_) rfl (by kernel_rfl) (by kernel_rfl) (by kernel_rfl) (fun _ _ _ h => h) (Or.inl ⟨by rfl, ?_⟩) Z2.out ?_
      rotate_left
      · intro wq hSw; have cl0 := (KB_by_107.out.since hSw).cell 1; go_simp; first | done | with_reducible rfl
      simp only [List.getElem_toArray, List.getElem_cons_zero, List.getElem_cons_succ, Act.put, List.setIfInBounds_toArray, List.set_cons_zero, List.set_cons_succ]
      refine wpAnyH_take (i := 21) (v := ?_) rfl (by kernel_rfl) (by kernel_rfl) (by kernel_rfl) (fun _ _ _ h => h) (Or.inl ⟨by rfl, ?_⟩) Z2.out ?_
      rotate_left
      · intro wq hSw; go_simp; first | done | with_reducible rfl
      simp only [List.getElem_toArray, List.getElem_cons_zero, List.getElem_cons_succ, Act.put, List.setIfInBounds_toArray, List.set_cons_zero, List.set_cons_succ]
      refine wpAnyH_take (i := 22) (v := ?_) rfl (by kernel_rfl) (by kernel_rfl) (by kernel_rfl) (fun _ _ _ h => h) (Or.inl ⟨by rfl, ?_⟩) Z2.out ?_
      rotate_left
      · intro wq hSw; go_simp; first | done | with_reducible rfl
      simp only [List.getElem_toArray, List.getElem_cons_zero, List.getElem_cons_succ, Act.put, List.setIfInBounds_toArray, List.set_cons_zero, List.set_cons_succ]
      refine wpAnyH_take (i := 23) (v := ?_) rfl (by kernel_rfl) (by kernel_rfl) (by kernel_rfl) (fun _ _ _ h => h) (Or.inl ⟨by rfl, ?_⟩) Z2.out ?_
      rotate_left
      · intro wq hSw; go_simp; first | done | with_reducible rfl
      simp only [List.getElem_toArray, List.getElem_cons_zero, List.getElem_cons_succ, Act.put, List.setIfInBounds_toArray, List.set_cons_zero, List.set_cons_succ]
      refine wpAnyH_take (i := 24) (v := ?_) rfl (by kernel_rfl) (by kernel_rfl) (by kernel_rfl) (fun _ _ _ h => h) (Or.inl ⟨by rfl, ?_⟩) Z2.out ?_
      rotate_left
      · intro wq hSw; go_simp; first | done | with_reducible rfl
      simp only [List.getElem_toArray, List.getElem_cons_zero, List.getElem_cons_succ, Act.put, List.setIfInBounds_toArray, List.set_cons_zero, List.set_cons_succ]
      refine wpAnyH_take (i := 25) (v := ?_) rfl (by kernel_rfl) (by kernel_rfl) (by kernel_rfl) (fun _ _ _ h => h) (Or.inl ⟨by rfl, ?_⟩) Z2.out ?_
      rotate_left
      · intro wq hSw; go_simp; first | done | with_reducible rfl
      simp only [List.getElem_toArray, List.getElem_cons_zero, List.getElem_cons_succ, Act.put, List.setIfInBounds_toArray, List.set_cons_zero, List.set_cons_succ]
      refine wpAnyH_take (i := 26) (v := ?_) rfl (by kernel_rfl) (by kernel_rfl) (by kernel_rfl) (fun _ _ _ h => h) (Or.inl ⟨by rfl, ?_⟩) Z2.out ?_
      rotate_left
      · intro wq hSw; have cl0 := (KB_bx_107.out.since hSw).cell 1; go_simp; first | done | with_reducible rfl
      simp only [List.getElem_toArray, List.getElem_cons_zero, List.getElem_cons_succ, Act.put, List.setIfInBounds_toArray, List.set_cons_zero, List.set_cons_succ]
      refine wpAnyH_take (i := 27) (v := ?_) rfl (by kernel_rfl) (by kernel_rfl) (by kernel_rfl) (fun _ _ _ h => h) (Or.inl ⟨by rfl, ?_⟩) Z2.out ?_
      rotate_left
      · intro wq hSw; go_simp; first | done | with_reducible rfl
      simp only [List.getElem_toArray, List.getElem_cons_zero, List.getElem_cons_succ, Act.put, List.setIfInBounds_toArray, List.set_cons_zero, List.set_cons_succ]
      refine wpAnyH_take (i := 28) (v := ?_) rfl (by kernel_rfl) (by kernel_rfl) (by kernel_rfl) (fun _ _ _ h => h) (Or.inl ⟨by rfl, ?_⟩) Z2.out ?_
      rotate_left
      · intro wq hSw; have cl0 := keep_of_below (bel_trans BEL107.out hSw) _ _ D1.out; go_simp; first | done | with_reducible rfl
      simp only [List.getElem_toArray, List.getElem_cons_zero, List.getElem_cons_succ, Act.put, List.setIfInBounds_toArray, List.set_cons_zero, List.set_cons_succ]
      refine wpAnyH_take (i := 29) (v := ?_) rfl (by kernel_rfl) (by kernel_rfl) (by kernel_rfl) (fun _ _ _ h => h) (Or.inl ⟨by rfl, ?_⟩) Z2.out ?_
      rotate_left
      · intro wq hSw; go_simp; first | done | with_reducible rfl
      simp only [List.getElem_toArray, List.getElem_cons_zero, List.getElem_cons_succ, Act.put, List.setIfInBounds_toArray, List.set_cons_zero, List.set_cons_succ]
      refine wpAnyH_take (i := 30) (v := ?_) rfl (by kernel_rfl) (by kernel_rfl) (by kernel_rfl) (fun _ _ _ h => h) (Or.inl ⟨by rfl, ?_⟩) Z2.out ?_
      rotate_left
      · intro wq hSw; go_simp; first | done | with_reducible rfl
      simp only [List.getElem_toArray, List.getElem_cons_zero, List.getElem_cons_succ, Act.put, List.setIfInBounds_toArray, List.set_cons_zero, List.set_cons_succ]
      refine wpAnyH_take (i := 31) (v := ?_) rfl (by kernel_rfl) (by kernel_rfl) (by kernel_rfl) (fun _ _ _ h => h) (Or.inl ⟨by rfl, ?_⟩) Z2.out ?_
      rotate_left
      · intro wq hSw; have cl0 := (KB_by_107.out.since hSw).cell 1; go_simp; first | done | with_reducible rfl
      simp only [List.getElem_toArray, List.getElem_cons_zero, List.getElem_cons_succ, Act.put, List.setIfInBounds_toArray, List.set_cons_zero, List.set_cons_succ]
      refine wpAnyH_take (i := 32) (v := ?_) rfl (by kernel_rfl) (by kernel_rfl) (by kernel_rfl) (fun _ _ _ h => h) (Or.inl ⟨by rfl, ?_⟩) Z2.out ?_
      rotate_left
      · intro wq hSw; go_simp; first | done | with_reducible rfl
      simp only [List.getElem_toArray, List.getElem_cons_zero, List.getElem_cons_succ, Act.put, List.setIfInBounds_toArray, List.set_cons_zero, List.set_cons_succ]
      refine wpAnyH_take (i := 33) (v := ?_) rfl (by kernel_rfl) (by kernel_rfl) (by kernel_rfl) (fun _ _ _ h => h) (Or.inl ⟨by rfl, ?_⟩) Z2.out ?_
      rotate_left
      · intro wq hSw; have cl0 := keep_of_below (bel_trans BEL107.out hSw) _ _ D3.out; go_simp; first | done | with_reducible rfl
      simp only [List.getElem_toArray, List.getElem_cons_zero, List.getElem_cons_succ, Act.put, List.setIfInBounds_toArray, List.set_cons_zero, List.set_cons_succ]
      refine wpAnyH_take (i := 34) (v := ?_) rfl (by kernel_rfl) (by kernel_rfl) (by kernel_rfl) (fun _ _ _ h => h) (Or.inl ⟨by rfl, ?_⟩) Z2.out ?_
      rotate_left
      · intro wq hSw; go_simp; first | done | with_reducible rfl
      simp only [List.getElem_toArray, List.getElem_cons_zero, List.getElem_cons_succ, Act.put, List.setIfInBounds_toArray, List.set_cons_zero, List.set_cons_succ]
      refine wpAnyH_take (i := 35) (v := ?_) rfl (by kernel_rfl) (by kernel_rfl) (by kernel_rfl) (fun _ _ _ h => h) (Or.inl ⟨by rfl, ?_⟩) Z2.out ?_
      rotate_left
      · intro wq hSw; go_simp; first | done | with_reducible rfl
      simp only [List.getElem_toArray, List.getElem_cons_zero, List.getElem_cons_succ, Act.put, List.setIfInBounds_toArray, List.set_cons_zero, List.set_cons_succ]
      refine wpAnyH_take (i := 36) (v := ?_) rfl (by kernel_rfl) (by kernel_rfl) (by kernel_rfl) (fun _ _ _ h => h) (Or.inl ⟨by rfl, ?_⟩) Z2.out ?_
      rotate_left
      · intro wq hSw; go_simp; first | done | with_reducible rfl
      simp only [List.getElem_toArray, List.getElem_cons_zero, List.getElem_cons_succ, Act.put, List.setIfInBounds_toArray, List.set_cons_zero, List.set_cons_succ]
      refine wpAnyH_done (by kernel_rfl) ?_ _
      refine NoPanic.normal ?_
      refine hQQ.out _ _ ?_
      clear hQQ
      have cm : q2.cell? ⟨gm, 1, none⟩ = some (.slice none 0 0) := (KB_m_107.out.since Z2.out).cell 1
      go_wp2_with fail
      refine (gawake_any _).mono ?_
      rintro e ww9 ⟨rfl, b9⟩
      go_wp2_with fail
      go_ret
      exact ⟨rfl, bel_trans (bel_trans BEL107.out Z2.out) b9⟩
    have ND_2_x : Hid (∀ (v : World) (gx : Nat) (ll : Array Bool) (aa : Act), ll = #[true, true, true, true, true, false, false, false] → aa = (((act0.put (some 29) (.agg #[.int .u64 S, .slice A R cap])).put (some 31) (.agg #[.int .u64 S', .slice A' R' cap'])).put (some 7) (.pointer (some ⟨gx, 0, none⟩))) → Hid (Below w.heap.size w v) → Hid (Boxes w v [gx, gm, w.heap.size + 1, w.heap.size]) → Hid (HeldX [gx, gm, w.heap.size + 1, w.heap.size] (fun uq => SgAt uq (.agg #[.int .u64 S, .slice A R cap]) S R L Z) v) → Hid (HeldX [gx, gm, w.heap.size + 1, w.heap.size] (fun uq => SgAt uq (.agg #[.int .u64 S', .slice A' R' cap']) S' R' L' Y) v) → Hid (Blk v w.heap.size 25 #[.int .u64 S, .slice A R cap]) → Hid (Blk v (w.heap.size + 1) 25 #[.int .u64 S', .slice A' R' cap']) → Hid (Blk v gm 25 #[.int .u64 0, .slice none 0 0]) → Hid (Blk v gx 30 #[.int .u64 0, .slice none 0 0]) → Hid (w.heap.size ≠ w.heap.size + 1) → Hid (w.heap.size ≠ gm) → Hid (w.heap.size + 1 ≠ gm) → Hid (w.heap.size ≠ gx) → Hid (w.heap.size + 1 ≠ gx) → Hid (gm ≠ gx) → TT 3 ll aa v) := by
      intro v gx ll aa hl hA BEL105 BOX105 FA_a_105 FA_b_105 KB_bx_105 KB_by_105 KB_m_105 KB_x_105 NE_bx_by NE_bx_m NE_by_m NE_bx_x NE_by_x NE_m_x
      rw [hact.out] at hA
      try simp only [Act.put, List.setIfInBounds_toArray, List.set_cons_zero, List.set_cons_succ] at hA
      subst hl hA
      refine hUT.out _ _ _ _ ?_
      refine wpAnyH_ready (rs := [5]) (by kernel_rfl) (by simp) ?_
      refine AllReadyH.cons rfl (fun K0 hK0 => ?_) ?_
      · have BEL106 := a_bel BEL105 (.cells #[.int .u64 0, .slice none 0 0] 30)
        have BOX106 := a_box BOX105 BEL105 (.cells #[.int .u64 0, .slice none 0 0] 30)
        have FA_a_106 := a_fact FA_a_105 (.cells #[.int .u64 0, .slice none 0 0] 30)
        have FA_b_106 := a_fact FA_b_105 (.cells #[.int .u64 0, .slice none 0 0] 30)
        have KB_bx_106 := a_blk KB_bx_105 (.cells #[.int .u64 0, .slice none 0 0] 30)
        have NE_bx_y := n_ne KB_bx_105
        have KB_by_106 := a_blk KB_by_105 (.cells #[.int .u64 0, .slice none 0 0] 30)
        have NE_by_y := n_ne KB_by_105
        have KB_m_106 := a_blk KB_m_105 (.cells #[.int .u64 0, .slice none 0 0] 30)
        have NE_m_y := n_ne KB_m_105
        have KB_x_106 := a_blk KB_x_105 (.cells #[.int .u64 0, .slice none 0 0] 30)
        have NE_x_y := n_ne KB_x_105
        have KB_y_106 := n_blk (u := v) 30 #[.int .u64 0, .slice none 0 0]
        clear BEL105 BOX105 FA_a_105 FA_b_105 KB_bx_105 KB_by_105 KB_m_105 KB_x_105
        go_simp
        generalize (v.alloc (.cells #[.int .u64 0, .slice none 0 0] 30)) = v2 at BEL106 BOX106 FA_a_106 FA_b_106 KB_bx_106 KB_by_106 KB_m_106 KB_x_106 KB_y_106 ⊢
        generalize v.heap.size = gy at BOX106 FA_a_106 FA_b_106 KB_y_106 NE_bx_y NE_by_y NE_m_y NE_x_y ⊢
        refine hK0.out _ _ (by exact ⟨KB_bx_106.out, KB_by_106.out⟩) (fun hHeld => ?_)
        clear hK0 K0 hHeld
        refine hTU.out _ _ _ _ ?_
        refine ND_2_xy.out _ gx gy _ _ ?_ ?_ BEL106 BOX106 FA_a_106 FA_b_106 KB_bx_106 KB_by_106 KB_m_106 KB_x_106 KB_y_106 NE_bx_by NE_bx_m NE_by_m NE_bx_x NE_bx_y NE_by_x NE_by_y NE_m_x NE_m_y NE_x_y
        · first | rfl | kernel_rfl
        · rw [hact.out]; rfl
      exact AllReadyH.nil
    have ND_2_y : Hid (∀ (v : World) (gy : Nat) (ll : Array Bool) (aa : Act), ll = #[true, true, true, true, false, true, false, false] → aa = (((act0.put (some 29) (.agg #[.int .u64 S, .slice A R cap])).put (some 31) (.agg #[.int .u64 S', .slice A' R' cap'])).put (some 8) (.pointer (some ⟨gy, 0, none⟩))) → Hid (Below w.heap.size w v) → Hid (Boxes w v [gy, gm, w.heap.size + 1, w.heap.size]) → Hid (HeldX [gy, gm, w.heap.size + 1, w.heap.size] (fun uq => SgAt uq (.agg #[.int .u64 S, .slice A R cap]) S R L Z) v) → Hid (HeldX [gy, gm, w.heap.size + 1, w.heap.size] (fun uq => SgAt uq (.agg #[.int .u64 S', .slice A' R' cap']) S' R' L' Y) v) → Hid (Blk v w.heap.size 25 #[.int .u64 S, .slice A R cap]) → Hid (Blk v (w.heap.size + 1) 25 #[.int .u64 S', .slice A' R' cap']) → Hid (Blk v gm 25 #[.int .u64 0, .slice none 0 0]) → Hid (Blk v gy 30 #[.int .u64 0, .slice none 0 0]) → Hid (w.heap.size ≠ w.heap.size + 1) → Hid (w.heap.size ≠ gm) → Hid (w.heap.size + 1 ≠ gm) → Hid (w.heap.size ≠ gy) → Hid (w.heap.size + 1 ≠ gy) → Hid (gm ≠ gy) → TT 3 ll aa v) := by
      intro v gy ll aa hl hA BEL105 BOX105 FA_a_105 FA_b_105 KB_bx_105 KB_by_105 KB_m_105 KB_y_105 NE_bx_by NE_bx_m NE_by_m NE_bx_y NE_by_y NE_m_y
      rw [hact.out] at hA
      try simp only [Act.put, List.setIfInBounds_toArray, List.set_cons_zero, List.set_cons_succ] at hA
      subst hl hA
      refine hUT.out _ _ _ _ ?_
      refine wpAnyH_ready (rs := [4]) (by kernel_rfl) (by simp) ?_
      refine AllReadyH.cons rfl (fun K0 hK0 => ?_) ?_
      · have BEL106 := a_bel BEL105 (.cells #[.int .u64 0, .slice none 0 0] 30)
        have BOX106 := a_box BOX105 BEL105 (.cells #[.int .u64 0, .slice none 0 0] 30)
        have FA_a_106 := a_fact FA_a_105 (.cells #[.int .u64 0, .slice none 0 0] 30)
        have FA_b_106 := a_fact FA_b_105 (.cells #[.int .u64 0, .slice none 0 0] 30)
        have KB_bx_106 := a_blk KB_bx_105 (.cells #[.int .u64 0, .slice none 0 0] 30)
        have NE_bx_x := n_ne KB_bx_105
        have KB_by_106 := a_blk KB_by_105 (.cells #[.int .u64 0, .slice none 0 0] 30)
        have NE_by_x := n_ne KB_by_105
        have KB_m_106 := a_blk KB_m_105 (.cells #[.int .u64 0, .slice none 0 0] 30)
        have NE_m_x := n_ne KB_m_105
        have KB_y_106 := a_blk KB_y_105 (.cells #[.int .u64 0, .slice none 0 0] 30)
        have NE_y_x := n_ne KB_y_105
        have KB_x_106 := n_blk (u := v) 30 #[.int .u64 0, .slice none 0 0]
        clear BEL105 BOX105 FA_a_105 FA_b_105 KB_bx_105 KB_by_105 KB_m_105 KB_y_105
        go_simp
        generalize (v.alloc (.cells #[.int .u64 0, .slice none 0 0] 30)) = v2 at BEL106 BOX106 FA_a_106 FA_b_106 KB_bx_106 KB_by_106 KB_m_106 KB_y_106 KB_x_106 ⊢
        generalize v.heap.size = gx at BOX106 FA_a_106 FA_b_106 KB_x_106 NE_bx_x NE_by_x NE_m_x NE_y_x ⊢
        refine hK0.out _ _ (by exact ⟨KB_bx_106.out, KB_by_106.out⟩) (fun hHeld => ?_)
        clear hK0 K0 hHeld
        refine hTU.out _ _ _ _ ?_
        refine ND_2_xy.out _ gx gy _ _ ?_ ?_ BEL106 (b_perm BOX106 (by intro p m; simp only [List.mem_cons, List.not_mem_nil, or_false] at m ⊢; omega)) (h_perm FA_a_106 (by intro p m; simp only [List.mem_cons, List.not_mem_nil, or_false] at m ⊢; omega)) (h_perm FA_b_106 (by intro p m; simp only [List.mem_cons, List.not_mem_nil, or_false] at m ⊢; omega)) KB_bx_106 KB_by_106 KB_m_106 KB_x_106 KB_y_106 NE_bx_by NE_bx_m NE_by_m NE_bx_x NE_bx_y NE_by_x NE_by_y NE_m_x NE_m_y (n_sym NE_y_x)
        · first | rfl | kernel_rfl
        · rw [hact.out]; rfl
      exact AllReadyH.nil
    have ND_2_ : Hid (∀ (v : World)  (ll : Array Bool) (aa : Act), ll = #[true, true, true, true, false, false, false, false] → aa = ((act0.put (some 29) (.agg #[.int .u64 S, .slice A R cap])).put (some 31) (.agg #[.int .u64 S', .slice A' R' cap'])) → Hid (Below w.heap.size w v) → Hid (Boxes w v [gm, w.heap.size + 1, w.heap.size]) → Hid (HeldX [gm, w.heap.size + 1, w.heap.size] (fun uq => SgAt uq (.agg #[.int .u64 S, .slice A R cap]) S R L Z) v) → Hid (HeldX [gm, w.heap.size + 1, w.heap.size] (fun uq => SgAt uq (.agg #[.int .u64 S', .slice A' R' cap']) S' R' L' Y) v) → Hid (Blk v w.heap.size 25 #[.int .u64 S, .slice A R cap]) → Hid (Blk v (w.heap.size + 1) 25 #[.int .u64 S', .slice A' R' cap']) → Hid (Blk v gm 25 #[.int .u64 0, .slice none 0 0]) → Hid (w.heap.size ≠ w.heap.size + 1) → Hid (w.heap.size ≠ gm) → Hid (w.heap.size + 1 ≠ gm) → TT 4 ll aa v) := by
      intro v  ll aa hl hA BEL105 BOX105 FA_a_105 FA_b_105 KB_bx_105 KB_by_105 KB_m_105 NE_bx_by NE_bx_m NE_by_m
      rw [hact.out] at hA
      try simp only [Act.put, List.setIfInBounds_toArray, List.set_cons_zero, List.set_cons_succ] at hA
      subst hl hA
      refine hUT.out _ _ _ _ ?_
      refine wpAnyH_ready (rs := [4, 5]) (by kernel_rfl) (by simp) ?_
      refine AllReadyH.cons rfl (fun K0 hK0 => ?_) ?_
      · have BEL106 := a_bel BEL105 (.cells #[.int .u64 0, .slice none 0 0] 30)
        have BOX106 := a_box BOX105 BEL105 (.cells #[.int .u64 0, .slice none 0 0] 30)
        have FA_a_106 := a_fact FA_a_105 (.cells #[.int .u64 0, .slice none 0 0] 30)
        have FA_b_106 := a_fact FA_b_105 (.cells #[.int .u64 0, .slice none 0 0] 30)
        have KB_bx_106 := a_blk KB_bx_105 (.cells #[.int .u64 0, .slice none 0 0] 30)
        have NE_bx_x := n_ne KB_bx_105
        have KB_by_106 := a_blk KB_by_105 (.cells #[.int .u64 0, .slice none 0 0] 30)
        have NE_by_x := n_ne KB_by_105
        have KB_m_106 := a_blk KB_m_105 (.cells #[.int .u64 0, .slice none 0 0] 30)
        have NE_m_x := n_ne KB_m_105
        have KB_x_106 := n_blk (u := v) 30 #[.int .u64 0, .slice none 0 0]
        clear BEL105 BOX105 FA_a_105 FA_b_105 KB_bx_105 KB_by_105 KB_m_105
        go_simp
        generalize (v.alloc (.cells #[.int .u64 0, .slice none 0 0] 30)) = v2 at BEL106 BOX106 FA_a_106 FA_b_106 KB_bx_106 KB_by_106 KB_m_106 KB_x_106 ⊢
        generalize v.heap.size = gx at BOX106 FA_a_106 FA_b_106 KB_x_106 NE_bx_x NE_by_x NE_m_x ⊢
        refine hK0.out _ _ (by exact ⟨KB_bx_106.out, KB_by_106.out⟩) (fun hHeld => ?_)
        clear hK0 K0 hHeld
        refine hTU.out _ _ _ _ ?_
        refine ND_2_x.out _ gx _ _ ?_ ?_ BEL106 BOX106 FA_a_106 FA_b_106 KB_bx_106 KB_by_106 KB_m_106 KB_x_106 NE_bx_by NE_bx_m NE_by_m NE_bx_x NE_by_x NE_m_x
        · first | rfl | kernel_rfl
        · rw [hact.out]; rfl
      refine AllReadyH.cons rfl (fun K0 hK0 => ?_) ?_
      · have BEL106 := a_bel BEL105 (.cells #[.int .u64 0, .slice none 0 0] 30)
        have BOX106 := a_box BOX105 BEL105 (.cells #[.int .u64 0, .slice none 0 0] 30)
        have FA_a_106 := a_fact FA_a_105 (.cells #[.int .u64 0, .slice none 0 0] 30)
        have FA_b_106 := a_fact FA_b_105 (.cells #[.int .u64 0, .slice none 0 0] 30)
        have KB_bx_106 := a_blk KB_bx_105 (.cells #[.int .u64 0, .slice none 0 0] 30)
        have NE_bx_y := n_ne KB_bx_105
        have KB_by_106 := a_blk KB_by_105 (.cells #[.int .u64 0, .slice none 0 0] 30)
        have NE_by_y := n_ne KB_by_105
        have KB_m_106 := a_blk KB_m_105 (.cells #[.int .u64 0, .slice none 0 0] 30)
        have NE_m_y := n_ne KB_m_105
        have KB_y_106 := n_blk (u := v) 30 #[.int .u64 0, .slice none 0 0]
        clear BEL105 BOX105 FA_a_105 FA_b_105 KB_bx_105 KB_by_105 KB_m_105
        go_simp
        generalize (v.alloc (.cells #[.int .u64 0, .slice none 0 0] 30)) = v2 at BEL106 BOX106 FA_a_106 FA_b_106 KB_bx_106 KB_by_106 KB_m_106 KB_y_106 ⊢
        generalize v.heap.size = gy at BOX106 FA_a_106 FA_b_106 KB_y_106 NE_bx_y NE_by_y NE_m_y ⊢
        refine hK0.out _ _ (by exact ⟨KB_bx_106.out, KB_by_106.out⟩) (fun hHeld => ?_)
        clear hK0 K0 hHeld
        refine hTU.out _ _ _ _ ?_
        refine ND_2_y.out _ gy _ _ ?_ ?_ BEL106 BOX106 FA_a_106 FA_b_106 KB_bx_106 KB_by_106 KB_m_106 KB_y_106 NE_bx_by NE_bx_m NE_by_m NE_bx_y NE_by_y NE_m_y
        · first | rfl | kernel_rfl
        · rw [hact.out]; rfl
      exact AllReadyH.nil
    have ND_1_xy : Hid (∀ (v : World) (gx : Nat) (gy : Nat) (ll : Array Bool) (aa : Act), ll = #[true, true, true, false, true, true, false, false] → aa = (((act0.put (some 29) (.agg #[.int .u64 S, .slice A R cap])).put (some 7) (.pointer (some ⟨gx, 0, none⟩))).put (some 8) (.pointer (some ⟨gy, 0, none⟩))) → Hid (Below w.heap.size w v) → Hid (Boxes w v [gy, gx, gm, w.heap.size + 1, w.heap.size]) → Hid (HeldX [gy, gx, gm, w.heap.size + 1, w.heap.size] (fun uq => SgAt uq (.agg #[.int .u64 S, .slice A R cap]) S R L Z) v) → Hid (HeldX [gy, gx, gm, w.heap.size + 1, w.heap.size] (fun uq => SgAt uq (.agg #[.int .u64 S', .slice A' R' cap']) S' R' L' Y) v) → Hid (Blk v w.heap.size 25 #[.int .u64 S, .slice A R cap]) → Hid (Blk v (w.heap.size + 1) 25 #[.int .u64 S', .slice A' R' cap']) → Hid (Blk v gm 25 #[.int .u64 0, .slice none 0 0]) → Hid (Blk v gx 30 #[.int .u64 0, .slice none 0 0]) → Hid (Blk v gy 30 #[.int .u64 0, .slice none 0 0]) → Hid (w.heap.size ≠ w.heap.size + 1) → Hid (w.heap.size ≠ gm) → Hid (w.heap.size + 1 ≠ gm) → Hid (w.heap.size ≠ gx) → Hid (w.heap.size ≠ gy) → Hid (w.heap.size + 1 ≠ gx) → Hid (w.heap.size + 1 ≠ gy) → Hid (gm ≠ gx) → Hid (gm ≠ gy) → Hid (gx ≠ gy) → TT 3 ll aa v) := by
      intro v gx gy ll aa hl hA BEL105 BOX105 FA_a_105 FA_b_105 KB_bx_105 KB_by_105 KB_m_105 KB_x_105 KB_y_105 NE_bx_by NE_bx_m NE_by_m NE_bx_x NE_bx_y NE_by_x NE_by_y NE_m_x NE_m_y NE_x_y
      rw [hact.out] at hA
      try simp only [Act.put, List.setIfInBounds_toArray, List.set_cons_zero, List.set_cons_succ] at hA
      subst hl hA
      refine hUT.out _ _ _ _ ?_
      refine wpAnyH_ready (rs := [3]) (by kernel_rfl) (by simp) ?_
      refine AllReadyH.cons rfl (fun K0 hK0 => ?_) ?_
      · refine step_func 11 #[.agg #[.int .u64 S', .slice A' R' cap']] (by rfl) rfl (by simp [Act.eval]) (fun _ _ => by kernel_rfl) ?_
        refine (gref_any _ _ S' R' _ _ FA_b_105.out.at).mono ?_
        rintro e q2 ⟨rfl, bb⟩
        have BEL106 := h_bel BEL105 bb
        have BOX106 := h_box BOX105 bb
        have FA_a_106 := h_fact FA_a_105 bb
        have FA_b_106 := h_fact FA_b_105 bb
        have KB_bx_106 := h_blk KB_bx_105 bb
        have KB_by_106 := h_blk KB_by_105 bb
        have KB_m_106 := h_blk KB_m_105 bb
        have KB_x_106 := h_blk KB_x_105 bb
        have KB_y_106 := h_blk KB_y_105 bb
        clear BEL105 BOX105 FA_a_105 FA_b_105 KB_bx_105 KB_by_105 KB_m_105 KB_x_105 KB_y_105
        clear bb
        refine ⟨_, rfl, ?_⟩
        refine hK0.out _ _ (by exact ⟨KB_bx_106.out, KB_by_106.out⟩) (fun hHeld => ?_)
        clear hK0 K0 hHeld
        refine hTU.out _ _ _ _ ?_
        refine ND_2_xy.out _ gx gy _ _ ?_ ?_ BEL106 BOX106 FA_a_106 FA_b_106 KB_bx_106 KB_by_106 KB_m_106 KB_x_106 KB_y_106 NE_bx_by NE_bx_m NE_by_m NE_bx_x NE_bx_y NE_by_x NE_by_y NE_m_x NE_m_y NE_x_y
        · first | rfl | kernel_rfl
        · rw [hact.out]; rfl
      exact AllReadyH.nil
    have ND_1_x : Hid (∀ (v : World) (gx : Nat) (ll : Array Bool) (aa : Act), ll = #[true, true, true, false, true, false, false, false] → aa = ((act0.put (some 29) (.agg #[.int .u64 S, .slice A R cap])).put (some 7) (.pointer (some ⟨gx, 0, none⟩))) → Hid (Below w.heap.size w v) → Hid (Boxes w v [gx, gm, w.heap.size + 1, w.heap.size]) → Hid (HeldX [gx, gm, w.heap.size + 1, w.heap.size] (fun uq => SgAt uq (.agg #[.int .u64 S, .slice A R cap]) S R L Z) v) → Hid (HeldX [gx, gm, w.heap.size + 1, w.heap.size] (fun uq => SgAt uq (.agg #[.int .u64 S', .slice A' R' cap']) S' R' L' Y) v) → Hid (Blk v w.heap.size 25 #[.int .u64 S, .slice A R cap]) → Hid (Blk v (w.heap.size + 1) 25 #[.int .u64 S', .slice A' R' cap']) → Hid (Blk v gm 25 #[.int .u64 0, .slice none 0 0]) → Hid (Blk v gx 30 #[.int .u64 0, .slice none 0 0]) → Hid (w.heap.size ≠ w.heap.size + 1) → Hid (w.heap.size ≠ gm) → Hid (w.heap.size + 1 ≠ gm) → Hid (w.heap.size ≠ gx) → Hid (w.heap.size + 1 ≠ gx) → Hid (gm ≠ gx) → TT 4 ll aa v) := by
      intro v gx ll aa hl hA BEL105 BOX105 FA_a_105 FA_b_105 KB_bx_105 KB_by_105 KB_m_105 KB_x_105 NE_bx_by NE_bx_m NE_by_m NE_bx_x NE_by_x NE_m_x
      rw [hact.out] at hA
      try simp only [Act.put, List.setIfInBounds_toArray, List.set_cons_zero, List.set_cons_succ] at hA
      subst hl hA
      refine hUT.out _ _ _ _ ?_
      refine wpAnyH_ready (rs := [3, 5]) (by kernel_rfl) (by simp) ?_
      refine AllReadyH.cons rfl (fun K0 hK0 => ?_) ?_
      · refine step_func 11 #[.agg #[.int .u64 S', .slice A' R' cap']] (by rfl) rfl (by simp [Act.eval]) (fun _ _ => by kernel_rfl) ?_
        refine (gref_any _ _ S' R' _ _ FA_b_105.out.at).mono ?_
        rintro e q2 ⟨rfl, bb⟩
        have BEL106 := h_bel BEL105 bb
        have BOX106 := h_box BOX105 bb
        have FA_a_106 := h_fact FA_a_105 bb
        have FA_b_106 := h_fact FA_b_105 bb
        have KB_bx_106 := h_blk KB_bx_105 bb
        have KB_by_106 := h_blk KB_by_105 bb
        have KB_m_106 := h_blk KB_m_105 bb
        have KB_x_106 := h_blk KB_x_105 bb
        clear BEL105 BOX105 FA_a_105 FA_b_105 KB_bx_105 KB_by_105 KB_m_105 KB_x_105
        clear bb
        refine ⟨_, rfl, ?_⟩
        refine hK0.out _ _ (by exact ⟨KB_bx_106.out, KB_by_106.out⟩) (fun hHeld => ?_)
        clear hK0 K0 hHeld
        refine hTU.out _ _ _ _ ?_
        refine ND_2_x.out _ gx _ _ ?_ ?_ BEL106 BOX106 FA_a_106 FA_b_106 KB_bx_106 KB_by_106 KB_m_106 KB_x_106 NE_bx_by NE_bx_m NE_by_m NE_bx_x NE_by_x NE_m_x
        · first | rfl | kernel_rfl
        · rw [hact.out]; rfl
      refine AllReadyH.cons rfl (fun K0 hK0 => ?_) ?_
      · have BEL106 := a_bel BEL105 (.cells #[.int .u64 0, .slice none 0 0] 30)
        have BOX106 := a_box BOX105 BEL105 (.cells #[.int .u64 0, .slice none 0 0] 30)
        have FA_a_106 := a_fact FA_a_105 (.cells #[.int .u64 0, .slice none 0 0] 30)
        have FA_b_106 := a_fact FA_b_105 (.cells #[.int .u64 0, .slice none 0 0] 30)
        have KB_bx_106 := a_blk KB_bx_105 (.cells #[.int .u64 0, .slice none 0 0] 30)
        have NE_bx_y := n_ne KB_bx_105
        have KB_by_106 := a_blk KB_by_105 (.cells #[.int .u64 0, .slice none 0 0] 30)
        have NE_by_y := n_ne KB_by_105
        have KB_m_106 := a_blk KB_m_105 (.cells #[.int .u64 0, .slice none 0 0] 30)
        have NE_m_y := n_ne KB_m_105
        have KB_x_106 := a_blk KB_x_105 (.cells #[.int .u64 0, .slice none 0 0] 30)
        have NE_x_y := n_ne KB_x_105
        have KB_y_106 := n_blk (u := v) 30 #[.int .u64 0, .slice none 0 0]
        clear BEL105 BOX105 FA_a_105 FA_b_105 KB_bx_105 KB_by_105 KB_m_105 KB_x_105
        go_simp
        generalize (v.alloc (.cells #[.int .u64 0, .slice none 0 0] 30)) = v2 at BEL106 BOX106 FA_a_106 FA_b_106 KB_bx_106 KB_by_106 KB_m_106 KB_x_106 KB_y_106 ⊢
        generalize v.heap.size = gy at BOX106 FA_a_106 FA_b_106 KB_y_106 NE_bx_y NE_by_y NE_m_y NE_x_y ⊢
        refine hK0.out _ _ (by exact ⟨KB_bx_106.out, KB_by_106.out⟩) (fun hHeld => ?_)
        clear hK0 K0 hHeld
        refine hTU.out _ _ _ _ ?_
        refine ND_1_xy.out _ gx gy _ _ ?_ ?_ BEL106 BOX106 FA_a_106 FA_b_106 KB_bx_106 KB_by_106 KB_m_106 KB_x_106 KB_y_106 NE_bx_by NE_bx_m NE_by_m NE_bx_x NE_bx_y NE_by_x NE_by_y NE_m_x NE_m_y NE_x_y
        · first | rfl | kernel_rfl
        · rw [hact.out]; rfl
      exact AllReadyH.nil
    have ND_1_y : Hid (∀ (v : World) (gy : Nat) (ll : Array Bool) (aa : Act), ll = #[true, true, true, false, false, true, false, false] → aa = ((act0.put (some 29) (.agg #[.int .u64 S, .slice A R cap])).put (some 8) (.pointer (some ⟨gy, 0, none⟩))) → Hid (Below w.heap.size w v) → Hid (Boxes w v [gy, gm, w.heap.size + 1, w.heap.size]) → Hid (HeldX [gy, gm, w.heap.size + 1, w.heap.size] (fun uq => SgAt uq (.agg #[.int .u64 S, .slice A R cap]) S R L Z) v) → Hid (HeldX [gy, gm, w.heap.size + 1, w.heap.size] (fun uq => SgAt uq (.agg #[.int .u64 S', .slice A' R' cap']) S' R' L' Y) v) → Hid (Blk v w.heap.size 25 #[.int .u64 S, .slice A R cap]) → Hid (Blk v (w.heap.size + 1) 25 #[.int .u64 S', .slice A' R' cap']) → Hid (Blk v gm 25 #[.int .u64 0, .slice none 0 0]) → Hid (Blk v gy 30 #[.int .u64 0, .slice none 0 0]) → Hid (w.heap.size ≠ w.heap.size + 1) → Hid (w.heap.size ≠ gm) → Hid (w.heap.size + 1 ≠ gm) → Hid (w.heap.size ≠ gy) → Hid (w.heap.size + 1 ≠ gy) → Hid (gm ≠ gy) → TT 4 ll aa v) := by
      intro v gy ll aa hl hA BEL105 BOX105 FA_a_105 FA_b_105 KB_bx_105 KB_by_105 KB_m_105 KB_y_105 NE_bx_by NE_bx_m NE_by_m NE_bx_y NE_by_y NE_m_y
      rw [hact.out] at hA
      try simp only [Act.put, List.setIfInBounds_toArray, List.set_cons_zero, List.set_cons_succ] at hA
      subst hl hA
      refine hUT.out _ _ _ _ ?_
      refine wpAnyH_ready (rs := [3, 4]) (by kernel_rfl) (by simp) ?_
      refine AllReadyH.cons rfl (fun K0 hK0 => ?_) ?_
      · refine step_func 11 #[.agg #[.int .u64 S', .slice A' R' cap']] (by rfl) rfl (by simp [Act.eval]) (fun _ _ => by kernel_rfl) ?_
        refine (gref_any _ _ S' R' _ _ FA_b_105.out.at).mono ?_
        rintro e q2 ⟨rfl, bb⟩
        have BEL106 := h_bel BEL105 bb
        have BOX106 := h_box BOX105 bb
        have FA_a_106 := h_fact FA_a_105 bb
        have FA_b_106 := h_fact FA_b_105 bb
        have KB_bx_106 := h_blk KB_bx_105 bb
        have KB_by_106 := h_blk KB_by_105 bb
        have KB_m_106 := h_blk KB_m_105 bb
        have KB_y_106 := h_blk KB_y_105 bb
        clear BEL105 BOX105 FA_a_105 FA_b_105 KB_bx_105 KB_by_105 KB_m_105 KB_y_105
        clear bb
        refine ⟨_, rfl, ?_⟩
        refine hK0.out _ _ (by exact ⟨KB_bx_106.out, KB_by_106.out⟩) (fun hHeld => ?_)
        clear hK0 K0 hHeld
        refine hTU.out _ _ _ _ ?_
        refine ND_2_y.out _ gy _ _ ?_ ?_ BEL106 BOX106 FA_a_106 FA_b_106 KB_bx_106 KB_by_106 KB_m_106 KB_y_106 NE_bx_by NE_bx_m NE_by_m NE_bx_y NE_by_y NE_m_y
        · first | rfl | kernel_rfl
        · rw [hact.out]; rfl
      refine AllReadyH.cons rfl (fun K0 hK0 => ?_) ?_
      · have BEL106 := a_bel BEL105 (.cells #[.int .u64 0, .slice none 0 0] 30)
        have BOX106 := a_box BOX105 BEL105 (.cells #[.int .u64 0, .slice none 0 0] 30)
        have FA_a_106 := a_fact FA_a_105 (.cells #[.int .u64 0, .slice none 0 0] 30)
        have FA_b_106 := a_fact FA_b_105 (.cells #[.int .u64 0, .slice none 0 0] 30)
        have KB_bx_106 := a_blk KB_bx_105 (.cells #[.int .u64 0, .slice none 0 0] 30)
        have NE_bx_x := n_ne KB_bx_105
        have KB_by_106 := a_blk KB_by_105 (.cells #[.int .u64 0, .slice none 0 0] 30)
        have NE_by_x := n_ne KB_by_105
        have KB_m_106 := a_blk KB_m_105 (.cells #[.int .u64 0, .slice none 0 0] 30)
        have NE_m_x := n_ne KB_m_105
        have KB_y_106 := a_blk KB_y_105 (.cells #[.int .u64 0, .slice none 0 0] 30)
        have NE_y_x := n_ne KB_y_105
        have KB_x_106 := n_blk (u := v) 30 #[.int .u64 0, .slice none 0 0]
        clear BEL105 BOX105 FA_a_105 FA_b_105 KB_bx_105 KB_by_105 KB_m_105 KB_y_105
        go_simp
        generalize (v.alloc (.cells #[.int .u64 0, .slice none 0 0] 30)) = v2 at BEL106 BOX106 FA_a_106 FA_b_106 KB_bx_106 KB_by_106 KB_m_106 KB_y_106 KB_x_106 ⊢
        generalize v.heap.size = gx at BOX106 FA_a_106 FA_b_106 KB_x_106 NE_bx_x NE_by_x NE_m_x NE_y_x ⊢
        refine hK0.out _ _ (by exact ⟨KB_bx_106.out, KB_by_106.out⟩) (fun hHeld => ?_)
        clear hK0 K0 hHeld
        refine hTU.out _ _ _ _ ?_
        refine ND_1_xy.out _ gx gy _ _ ?_ ?_ BEL106 (b_perm BOX106 (by intro p m; simp only [List.mem_cons, List.not_mem_nil, or_false] at m ⊢; omega)) (h_perm FA_a_106 (by intro p m; simp only [List.mem_cons, List.not_mem_nil, or_false] at m ⊢; omega)) (h_perm FA_b_106 (by intro p m; simp only [List.mem_cons, List.not_mem_nil, or_false] at m ⊢; omega)) KB_bx_106 KB_by_106 KB_m_106 KB_x_106 KB_y_106 NE_bx_by NE_bx_m NE_by_m NE_bx_x NE_bx_y NE_by_x NE_by_y NE_m_x NE_m_y (n_sym NE_y_x)
        · first | rfl | kernel_rfl
        · rw [hact.out]; rfl
      exact AllReadyH.nil
    have ND_1_ : Hid (∀ (v : World)  (ll : Array Bool) (aa : Act), ll = #[true, true, true, false, false, false, false, false] → aa = (act0.put (some 29) (.agg #[.int .u64 S, .slice A R cap])) → Hid (Below w.heap.size w v) → Hid (Boxes w v [gm, w.heap.size + 1, w.heap.size]) → Hid (HeldX [gm, w.heap.size + 1, w.heap.size] (fun uq => SgAt uq (.agg #[.int .u64 S, .slice A R cap]) S R L Z) v) → Hid (HeldX [gm, w.heap.size + 1, w.heap.size] (fun uq => SgAt uq (.agg #[.int .u64 S', .slice A' R' cap']) S' R' L' Y) v) → Hid (Blk v w.heap.size 25 #[.int .u64 S, .slice A R cap]) → Hid (Blk v (w.heap.size + 1) 25 #[.int .u64 S', .slice A' R' cap']) → Hid (Blk v gm 25 #[.int .u64 0, .slice none 0 0]) → Hid (w.heap.size ≠ w.heap.size + 1) → Hid (w.heap.size ≠ gm) → Hid (w.heap.size + 1 ≠ gm) → TT 5 ll aa v) := by
      intro v  ll aa hl hA BEL105 BOX105 FA_a_105 FA_b_105 KB_bx_105 KB_by_105 KB_m_105 NE_bx_by NE_bx_m NE_by_m
      rw [hact.out] at hA
      try simp only [Act.put, List.setIfInBounds_toArray, List.set_cons_zero, List.set_cons_succ] at hA
      subst hl hA
      refine hUT.out _ _ _ _ ?_
      refine wpAnyH_ready (rs := [3, 4, 5]) (by kernel_rfl) (by simp) ?_
      refine AllReadyH.cons rfl (fun K0 hK0 => ?_) ?_
      · refine step_func 11 #[.agg #[.int .u64 S', .slice A' R' cap']] (by rfl) rfl (by simp [Act.eval]) (fun _ _ => by kernel_rfl) ?_
        refine (gref_any _ _ S' R' _ _ FA_b_105.out.at).mono ?_
        rintro e q2 ⟨rfl, bb⟩
        have BEL106 := h_bel BEL105 bb
        have BOX106 := h_box BOX105 bb
        have FA_a_106 := h_fact FA_a_105 bb
        have FA_b_106 := h_fact FA_b_105 bb
        have KB_bx_106 := h_blk KB_bx_105 bb
        have KB_by_106 := h_blk KB_by_105 bb
        have KB_m_106 := h_blk KB_m_105 bb
        clear BEL105 BOX105 FA_a_105 FA_b_105 KB_bx_105 KB_by_105 KB_m_105
        clear bb
        refine ⟨_, rfl, ?_⟩
        refine hK0.out _ _ (by exact ⟨KB_bx_106.out, KB_by_106.out⟩) (fun hHeld => ?_)
        clear hK0 K0 hHeld
        refine hTU.out _ _ _ _ ?_
        refine ND_2_.out _  _ _ ?_ ?_ BEL106 BOX106 FA_a_106 FA_b_106 KB_bx_106 KB_by_106 KB_m_106 NE_bx_by NE_bx_m NE_by_m
        · first | rfl | kernel_rfl
        · rw [hact.out]; rfl
      refine AllReadyH.cons rfl (fun K0 hK0 => ?_) ?_
      · have BEL106 := a_bel BEL105 (.cells #[.int .u64 0, .slice none 0 0] 30)
        have BOX106 := a_box BOX105 BEL105 (.cells #[.int .u64 0, .slice none 0 0] 30)
        have FA_a_106 := a_fact FA_a_105 (.cells #[.int .u64 0, .slice none 0 0] 30)
        have FA_b_106 := a_fact FA_b_105 (.cells #[.int .u64 0, .slice none 0 0] 30)
        have KB_bx_106 := a_blk KB_bx_105 (.cells #[.int .u64 0, .slice none 0 0] 30)
        have NE_bx_x := n_ne KB_bx_105
        have KB_by_106 := a_blk KB_by_105 (.cells #[.int .u64 0, .slice none 0 0] 30)
        have NE_by_x := n_ne KB_by_105
        have KB_m_106 := a_blk KB_m_105 (.cells #[.int .u64 0, .slice none 0 0] 30)
        have NE_m_x := n_ne KB_m_105
        have KB_x_106 := n_blk (u := v) 30 #[.int .u64 0, .slice none 0 0]
        clear BEL105 BOX105 FA_a_105 FA_b_105 KB_bx_105 KB_by_105 KB_m_105
        go_simp
        generalize (v.alloc (.cells #[.int .u64 0, .slice none 0 0] 30)) = v2 at BEL106 BOX106 FA_a_106 FA_b_106 KB_bx_106 KB_by_106 KB_m_106 KB_x_106 ⊢
        generalize v.heap.size = gx at BOX106 FA_a_106 FA_b_106 KB_x_106 NE_bx_x NE_by_x NE_m_x ⊢
        refine hK0.out _ _ (by exact ⟨KB_bx_106.out, KB_by_106.out⟩) (fun hHeld => ?_)
        clear hK0 K0 hHeld
        refine hTU.out _ _ _ _ ?_
        refine ND_1_x.out _ gx _ _ ?_ ?_ BEL106 BOX106 FA_a_106 FA_b_106 KB_bx_106 KB_by_106 KB_m_106 KB_x_106 NE_bx_by NE_bx_m NE_by_m NE_bx_x NE_by_x NE_m_x
        · first | rfl | kernel_rfl
        · rw [hact.out]; rfl
      refine AllReadyH.cons rfl (fun K0 hK0 => ?_) ?_
      · have BEL106 := a_bel BEL105 (.cells #[.int .u64 0, .slice none 0 0] 30)
        have BOX106 := a_box BOX105 BEL105 (.cells #[.int .u64 0, .slice none 0 0] 30)
        have FA_a_106 := a_fact FA_a_105 (.cells #[.int .u64 0, .slice none 0 0] 30)
        have FA_b_106 := a_fact FA_b_105 (.cells #[.int .u64 0, .slice none 0 0] 30)
        have KB_bx_106 := a_blk KB_bx_105 (.cells #[.int .u64 0, .slice none 0 0] 30)
        have NE_bx_y := n_ne KB_bx_105
        have KB_by_106 := a_blk KB_by_105 (.cells #[.int .u64 0, .slice none 0 0] 30)
        have NE_by_y := n_ne KB_by_105
        have KB_m_106 := a_blk KB_m_105 (.cells #[.int .u64 0, .slice none 0 0] 30)
        have NE_m_y := n_ne KB_m_105
        have KB_y_106 := n_blk (u := v) 30 #[.int .u64 0, .slice none 0 0]
        clear BEL105 BOX105 FA_a_105 FA_b_105 KB_bx_105 KB_by_105 KB_m_105
        go_simp
        generalize (v.alloc (.cells #[.int .u64 0, .slice none 0 0] 30)) = v2 at BEL106 BOX106 FA_a_106 FA_b_106 KB_bx_106 KB_by_106 KB_m_106 KB_y_106 ⊢
        generalize v.heap.size = gy at BOX106 FA_a_106 FA_b_106 KB_y_106 NE_bx_y NE_by_y NE_m_y ⊢
        refine hK0.out _ _ (by exact ⟨KB_bx_106.out, KB_by_106.out⟩) (fun hHeld => ?_)
        clear hK0 K0 hHeld
        refine hTU.out _ _ _ _ ?_
        refine ND_1_y.out _ gy _ _ ?_ ?_ BEL106 BOX106 FA_a_106 FA_b_106 KB_bx_106 KB_by_106 KB_m_106 KB_y_106 NE_bx_by NE_bx_m NE_by_m NE_bx_y NE_by_y NE_m_y
        · first | rfl | kernel_rfl
        · rw [hact.out]; rfl
      exact AllReadyH.nil
    have ND_0_xy : Hid (∀ (v : World) (gx : Nat) (gy : Nat) (ll : Array Bool) (aa : Act), ll = #[true, false, true, false, true, true, false, false] → aa = ((act0.put (some 7) (.pointer (some ⟨gx, 0, none⟩))).put (some 8) (.pointer (some ⟨gy, 0, none⟩))) → Hid (Below w.heap.size w v) → Hid (Boxes w v [gy, gx, gm, w.heap.size + 1, w.heap.size]) → Hid (HeldX [gy, gx, gm, w.heap.size + 1, w.heap.size] (fun uq => SgAt uq (.agg #[.int .u64 S, .slice A R cap]) S R L Z) v) → Hid (HeldX [gy, gx, gm, w.heap.size + 1, w.heap.size] (fun uq => SgAt uq (.agg #[.int .u64 S', .slice A' R' cap']) S' R' L' Y) v) → Hid (Blk v w.heap.size 25 #[.int .u64 S, .slice A R cap]) → Hid (Blk v (w.heap.size + 1) 25 #[.int .u64 S', .slice A' R' cap']) → Hid (Blk v gm 25 #[.int .u64 0, .slice none 0 0]) → Hid (Blk v gx 30 #[.int .u64 0, .slice none 0 0]) → Hid (Blk v gy 30 #[.int .u64 0, .slice none 0 0]) → Hid (w.heap.size ≠ w.heap.size + 1) → Hid (w.heap.size ≠ gm) → Hid (w.heap.size + 1 ≠ gm) → Hid (w.heap.size ≠ gx) → Hid (w.heap.size ≠ gy) → Hid (w.heap.size + 1 ≠ gx) → Hid (w.heap.size + 1 ≠ gy) → Hid (gm ≠ gx) → Hid (gm ≠ gy) → Hid (gx ≠ gy) → TT 4 ll aa v) := by
      intro v gx gy ll aa hl hA BEL105 BOX105 FA_a_105 FA_b_105 KB_bx_105 KB_by_105 KB_m_105 KB_x_105 KB_y_105 NE_bx_by NE_bx_m NE_by_m NE_bx_x NE_bx_y NE_by_x NE_by_y NE_m_x NE_m_y NE_x_y
      rw [hact.out] at hA
      try simp only [Act.put, List.setIfInBounds_toArray, List.set_cons_zero, List.set_cons_succ] at hA
      subst hl hA
      refine hUT.out _ _ _ _ ?_
      refine wpAnyH_ready (rs := [1]) (by kernel_rfl) (by simp) ?_
      refine AllReadyH.cons rfl (fun K0 hK0 => ?_) ?_
      · refine step_func 11 #[.agg #[.int .u64 S, .slice A R cap]] (by rfl) rfl (by simp [Act.eval]) (fun _ _ => by kernel_rfl) ?_
        refine (gref_any _ _ S R _ _ FA_a_105.out.at).mono ?_
        rintro e q1 ⟨rfl, bb⟩
        have BEL106 := h_bel BEL105 bb
        have BOX106 := h_box BOX105 bb
        have FA_a_106 := h_fact FA_a_105 bb
        have FA_b_106 := h_fact FA_b_105 bb
        have KB_bx_106 := h_blk KB_bx_105 bb
        have KB_by_106 := h_blk KB_by_105 bb
        have KB_m_106 := h_blk KB_m_105 bb
        have KB_x_106 := h_blk KB_x_105 bb
        have KB_y_106 := h_blk KB_y_105 bb
        clear BEL105 BOX105 FA_a_105 FA_b_105 KB_bx_105 KB_by_105 KB_m_105 KB_x_105 KB_y_105
        clear bb
        refine ⟨_, rfl, ?_⟩
        refine hK0.out _ _ (by exact ⟨KB_bx_106.out, KB_by_106.out⟩) (fun hHeld => ?_)
        clear hK0 K0 hHeld
        refine hTU.out _ _ _ _ ?_
        refine ND_1_xy.out _ gx gy _ _ ?_ ?_ BEL106 BOX106 FA_a_106 FA_b_106 KB_bx_106 KB_by_106 KB_m_106 KB_x_106 KB_y_106 NE_bx_by NE_bx_m NE_by_m NE_bx_x NE_bx_y NE_by_x NE_by_y NE_m_x NE_m_y NE_x_y
        · first | rfl | kernel_rfl
        · rw [hact.out]; rfl
      exact AllReadyH.nil
    have ND_0_x : Hid (∀ (v : World) (gx : Nat) (ll : Array Bool) (aa : Act), ll = #[true, false, true, false, true, false, false, false] → aa = (act0.put (some 7) (.pointer (some ⟨gx, 0, none⟩))) → Hid (Below w.heap.size w v) → Hid (Boxes w v [gx, gm, w.heap.size + 1, w.heap.size]) → Hid (HeldX [gx, gm, w.heap.size + 1, w.heap.size] (fun uq => SgAt uq (.agg #[.int .u64 S, .slice A R cap]) S R L Z) v) → Hid (HeldX [gx, gm, w.heap.size + 1, w.heap.size] (fun uq => SgAt uq (.agg #[.int .u64 S', .slice A' R' cap']) S' R' L' Y) v) → Hid (Blk v w.heap.size 25 #[.int .u64 S, .slice A R cap]) → Hid (Blk v (w.heap.size + 1) 25 #[.int .u64 S', .slice A' R' cap']) → Hid (Blk v gm 25 #[.int .u64 0, .slice none 0 0]) → Hid (Blk v gx 30 #[.int .u64 0, .slice none 0 0]) → Hid (w.heap.size ≠ w.heap.size + 1) → Hid (w.heap.size ≠ gm) → Hid (w.heap.size + 1 ≠ gm) → Hid (w.heap.size ≠ gx) → Hid (w.heap.size + 1 ≠ gx) → Hid (gm ≠ gx) → TT 5 ll aa v) := by
      intro v gx ll aa hl hA BEL105 BOX105 FA_a_105 FA_b_105 KB_bx_105 KB_by_105 KB_m_105 KB_x_105 NE_bx_by NE_bx_m NE_by_m NE_bx_x NE_by_x NE_m_x
      rw [hact.out] at hA
      try simp only [Act.put, List.setIfInBounds_toArray, List.set_cons_zero, List.set_cons_succ] at hA
      subst hl hA
      refine hUT.out _ _ _ _ ?_
      refine wpAnyH_ready (rs := [1, 5]) (by kernel_rfl) (by simp) ?_
      refine AllReadyH.cons rfl (fun K0 hK0 => ?_) ?_
      · refine step_func 11 #[.agg #[.int .u64 S, .slice A R cap]] (by rfl) rfl (by simp [Act.eval]) (fun _ _ => by kernel_rfl) ?_
        refine (gref_any _ _ S R _ _ FA_a_105.out.at).mono ?_
        rintro e q1 ⟨rfl, bb⟩
        have BEL106 := h_bel BEL105 bb
        have BOX106 := h_box BOX105 bb
        have FA_a_106 := h_fact FA_a_105 bb
        have FA_b_106 := h_fact FA_b_105 bb
        have KB_bx_106 := h_blk KB_bx_105 bb
        have KB_by_106 := h_blk KB_by_105 bb
        have KB_m_106 := h_blk KB_m_105 bb
        have KB_x_106 := h_blk KB_x_105 bb
        clear BEL105 BOX105 FA_a_105 FA_b_105 KB_bx_105 KB_by_105 KB_m_105 KB_x_105
        clear bb
        refine ⟨_, rfl, ?_⟩
        refine hK0.out _ _ (by exact ⟨KB_bx_106.out, KB_by_106.out⟩) (fun hHeld => ?_)
        clear hK0 K0 hHeld
        refine hTU.out _ _ _ _ ?_
        refine ND_1_x.out _ gx _ _ ?_ ?_ BEL106 BOX106 FA_a_106 FA_b_106 KB_bx_106 KB_by_106 KB_m_106 KB_x_106 NE_bx_by NE_bx_m NE_by_m NE_bx_x NE_by_x NE_m_x
        · first | rfl | kernel_rfl
        · rw [hact.out]; rfl
      refine AllReadyH.cons rfl (fun K0 hK0 => ?_) ?_
      · have BEL106 := a_bel BEL105 (.cells #[.int .u64 0, .slice none 0 0] 30)
        have BOX106 := a_box BOX105 BEL105 (.cells #[.int .u64 0, .slice none 0 0] 30)
        have FA_a_106 := a_fact FA_a_105 (.cells #[.int .u64 0, .slice none 0 0] 30)
        have FA_b_106 := a_fact FA_b_105 (.cells #[.int .u64 0, .slice none 0 0] 30)
        have KB_bx_106 := a_blk KB_bx_105 (.cells #[.int .u64 0, .slice none 0 0] 30)
        have NE_bx_y := n_ne KB_bx_105
        have KB_by_106 := a_blk KB_by_105 (.cells #[.int .u64 0, .slice none 0 0] 30)
        have NE_by_y := n_ne KB_by_105
        have KB_m_106 := a_blk KB_m_105 (.cells #[.int .u64 0, .slice none 0 0] 30)
        have NE_m_y := n_ne KB_m_105
        have KB_x_106 := a_blk KB_x_105 (.cells #[.int .u64 0, .slice none 0 0] 30)
        have NE_x_y := n_ne KB_x_105
        have KB_y_106 := n_blk (u := v) 30 #[.int .u64 0, .slice none 0 0]
        clear BEL105 BOX105 FA_a_105 FA_b_105 KB_bx_105 KB_by_105 KB_m_105 KB_x_105
        go_simp
        generalize (v.alloc (.cells #[.int .u64 0, .slice none 0 0] 30)) = v2 at BEL106 BOX106 FA_a_106 FA_b_106 KB_bx_106 KB_by_106 KB_m_106 KB_x_106 KB_y_106 ⊢
        generalize v.heap.size = gy at BOX106 FA_a_106 FA_b_106 KB_y_106 NE_bx_y NE_by_y NE_m_y NE_x_y ⊢
        refine hK0.out _ _ (by exact ⟨KB_bx_106.out, KB_by_106.out⟩) (fun hHeld => ?_)
        clear hK0 K0 hHeld
        refine hTU.out _ _ _ _ ?_
        refine ND_0_xy.out _ gx gy _ _ ?_ ?_ BEL106 BOX106 FA_a_106 FA_b_106 KB_bx_106 KB_by_106 KB_m_106 KB_x_106 KB_y_106 NE_bx_by NE_bx_m NE_by_m NE_bx_x NE_bx_y NE_by_x NE_by_y NE_m_x NE_m_y NE_x_y
        · first | rfl | kernel_rfl
        · rw [hact.out]; rfl
      exact AllReadyH.nil
    have ND_0_y : Hid (∀ (v : World) (gy : Nat) (ll : Array Bool) (aa : Act), ll = #[true, false, true, false, false, true, false, false] → aa = (act0.put (some 8) (.pointer (some ⟨gy, 0, none⟩))) → Hid (Below w.heap.size w v) → Hid (Boxes w v [gy, gm, w.heap.size + 1, w.heap.size]) → Hid (HeldX [gy, gm, w.heap.size + 1, w.heap.size] (fun uq => SgAt uq (.agg #[.int .u64 S, .slice A R cap]) S R L Z) v) → Hid (HeldX [gy, gm, w.heap.size + 1, w.heap.size] (fun uq => SgAt uq (.agg #[.int .u64 S', .slice A' R' cap']) S' R' L' Y) v) → Hid (Blk v w.heap.size 25 #[.int .u64 S, .slice A R cap]) → Hid (Blk v (w.heap.size + 1) 25 #[.int .u64 S', .slice A' R' cap']) → Hid (Blk v gm 25 #[.int .u64 0, .slice none 0 0]) → Hid (Blk v gy 30 #[.int .u64 0, .slice none 0 0]) → Hid (w.heap.size ≠ w.heap.size + 1) → Hid (w.heap.size ≠ gm) → Hid (w.heap.size + 1 ≠ gm) → Hid (w.heap.size ≠ gy) → Hid (w.heap.size + 1 ≠ gy) → Hid (gm ≠ gy) → TT 5 ll aa v) := by
      intro v gy ll aa hl hA BEL105 BOX105 FA_a_105 FA_b_105 KB_bx_105 KB_by_105 KB_m_105 KB_y_105 NE_bx_by NE_bx_m NE_by_m NE_bx_y NE_by_y NE_m_y
      rw [hact.out] at hA
      try simp only [Act.put, List.setIfInBounds_toArray, List.set_cons_zero, List.set_cons_succ] at hA
      subst hl hA
      refine hUT.out _ _ _ _ ?_
      refine wpAnyH_ready (rs := [1, 4]) (by kernel_rfl) (by simp) ?_
      refine AllReadyH.cons rfl (fun K0 hK0 => ?_) ?_
      · refine step_func 11 #[.agg #[.int .u64 S, .slice A R cap]] (by rfl) rfl (by simp [Act.eval]) (fun _ _ => by kernel_rfl) ?_
        refine (gref_any _ _ S R _ _ FA_a_105.out.at).mono ?_
        rintro e q1 ⟨rfl, bb⟩
        have BEL106 := h_bel BEL105 bb
        have BOX106 := h_box BOX105 bb
        have FA_a_106 := h_fact FA_a_105 bb
        have FA_b_106 := h_fact FA_b_105 bb
        have KB_bx_106 := h_blk KB_bx_105 bb
        have KB_by_106 := h_blk KB_by_105 bb
        have KB_m_106 := h_blk KB_m_105 bb
        have KB_y_106 := h_blk KB_y_105 bb
        clear BEL105 BOX105 FA_a_105 FA_b_105 KB_bx_105 KB_by_105 KB_m_105 KB_y_105
        clear bb
        refine ⟨_, rfl, ?_⟩
        refine hK0.out _ _ (by exact ⟨KB_bx_106.out, KB_by_106.out⟩) (fun hHeld => ?_)
        clear hK0 K0 hHeld
        refine hTU.out _ _ _ _ ?_
        refine ND_1_y.out _ gy _ _ ?_ ?_ BEL106 BOX106 FA_a_106 FA_b_106 KB_bx_106 KB_by_106 KB_m_106 KB_y_106 NE_bx_by NE_bx_m NE_by_m NE_bx_y NE_by_y NE_m_y
        · first | rfl | kernel_rfl
        · rw [hact.out]; rfl
      refine AllReadyH.cons rfl (fun K0 hK0 => ?_) ?_
      · have BEL106 := a_bel BEL105 (.cells #[.int .u64 0, .slice none 0 0] 30)
        have BOX106 := a_box BOX105 BEL105 (.cells #[.int .u64 0, .slice none 0 0] 30)
        have FA_a_106 := a_fact FA_a_105 (.cells #[.int .u64 0, .slice none 0 0] 30)
        have FA_b_106 := a_fact FA_b_105 (.cells #[.int .u64 0, .slice none 0 0] 30)
        have KB_bx_106 := a_blk KB_bx_105 (.cells #[.int .u64 0, .slice none 0 0] 30)
        have NE_bx_x := n_ne KB_bx_105
        have KB_by_106 := a_blk KB_by_105 (.cells #[.int .u64 0, .slice none 0 0] 30)
        have NE_by_x := n_ne KB_by_105
        have KB_m_106 := a_blk KB_m_105 (.cells #[.int .u64 0, .slice none 0 0] 30)
        have NE_m_x := n_ne KB_m_105
        have KB_y_106 := a_blk KB_y_105 (.cells #[.int .u64 0, .slice none 0 0] 30)
        have NE_y_x := n_ne KB_y_105
        have KB_x_106 := n_blk (u := v) 30 #[.int .u64 0, .slice none 0 0]
        clear BEL105 BOX105 FA_a_105 FA_b_105 KB_bx_105 KB_by_105 KB_m_105 KB_y_105
        go_simp
        generalize (v.alloc (.cells #[.int .u64 0, .slice none 0 0] 30)) = v2 at BEL106 BOX106 FA_a_106 FA_b_106 KB_bx_106 KB_by_106 KB_m_106 KB_y_106 KB_x_106 ⊢
        generalize v.heap.size = gx at BOX106 FA_a_106 FA_b_106 KB_x_106 NE_bx_x NE_by_x NE_m_x NE_y_x ⊢
        refine hK0.out _ _ (by exact ⟨KB_bx_106.out, KB_by_106.out⟩) (fun hHeld => ?_)
        clear hK0 K0 hHeld
        refine hTU.out _ _ _ _ ?_
        refine ND_0_xy.out _ gx gy _ _ ?_ ?_ BEL106 (b_perm BOX106 (by intro p m; simp only [List.mem_cons, List.not_mem_nil, or_false] at m ⊢; omega)) (h_perm FA_a_106 (by intro p m; simp only [List.mem_cons, List.not_mem_nil, or_false] at m ⊢; omega)) (h_perm FA_b_106 (by intro p m; simp only [List.mem_cons, List.not_mem_nil, or_false] at m ⊢; omega)) KB_bx_106 KB_by_106 KB_m_106 KB_x_106 KB_y_106 NE_bx_by NE_bx_m NE_by_m NE_bx_x NE_bx_y NE_by_x NE_by_y NE_m_x NE_m_y (n_sym NE_y_x)
        · first | rfl | kernel_rfl
        · rw [hact.out]; rfl
      exact AllReadyH.nil
    have ND_0_ : Hid (∀ (v : World)  (ll : Array Bool) (aa : Act), ll = #[true, false, true, false, false, false, false, false] → aa = act0 → Hid (Below w.heap.size w v) → Hid (Boxes w v [gm, w.heap.size + 1, w.heap.size]) → Hid (HeldX [gm, w.heap.size + 1, w.heap.size] (fun uq => SgAt uq (.agg #[.int .u64 S, .slice A R cap]) S R L Z) v) → Hid (HeldX [gm, w.heap.size + 1, w.heap.size] (fun uq => SgAt uq (.agg #[.int .u64 S', .slice A' R' cap']) S' R' L' Y) v) → Hid (Blk v w.heap.size 25 #[.int .u64 S, .slice A R cap]) → Hid (Blk v (w.heap.size + 1) 25 #[.int .u64 S', .slice A' R' cap']) → Hid (Blk v gm 25 #[.int .u64 0, .slice none 0 0]) → Hid (w.heap.size ≠ w.heap.size + 1) → Hid (w.heap.size ≠ gm) → Hid (w.heap.size + 1 ≠ gm) → TT 6 ll aa v) := by
      intro v  ll aa hl hA BEL105 BOX105 FA_a_105 FA_b_105 KB_bx_105 KB_by_105 KB_m_105 NE_bx_by NE_bx_m NE_by_m
      rw [hact.out] at hA
      try simp only [Act.put, List.setIfInBounds_toArray, List.set_cons_zero, List.set_cons_succ] at hA
      subst hl hA
      refine hUT.out _ _ _ _ ?_
      refine wpAnyH_ready (rs := [1, 4, 5]) (by kernel_rfl) (by simp) ?_
      refine AllReadyH.cons rfl (fun K0 hK0 => ?_) ?_
      · refine step_func 11 #[.agg #[.int .u64 S, .slice A R cap]] (by rfl) rfl (by simp [Act.eval]) (fun _ _ => by kernel_rfl) ?_
        refine (gref_any _ _ S R _ _ FA_a_105.out.at).mono ?_
        rintro e q1 ⟨rfl, bb⟩
        have BEL106 := h_bel BEL105 bb
        have BOX106 := h_box BOX105 bb
        have FA_a_106 := h_fact FA_a_105 bb
        have FA_b_106 := h_fact FA_b_105 bb
        have KB_bx_106 := h_blk KB_bx_105 bb
        have KB_by_106 := h_blk KB_by_105 bb
        have KB_m_106 := h_blk KB_m_105 bb
        clear BEL105 BOX105 FA_a_105 FA_b_105 KB_bx_105 KB_by_105 KB_m_105
        clear bb
        refine ⟨_, rfl, ?_⟩
        refine hK0.out _ _ (by exact ⟨KB_bx_106.out, KB_by_106.out⟩) (fun hHeld => ?_)
        clear hK0 K0 hHeld
        refine hTU.out _ _ _ _ ?_
        refine ND_1_.out _  _ _ ?_ ?_ BEL106 BOX106 FA_a_106 FA_b_106 KB_bx_106 KB_by_106 KB_m_106 NE_bx_by NE_bx_m NE_by_m
        · first | rfl | kernel_rfl
        · rw [hact.out]; rfl
      refine AllReadyH.cons rfl (fun K0 hK0 => ?_) ?_
      · have BEL106 := a_bel BEL105 (.cells #[.int .u64 0, .slice none 0 0] 30)
        have BOX106 := a_box BOX105 BEL105 (.cells #[.int .u64 0, .slice none 0 0] 30)
        have FA_a_106 := a_fact FA_a_105 (.cells #[.int .u64 0, .slice none 0 0] 30)
        have FA_b_106 := a_fact FA_b_105 (.cells #[.int .u64 0, .slice none 0 0] 30)
        have KB_bx_106 := a_blk KB_bx_105 (.cells #[.int .u64 0, .slice none 0 0] 30)
        have NE_bx_x := n_ne KB_bx_105
        have KB_by_106 := a_blk KB_by_105 (.cells #[.int .u64 0, .slice none 0 0] 30)
        have NE_by_x := n_ne KB_by_105
        have KB_m_106 := a_blk KB_m_105 (.cells #[.int .u64 0, .slice none 0 0] 30)
        have NE_m_x := n_ne KB_m_105
        have KB_x_106 := n_blk (u := v) 30 #[.int .u64 0, .slice none 0 0]
        clear BEL105 BOX105 FA_a_105 FA_b_105 KB_bx_105 KB_by_105 KB_m_105
        go_simp
        generalize (v.alloc (.cells #[.int .u64 0, .slice none 0 0] 30)) = v2 at BEL106 BOX106 FA_a_106 FA_b_106 KB_bx_106 KB_by_106 KB_m_106 KB_x_106 ⊢
        generalize v.heap.size = gx at BOX106 FA_a_106 FA_b_106 KB_x_106 NE_bx_x NE_by_x NE_m_x ⊢
        refine hK0.out _ _ (by exact ⟨KB_bx_106.out, KB_by_106.out⟩) (fun hHeld => ?_)
        clear hK0 K0 hHeld
        refine hTU.out _ _ _ _ ?_
        refine ND_0_x.out _ gx _ _ ?_ ?_ BEL106 BOX106 FA_a_106 FA_b_106 KB_bx_106 KB_by_106 KB_m_106 KB_x_106 NE_bx_by NE_bx_m NE_by_m NE_bx_x NE_by_x NE_m_x
        · first | rfl | kernel_rfl
        · rw [hact.out]; rfl
      refine AllReadyH.cons rfl (fun K0 hK0 => ?_) ?_
      · have BEL106 := a_bel BEL105 (.cells #[.int .u64 0, .slice none 0 0] 30)
        have BOX106 := a_box BOX105 BEL105 (.cells #[.int .u64 0, .slice none 0 0] 30)
        have FA_a_106 := a_fact FA_a_105 (.cells #[.int .u64 0, .slice none 0 0] 30)
        have FA_b_106 := a_fact FA_b_105 (.cells #[.int .u64 0, .slice none 0 0] 30)
        have KB_bx_106 := a_blk KB_bx_105 (.cells #[.int .u64 0, .slice none 0 0] 30)
        have NE_bx_y := n_ne KB_bx_105
        have KB_by_106 := a_blk KB_by_105 (.cells #[.int .u64 0, .slice none 0 0] 30)
        have NE_by_y := n_ne KB_by_105
        have KB_m_106 := a_blk KB_m_105 (.cells #[.int .u64 0, .slice none 0 0] 30)
        have NE_m_y := n_ne KB_m_105
        have KB_y_106 := n_blk (u := v) 30 #[.int .u64 0, .slice none 0 0]
        clear BEL105 BOX105 FA_a_105 FA_b_105 KB_bx_105 KB_by_105 KB_m_105
        go_simp
        generalize (v.alloc (.cells #[.int .u64 0, .slice none 0 0] 30)) = v2 at BEL106 BOX106 FA_a_106 FA_b_106 KB_bx_106 KB_by_106 KB_m_106 KB_y_106 ⊢
        generalize v.heap.size = gy at BOX106 FA_a_106 FA_b_106 KB_y_106 NE_bx_y NE_by_y NE_m_y ⊢
        refine hK0.out _ _ (by exact ⟨KB_bx_106.out, KB_by_106.out⟩) (fun hHeld => ?_)
        clear hK0 K0 hHeld
        refine hTU.out _ _ _ _ ?_
        refine ND_0_y.out _ gy _ _ ?_ ?_ BEL106 BOX106 FA_a_106 FA_b_106 KB_bx_106 KB_by_106 KB_m_106 KB_y_106 NE_bx_by NE_bx_m NE_by_m NE_bx_y NE_by_y NE_m_y
        · first | rfl | kernel_rfl
        · rw [hact.out]; rfl
      exact AllReadyH.nil
    refine ND_0_.out _  _ _ ?_ ?_ BEL5 BOX5 FA_a_5 FA_b_5 KB_bx_5 KB_by_5 KB_m_5 NE_bx_by NE_bx_m NE_by_m
    · first | rfl | kernel_rfl
    · rfl
  obtain ⟨rp, rq, eS, eR, eL⟩ := hok
  subst eS eR
  obtain ⟨n, hn⟩ : ∃ n, n = L 0 := ⟨_, rfl⟩
  have OK : Hid (OkG R n Z) := by rw [hn]; exact rp.ok
  have OK' : Hid (OkG R n Y) := by rw [hn, eL]; exact rq.ok
  have n2 : n ≤ 256 := OK.out.2.2.2.2.1
  have n1 : 1 ≤ n := OK.out.2.2.2.1
  have r1 : 1 ≤ R := OK.out.1
  have LK : Hid (∀ i, i < R → L i = n) := fun i hi => by rw [hn]; exact (rp.2.2.2.2.2 i hi).1
  have LK' : Hid (∀ i, i < R → L' i = n) := fun i hi => by rw [hn, eL]; exact (rq.2.2.2.2.2 i hi).1
  obtain ⟨rfl, A2, cap2, b2, o2, d1, _⟩ := RA.out 0 r1
  obtain ⟨rfl, A3, cap3, b3, o3, d3, _⟩ := RB.out 0 r1
  rw [Nat.add_zero] at d1 d3
  rw [LK.out 0 r1] at d1
  rw [LK'.out 0 r1] at d3
  have D1 : Hid (w.cell? ⟨bq, oq, none⟩ = some (.slice A2 n cap2)) := d1
  have D3 : Hid (w.cell? ⟨bq', oq', none⟩ = some (.slice A3 n cap3)) := d3
  have i1 : (0 : Int) < (R : Int) := by omega
  clear rp rq hn eL RA RB d1 d3
  have FN := FA_a_2.out.imp (Q := fun uq => SgAt uq (.agg #[.int .u64 S, .slice (some ⟨bq, oq, none⟩) R cap]) S R (fun _ => n) Z) (fun u h => h.congr LK.out (fun _ _ _ _ => rfl))
  clear FA_a_2
  have FA_a_2 : Hid (HeldX [w.heap.size + 1, w.heap.size] (fun uq => SgAt uq (.agg #[.int .u64 S, .slice (some ⟨bq, oq, none⟩) R cap]) S R (fun _ => n) Z) ((w.alloc (.cells #[.int .u64 S, .slice (some ⟨bq, oq, none⟩) R cap] 25)).alloc (.cells #[.int .u64 S, .slice (some ⟨bq', oq', none⟩) R cap'] 25))) := FN
  clear FN
  have FN := FA_b_2.out.imp (Q := fun uq => SgAt uq (.agg #[.int .u64 S, .slice (some ⟨bq', oq', none⟩) R cap']) S R (fun _ => n) Y) (fun u h => h.congr LK'.out (fun _ _ _ _ => rfl))
  clear FA_b_2
  have FA_b_2 : Hid (HeldX [w.heap.size + 1, w.heap.size] (fun uq => SgAt uq (.agg #[.int .u64 S, .slice (some ⟨bq', oq', none⟩) R cap']) S R (fun _ => n) Y) ((w.alloc (.cells #[.int .u64 S, .slice (some ⟨bq, oq, none⟩) R cap] 25)).alloc (.cells #[.int .u64 S, .slice (some ⟨bq', oq', none⟩) R cap'] 25))) := FN
  clear FN
  by_cases hm : OkG R n (mergeG Z Y)
  rotate_left
  · have HM : Hid (¬ OkG R n (mergeG Z Y)) := hm
    clear hm
    clear CE_bx_0 CE_bx_1 CE_bx_lt CE_by_0 CE_by_1 CE_by_lt
    have CE_bx_0 : ((w.alloc (.cells #[.int .u64 S, .slice (some ⟨bq, oq, none⟩) R cap] 25)).alloc (.cells #[.int .u64 S, .slice (some ⟨bq', oq', none⟩) R cap'] 25)).cell? ⟨w.heap.size, 0, none⟩ = some (.int .u64 S) := KB_bx_2.out.cell 0
    have CE_bx_1 : ((w.alloc (.cells #[.int .u64 S, .slice (some ⟨bq, oq, none⟩) R cap] 25)).alloc (.cells #[.int .u64 S, .slice (some ⟨bq', oq', none⟩) R cap'] 25)).cell? ⟨w.heap.size, 1, none⟩ = some (.slice (some ⟨bq, oq, none⟩) R cap) := KB_bx_2.out.cell 1
    have CE_bx_lt : w.heap.size < ((w.alloc (.cells #[.int .u64 S, .slice (some ⟨bq, oq, none⟩) R cap] 25)).alloc (.cells #[.int .u64 S, .slice (some ⟨bq', oq', none⟩) R cap'] 25)).heap.size := KB_bx_2.out.lt
    have CE_by_0 : ((w.alloc (.cells #[.int .u64 S, .slice (some ⟨bq, oq, none⟩) R cap] 25)).alloc (.cells #[.int .u64 S, .slice (some ⟨bq', oq', none⟩) R cap'] 25)).cell? ⟨w.heap.size + 1, 0, none⟩ = some (.int .u64 S) := KB_by_2.out.cell 0
    have CE_by_1 : ((w.alloc (.cells #[.int .u64 S, .slice (some ⟨bq, oq, none⟩) R cap] 25)).alloc (.cells #[.int .u64 S, .slice (some ⟨bq', oq', none⟩) R cap'] 25)).cell? ⟨w.heap.size + 1, 1, none⟩ = some (.slice (some ⟨bq', oq', none⟩) R cap') := KB_by_2.out.cell 1
    have CE_by_lt : w.heap.size + 1 < ((w.alloc (.cells #[.int .u64 S, .slice (some ⟨bq, oq, none⟩) R cap] 25)).alloc (.cells #[.int .u64 S, .slice (some ⟨bq', oq', none⟩) R cap'] 25)).heap.size := KB_by_2.out.lt
    go_wp2_with fail
    refine ((gmerge_any _ _ _ S R n Z Y FA_a_2.out.at FA_b_2.out.at OK.out OK'.out).mono (fun _ _ h => h.2 HM.out)).mono ?_
    rintro e ww3 ⟨rfl, b3⟩
    clear CE_bx_0 CE_bx_1 CE_bx_lt CE_by_0 CE_by_1 CE_by_lt
    have BEL3 := h_bel BEL2 b3
    have BOX3 := h_box BOX2 b3
    have FA_a_3 := h_fact FA_a_2 b3
    have FA_b_3 := h_fact FA_b_2 b3
    have KB_bx_3 := h_blk KB_bx_2 b3
    have KB_by_3 := h_blk KB_by_2 b3
    clear BEL2 BOX2 FA_a_2 FA_b_2 KB_bx_2 KB_by_2
    clear b3
    go_upto_region 4 with fail
    have BEL4 := a_bel BEL3 (.cells #[.int .u64 0, .slice none 0 0] 25)
    have BOX4 := a_box BOX3 BEL3 (.cells #[.int .u64 0, .slice none 0 0] 25)
    have FA_a_4 := a_fact FA_a_3 (.cells #[.int .u64 0, .slice none 0 0] 25)
    have FA_b_4 := a_fact FA_b_3 (.cells #[.int .u64 0, .slice none 0 0] 25)
    have KB_bx_4 := a_blk KB_bx_3 (.cells #[.int .u64 0, .slice none 0 0] 25)
    have NE_bx_m := n_ne KB_bx_3
    have KB_by_4 := a_blk KB_by_3 (.cells #[.int .u64 0, .slice none 0 0] 25)
    have NE_by_m := n_ne KB_by_3
    have KB_m_4 := n_blk (u := ww3) 25 #[.int .u64 0, .slice none 0 0]
    clear BEL3 BOX3 FA_a_3 FA_b_3 KB_bx_3 KB_by_3
    generalize (ww3.alloc (.cells #[.int .u64 0, .slice none 0 0] 25)) = u2 at BEL4 BOX4 FA_a_4 FA_b_4 KB_bx_4 KB_by_4 KB_m_4 ⊢
    generalize ww3.heap.size = gm at BOX4 FA_a_4 FA_b_4 KB_m_4 NE_bx_m NE_by_m ⊢
    refine letterQ ?_
    intro QQ hQQ
    have BEL5 := h_bel BEL4 ((Below.refl _ _).drew)
    have BOX5 := h_box BOX4 ((Below.refl _ _).drew)
    have FA_a_5 := h_fact FA_a_4 ((Below.refl _ _).drew)
    have FA_b_5 := h_fact FA_b_4 ((Below.refl _ _).drew)
    have KB_bx_5 := h_blk KB_bx_4 ((Below.refl _ _).drew)
    have KB_by_5 := h_blk KB_by_4 ((Below.refl _ _).drew)
    have KB_m_5 := h_blk KB_m_4 ((Below.refl _ _).drew)
    clear BEL4 BOX4 FA_a_4 FA_b_4 KB_bx_4 KB_by_4 KB_m_4
    refine wp_region_held_drew (S := (fun w' => Blk w' w.heap.size 25 #[.int .u64 S, .slice (some ⟨bq, oq, none⟩) R cap] ∧ Blk w' (w.heap.size + 1) 25 #[.int .u64 S, .slice (some ⟨bq', oq', none⟩) R cap'])) (by kernel_rfl) ⟨KB_bx_5.out, KB_by_5.out⟩ (fun hHeld => ?_)
    clear hHeld
    generalize u2.drew = v1 at BEL5 BOX5 FA_a_5 FA_b_5 KB_bx_5 KB_by_5 KB_m_5 ⊢
    refine wpAnyH_take (i := 0) (v := ?_) rfl (by kernel_rfl) (by kernel_rfl) (by kernel_rfl) (fun _ _ _ h => h) (Or.inl ⟨by rfl, ?_⟩) ⟨KB_bx_5.out, KB_by_5.out⟩ ?_
    rotate_left
    · intro wq hSw; have cl0 := hSw.1.cell 0; have cl1 := hSw.1.cell 1; go_simp; first | done | with_reducible rfl
    simp only [List.getElem_toArray, List.getElem_cons_zero, Act.put, List.setIfInBounds_toArray, List.set_cons_zero, List.set_cons_succ]
    refine wpAnyH_take (i := 2) (v := ?_) rfl (by kernel_rfl) (by kernel_rfl) (by kernel_rfl) (fun _ _ _ h => h) (Or.inl ⟨by rfl, ?_⟩) ⟨KB_bx_5.out, KB_by_5.out⟩ ?_
    rotate_left
    · intro wq hSw; have cl0 := hSw.2.cell 0; have cl1 := hSw.2.cell 1; go_simp; first | done | with_reducible rfl
    simp only [List.getElem_toArray, List.getElem_cons_zero, List.getElem_cons_succ, Act.put, List.setIfInBounds_toArray, List.set_cons_zero, List.set_cons_succ]
    refine letterT (T := wpAnyH _ _ _ _ _) ?_
    intro TT hTU hUT
    refine letterA ?_
    intro act0 hact
    have ND_2_xy : Hid (∀ (v : World) (gx : Nat) (gy : Nat) (ll : Array Bool) (aa : Act), ll = #[true, true, true, true, true, true, false, false] → aa = ((((act0.put (some 29) (.agg #[.int .u64 S, .slice (some ⟨bq, oq, none⟩) R cap])).put (some 31) (.agg #[.int .u64 S, .slice (some ⟨bq', oq', none⟩) R cap'])).put (some 7) (.pointer (some ⟨gx, 0, none⟩))).put (some 8) (.pointer (some ⟨gy, 0, none⟩))) → Hid (Below w.heap.size w v) → Hid (Boxes w v [gy, gx, gm, w.heap.size + 1, w.heap.size]) → Hid (HeldX [gy, gx, gm, w.heap.size + 1, w.heap.size] (fun uq => SgAt uq (.agg #[.int .u64 S, .slice (some ⟨bq, oq, none⟩) R cap]) S R (fun _ => n) Z) v) → Hid (HeldX [gy, gx, gm, w.heap.size + 1, w.heap.size] (fun uq => SgAt uq (.agg #[.int .u64 S, .slice (some ⟨bq', oq', none⟩) R cap']) S R (fun _ => n) Y) v) → Hid (Blk v w.heap.size 25 #[.int .u64 S, .slice (some ⟨bq, oq, none⟩) R cap]) → Hid (Blk v (w.heap.size + 1) 25 #[.int .u64 S, .slice (some ⟨bq', oq', none⟩) R cap']) → Hid (Blk v gm 25 #[.int .u64 0, .slice none 0 0]) → Hid (Blk v gx 30 #[.int .u64 0, .slice none 0 0]) → Hid (Blk v gy 30 #[.int .u64 0, .slice none 0 0]) → Hid (w.heap.size ≠ w.heap.size + 1) → Hid (w.heap.size ≠ gm) → Hid (w.heap.size + 1 ≠ gm) → Hid (w.heap.size ≠ gx) → Hid (w.heap.size ≠ gy) → Hid (w.heap.size + 1 ≠ gx) → Hid (w.heap.size + 1 ≠ gy) → Hid (gm ≠ gx) → Hid (gm ≠ gy) → Hid (gx ≠ gy) → TT 2 ll aa v) := by
      intro v gx gy ll aa hl hA BEL105 BOX105 FA_a_105 FA_b_105 KB_bx_105 KB_by_105 KB_m_105 KB_x_105 KB_y_105 NE_bx_by NE_bx_m NE_by_m NE_bx_x NE_bx_y NE_by_x NE_by_y NE_m_x NE_m_y NE_x_y
      rw [hact.out] at hA
      try simp only [Act.put, List.setIfInBounds_toArray, List.set_cons_zero, List.set_cons_succ] at hA
      subst hl hA
      refine hUT.out _ _ _ _ ?_
      refine wpAnyH_ready (rs := [6]) (by kernel_rfl) (by simp) ?_
      refine AllReadyH.cons rfl (fun K0 hK0 => ?_) ?_
      rotate_left
      · exact AllReadyH.nil
      have CE_x_0 : v.cell? ⟨gx, 0, none⟩ = some (.int .u64 0) := KB_x_105.out.cell 0
      have CF_x_0 : v.frozen? ⟨gx, 0, none⟩ = false := KB_x_105.out.frozen 0
      have CE_x_1 : v.cell? ⟨gx, 1, none⟩ = some (.slice none 0 0) := KB_x_105.out.cell 1
      have CF_x_1 : v.frozen? ⟨gx, 1, none⟩ = false := KB_x_105.out.frozen 1
      have CE_x_lt : gx < v.heap.size := KB_x_105.out.lt
      go_simp
      clear CE_x_0 CF_x_0 CE_x_1 CF_x_1 CE_x_lt
      obtain ⟨vs1, hv⟩ : ∃ q, q = ((v.setCell ⟨gx, 0, none⟩ (.int .u64 S)).setCell ⟨gx, 1, none⟩ (.slice (some ⟨bq, oq, none⟩) R cap)) := ⟨_, rfl⟩
      rw [← hv]
      have pe : vs1 = putCells v gx 0 [.int .u64 S, .slice (some ⟨bq, oq, none⟩) R cap] := hv
      clear hv
      have BEL106 := p_bel pe BEL105 BOX105 (List.mem_cons_of_mem _ List.mem_cons_self)
      have BOX106 := p_box pe BOX105
      have FA_a_106 := p_fact pe FA_a_105 (List.mem_cons_of_mem _ List.mem_cons_self)
      have FA_b_106 := p_fact pe FA_b_105 (List.mem_cons_of_mem _ List.mem_cons_self)
      have KB_bx_106 := p_oth pe KB_bx_105 NE_bx_x
      have KB_by_106 := p_oth pe KB_by_105 NE_by_x
      have KB_m_106 := p_oth pe KB_m_105 NE_m_x
      have KB_x_106 : Hid (Blk vs1 gx 30 #[.int .u64 S, .slice (some ⟨bq, oq, none⟩) R cap]) := p_blk pe KB_x_105 rfl
      have KB_y_106 := p_oth pe KB_y_105 (n_sym NE_x_y)
      clear pe BEL105 BOX105 FA_a_105 FA_b_105 KB_bx_105 KB_by_105 KB_m_105 KB_x_105 KB_y_105
      refine hK0.out _ _ (by exact ⟨KB_bx_106.out, KB_by_106.out⟩) (fun hHeld => ?_)
      clear hK0 K0 hHeld
      refine wpAnyH_ready (rs := [7]) (by kernel_rfl) (by simp) ?_
      refine AllReadyH.cons rfl (fun K0 hK0 => ?_) ?_
      rotate_left
      · exact AllReadyH.nil
      have CE_y_0 : vs1.cell? ⟨gy, 0, none⟩ = some (.int .u64 0) := KB_y_106.out.cell 0
      have CF_y_0 : vs1.frozen? ⟨gy, 0, none⟩ = false := KB_y_106.out.frozen 0
      have CE_y_1 : vs1.cell? ⟨gy, 1, none⟩ = some (.slice none 0 0) := KB_y_106.out.cell 1
      have CF_y_1 : vs1.frozen? ⟨gy, 1, none⟩ = false := KB_y_106.out.frozen 1
      have CE_y_lt : gy < vs1.heap.size := KB_y_106.out.lt
      go_simp
      clear CE_y_0 CF_y_0 CE_y_1 CF_y_1 CE_y_lt
      obtain ⟨vs2, hv⟩ : ∃ q, q = ((vs1.setCell ⟨gy, 0, none⟩ (.int .u64 S)).setCell ⟨gy, 1, none⟩ (.slice (some ⟨bq', oq', none⟩) R cap')) := ⟨_, rfl⟩
      rw [← hv]
      have pe : vs2 = putCells vs1 gy 0 [.int .u64 S, .slice (some ⟨bq', oq', none⟩) R cap'] := hv
      clear hv
      have BEL107 := p_bel pe BEL106 BOX106 List.mem_cons_self
      have BOX107 := p_box pe BOX106
      have FA_a_107 := p_fact pe FA_a_106 List.mem_cons_self
      have FA_b_107 := p_fact pe FA_b_106 List.mem_cons_self
      have KB_bx_107 := p_oth pe KB_bx_106 NE_bx_y
      have KB_by_107 := p_oth pe KB_by_106 NE_by_y
      have KB_m_107 := p_oth pe KB_m_106 NE_m_y
      have KB_x_107 := p_oth pe KB_x_106 NE_x_y
      have KB_y_107 : Hid (Blk vs2 gy 30 #[.int .u64 S, .slice (some ⟨bq', oq', none⟩) R cap']) := p_blk pe KB_y_106 rfl
      clear pe BEL106 BOX106 FA_a_106 FA_b_106 KB_bx_106 KB_by_106 KB_m_106 KB_x_106 KB_y_106
      refine hK0.out _ _ (by exact ⟨KB_bx_107.out, KB_by_107.out⟩) (fun hHeld => ?_)
      clear hK0 K0 hHeld
      refine wpAnyH_done (by kernel_rfl) ?_ _
      refine NoPanic.normal ?_
      refine hQQ.out _ _ ?_
      clear hTU hUT hact hQQ
      generalize vs2 = v9 at BEL107 BOX107 FA_a_107 FA_b_107 KB_bx_107 KB_by_107 KB_m_107 KB_x_107 KB_y_107 ⊢
      have E1 : Hid (∀ w1, Below v9.heap.size v9 w1 → Calls Try.prog 13 #[.agg #[.int .u64 S, .slice (some ⟨bq, oq, none⟩) R cap]] w1 fun e w' => e = .returned (.bool true) ∧ Below v9.heap.size v9 w') := fun w1 b1 => (hright_any w1 _ S R _ _ (FA_a_107.out.since b1).at (fun i hi => by show n ≤ 1000; omega)).mono fun e w' h => ⟨(told h true ⟨fun _ => OK.out.right, fun _ => rfl⟩).1, bel_trans b1 (told h true ⟨fun _ => OK.out.right, fun _ => rfl⟩).2⟩
      have E2 : Hid (∀ w1, Below v9.heap.size v9 w1 → Calls Try.prog 13 #[.agg #[.int .u64 S, .slice (some ⟨bq', oq', none⟩) R cap']] w1 fun e w' => e = .returned (.bool true) ∧ Below v9.heap.size v9 w') := fun w1 b1 => (hright_any w1 _ S R _ _ (FA_b_107.out.since b1).at (fun i hi => by show n ≤ 1000; omega)).mono fun e w' h => ⟨(told h true ⟨fun _ => OK'.out.right, fun _ => rfl⟩).1, bel_trans b1 (told h true ⟨fun _ => OK'.out.right, fun _ => rfl⟩).2⟩
      have KS : Hid (∀ w' : World, Below v9.heap.size v9 w' → (w'.cell? ⟨gx, 0, none⟩ = some (.int .u64 S) ∧ w'.cell? ⟨gx, 1, none⟩ = some (.slice (some ⟨bq, oq, none⟩) R cap) ∧ w'.cell? ⟨gy, 0, none⟩ = some (.int .u64 S) ∧ w'.cell? ⟨gy, 1, none⟩ = some (.slice (some ⟨bq', oq', none⟩) R cap') ∧ w'.cell? ⟨w.heap.size, 0, none⟩ = some (.int .u64 S) ∧ w'.cell? ⟨w.heap.size, 1, none⟩ = some (.slice (some ⟨bq, oq, none⟩) R cap) ∧ w'.cell? ⟨w.heap.size + 1, 0, none⟩ = some (.int .u64 S) ∧ w'.cell? ⟨w.heap.size + 1, 1, none⟩ = some (.slice (some ⟨bq', oq', none⟩) R cap') ∧ w'.cell? ⟨bq, oq, none⟩ = some (.slice A2 n cap2) ∧ w'.cell? ⟨bq', oq', none⟩ = some (.slice A3 n cap3))) := fun w' b1 => ⟨(KB_x_107.out.since b1).cell 0, (KB_x_107.out.since b1).cell 1, (KB_y_107.out.since b1).cell 0, (KB_y_107.out.since b1).cell 1, (KB_bx_107.out.since b1).cell 0, (KB_bx_107.out.since b1).cell 1, (KB_by_107.out.since b1).cell 0, (KB_by_107.out.since b1).cell 1, keep_of_below (bel_trans BEL107.out b1) _ _ D1.out, keep_of_below (bel_trans BEL107.out b1) _ _ D3.out⟩
      have Z0 : Hid (Below v9.heap.size v9 v9.drew) := (Below.refl _ _).drew
      have cr1 : v9.cell? ⟨bq, oq, none⟩ = some (.slice A2 n cap2) := keep_of_below BEL107.out _ _ D1.out
      have cr2 : v9.cell? ⟨bq', oq', none⟩ = some (.slice A3 n cap3) := keep_of_below BEL107.out _ _ D3.out
      have eS : (S != S) = false := by simp
      have eR : ((R : Int) != (R : Int)) = false := by simp
      have eN : ((n : Int) != (n : Int)) = false := by simp
      have CE_bx_0 : v9.cell? ⟨w.heap.size, 0, none⟩ = some (.int .u64 S) := KB_bx_107.out.cell 0
      have CE_bx_1 : v9.cell? ⟨w.heap.size, 1, none⟩ = some (.slice (some ⟨bq, oq, none⟩) R cap) := KB_bx_107.out.cell 1
      have CE_bx_lt : w.heap.size < v9.heap.size := KB_bx_107.out.lt
      have CE_by_0 : v9.cell? ⟨w.heap.size + 1, 0, none⟩ = some (.int .u64 S) := KB_by_107.out.cell 0
      have CE_by_1 : v9.cell? ⟨w.heap.size + 1, 1, none⟩ = some (.slice (some ⟨bq', oq', none⟩) R cap') := KB_by_107.out.cell 1
      have CE_by_lt : w.heap.size + 1 < v9.heap.size := KB_by_107.out.lt
      have CE_x_0 : v9.cell? ⟨gx, 0, none⟩ = some (.int .u64 S) := KB_x_107.out.cell 0
      have CE_x_1 : v9.cell? ⟨gx, 1, none⟩ = some (.slice (some ⟨bq, oq, none⟩) R cap) := KB_x_107.out.cell 1
      have CE_x_lt : gx < v9.heap.size := KB_x_107.out.lt
      have CE_y_0 : v9.cell? ⟨gy, 0, none⟩ = some (.int .u64 S) := KB_y_107.out.cell 0
      have CE_y_1 : v9.cell? ⟨gy, 1, none⟩ = some (.slice (some ⟨bq', oq', none⟩) R cap') := KB_y_107.out.cell 1
      have CE_y_lt : gy < v9.heap.size := KB_y_107.out.lt
      go_wp2_with fail
      have i3 : 0 < R := by omega
      go_region_held3 (fun w' => w'.cell? ⟨gx, 0, none⟩ = some (.int .u64 S) ∧ w'.cell? ⟨gx, 1, none⟩ = some (.slice (some ⟨bq, oq, none⟩) R cap) ∧ w'.cell? ⟨gy, 0, none⟩ = some (.int .u64 S) ∧ w'.cell? ⟨gy, 1, none⟩ = some (.slice (some ⟨bq', oq', none⟩) R cap') ∧ w'.cell? ⟨w.heap.size, 0, none⟩ = some (.int .u64 S) ∧ w'.cell? ⟨w.heap.size, 1, none⟩ = some (.slice (some ⟨bq, oq, none⟩) R cap) ∧ w'.cell? ⟨w.heap.size + 1, 0, none⟩ = some (.int .u64 S) ∧ w'.cell? ⟨w.heap.size + 1, 1, none⟩ = some (.slice (some ⟨bq', oq', none⟩) R cap') ∧ w'.cell? ⟨bq, oq, none⟩ = some (.slice A2 n cap2) ∧ w'.cell? ⟨bq', oq', none⟩ = some (.slice A3 n cap3)) (first | exact KS.out _ Z2.out | exact KS.out _ Z1.out | exact KS.out _ Z0.out | go_keep) (first
        | (have fl := Z1; clear fl; go_simp; go_at_call 13; refine (E2.out _ Z1.out).mono ?_; rintro e p2 ⟨rfl, cc⟩; have Z2 : Hid (Below v9.heap.size v9 p2) := cc; clear cc)
        | (have fl := Z0; clear fl; go_simp; go_at_call 13; refine (E1.out _ Z0.out).mono ?_; rintro e p1 ⟨rfl, cc⟩; have Z1 : Hid (Below v9.heap.size v9 p1) := cc; clear cc))
      all_goals clear CE_bx_0 CE_bx_1 CE_bx_lt CE_by_0 CE_by_1 CE_by_lt CE_x_0 CE_x_1 CE_x_lt CE_y_0 CE_y_1 CE_y_lt cr1 cr2 E1 E2 KS eS eR eN
      all_goals
        have BEL108 := h_bel BEL107 Z2.out
        have BOX108 := h_box BOX107 Z2.out
        have FA_a_108 := h_fact FA_a_107 Z2.out
        have FA_b_108 := h_fact FA_b_107 Z2.out
        have KB_bx_108 := h_blk KB_bx_107 Z2.out
        have KB_by_108 := h_blk KB_by_107 Z2.out
        have KB_m_108 := h_blk KB_m_107 Z2.out
        have KB_x_108 := h_blk KB_x_107 Z2.out
        have KB_y_108 := h_blk KB_y_107 Z2.out
        clear BEL107 BOX107 FA_a_107 FA_b_107 KB_bx_107 KB_by_107 KB_m_107 KB_x_107 KB_y_107
        clear Z0 Z1 Z2
        have CE_x_0 : p2.cell? ⟨gx, 0, none⟩ = some (.int .u64 S) := KB_x_108.out.cell 0
        have CE_x_1 : p2.cell? ⟨gx, 1, none⟩ = some (.slice (some ⟨bq, oq, none⟩) R cap) := KB_x_108.out.cell 1
        have CE_x_lt : gx < p2.heap.size := KB_x_108.out.lt
        have CE_y_0 : p2.cell? ⟨gy, 0, none⟩ = some (.int .u64 S) := KB_y_108.out.cell 0
        have CE_y_1 : p2.cell? ⟨gy, 1, none⟩ = some (.slice (some ⟨bq', oq', none⟩) R cap') := KB_y_108.out.cell 1
        have CE_y_lt : gy < p2.heap.size := KB_y_108.out.lt
        go_wp2_with fail
        refine (hmerge_any _ _ _ S R n Z Y FA_a_108.out.at FA_b_108.out.at OK.out OK'.out).mono ?_
        rintro e ww8 ⟨xy, B, rfl, hy, hB, b8⟩
        have HY : Hid (SgAt ww8 xy S R (fun _ => n) (mergeG Z Y)) := hy
        obtain ⟨vy, rfl, hvy⟩ := hy
        obtain ⟨Ay, cy, by_, oy, rfl, hx1, hx2⟩ := hvy.read
        clear hx1 hx2 hvy
        obtain rfl : B = false := by
          cases B with
          | false => rfl
          | true => exact absurd (hB.1 rfl) HM.out
        clear hB
        clear CE_x_0 CE_x_1 CE_x_lt CE_y_0 CE_y_1 CE_y_lt
        have BEL109 := h_bel BEL108 b8
        have BOX109 := h_box BOX108 b8
        have FA_a_109 := h_fact FA_a_108 b8
        have FA_b_109 := h_fact FA_b_108 b8
        have KB_bx_109 := h_blk KB_bx_108 b8
        have KB_by_109 := h_blk KB_by_108 b8
        have KB_m_109 := h_blk KB_m_108 b8
        have KB_x_109 := h_blk KB_x_108 b8
        have KB_y_109 := h_blk KB_y_108 b8
        clear BEL108 BOX108 FA_a_108 FA_b_108 KB_bx_108 KB_by_108 KB_m_108 KB_x_108 KB_y_108
        clear b8
        clear HY
        have BEL110 := a_bel BEL109 (.cells #[.int .u64 S, .slice Ay R cy] 30)
        have BOX110 := a_box BOX109 BEL109 (.cells #[.int .u64 S, .slice Ay R cy] 30)
        have FA_a_110 := a_fact FA_a_109 (.cells #[.int .u64 S, .slice Ay R cy] 30)
        have FA_b_110 := a_fact FA_b_109 (.cells #[.int .u64 S, .slice Ay R cy] 30)
        have KB_bx_110 := a_blk KB_bx_109 (.cells #[.int .u64 S, .slice Ay R cy] 30)
        have NE_bx_z := n_ne KB_bx_109
        have KB_by_110 := a_blk KB_by_109 (.cells #[.int .u64 S, .slice Ay R cy] 30)
        have NE_by_z := n_ne KB_by_109
        have KB_m_110 := a_blk KB_m_109 (.cells #[.int .u64 S, .slice Ay R cy] 30)
        have NE_m_z := n_ne KB_m_109
        have KB_x_110 := a_blk KB_x_109 (.cells #[.int .u64 S, .slice Ay R cy] 30)
        have NE_x_z := n_ne KB_x_109
        have KB_y_110 := a_blk KB_y_109 (.cells #[.int .u64 S, .slice Ay R cy] 30)
        have NE_y_z := n_ne KB_y_109
        have KB_z_110 := n_blk (u := ww8) 30 #[.int .u64 S, .slice Ay R cy]
        clear BEL109 BOX109 FA_a_109 FA_b_109 KB_bx_109 KB_by_109 KB_m_109 KB_x_109 KB_y_109
        have CE_m_0 : (ww8.alloc (.cells #[.int .u64 S, .slice Ay R cy] 30)).cell? ⟨gm, 0, none⟩ = some (.int .u64 0) := KB_m_110.out.cell 0
        have CE_m_1 : (ww8.alloc (.cells #[.int .u64 S, .slice Ay R cy] 30)).cell? ⟨gm, 1, none⟩ = some (.slice none 0 0) := KB_m_110.out.cell 1
        have CE_m_lt : gm < (ww8.alloc (.cells #[.int .u64 S, .slice Ay R cy] 30)).heap.size := KB_m_110.out.lt
        go_wp2_with fail
        refine (gawake_any _).mono ?_
        rintro e ww99 ⟨rfl, b9⟩
        clear CE_m_0 CE_m_1 CE_m_lt
        have BEL111 := h_bel BEL110 b9
        have BOX111 := h_box BOX110 b9
        have FA_a_111 := h_fact FA_a_110 b9
        have FA_b_111 := h_fact FA_b_110 b9
        have KB_bx_111 := h_blk KB_bx_110 b9
        have KB_by_111 := h_blk KB_by_110 b9
        have KB_m_111 := h_blk KB_m_110 b9
        have KB_x_111 := h_blk KB_x_110 b9
        have KB_y_111 := h_blk KB_y_110 b9
        have KB_z_111 := h_blk KB_z_110 b9
        clear BEL110 BOX110 FA_a_110 FA_b_110 KB_bx_110 KB_by_110 KB_m_110 KB_x_110 KB_y_110 KB_z_110
        clear b9
        go_wp2_with fail
        go_ret
        exact ⟨rfl, BEL111.out⟩
    have ND_2_x : Hid (∀ (v : World) (gx : Nat) (ll : Array Bool) (aa : Act), ll = #[true, true, true, true, true, false, false, false] → aa = (((act0.put (some 29) (.agg #[.int .u64 S, .slice (some ⟨bq, oq, none⟩) R cap])).put (some 31) (.agg #[.int .u64 S, .slice (some ⟨bq', oq', none⟩) R cap'])).put (some 7) (.pointer (some ⟨gx, 0, none⟩))) → Hid (Below w.heap.size w v) → Hid (Boxes w v [gx, gm, w.heap.size + 1, w.heap.size]) → Hid (HeldX [gx, gm, w.heap.size + 1, w.heap.size] (fun uq => SgAt uq (.agg #[.int .u64 S, .slice (some ⟨bq, oq, none⟩) R cap]) S R (fun _ => n) Z) v) → Hid (HeldX [gx, gm, w.heap.size + 1, w.heap.size] (fun uq => SgAt uq (.agg #[.int .u64 S, .slice (some ⟨bq', oq', none⟩) R cap']) S R (fun _ => n) Y) v) → Hid (Blk v w.heap.size 25 #[.int .u64 S, .slice (some ⟨bq, oq, none⟩) R cap]) → Hid (Blk v (w.heap.size + 1) 25 #[.int .u64 S, .slice (some ⟨bq', oq', none⟩) R cap']) → Hid (Blk v gm 25 #[.int .u64 0, .slice none 0 0]) → Hid (Blk v gx 30 #[.int .u64 0, .slice none 0 0]) → Hid (w.heap.size ≠ w.heap.size + 1) → Hid (w.heap.size ≠ gm) → Hid (w.heap.size + 1 ≠ gm) → Hid (w.heap.size ≠ gx) → Hid (w.heap.size + 1 ≠ gx) → Hid (gm ≠ gx) → TT 3 ll aa v) := by
      intro v gx ll aa hl hA BEL105 BOX105 FA_a_105 FA_b_105 KB_bx_105 KB_by_105 KB_m_105 KB_x_105 NE_bx_by NE_bx_m NE_by_m NE_bx_x NE_by_x NE_m_x
      rw [hact.out] at hA
      try simp only [Act.put, List.setIfInBounds_toArray, List.set_cons_zero, List.set_cons_succ] at hA
      subst hl hA
      refine hUT.out _ _ _ _ ?_
      refine wpAnyH_ready (rs := [5]) (by kernel_rfl) (by simp) ?_
      refine AllReadyH.cons rfl (fun K0 hK0 => ?_) ?_
      · have BEL106 := a_bel BEL105 (.cells #[.int .u64 0, .slice none 0 0] 30)
        have BOX106 := a_box BOX105 BEL105 (.cells #[.int .u64 0, .slice none 0 0] 30)
        have FA_a_106 := a_fact FA_a_105 (.cells #[.int .u64 0, .slice none 0 0] 30)
        have FA_b_106 := a_fact FA_b_105 (.cells #[.int .u64 0, .slice none 0 0] 30)
        have KB_bx_106 := a_blk KB_bx_105 (.cells #[.int .u64 0, .slice none 0 0] 30)
        have NE_bx_y := n_ne KB_bx_105
        have KB_by_106 := a_blk KB_by_105 (.cells #[.int .u64 0, .slice none 0 0] 30)
        have NE_by_y := n_ne KB_by_105
        have KB_m_106 := a_blk KB_m_105 (.cells #[.int .u64 0, .slice none 0 0] 30)
        have NE_m_y := n_ne KB_m_105
        have KB_x_106 := a_blk KB_x_105 (.cells #[.int .u64 0, .slice none 0 0] 30)
        have NE_x_y := n_ne KB_x_105
        have KB_y_106 := n_blk (u := v) 30 #[.int .u64 0, .slice none 0 0]
        clear BEL105 BOX105 FA_a_105 FA_b_105 KB_bx_105 KB_by_105 KB_m_105 KB_x_105
        go_simp
        generalize (v.alloc (.cells #[.int .u64 0, .slice none 0 0] 30)) = v2 at BEL106 BOX106 FA_a_106 FA_b_106 KB_bx_106 KB_by_106 KB_m_106 KB_x_106 KB_y_106 ⊢
        generalize v.heap.size = gy at BOX106 FA_a_106 FA_b_106 KB_y_106 NE_bx_y NE_by_y NE_m_y NE_x_y ⊢
        refine hK0.out _ _ (by exact ⟨KB_bx_106.out, KB_by_106.out⟩) (fun hHeld => ?_)
        clear hK0 K0 hHeld
        refine hTU.out _ _ _ _ ?_
        refine ND_2_xy.out _ gx gy _ _ ?_ ?_ BEL106 BOX106 FA_a_106 FA_b_106 KB_bx_106 KB_by_106 KB_m_106 KB_x_106 KB_y_106 NE_bx_by NE_bx_m NE_by_m NE_bx_x NE_bx_y NE_by_x NE_by_y NE_m_x NE_m_y NE_x_y
        · first | rfl | kernel_rfl
        · rw [hact.out]; rfl
      exact AllReadyH.nil
    have ND_2_y : Hid (∀ (v : World) (gy : Nat) (ll : Array Bool) (aa : Act), ll = #[true, true, true, true, false, true, false, false] → aa = (((act0.put (some 29) (.agg #[.int .u64 S, .slice (some ⟨bq, oq, none⟩) R cap])).put (some 31) (.agg #[.int .u64 S, .slice (some ⟨bq', oq', none⟩) R cap'])).put (some 8) (.pointer (some ⟨gy, 0, none⟩))) → Hid (Below w.heap.size w v) → Hid (Boxes w v [gy, gm, w.heap.size + 1, w.heap.size]) → Hid (HeldX [gy, gm, w.heap.size + 1, w.heap.size] (fun uq => SgAt uq (.agg #[.int .u64 S, .slice (some ⟨bq, oq, none⟩) R cap]) S R (fun _ => n) Z) v) → Hid (HeldX [gy, gm, w.heap.size + 1, w.heap.size] (fun uq => SgAt uq (.agg #[.int .u64 S, .slice (some ⟨bq', oq', none⟩) R cap']) S R (fun _ => n) Y) v) → Hid (Blk v w.heap.size 25 #[.int .u64 S, .slice (some ⟨bq, oq, none⟩) R cap]) → Hid (Blk v (w.heap.size + 1) 25 #[.int .u64 S, .slice (some ⟨bq', oq', none⟩) R cap']) → Hid (Blk v gm 25 #[.int .u64 0, .slice none 0 0]) → Hid (Blk v gy 30 #[.int .u64 0, .slice none 0 0]) → Hid (w.heap.size ≠ w.heap.size + 1) → Hid (w.heap.size ≠ gm) → Hid (w.heap.size + 1 ≠ gm) → Hid (w.heap.size ≠ gy) → Hid (w.heap.size + 1 ≠ gy) → Hid (gm ≠ gy) → TT 3 ll aa v) := by
      intro v gy ll aa hl hA BEL105 BOX105 FA_a_105 FA_b_105 KB_bx_105 KB_by_105 KB_m_105 KB_y_105 NE_bx_by NE_bx_m NE_by_m NE_bx_y NE_by_y NE_m_y
      rw [hact.out] at hA
      try simp only [Act.put, List.setIfInBounds_toArray, List.set_cons_zero, List.set_cons_succ] at hA
      subst hl hA
      refine hUT.out _ _ _ _ ?_
      refine wpAnyH_ready (rs := [4]) (by kernel_rfl) (by simp) ?_
      refine AllReadyH.cons rfl (fun K0 hK0 => ?_) ?_
      · have BEL106 := a_bel BEL105 (.cells #[.int .u64 0, .slice none 0 0] 30)
        have BOX106 := a_box BOX105 BEL105 (.cells #[.int .u64 0, .slice none 0 0] 30)
        have FA_a_106 := a_fact FA_a_105 (.cells #[.int .u64 0, .slice none 0 0] 30)
        have FA_b_106 := a_fact FA_b_105 (.cells #[.int .u64 0, .slice none 0 0] 30)
        have KB_bx_106 := a_blk KB_bx_105 (.cells #[.int .u64 0, .slice none 0 0] 30)
        have NE_bx_x := n_ne KB_bx_105
        have KB_by_106 := a_blk KB_by_105 (.cells #[.int .u64 0, .slice none 0 0] 30)
        have NE_by_x := n_ne KB_by_105
        have KB_m_106 := a_blk KB_m_105 (.cells #[.int .u64 0, .slice none 0 0] 30)
        have NE_m_x := n_ne KB_m_105
        have KB_y_106 := a_blk KB_y_105 (.cells #[.int .u64 0, .slice none 0 0] 30)
        have NE_y_x := n_ne KB_y_105
        have KB_x_106 := n_blk (u := v) 30 #[.int .u64 0, .slice none 0 0]
        clear BEL105 BOX105 FA_a_105 FA_b_105 KB_bx_105 KB_by_105 KB_m_105 KB_y_105
        go_simp
        generalize (v.alloc (.cells #[.int .u64 0, .slice none 0 0] 30)) = v2 at BEL106 BOX106 FA_a_106 FA_b_106 KB_bx_106 KB_by_106 KB_m_106 KB_y_106 KB_x_106 ⊢
        generalize v.heap.size = gx at BOX106 FA_a_106 FA_b_106 KB_x_106 NE_bx_x NE_by_x NE_m_x NE_y_x ⊢
        refine hK0.out _ _ (by exact ⟨KB_bx_106.out, KB_by_106.out⟩) (fun hHeld => ?_)
        clear hK0 K0 hHeld
        refine hTU.out _ _ _ _ ?_
        refine ND_2_xy.out _ gx gy _ _ ?_ ?_ BEL106 (b_perm BOX106 (by intro p m; simp only [List.mem_cons, List.not_mem_nil, or_false] at m ⊢; omega)) (h_perm FA_a_106 (by intro p m; simp only [List.mem_cons, List.not_mem_nil, or_false] at m ⊢; omega)) (h_perm FA_b_106 (by intro p m; simp only [List.mem_cons, List.not_mem_nil, or_false] at m ⊢; omega)) KB_bx_106 KB_by_106 KB_m_106 KB_x_106 KB_y_106 NE_bx_by NE_bx_m NE_by_m NE_bx_x NE_bx_y NE_by_x NE_by_y NE_m_x NE_m_y (n_sym NE_y_x)
        · first | rfl | kernel_rfl
        · rw [hact.out]; rfl
      exact AllReadyH.nil
    have ND_2_ : Hid (∀ (v : World)  (ll : Array Bool) (aa : Act), ll = #[true, true, true, true, false, false, false, false] → aa = ((act0.put (some 29) (.agg #[.int .u64 S, .slice (some ⟨bq, oq, none⟩) R cap])).put (some 31) (.agg #[.int .u64 S, .slice (some ⟨bq', oq', none⟩) R cap'])) → Hid (Below w.heap.size w v) → Hid (Boxes w v [gm, w.heap.size + 1, w.heap.size]) → Hid (HeldX [gm, w.heap.size + 1, w.heap.size] (fun uq => SgAt uq (.agg #[.int .u64 S, .slice (some ⟨bq, oq, none⟩) R cap]) S R (fun _ => n) Z) v) → Hid (HeldX [gm, w.heap.size + 1, w.heap.size] (fun uq => SgAt uq (.agg #[.int .u64 S, .slice (some ⟨bq', oq', none⟩) R cap']) S R (fun _ => n) Y) v) → Hid (Blk v w.heap.size 25 #[.int .u64 S, .slice (some ⟨bq, oq, none⟩) R cap]) → Hid (Blk v (w.heap.size + 1) 25 #[.int .u64 S, .slice (some ⟨bq', oq', none⟩) R cap']) → Hid (Blk v gm 25 #[.int .u64 0, .slice none 0 0]) → Hid (w.heap.size ≠ w.heap.size + 1) → Hid (w.heap.size ≠ gm) → Hid (w.heap.size + 1 ≠ gm) → TT 4 ll aa v) := by
      intro v  ll aa hl hA BEL105 BOX105 FA_a_105 FA_b_105 KB_bx_105 KB_by_105 KB_m_105 NE_bx_by NE_bx_m NE_by_m
      rw [hact.out] at hA
      try simp only [Act.put, List.setIfInBounds_toArray, List.set_cons_zero, List.set_cons_succ] at hA
      subst hl hA
      refine hUT.out _ _ _ _ ?_
      refine wpAnyH_ready (rs := [4, 5]) (by kernel_rfl) (by simp) ?_
      refine AllReadyH.cons rfl (fun K0 hK0 => ?_) ?_
      · have BEL106 := a_bel BEL105 (.cells #[.int .u64 0, .slice none 0 0] 30)
        have BOX106 := a_box BOX105 BEL105 (.cells #[.int .u64 0, .slice none 0 0] 30)
        have FA_a_106 := a_fact FA_a_105 (.cells #[.int .u64 0, .slice none 0 0] 30)
        have FA_b_106 := a_fact FA_b_105 (.cells #[.int .u64 0, .slice none 0 0] 30)
        have KB_bx_106 := a_blk KB_bx_105 (.cells #[.int .u64 0, .slice none 0 0] 30)
        have NE_bx_x := n_ne KB_bx_105
        have KB_by_106 := a_blk KB_by_105 (.cells #[.int .u64 0, .slice none 0 0] 30)
        have NE_by_x := n_ne KB_by_105
        have KB_m_106 := a_blk KB_m_105 (.cells #[.int .u64 0, .slice none 0 0] 30)
        have NE_m_x := n_ne KB_m_105
        have KB_x_106 := n_blk (u := v) 30 #[.int .u64 0, .slice none 0 0]
        clear BEL105 BOX105 FA_a_105 FA_b_105 KB_bx_105 KB_by_105 KB_m_105
        go_simp
        generalize (v.alloc (.cells #[.int .u64 0, .slice none 0 0] 30)) = v2 at BEL106 BOX106 FA_a_106 FA_b_106 KB_bx_106 KB_by_106 KB_m_106 KB_x_106 ⊢
        generalize v.heap.size = gx at BOX106 FA_a_106 FA_b_106 KB_x_106 NE_bx_x NE_by_x NE_m_x ⊢
        refine hK0.out _ _ (by exact ⟨KB_bx_106.out, KB_by_106.out⟩) (fun hHeld => ?_)
        clear hK0 K0 hHeld
        refine hTU.out _ _ _ _ ?_
        refine ND_2_x.out _ gx _ _ ?_ ?_ BEL106 BOX106 FA_a_106 FA_b_106 KB_bx_106 KB_by_106 KB_m_106 KB_x_106 NE_bx_by NE_bx_m NE_by_m NE_bx_x NE_by_x NE_m_x
        · first | rfl | kernel_rfl
        · rw [hact.out]; rfl
      refine AllReadyH.cons rfl (fun K0 hK0 => ?_) ?_
      · have BEL106 := a_bel BEL105 (.cells #[.int .u64 0, .slice none 0 0] 30)
        have BOX106 := a_box BOX105 BEL105 (.cells #[.int .u64 0, .slice none 0 0] 30)
        have FA_a_106 := a_fact FA_a_105 (.cells #[.int .u64 0, .slice none 0 0] 30)
        have FA_b_106 := a_fact FA_b_105 (.cells #[.int .u64 0, .slice none 0 0] 30)
        have KB_bx_106 := a_blk KB_bx_105 (.cells #[.int .u64 0, .slice none 0 0] 30)
        have NE_bx_y := n_ne KB_bx_105
        have KB_by_106 := a_blk KB_by_105 (.cells #[.int .u64 0, .slice none 0 0] 30)
        have NE_by_y := n_ne KB_by_105
        have KB_m_106 := a_blk KB_m_105 (.cells #[.int .u64 0, .slice none 0 0] 30)
        have NE_m_y := n_ne KB_m_105
        have KB_y_106 := n_blk (u := v) 30 #[.int .u64 0, .slice none 0 0]
        clear BEL105 BOX105 FA_a_105 FA_b_105 KB_bx_105 KB_by_105 KB_m_105
        go_simp
        generalize (v.alloc (.cells #[.int .u64 0, .slice none 0 0] 30)) = v2 at BEL106 BOX106 FA_a_106 FA_b_106 KB_bx_106 KB_by_106 KB_m_106 KB_y_106 ⊢
        generalize v.heap.size = gy at BOX106 FA_a_106 FA_b_106 KB_y_106 NE_bx_y NE_by_y NE_m_y ⊢
        refine hK0.out _ _ (by exact ⟨KB_bx_106.out, KB_by_106.out⟩) (fun hHeld => ?_)
        clear hK0 K0 hHeld
        refine hTU.out _ _ _ _ ?_
        refine ND_2_y.out _ gy _ _ ?_ ?_ BEL106 BOX106 FA_a_106 FA_b_106 KB_bx_106 KB_by_106 KB_m_106 KB_y_106 NE_bx_by NE_bx_m NE_by_m NE_bx_y NE_by_y NE_m_y
        · first | rfl | kernel_rfl
        · rw [hact.out]; rfl
      exact AllReadyH.nil
    have ND_1_xy : Hid (∀ (v : World) (gx : Nat) (gy : Nat) (ll : Array Bool) (aa : Act), ll = #[true, true, true, false, true, true, false, false] → aa = (((act0.put (some 29) (.agg #[.int .u64 S, .slice (some ⟨bq, oq, none⟩) R cap])).put (some 7) (.pointer (some ⟨gx, 0, none⟩))).put (some 8) (.pointer (some ⟨gy, 0, none⟩))) → Hid (Below w.heap.size w v) → Hid (Boxes w v [gy, gx, gm, w.heap.size + 1, w.heap.size]) → Hid (HeldX [gy, gx, gm, w.heap.size + 1, w.heap.size] (fun uq => SgAt uq (.agg #[.int .u64 S, .slice (some ⟨bq, oq, none⟩) R cap]) S R (fun _ => n) Z) v) → Hid (HeldX [gy, gx, gm, w.heap.size + 1, w.heap.size] (fun uq => SgAt uq (.agg #[.int .u64 S, .slice (some ⟨bq', oq', none⟩) R cap']) S R (fun _ => n) Y) v) → Hid (Blk v w.heap.size 25 #[.int .u64 S, .slice (some ⟨bq, oq, none⟩) R cap]) → Hid (Blk v (w.heap.size + 1) 25 #[.int .u64 S, .slice (some ⟨bq', oq', none⟩) R cap']) → Hid (Blk v gm 25 #[.int .u64 0, .slice none 0 0]) → Hid (Blk v gx 30 #[.int .u64 0, .slice none 0 0]) → Hid (Blk v gy 30 #[.int .u64 0, .slice none 0 0]) → Hid (w.heap.size ≠ w.heap.size + 1) → Hid (w.heap.size ≠ gm) → Hid (w.heap.size + 1 ≠ gm) → Hid (w.heap.size ≠ gx) → Hid (w.heap.size ≠ gy) → Hid (w.heap.size + 1 ≠ gx) → Hid (w.heap.size + 1 ≠ gy) → Hid (gm ≠ gx) → Hid (gm ≠ gy) → Hid (gx ≠ gy) → TT 3 ll aa v) := by
      intro v gx gy ll aa hl hA BEL105 BOX105 FA_a_105 FA_b_105 KB_bx_105 KB_by_105 KB_m_105 KB_x_105 KB_y_105 NE_bx_by NE_bx_m NE_by_m NE_bx_x NE_bx_y NE_by_x NE_by_y NE_m_x NE_m_y NE_x_y
      rw [hact.out] at hA
      try simp only [Act.put, List.setIfInBounds_toArray, List.set_cons_zero, List.set_cons_succ] at hA
      subst hl hA
      refine hUT.out _ _ _ _ ?_
      refine wpAnyH_ready (rs := [3]) (by kernel_rfl) (by simp) ?_
      refine AllReadyH.cons rfl (fun K0 hK0 => ?_) ?_
      · refine step_func 11 #[.agg #[.int .u64 S, .slice (some ⟨bq', oq', none⟩) R cap']] (by rfl) rfl (by simp [Act.eval]) (fun _ _ => by kernel_rfl) ?_
        refine (gref_any _ _ S R _ _ FA_b_105.out.at).mono ?_
        rintro e q2 ⟨rfl, bb⟩
        have BEL106 := h_bel BEL105 bb
        have BOX106 := h_box BOX105 bb
        have FA_a_106 := h_fact FA_a_105 bb
        have FA_b_106 := h_fact FA_b_105 bb
        have KB_bx_106 := h_blk KB_bx_105 bb
        have KB_by_106 := h_blk KB_by_105 bb
        have KB_m_106 := h_blk KB_m_105 bb
        have KB_x_106 := h_blk KB_x_105 bb
        have KB_y_106 := h_blk KB_y_105 bb
        clear BEL105 BOX105 FA_a_105 FA_b_105 KB_bx_105 KB_by_105 KB_m_105 KB_x_105 KB_y_105
        clear bb
        refine ⟨_, rfl, ?_⟩
        refine hK0.out _ _ (by exact ⟨KB_bx_106.out, KB_by_106.out⟩) (fun hHeld => ?_)
        clear hK0 K0 hHeld
        refine hTU.out _ _ _ _ ?_
        refine ND_2_xy.out _ gx gy _ _ ?_ ?_ BEL106 BOX106 FA_a_106 FA_b_106 KB_bx_106 KB_by_106 KB_m_106 KB_x_106 KB_y_106 NE_bx_by NE_bx_m NE_by_m NE_bx_x NE_bx_y NE_by_x NE_by_y NE_m_x NE_m_y NE_x_y
        · first | rfl | kernel_rfl
        · rw [hact.out]; rfl
      exact AllReadyH.nil
    have ND_1_x : Hid (∀ (v : World) (gx : Nat) (ll : Array Bool) (aa : Act), ll = #[true, true, true, false, true, false, false, false] → aa = ((act0.put (some 29) (.agg #[.int .u64 S, .slice (some ⟨bq, oq, none⟩) R cap])).put (some 7) (.pointer (some ⟨gx, 0, none⟩))) → Hid (Below w.heap.size w v) → Hid (Boxes w v [gx, gm, w.heap.size + 1, w.heap.size]) → Hid (HeldX [gx, gm, w.heap.size + 1, w.heap.size] (fun uq => SgAt uq (.agg #[.int .u64 S, .slice (some ⟨bq, oq, none⟩) R cap]) S R (fun _ => n) Z) v) → Hid (HeldX [gx, gm, w.heap.size + 1, w.heap.size] (fun uq => SgAt uq (.agg #[.int .u64 S, .slice (some ⟨bq', oq', none⟩) R cap']) S R (fun _ => n) Y) v) → Hid (Blk v w.heap.size 25 #[.int .u64 S, .slice (some ⟨bq, oq, none⟩) R cap]) → Hid (Blk v (w.heap.size + 1) 25 #[.int .u64 S, .slice (some ⟨bq', oq', none⟩) R cap']) → Hid (Blk v gm 25 #[.int .u64 0, .slice none 0 0]) → Hid (Blk v gx 30 #[.int .u64 0, .slice none 0 0]) → Hid (w.heap.size ≠ w.heap.size + 1) → Hid (w.heap.size ≠ gm) → Hid (w.heap.size + 1 ≠ gm) → Hid (w.heap.size ≠ gx) → Hid (w.heap.size + 1 ≠ gx) → Hid (gm ≠ gx) → TT 4 ll aa v) := by
      intro v gx ll aa hl hA BEL105 BOX105 FA_a_105 FA_b_105 KB_bx_105 KB_by_105 KB_m_105 KB_x_105 NE_bx_by NE_bx_m NE_by_m NE_bx_x NE_by_x NE_m_x
      rw [hact.out] at hA
      try simp only [Act.put, List.setIfInBounds_toArray, List.set_cons_zero, List.set_cons_succ] at hA
      subst hl hA
      refine hUT.out _ _ _ _ ?_
      refine wpAnyH_ready (rs := [3, 5]) (by kernel_rfl) (by simp) ?_
      refine AllReadyH.cons rfl (fun K0 hK0 => ?_) ?_
      · refine step_func 11 #[.agg #[.int .u64 S, .slice (some ⟨bq', oq', none⟩) R cap']] (by rfl) rfl (by simp [Act.eval]) (fun _ _ => by kernel_rfl) ?_
        refine (gref_any _ _ S R _ _ FA_b_105.out.at).mono ?_
        rintro e q2 ⟨rfl, bb⟩
        have BEL106 := h_bel BEL105 bb
        have BOX106 := h_box BOX105 bb
        have FA_a_106 := h_fact FA_a_105 bb
        have FA_b_106 := h_fact FA_b_105 bb
        have KB_bx_106 := h_blk KB_bx_105 bb
        have KB_by_106 := h_blk KB_by_105 bb
        have KB_m_106 := h_blk KB_m_105 bb
        have KB_x_106 := h_blk KB_x_105 bb
        clear BEL105 BOX105 FA_a_105 FA_b_105 KB_bx_105 KB_by_105 KB_m_105 KB_x_105
        clear bb
        refine ⟨_, rfl, ?_⟩
        refine hK0.out _ _ (by exact ⟨KB_bx_106.out, KB_by_106.out⟩) (fun hHeld => ?_)
        clear hK0 K0 hHeld
        refine hTU.out _ _ _ _ ?_
        refine ND_2_x.out _ gx _ _ ?_ ?_ BEL106 BOX106 FA_a_106 FA_b_106 KB_bx_106 KB_by_106 KB_m_106 KB_x_106 NE_bx_by NE_bx_m NE_by_m NE_bx_x NE_by_x NE_m_x
        · first | rfl | kernel_rfl
        · rw [hact.out]; rfl
      refine AllReadyH.cons rfl (fun K0 hK0 => ?_) ?_
      · have BEL106 := a_bel BEL105 (.cells #[.int .u64 0, .slice none 0 0] 30)
        have BOX106 := a_box BOX105 BEL105 (.cells #[.int .u64 0, .slice none 0 0] 30)
        have FA_a_106 := a_fact FA_a_105 (.cells #[.int .u64 0, .slice none 0 0] 30)
        have FA_b_106 := a_fact FA_b_105 (.cells #[.int .u64 0, .slice none 0 0] 30)
        have KB_bx_106 := a_blk KB_bx_105 (.cells #[.int .u64 0, .slice none 0 0] 30)
        have NE_bx_y := n_ne KB_bx_105
        have KB_by_106 := a_blk KB_by_105 (.cells #[.int .u64 0, .slice none 0 0] 30)
        have NE_by_y := n_ne KB_by_105
        have KB_m_106 := a_blk KB_m_105 (.cells #[.int .u64 0, .slice none 0 0] 30)
        have NE_m_y := n_ne KB_m_105
        have KB_x_106 := a_blk KB_x_105 (.cells #[.int .u64 0, .slice none 0 0] 30)
        have NE_x_y := n_ne KB_x_105
        have KB_y_106 := n_blk (u := v) 30 #[.int .u64 0, .slice none 0 0]
        clear BEL105 BOX105 FA_a_105 FA_b_105 KB_bx_105 KB_by_105 KB_m_105 KB_x_105
        go_simp
        generalize (v.alloc (.cells #[.int .u64 0, .slice none 0 0] 30)) = v2 at BEL106 BOX106 FA_a_106 FA_b_106 KB_bx_106 KB_by_106 KB_m_106 KB_x_106 KB_y_106 ⊢
        generalize v.heap.size = gy at BOX106 FA_a_106 FA_b_106 KB_y_106 NE_bx_y NE_by_y NE_m_y NE_x_y ⊢
        refine hK0.out _ _ (by exact ⟨KB_bx_106.out, KB_by_106.out⟩) (fun hHeld => ?_)
        clear hK0 K0 hHeld
        refine hTU.out _ _ _ _ ?_
        refine ND_1_xy.out _ gx gy _ _ ?_ ?_ BEL106 BOX106 FA_a_106 FA_b_106 KB_bx_106 KB_by_106 KB_m_106 KB_x_106 KB_y_106 NE_bx_by NE_bx_m NE_by_m NE_bx_x NE_bx_y NE_by_x NE_by_y NE_m_x NE_m_y NE_x_y
        · first | rfl | kernel_rfl
        · rw [hact.out]; rfl
      exact AllReadyH.nil
    have ND_1_y : Hid (∀ (v : World) (gy : Nat) (ll : Array Bool) (aa : Act), ll = #[true, true, true, false, false, true, false, false] → aa = ((act0.put (some 29) (.agg #[.int .u64 S, .slice (some ⟨bq, oq, none⟩) R cap])).put (some 8) (.pointer (some ⟨gy, 0, none⟩))) → Hid (Below w.heap.size w v) → Hid (Boxes w v [gy, gm, w.heap.size + 1, w.heap.size]) → Hid (HeldX [gy, gm, w.heap.size + 1, w.heap.size] (fun uq => SgAt uq (.agg #[.int .u64 S, .slice (some ⟨bq, oq, none⟩) R cap]) S R (fun _ => n) Z) v) → Hid (HeldX [gy, gm, w.heap.size + 1, w.heap.size] (fun uq => SgAt uq (.agg #[.int .u64 S, .slice (some ⟨bq', oq', none⟩) R cap']) S R (fun _ => n) Y) v) → Hid (Blk v w.heap.size 25 #[.int .u64 S, .slice (some ⟨bq, oq, none⟩) R cap]) → Hid (Blk v (w.heap.size + 1) 25 #[.int .u64 S, .slice (some ⟨bq', oq', none⟩) R cap']) → Hid (Blk v gm 25 #[.int .u64 0, .slice none 0 0]) → Hid (Blk v gy 30 #[.int .u64 0, .slice none 0 0]) → Hid (w.heap.size ≠ w.heap.size + 1) → Hid (w.heap.size ≠ gm) → Hid (w.heap.size + 1 ≠ gm) → Hid (w.heap.size ≠ gy) → Hid (w.heap.size + 1 ≠ gy) → Hid (gm ≠ gy) → TT 4 ll aa v) := by
      intro v gy ll aa hl hA BEL105 BOX105 FA_a_105 FA_b_105 KB_bx_105 KB_by_105 KB_m_105 KB_y_105 NE_bx_by NE_bx_m NE_by_m NE_bx_y NE_by_y NE_m_y
      rw [hact.out] at hA
      try simp only [Act.put, List.setIfInBounds_toArray, List.set_cons_zero, List.set_cons_succ] at hA
      subst hl hA
      refine hUT.out _ _ _ _ ?_
      refine wpAnyH_ready (rs := [3, 4]) (by kernel_rfl) (by simp) ?_
      refine AllReadyH.cons rfl (fun K0 hK0 => ?_) ?_
      · refine step_func 11 #[.agg #[.int .u64 S, .slice (some ⟨bq', oq', none⟩) R cap']] (by rfl) rfl (by simp [Act.eval]) (fun _ _ => by kernel_rfl) ?_
        refine (gref_any _ _ S R _ _ FA_b_105.out.at).mono ?_
        rintro e q2 ⟨rfl, bb⟩
        have BEL106 := h_bel BEL105 bb
        have BOX106 := h_box BOX105 bb
        have FA_a_106 := h_fact FA_a_105 bb
        have FA_b_106 := h_fact FA_b_105 bb
        have KB_bx_106 := h_blk KB_bx_105 bb
        have KB_by_106 := h_blk KB_by_105 bb
        have KB_m_106 := h_blk KB_m_105 bb
        have KB_y_106 := h_blk KB_y_105 bb
        clear BEL105 BOX105 FA_a_105 FA_b_105 KB_bx_105 KB_by_105 KB_m_105 KB_y_105
        clear bb
        refine ⟨_, rfl, ?_⟩
        refine hK0.out _ _ (by exact ⟨KB_bx_106.out, KB_by_106.out⟩) (fun hHeld => ?_)
        clear hK0 K0 hHeld
        refine hTU.out _ _ _ _ ?_
        refine ND_2_y.out _ gy _ _ ?_ ?_ BEL106 BOX106 FA_a_106 FA_b_106 KB_bx_106 KB_by_106 KB_m_106 KB_y_106 NE_bx_by NE_bx_m NE_by_m NE_bx_y NE_by_y NE_m_y
        · first | rfl | kernel_rfl
        · rw [hact.out]; rfl
      refine AllReadyH.cons rfl (fun K0 hK0 => ?_) ?_
      · have BEL106 := a_bel BEL105 (.cells #[.int .u64 0, .slice none 0 0] 30)
        have BOX106 := a_box BOX105 BEL105 (.cells #[.int .u64 0, .slice none 0 0] 30)
        have FA_a_106 := a_fact FA_a_105 (.cells #[.int .u64 0, .slice none 0 0] 30)
        have FA_b_106 := a_fact FA_b_105 (.cells #[.int .u64 0, .slice none 0 0] 30)
        have KB_bx_106 := a_blk KB_bx_105 (.cells #[.int .u64 0, .slice none 0 0] 30)
        have NE_bx_x := n_ne KB_bx_105
        have KB_by_106 := a_blk KB_by_105 (.cells #[.int .u64 0, .slice none 0 0] 30)
        have NE_by_x := n_ne KB_by_105
        have KB_m_106 := a_blk KB_m_105 (.cells #[.int .u64 0, .slice none 0 0] 30)
        have NE_m_x := n_ne KB_m_105
        have KB_y_106 := a_blk KB_y_105 (.cells #[.int .u64 0, .slice none 0 0] 30)
        have NE_y_x := n_ne KB_y_105
        have KB_x_106 := n_blk (u := v) 30 #[.int .u64 0, .slice none 0 0]
        clear BEL105 BOX105 FA_a_105 FA_b_105 KB_bx_105 KB_by_105 KB_m_105 KB_y_105
        go_simp
        generalize (v.alloc (.cells #[.int .u64 0, .slice none 0 0] 30)) = v2 at BEL106 BOX106 FA_a_106 FA_b_106 KB_bx_106 KB_by_106 KB_m_106 KB_y_106 KB_x_106 ⊢
        generalize v.heap.size = gx at BOX106 FA_a_106 FA_b_106 KB_x_106 NE_bx_x NE_by_x NE_m_x NE_y_x ⊢
        refine hK0.out _ _ (by exact ⟨KB_bx_106.out, KB_by_106.out⟩) (fun hHeld => ?_)
        clear hK0 K0 hHeld
        refine hTU.out _ _ _ _ ?_
        refine ND_1_xy.out _ gx gy _ _ ?_ ?_ BEL106 (b_perm BOX106 (by intro p m; simp only [List.mem_cons, List.not_mem_nil, or_false] at m ⊢; omega)) (h_perm FA_a_106 (by intro p m; simp only [List.mem_cons, List.not_mem_nil, or_false] at m ⊢; omega)) (h_perm FA_b_106 (by intro p m; simp only [List.mem_cons, List.not_mem_nil, or_false] at m ⊢; omega)) KB_bx_106 KB_by_106 KB_m_106 KB_x_106 KB_y_106 NE_bx_by NE_bx_m NE_by_m NE_bx_x NE_bx_y NE_by_x NE_by_y NE_m_x NE_m_y (n_sym NE_y_x)
        · first | rfl | kernel_rfl
        · rw [hact.out]; rfl
      exact AllReadyH.nil
    have ND_1_ : Hid (∀ (v : World)  (ll : Array Bool) (aa : Act), ll = #[true, true, true, false, false, false, false, false] → aa = (act0.put (some 29) (.agg #[.int .u64 S, .slice (some ⟨bq, oq, none⟩) R cap])) → Hid (Below w.heap.size w v) → Hid (Boxes w v [gm, w.heap.size + 1, w.heap.size]) → Hid (HeldX [gm, w.heap.size + 1, w.heap.size] (fun uq => SgAt uq (.agg #[.int .u64 S, .slice (some ⟨bq, oq, none⟩) R cap]) S R (fun _ => n) Z) v) → Hid (HeldX [gm, w.heap.size + 1, w.heap.size] (fun uq => SgAt uq (.agg #[.int .u64 S, .slice (some ⟨bq', oq', none⟩) R cap']) S R (fun _ => n) Y) v) → Hid (Blk v w.heap.size 25 #[.int .u64 S, .slice (some ⟨bq, oq, none⟩) R cap]) → Hid (Blk v (w.heap.size + 1) 25 #[.int .u64 S, .slice (some ⟨bq', oq', none⟩) R cap']) → Hid (Blk v gm 25 #[.int .u64 0, .slice none 0 0]) → Hid (w.heap.size ≠ w.heap.size + 1) → Hid (w.heap.size ≠ gm) → Hid (w.heap.size + 1 ≠ gm) → TT 5 ll aa v) := by
      intro v  ll aa hl hA BEL105 BOX105 FA_a_105 FA_b_105 KB_bx_105 KB_by_105 KB_m_105 NE_bx_by NE_bx_m NE_by_m
      rw [hact.out] at hA
      try simp only [Act.put, List.setIfInBounds_toArray, List.set_cons_zero, List.set_cons_succ] at hA
      subst hl hA
      refine hUT.out _ _ _ _ ?_
      refine wpAnyH_ready (rs := [3, 4, 5]) (by kernel_rfl) (by simp) ?_
      refine AllReadyH.cons rfl (fun K0 hK0 => ?_) ?_
      · refine step_func 11 #[.agg #[.int .u64 S, .slice (some ⟨bq', oq', none⟩) R cap']] (by rfl) rfl (by simp [Act.eval]) (fun _ _ => by kernel_rfl) ?_
        refine (gref_any _ _ S R _ _ FA_b_105.out.at).mono ?_
        rintro e q2 ⟨rfl, bb⟩
        have BEL106 := h_bel BEL105 bb
        have BOX106 := h_box BOX105 bb
        have FA_a_106 := h_fact FA_a_105 bb
        have FA_b_106 := h_fact FA_b_105 bb
        have KB_bx_106 := h_blk KB_bx_105 bb
        have KB_by_106 := h_blk KB_by_105 bb
        have KB_m_106 := h_blk KB_m_105 bb
        clear BEL105 BOX105 FA_a_105 FA_b_105 KB_bx_105 KB_by_105 KB_m_105
        clear bb
        refine ⟨_, rfl, ?_⟩
        refine hK0.out _ _ (by exact ⟨KB_bx_106.out, KB_by_106.out⟩) (fun hHeld => ?_)
        clear hK0 K0 hHeld
        refine hTU.out _ _ _ _ ?_
        refine ND_2_.out _  _ _ ?_ ?_ BEL106 BOX106 FA_a_106 FA_b_106 KB_bx_106 KB_by_106 KB_m_106 NE_bx_by NE_bx_m NE_by_m
        · first | rfl | kernel_rfl
        · rw [hact.out]; rfl
      refine AllReadyH.cons rfl (fun K0 hK0 => ?_) ?_
      · have BEL106 := a_bel BEL105 (.cells #[.int .u64 0, .slice none 0 0] 30)
        have BOX106 := a_box BOX105 BEL105 (.cells #[.int .u64 0, .slice none 0 0] 30)
        have FA_a_106 := a_fact FA_a_105 (.cells #[.int .u64 0, .slice none 0 0] 30)
        have FA_b_106 := a_fact FA_b_105 (.cells #[.int .u64 0, .slice none 0 0] 30)
        have KB_bx_106 := a_blk KB_bx_105 (.cells #[.int .u64 0, .slice none 0 0] 30)
        have NE_bx_x := n_ne KB_bx_105
        have KB_by_106 := a_blk KB_by_105 (.cells #[.int .u64 0, .slice none 0 0] 30)
        have NE_by_x := n_ne KB_by_105
        have KB_m_106 := a_blk KB_m_105 (.cells #[.int .u64 0, .slice none 0 0] 30)
        have NE_m_x := n_ne KB_m_105
        have KB_x_106 := n_blk (u := v) 30 #[.int .u64 0, .slice none 0 0]
        clear BEL105 BOX105 FA_a_105 FA_b_105 KB_bx_105 KB_by_105 KB_m_105
        go_simp
        generalize (v.alloc (.cells #[.int .u64 0, .slice none 0 0] 30)) = v2 at BEL106 BOX106 FA_a_106 FA_b_106 KB_bx_106 KB_by_106 KB_m_106 KB_x_106 ⊢
        generalize v.heap.size = gx at BOX106 FA_a_106 FA_b_106 KB_x_106 NE_bx_x NE_by_x NE_m_x ⊢
        refine hK0.out _ _ (by exact ⟨KB_bx_106.out, KB_by_106.out⟩) (fun hHeld => ?_)
        clear hK0 K0 hHeld
        refine hTU.out _ _ _ _ ?_
        refine ND_1_x.out _ gx _ _ ?_ ?_ BEL106 BOX106 FA_a_106 FA_b_106 KB_bx_106 KB_by_106 KB_m_106 KB_x_106 NE_bx_by NE_bx_m NE_by_m NE_bx_x NE_by_x NE_m_x
        · first | rfl | kernel_rfl
        · rw [hact.out]; rfl
      refine AllReadyH.cons rfl (fun K0 hK0 => ?_) ?_
      · have BEL106 := a_bel BEL105 (.cells #[.int .u64 0, .slice none 0 0] 30)
        have BOX106 := a_box BOX105 BEL105 (.cells #[.int .u64 0, .slice none 0 0] 30)
        have FA_a_106 := a_fact FA_a_105 (.cells #[.int .u64 0, .slice none 0 0] 30)
        have FA_b_106 := a_fact FA_b_105 (.cells #[.int .u64 0, .slice none 0 0] 30)
        have KB_bx_106 := a_blk KB_bx_105 (.cells #[.int .u64 0, .slice none 0 0] 30)
        have NE_bx_y := n_ne KB_bx_105
        have KB_by_106 := a_blk KB_by_105 (.cells #[.int .u64 0, .slice none 0 0] 30)
        have NE_by_y := n_ne KB_by_105
        have KB_m_106 := a_blk KB_m_105 (.cells #[.int .u64 0, .slice none 0 0] 30)
        have NE_m_y := n_ne KB_m_105
        have KB_y_106 := n_blk (u := v) 30 #[.int .u64 0, .slice none 0 0]
        clear BEL105 BOX105 FA_a_105 FA_b_105 KB_bx_105 KB_by_105 KB_m_105
        go_simp
        generalize (v.alloc (.cells #[.int .u64 0, .slice none 0 0] 30)) = v2 at BEL106 BOX106 FA_a_106 FA_b_106 KB_bx_106 KB_by_106 KB_m_106 KB_y_106 ⊢
        generalize v.heap.size = gy at BOX106 FA_a_106 FA_b_106 KB_y_106 NE_bx_y NE_by_y NE_m_y ⊢
        refine hK0.out _ _ (by exact ⟨KB_bx_106.out, KB_by_106.out⟩) (fun hHeld => ?_)
        clear hK0 K0 hHeld
        refine hTU.out _ _ _ _ ?_
        refine ND_1_y.out _ gy _ _ ?_ ?_ BEL106 BOX106 FA_a_106 FA_b_106 KB_bx_106 KB_by_106 KB_m_106 KB_y_106 NE_bx_by NE_bx_m NE_by_m NE_bx_y NE_by_y NE_m_y
        · first | rfl | kernel_rfl
        · rw [hact.out]; rfl
      exact AllReadyH.nil
    have ND_0_xy : Hid (∀ (v : World) (gx : Nat) (gy : Nat) (ll : Array Bool) (aa : Act), ll = #[true, false, true, false, true, true, false, false] → aa = ((act0.put (some 7) (.pointer (some ⟨gx, 0, none⟩))).put (some 8) (.pointer (some ⟨gy, 0, none⟩))) → Hid (Below w.heap.size w v) → Hid (Boxes w v [gy, gx, gm, w.heap.size + 1, w.heap.size]) → Hid (HeldX [gy, gx, gm, w.heap.size + 1, w.heap.size] (fun uq => SgAt uq (.agg #[.int .u64 S, .slice (some ⟨bq, oq, none⟩) R cap]) S R (fun _ => n) Z) v) → Hid (HeldX [gy, gx, gm, w.heap.size + 1, w.heap.size] (fun uq => SgAt uq (.agg #[.int .u64 S, .slice (some ⟨bq', oq', none⟩) R cap']) S R (fun _ => n) Y) v) → Hid (Blk v w.heap.size 25 #[.int .u64 S, .slice (some ⟨bq, oq, none⟩) R cap]) → Hid (Blk v (w.heap.size + 1) 25 #[.int .u64 S, .slice (some ⟨bq', oq', none⟩) R cap']) → Hid (Blk v gm 25 #[.int .u64 0, .slice none 0 0]) → Hid (Blk v gx 30 #[.int .u64 0, .slice none 0 0]) → Hid (Blk v gy 30 #[.int .u64 0, .slice none 0 0]) → Hid (w.heap.size ≠ w.heap.size + 1) → Hid (w.heap.size ≠ gm) → Hid (w.heap.size + 1 ≠ gm) → Hid (w.heap.size ≠ gx) → Hid (w.heap.size ≠ gy) → Hid (w.heap.size + 1 ≠ gx) → Hid (w.heap.size + 1 ≠ gy) → Hid (gm ≠ gx) → Hid (gm ≠ gy) → Hid (gx ≠ gy) → TT 4 ll aa v) := by
      intro v gx gy ll aa hl hA BEL105 BOX105 FA_a_105 FA_b_105 KB_bx_105 KB_by_105 KB_m_105 KB_x_105 KB_y_105 NE_bx_by NE_bx_m NE_by_m NE_bx_x NE_bx_y NE_by_x NE_by_y NE_m_x NE_m_y NE_x_y
      rw [hact.out] at hA
      try simp only [Act.put, List.setIfInBounds_toArray, List.set_cons_zero, List.set_cons_succ] at hA
      subst hl hA
      refine hUT.out _ _ _ _ ?_
      refine wpAnyH_ready (rs := [1]) (by kernel_rfl) (by simp) ?_
      refine AllReadyH.cons rfl (fun K0 hK0 => ?_) ?_
      · refine step_func 11 #[.agg #[.int .u64 S, .slice (some ⟨bq, oq, none⟩) R cap]] (by rfl) rfl (by simp [Act.eval]) (fun _ _ => by kernel_rfl) ?_
        refine (gref_any _ _ S R _ _ FA_a_105.out.at).mono ?_
        rintro e q1 ⟨rfl, bb⟩
        have BEL106 := h_bel BEL105 bb
        have BOX106 := h_box BOX105 bb
        have FA_a_106 := h_fact FA_a_105 bb
        have FA_b_106 := h_fact FA_b_105 bb
        have KB_bx_106 := h_blk KB_bx_105 bb
        have KB_by_106 := h_blk KB_by_105 bb
        have KB_m_106 := h_blk KB_m_105 bb
        have KB_x_106 := h_blk KB_x_105 bb
        have KB_y_106 := h_blk KB_y_105 bb
        clear BEL105 BOX105 FA_a_105 FA_b_105 KB_bx_105 KB_by_105 KB_m_105 KB_x_105 KB_y_105
        clear bb
        refine ⟨_, rfl, ?_⟩
        refine hK0.out _ _ (by exact ⟨KB_bx_106.out, KB_by_106.out⟩) (fun hHeld => ?_)
        clear hK0 K0 hHeld
        refine hTU.out _ _ _ _ ?_
        refine ND_1_xy.out _ gx gy _ _ ?_ ?_ BEL106 BOX106 FA_a_106 FA_b_106 KB_bx_106 KB_by_106 KB_m_106 KB_x_106 KB_y_106 NE_bx_by NE_bx_m NE_by_m NE_bx_x NE_bx_y NE_by_x NE_by_y NE_m_x NE_m_y NE_x_y
        · first | rfl | kernel_rfl
        · rw [hact.out]; rfl
      exact AllReadyH.nil
    have ND_0_x : Hid (∀ (v : World) (gx : Nat) (ll : Array Bool) (aa : Act), ll = #[true, false, true, false, true, false, false, false] → aa = (act0.put (some 7) (.pointer (some ⟨gx, 0, none⟩))) → Hid (Below w.heap.size w v) → Hid (Boxes w v [gx, gm, w.heap.size + 1, w.heap.size]) → Hid (HeldX [gx, gm, w.heap.size + 1, w.heap.size] (fun uq => SgAt uq (.agg #[.int .u64 S, .slice (some ⟨bq, oq, none⟩) R cap]) S R (fun _ => n) Z) v) → Hid (HeldX [gx, gm, w.heap.size + 1, w.heap.size] (fun uq => SgAt uq (.agg #[.int .u64 S, .slice (some ⟨bq', oq', none⟩) R cap']) S R (fun _ => n) Y) v) → Hid (Blk v w.heap.size 25 #[.int .u64 S, .slice (some ⟨bq, oq, none⟩) R cap]) → Hid (Blk v (w.heap.size + 1) 25 #[.int .u64 S, .slice (some ⟨bq', oq', none⟩) R cap']) → Hid (Blk v gm 25 #[.int .u64 0, .slice none 0 0]) → Hid (Blk v gx 30 #[.int .u64 0, .slice none 0 0]) → Hid (w.heap.size ≠ w.heap.size + 1) → Hid (w.heap.size ≠ gm) → Hid (w.heap.size + 1 ≠ gm) → Hid (w.heap.size ≠ gx) → Hid (w.heap.size + 1 ≠ gx) → Hid (gm ≠ gx) → TT 5 ll aa v) := by
      intro v gx ll aa hl hA BEL105 BOX105 FA_a_105 FA_b_105 KB_bx_105 KB_by_105 KB_m_105 KB_x_105 NE_bx_by NE_bx_m NE_by_m NE_bx_x NE_by_x NE_m_x
      rw [hact.out] at hA
      try simp only [Act.put, List.setIfInBounds_toArray, List.set_cons_zero, List.set_cons_succ] at hA
      subst hl hA
      refine hUT.out _ _ _ _ ?_
      refine wpAnyH_ready (rs := [1, 5]) (by kernel_rfl) (by simp) ?_
      refine AllReadyH.cons rfl (fun K0 hK0 => ?_) ?_
      · refine step_func 11 #[.agg #[.int .u64 S, .slice (some ⟨bq, oq, none⟩) R cap]] (by rfl) rfl (by simp [Act.eval]) (fun _ _ => by kernel_rfl) ?_
        refine (gref_any _ _ S R _ _ FA_a_105.out.at).mono ?_
        rintro e q1 ⟨rfl, bb⟩
        have BEL106 := h_bel BEL105 bb
        have BOX106 := h_box BOX105 bb
        have FA_a_106 := h_fact FA_a_105 bb
        have FA_b_106 := h_fact FA_b_105 bb
        have KB_bx_106 := h_blk KB_bx_105 bb
        have KB_by_106 := h_blk KB_by_105 bb
        have KB_m_106 := h_blk KB_m_105 bb
        have KB_x_106 := h_blk KB_x_105 bb
        clear BEL105 BOX105 FA_a_105 FA_b_105 KB_bx_105 KB_by_105 KB_m_105 KB_x_105
        clear bb
        refine ⟨_, rfl, ?_⟩
        refine hK0.out _ _ (by exact ⟨KB_bx_106.out, KB_by_106.out⟩) (fun hHeld => ?_)
        clear hK0 K0 hHeld
        refine hTU.out _ _ _ _ ?_
        refine ND_1_x.out _ gx _ _ ?_ ?_ BEL106 BOX106 FA_a_106 FA_b_106 KB_bx_106 KB_by_106 KB_m_106 KB_x_106 NE_bx_by NE_bx_m NE_by_m NE_bx_x NE_by_x NE_m_x
        · first | rfl | kernel_rfl
        · rw [hact.out]; rfl
      refine AllReadyH.cons rfl (fun K0 hK0 => ?_) ?_
      · have BEL106 := a_bel BEL105 (.cells #[.int .u64 0, .slice none 0 0] 30)
        have BOX106 := a_box BOX105 BEL105 (.cells #[.int .u64 0, .slice none 0 0] 30)
        have FA_a_106 := a_fact FA_a_105 (.cells #[.int .u64 0, .slice none 0 0] 30)
        have FA_b_106 := a_fact FA_b_105 (.cells #[.int .u64 0, .slice none 0 0] 30)
        have KB_bx_106 := a_blk KB_bx_105 (.cells #[.int .u64 0, .slice none 0 0] 30)
        have NE_bx_y := n_ne KB_bx_105
        have KB_by_106 := a_blk KB_by_105 (.cells #[.int .u64 0, .slice none 0 0] 30)
        have NE_by_y := n_ne KB_by_105
        have KB_m_106 := a_blk KB_m_105 (.cells #[.int .u64 0, .slice none 0 0] 30)
        have NE_m_y := n_ne KB_m_105
        have KB_x_106 := a_blk KB_x_105 (.cells #[.int .u64 0, .slice none 0 0] 30)
        have NE_x_y := n_ne KB_x_105
        have KB_y_106 := n_blk (u := v) 30 #[.int .u64 0, .slice none 0 0]
        clear BEL105 BOX105 FA_a_105 FA_b_105 KB_bx_105 KB_by_105 KB_m_105 KB_x_105
        go_simp
        generalize (v.alloc (.cells #[.int .u64 0, .slice none 0 0] 30)) = v2 at BEL106 BOX106 FA_a_106 FA_b_106 KB_bx_106 KB_by_106 KB_m_106 KB_x_106 KB_y_106 ⊢
        generalize v.heap.size = gy at BOX106 FA_a_106 FA_b_106 KB_y_106 NE_bx_y NE_by_y NE_m_y NE_x_y ⊢
        refine hK0.out _ _ (by exact ⟨KB_bx_106.out, KB_by_106.out⟩) (fun hHeld => ?_)
        clear hK0 K0 hHeld
        refine hTU.out _ _ _ _ ?_
        refine ND_0_xy.out _ gx gy _ _ ?_ ?_ BEL106 BOX106 FA_a_106 FA_b_106 KB_bx_106 KB_by_106 KB_m_106 KB_x_106 KB_y_106 NE_bx_by NE_bx_m NE_by_m NE_bx_x NE_bx_y NE_by_x NE_by_y NE_m_x NE_m_y NE_x_y
        · first | rfl | kernel_rfl
        · rw [hact.out]; rfl
      exact AllReadyH.nil
    have ND_0_y : Hid (∀ (v : World) (gy : Nat) (ll : Array Bool) (aa : Act), ll = #[true, false, true, false, false, true, false, false] → aa = (act0.put (some 8) (.pointer (some ⟨gy, 0, none⟩))) → Hid (Below w.heap.size w v) → Hid (Boxes w v [gy, gm, w.heap.size + 1, w.heap.size]) → Hid (HeldX [gy, gm, w.heap.size + 1, w.heap.size] (fun uq => SgAt uq (.agg #[.int .u64 S, .slice (some ⟨bq, oq, none⟩) R cap]) S R (fun _ => n) Z) v) → Hid (HeldX [gy, gm, w.heap.size + 1, w.heap.size] (fun uq => SgAt uq (.agg #[.int .u64 S, .slice (some ⟨bq', oq', none⟩) R cap']) S R (fun _ => n) Y) v) → Hid (Blk v w.heap.size 25 #[.int .u64 S, .slice (some ⟨bq, oq, none⟩) R cap]) → Hid (Blk v (w.heap.size + 1) 25 #[.int .u64 S, .slice (some ⟨bq', oq', none⟩) R cap']) → Hid (Blk v gm 25 #[.int .u64 0, .slice none 0 0]) → Hid (Blk v gy 30 #[.int .u64 0, .slice none 0 0]) → Hid (w.heap.size ≠ w.heap.size + 1) → Hid (w.heap.size ≠ gm) → Hid (w.heap.size + 1 ≠ gm) → Hid (w.heap.size ≠ gy) → Hid (w.heap.size + 1 ≠ gy) → Hid (gm ≠ gy) → TT 5 ll aa v) := by
      intro v gy ll aa hl hA BEL105 BOX105 FA_a_105 FA_b_105 KB_bx_105 KB_by_105 KB_m_105 KB_y_105 NE_bx_by NE_bx_m NE_by_m NE_bx_y NE_by_y NE_m_y
      rw [hact.out] at hA
      try simp only [Act.put, List.setIfInBounds_toArray, List.set_cons_zero, List.set_cons_succ] at hA
      subst hl hA
      refine hUT.out _ _ _ _ ?_
      refine wpAnyH_ready (rs := [1, 4]) (by kernel_rfl) (by simp) ?_
      refine AllReadyH.cons rfl (fun K0 hK0 => ?_) ?_
      · refine step_func 11 #[.agg #[.int .u64 S, .slice (some ⟨bq, oq, none⟩) R cap]] (by rfl) rfl (by simp [Act.eval]) (fun _ _ => by kernel_rfl) ?_
        refine (gref_any _ _ S R _ _ FA_a_105.out.at).mono ?_
        rintro e q1 ⟨rfl, bb⟩
        have BEL106 := h_bel BEL105 bb
        have BOX106 := h_box BOX105 bb
        have FA_a_106 := h_fact FA_a_105 bb
        have FA_b_106 := h_fact FA_b_105 bb
        have KB_bx_106 := h_blk KB_bx_105 bb
        have KB_by_106 := h_blk KB_by_105 bb
        have KB_m_106 := h_blk KB_m_105 bb
        have KB_y_106 := h_blk KB_y_105 bb
        clear BEL105 BOX105 FA_a_105 FA_b_105 KB_bx_105 KB_by_105 KB_m_105 KB_y_105
        clear bb
        refine ⟨_, rfl, ?_⟩
        refine hK0.out _ _ (by exact ⟨KB_bx_106.out, KB_by_106.out⟩) (fun hHeld => ?_)
        clear hK0 K0 hHeld
        refine hTU.out _ _ _ _ ?_
        refine ND_1_y.out _ gy _ _ ?_ ?_ BEL106 BOX106 FA_a_106 FA_b_106 KB_bx_106 KB_by_106 KB_m_106 KB_y_106 NE_bx_by NE_bx_m NE_by_m NE_bx_y NE_by_y NE_m_y
        · first | rfl | kernel_rfl
        · rw [hact.out]; rfl
      refine AllReadyH.cons rfl (fun K0 hK0 => ?_) ?_
      · have BEL106 := a_bel BEL105 (.cells #[.int .u64 0, .slice none 0 0] 30)
        have BOX106 := a_box BOX105 BEL105 (.cells #[.int .u64 0, .slice none 0 0] 30)
        have FA_a_106 := a_fact FA_a_105 (.cells #[.int .u64 0, .slice none 0 0] 30)
        have FA_b_106 := a_fact FA_b_105 (.cells #[.int .u64 0, .slice none 0 0] 30)
        have KB_bx_106 := a_blk KB_bx_105 (.cells #[.int .u64 0, .slice none 0 0] 30)
        have NE_bx_x := n_ne KB_bx_105
        have KB_by_106 := a_blk KB_by_105 (.cells #[.int .u64 0, .slice none 0 0] 30)
        have NE_by_x := n_ne KB_by_105
        have KB_m_106 := a_blk KB_m_105 (.cells #[.int .u64 0, .slice none 0 0] 30)
        have NE_m_x := n_ne KB_m_105
        have KB_y_106 := a_blk KB_y_105 (.cells #[.int .u64 0, .slice none 0 0] 30)
        have NE_y_x := n_ne KB_y_105
        have KB_x_106 := n_blk (u := v) 30 #[.int .u64 0, .slice none 0 0]
        clear BEL105 BOX105 FA_a_105 FA_b_105 KB_bx_105 KB_by_105 KB_m_105 KB_y_105
        go_simp
        generalize (v.alloc (.cells #[.int .u64 0, .slice none 0 0] 30)) = v2 at BEL106 BOX106 FA_a_106 FA_b_106 KB_bx_106 KB_by_106 KB_m_106 KB_y_106 KB_x_106 ⊢
        generalize v.heap.size = gx at BOX106 FA_a_106 FA_b_106 KB_x_106 NE_bx_x NE_by_x NE_m_x NE_y_x ⊢
        refine hK0.out _ _ (by exact ⟨KB_bx_106.out, KB_by_106.out⟩) (fun hHeld => ?_)
        clear hK0 K0 hHeld
        refine hTU.out _ _ _ _ ?_
        refine ND_0_xy.out _ gx gy _ _ ?_ ?_ BEL106 (b_perm BOX106 (by intro p m; simp only [List.mem_cons, List.not_mem_nil, or_false] at m ⊢; omega)) (h_perm FA_a_106 (by intro p m; simp only [List.mem_cons, List.not_mem_nil, or_false] at m ⊢; omega)) (h_perm FA_b_106 (by intro p m; simp only [List.mem_cons, List.not_mem_nil, or_false] at m ⊢; omega)) KB_bx_106 KB_by_106 KB_m_106 KB_x_106 KB_y_106 NE_bx_by NE_bx_m NE_by_m NE_bx_x NE_bx_y NE_by_x NE_by_y NE_m_x NE_m_y (n_sym NE_y_x)
        · first | rfl | kernel_rfl
        · rw [hact.out]; rfl
      exact AllReadyH.nil
    have ND_0_ : Hid (∀ (v : World)  (ll : Array Bool) (aa : Act), ll = #[true, false, true, false, false, false, false, false] → aa = act0 → Hid (Below w.heap.size w v) → Hid (Boxes w v [gm, w.heap.size + 1, w.heap.size]) → Hid (HeldX [gm, w.heap.size + 1, w.heap.size] (fun uq => SgAt uq (.agg #[.int .u64 S, .slice (some ⟨bq, oq, none⟩) R cap]) S R (fun _ => n) Z) v) → Hid (HeldX [gm, w.heap.size + 1, w.heap.size] (fun uq => SgAt uq (.agg #[.int .u64 S, .slice (some ⟨bq', oq', none⟩) R cap']) S R (fun _ => n) Y) v) → Hid (Blk v w.heap.size 25 #[.int .u64 S, .slice (some ⟨bq, oq, none⟩) R cap]) → Hid (Blk v (w.heap.size + 1) 25 #[.int .u64 S, .slice (some ⟨bq', oq', none⟩) R cap']) → Hid (Blk v gm 25 #[.int .u64 0, .slice none 0 0]) → Hid (w.heap.size ≠ w.heap.size + 1) → Hid (w.heap.size ≠ gm) → Hid (w.heap.size + 1 ≠ gm) → TT 6 ll aa v) := by
      intro v  ll aa hl hA BEL105 BOX105 FA_a_105 FA_b_105 KB_bx_105 KB_by_105 KB_m_105 NE_bx_by NE_bx_m NE_by_m
      rw [hact.out] at hA
      try simp only [Act.put, List.setIfInBounds_toArray, List.set_cons_zero, List.set_cons_succ] at hA
      subst hl hA
      refine hUT.out _ _ _ _ ?_
      refine wpAnyH_ready (rs := [1, 4, 5]) (by kernel_rfl) (by simp) ?_
      refine AllReadyH.cons rfl (fun K0 hK0 => ?_) ?_
      · refine step_func 11 #[.agg #[.int .u64 S, .slice (some ⟨bq, oq, none⟩) R cap]] (by rfl) rfl (by simp [Act.eval]) (fun _ _ => by kernel_rfl) ?_
        refine (gref_any _ _ S R _ _ FA_a_105.out.at).mono ?_
        rintro e q1 ⟨rfl, bb⟩
        have BEL106 := h_bel BEL105 bb
        have BOX106 := h_box BOX105 bb
        have FA_a_106 := h_fact FA_a_105 bb
        have FA_b_106 := h_fact FA_b_105 bb
        have KB_bx_106 := h_blk KB_bx_105 bb
        have KB_by_106 := h_blk KB_by_105 bb
        have KB_m_106 := h_blk KB_m_105 bb
        clear BEL105 BOX105 FA_a_105 FA_b_105 KB_bx_105 KB_by_105 KB_m_105
        clear bb
        refine ⟨_, rfl, ?_⟩
        refine hK0.out _ _ (by exact ⟨KB_bx_106.out, KB_by_106.out⟩) (fun hHeld => ?_)
        clear hK0 K0 hHeld
        refine hTU.out _ _ _ _ ?_
        refine ND_1_.out _  _ _ ?_ ?_ BEL106 BOX106 FA_a_106 FA_b_106 KB_bx_106 KB_by_106 KB_m_106 NE_bx_by NE_bx_m NE_by_m
        · first | rfl | kernel_rfl
        · rw [hact.out]; rfl
      refine AllReadyH.cons rfl (fun K0 hK0 => ?_) ?_
      · have BEL106 := a_bel BEL105 (.cells #[.int .u64 0, .slice none 0 0] 30)
        have BOX106 := a_box BOX105 BEL105 (.cells #[.int .u64 0, .slice none 0 0] 30)
        have FA_a_106 := a_fact FA_a_105 (.cells #[.int .u64 0, .slice none 0 0] 30)
        have FA_b_106 := a_fact FA_b_105 (.cells #[.int .u64 0, .slice none 0 0] 30)
        have KB_bx_106 := a_blk KB_bx_105 (.cells #[.int .u64 0, .slice none 0 0] 30)
        have NE_bx_x := n_ne KB_bx_105
        have KB_by_106 := a_blk KB_by_105 (.cells #[.int .u64 0, .slice none 0 0] 30)
        have NE_by_x := n_ne KB_by_105
        have KB_m_106 := a_blk KB_m_105 (.cells #[.int .u64 0, .slice none 0 0] 30)
        have NE_m_x := n_ne KB_m_105
        have KB_x_106 := n_blk (u := v) 30 #[.int .u64 0, .slice none 0 0]
        clear BEL105 BOX105 FA_a_105 FA_b_105 KB_bx_105 KB_by_105 KB_m_105
        go_simp
        generalize (v.alloc (.cells #[.int .u64 0, .slice none 0 0] 30)) = v2 at BEL106 BOX106 FA_a_106 FA_b_106 KB_bx_106 KB_by_106 KB_m_106 KB_x_106 ⊢
        generalize v.heap.size = gx at BOX106 FA_a_106 FA_b_106 KB_x_106 NE_bx_x NE_by_x NE_m_x ⊢
        refine hK0.out _ _ (by exact ⟨KB_bx_106.out, KB_by_106.out⟩) (fun hHeld => ?_)
        clear hK0 K0 hHeld
        refine hTU.out _ _ _ _ ?_
        refine ND_0_x.out _ gx _ _ ?_ ?_ BEL106 BOX106 FA_a_106 FA_b_106 KB_bx_106 KB_by_106 KB_m_106 KB_x_106 NE_bx_by NE_bx_m NE_by_m NE_bx_x NE_by_x NE_m_x
        · first | rfl | kernel_rfl
        · rw [hact.out]; rfl
      refine AllReadyH.cons rfl (fun K0 hK0 => ?_) ?_
      · have BEL106 := a_bel BEL105 (.cells #[.int .u64 0, .slice none 0 0] 30)
        have BOX106 := a_box BOX105 BEL105 (.cells #[.int .u64 0, .slice none 0 0] 30)
        have FA_a_106 := a_fact FA_a_105 (.cells #[.int .u64 0, .slice none 0 0] 30)
        have FA_b_106 := a_fact FA_b_105 (.cells #[.int .u64 0, .slice none 0 0] 30)
        have KB_bx_106 := a_blk KB_bx_105 (.cells #[.int .u64 0, .slice none 0 0] 30)
        have NE_bx_y := n_ne KB_bx_105
        have KB_by_106 := a_blk KB_by_105 (.cells #[.int .u64 0, .slice none 0 0] 30)
        have NE_by_y := n_ne KB_by_105
        have KB_m_106 := a_blk KB_m_105 (.cells #[.int .u64 0, .slice none 0 0] 30)
        have NE_m_y := n_ne KB_m_105
        have KB_y_106 := n_blk (u := v) 30 #[.int .u64 0, .slice none 0 0]
        clear BEL105 BOX105 FA_a_105 FA_b_105 KB_bx_105 KB_by_105 KB_m_105
        go_simp
        generalize (v.alloc (.cells #[.int .u64 0, .slice none 0 0] 30)) = v2 at BEL106 BOX106 FA_a_106 FA_b_106 KB_bx_106 KB_by_106 KB_m_106 KB_y_106 ⊢
        generalize v.heap.size = gy at BOX106 FA_a_106 FA_b_106 KB_y_106 NE_bx_y NE_by_y NE_m_y ⊢
        refine hK0.out _ _ (by exact ⟨KB_bx_106.out, KB_by_106.out⟩) (fun hHeld => ?_)
        clear hK0 K0 hHeld
        refine hTU.out _ _ _ _ ?_
        refine ND_0_y.out _ gy _ _ ?_ ?_ BEL106 BOX106 FA_a_106 FA_b_106 KB_bx_106 KB_by_106 KB_m_106 KB_y_106 NE_bx_by NE_bx_m NE_by_m NE_bx_y NE_by_y NE_m_y
        · first | rfl | kernel_rfl
        · rw [hact.out]; rfl
      exact AllReadyH.nil
    refine ND_0_.out _  _ _ ?_ ?_ BEL5 BOX5 FA_a_5 FA_b_5 KB_bx_5 KB_by_5 KB_m_5 NE_bx_by NE_bx_m NE_by_m
    · first | rfl | kernel_rfl
    · rfl
  have HM : Hid (OkG R n (mergeG Z Y)) := hm
  clear hm
  clear CE_bx_0 CE_bx_1 CE_bx_lt CE_by_0 CE_by_1 CE_by_lt
  have CE_bx_0 : ((w.alloc (.cells #[.int .u64 S, .slice (some ⟨bq, oq, none⟩) R cap] 25)).alloc (.cells #[.int .u64 S, .slice (some ⟨bq', oq', none⟩) R cap'] 25)).cell? ⟨w.heap.size, 0, none⟩ = some (.int .u64 S) := KB_bx_2.out.cell 0
  have CE_bx_1 : ((w.alloc (.cells #[.int .u64 S, .slice (some ⟨bq, oq, none⟩) R cap] 25)).alloc (.cells #[.int .u64 S, .slice (some ⟨bq', oq', none⟩) R cap'] 25)).cell? ⟨w.heap.size, 1, none⟩ = some (.slice (some ⟨bq, oq, none⟩) R cap) := KB_bx_2.out.cell 1
  have CE_bx_lt : w.heap.size < ((w.alloc (.cells #[.int .u64 S, .slice (some ⟨bq, oq, none⟩) R cap] 25)).alloc (.cells #[.int .u64 S, .slice (some ⟨bq', oq', none⟩) R cap'] 25)).heap.size := KB_bx_2.out.lt
  have CE_by_0 : ((w.alloc (.cells #[.int .u64 S, .slice (some ⟨bq, oq, none⟩) R cap] 25)).alloc (.cells #[.int .u64 S, .slice (some ⟨bq', oq', none⟩) R cap'] 25)).cell? ⟨w.heap.size + 1, 0, none⟩ = some (.int .u64 S) := KB_by_2.out.cell 0
  have CE_by_1 : ((w.alloc (.cells #[.int .u64 S, .slice (some ⟨bq, oq, none⟩) R cap] 25)).alloc (.cells #[.int .u64 S, .slice (some ⟨bq', oq', none⟩) R cap'] 25)).cell? ⟨w.heap.size + 1, 1, none⟩ = some (.slice (some ⟨bq', oq', none⟩) R cap') := KB_by_2.out.cell 1
  have CE_by_lt : w.heap.size + 1 < ((w.alloc (.cells #[.int .u64 S, .slice (some ⟨bq, oq, none⟩) R cap] 25)).alloc (.cells #[.int .u64 S, .slice (some ⟨bq', oq', none⟩) R cap'] 25)).heap.size := KB_by_2.out.lt
  go_wp2_with fail
  refine ((gmerge_any _ _ _ S R n Z Y FA_a_2.out.at FA_b_2.out.at OK.out OK'.out).mono (fun _ _ h => h.1 HM.out)).mono ?_
  rintro e ww3 ⟨xm, rfl, fm, b3⟩
  clear CE_bx_0 CE_bx_1 CE_bx_lt CE_by_0 CE_by_1 CE_by_lt
  obtain ⟨vm, rfl, hvm⟩ := fm.at
  obtain ⟨Am, cm, bbm, oom, rfl, hx1, hx2⟩ := hvm.read
  clear hx1 hx2 hvm
  have FA_m_3 : Hid (HeldX [w.heap.size + 1, w.heap.size] (fun uq => SgAt uq (.agg #[.int .u64 S, .slice Am R cm]) S R (fun _ => n) (mergeG Z Y)) ww3) := Held.new fm BOX2.out
  have BEL3 := h_bel BEL2 b3
  have BOX3 := h_box BOX2 b3
  have FA_a_3 := h_fact FA_a_2 b3
  have FA_b_3 := h_fact FA_b_2 b3
  have KB_bx_3 := h_blk KB_bx_2 b3
  have KB_by_3 := h_blk KB_by_2 b3
  clear BEL2 BOX2 FA_a_2 FA_b_2 KB_bx_2 KB_by_2
  clear b3 fm
  go_upto_region 4 with fail
  have BEL4 := a_bel BEL3 (.cells #[.int .u64 S, .slice Am R cm] 25)
  have BOX4 := a_box BOX3 BEL3 (.cells #[.int .u64 S, .slice Am R cm] 25)
  have FA_a_4 := a_fact FA_a_3 (.cells #[.int .u64 S, .slice Am R cm] 25)
  have FA_b_4 := a_fact FA_b_3 (.cells #[.int .u64 S, .slice Am R cm] 25)
  have FA_m_4 := a_fact FA_m_3 (.cells #[.int .u64 S, .slice Am R cm] 25)
  have KB_bx_4 := a_blk KB_bx_3 (.cells #[.int .u64 S, .slice Am R cm] 25)
  have NE_bx_m := n_ne KB_bx_3
  have KB_by_4 := a_blk KB_by_3 (.cells #[.int .u64 S, .slice Am R cm] 25)
  have NE_by_m := n_ne KB_by_3
  have KB_m_4 := n_blk (u := ww3) 25 #[.int .u64 S, .slice Am R cm]
  clear BEL3 BOX3 FA_a_3 FA_b_3 FA_m_3 KB_bx_3 KB_by_3
  generalize (ww3.alloc (.cells #[.int .u64 S, .slice Am R cm] 25)) = u2 at BEL4 BOX4 FA_a_4 FA_b_4 FA_m_4 KB_bx_4 KB_by_4 KB_m_4 ⊢
  generalize ww3.heap.size = gm at BOX4 FA_a_4 FA_b_4 FA_m_4 KB_m_4 NE_bx_m NE_by_m ⊢
  refine letterQ ?_
  intro QQ hQQ
  have BEL5 := h_bel BEL4 ((Below.refl _ _).drew)
  have BOX5 := h_box BOX4 ((Below.refl _ _).drew)
  have FA_a_5 := h_fact FA_a_4 ((Below.refl _ _).drew)
  have FA_b_5 := h_fact FA_b_4 ((Below.refl _ _).drew)
  have FA_m_5 := h_fact FA_m_4 ((Below.refl _ _).drew)
  have KB_bx_5 := h_blk KB_bx_4 ((Below.refl _ _).drew)
  have KB_by_5 := h_blk KB_by_4 ((Below.refl _ _).drew)
  have KB_m_5 := h_blk KB_m_4 ((Below.refl _ _).drew)
  clear BEL4 BOX4 FA_a_4 FA_b_4 FA_m_4 KB_bx_4 KB_by_4 KB_m_4
  refine wp_region_held_drew (S := (fun w' => Blk w' w.heap.size 25 #[.int .u64 S, .slice (some ⟨bq, oq, none⟩) R cap] ∧ Blk w' (w.heap.size + 1) 25 #[.int .u64 S, .slice (some ⟨bq', oq', none⟩) R cap'])) (by kernel_rfl) ⟨KB_bx_5.out, KB_by_5.out⟩ (fun hHeld => ?_)
  clear hHeld
  generalize u2.drew = v1 at BEL5 BOX5 FA_a_5 FA_b_5 FA_m_5 KB_bx_5 KB_by_5 KB_m_5 ⊢
  refine wpAnyH_take (i := 0) (v := ?_) rfl (by kernel_rfl) (by kernel_rfl) (by kernel_rfl) (fun _ _ _ h => h) (Or.inl ⟨by rfl, ?_⟩) ⟨KB_bx_5.out, KB_by_5.out⟩ ?_
  rotate_left
  · intro wq hSw; have cl0 := hSw.1.cell 0; have cl1 := hSw.1.cell 1; go_simp; first | done | with_reducible rfl
  simp only [List.getElem_toArray, List.getElem_cons_zero, Act.put, List.setIfInBounds_toArray, List.set_cons_zero, List.set_cons_succ]
  refine wpAnyH_take (i := 2) (v := ?_) rfl (by kernel_rfl) (by kernel_rfl) (by kernel_rfl) (fun _ _ _ h => h) (Or.inl ⟨by rfl, ?_⟩) ⟨KB_bx_5.out, KB_by_5.out⟩ ?_
  rotate_left
  · intro wq hSw; have cl0 := hSw.2.cell 0; have cl1 := hSw.2.cell 1; go_simp; first | done | with_reducible rfl
  simp only [List.getElem_toArray, List.getElem_cons_zero, List.getElem_cons_succ, Act.put, List.setIfInBounds_toArray, List.set_cons_zero, List.set_cons_succ]
  refine letterT (T := wpAnyH _ _ _ _ _) ?_
  intro TT hTU hUT
  refine letterA ?_
  intro act0 hact
  have ND_2_xy : Hid (∀ (v : World) (gx : Nat) (gy : Nat) (ll : Array Bool) (aa : Act), ll = #[true, true, true, true, true, true, false, false] → aa = ((((act0.put (some 29) (.agg #[.int .u64 S, .slice (some ⟨bq, oq, none⟩) R cap])).put (some 31) (.agg #[.int .u64 S, .slice (some ⟨bq', oq', none⟩) R cap'])).put (some 7) (.pointer (some ⟨gx, 0, none⟩))).put (some 8) (.pointer (some ⟨gy, 0, none⟩))) → Hid (Below w.heap.size w v) → Hid (Boxes w v [gy, gx, gm, w.heap.size + 1, w.heap.size]) → Hid (HeldX [gy, gx, gm, w.heap.size + 1, w.heap.size] (fun uq => SgAt uq (.agg #[.int .u64 S, .slice (some ⟨bq, oq, none⟩) R cap]) S R (fun _ => n) Z) v) → Hid (HeldX [gy, gx, gm, w.heap.size + 1, w.heap.size] (fun uq => SgAt uq (.agg #[.int .u64 S, .slice (some ⟨bq', oq', none⟩) R cap']) S R (fun _ => n) Y) v) → Hid (HeldX [gy, gx, gm, w.heap.size + 1, w.heap.size] (fun uq => SgAt uq (.agg #[.int .u64 S, .slice Am R cm]) S R (fun _ => n) (mergeG Z Y)) v) → Hid (Blk v w.heap.size 25 #[.int .u64 S, .slice (some ⟨bq, oq, none⟩) R cap]) → Hid (Blk v (w.heap.size + 1) 25 #[.int .u64 S, .slice (some ⟨bq', oq', none⟩) R cap']) → Hid (Blk v gm 25 #[.int .u64 S, .slice Am R cm]) → Hid (Blk v gx 30 #[.int .u64 0, .slice none 0 0]) → Hid (Blk v gy 30 #[.int .u64 0, .slice none 0 0]) → Hid (w.heap.size ≠ w.heap.size + 1) → Hid (w.heap.size ≠ gm) → Hid (w.heap.size + 1 ≠ gm) → Hid (w.heap.size ≠ gx) → Hid (w.heap.size ≠ gy) → Hid (w.heap.size + 1 ≠ gx) → Hid (w.heap.size + 1 ≠ gy) → Hid (gm ≠ gx) → Hid (gm ≠ gy) → Hid (gx ≠ gy) → TT 2 ll aa v) := by
    intro v gx gy ll aa hl hA BEL105 BOX105 FA_a_105 FA_b_105 FA_m_105 KB_bx_105 KB_by_105 KB_m_105 KB_x_105 KB_y_105 NE_bx_by NE_bx_m NE_by_m NE_bx_x NE_bx_y NE_by_x NE_by_y NE_m_x NE_m_y NE_x_y
    rw [hact.out] at hA
    try simp only [Act.put, List.setIfInBounds_toArray, List.set_cons_zero, List.set_cons_succ] at hA
    subst hl hA
    refine hUT.out _ _ _ _ ?_
    refine wpAnyH_ready (rs := [6]) (by kernel_rfl) (by simp) ?_
    refine AllReadyH.cons rfl (fun K0 hK0 => ?_) ?_
    rotate_left
    · exact AllReadyH.nil
    have CE_x_0 : v.cell? ⟨gx, 0, none⟩ = some (.int .u64 0) := KB_x_105.out.cell 0
    have CF_x_0 : v.frozen? ⟨gx, 0, none⟩ = false := KB_x_105.out.frozen 0
    have CE_x_1 : v.cell? ⟨gx, 1, none⟩ = some (.slice none 0 0) := KB_x_105.out.cell 1
    have CF_x_1 : v.frozen? ⟨gx, 1, none⟩ = false := KB_x_105.out.frozen 1
    have CE_x_lt : gx < v.heap.size := KB_x_105.out.lt
    go_simp
    clear CE_x_0 CF_x_0 CE_x_1 CF_x_1 CE_x_lt
    obtain ⟨vs1, hv⟩ : ∃ q, q = ((v.setCell ⟨gx, 0, none⟩ (.int .u64 S)).setCell ⟨gx, 1, none⟩ (.slice (some ⟨bq, oq, none⟩) R cap)) := ⟨_, rfl⟩
    rw [← hv]
    have pe : vs1 = putCells v gx 0 [.int .u64 S, .slice (some ⟨bq, oq, none⟩) R cap] := hv
    clear hv
    have BEL106 := p_bel pe BEL105 BOX105 (List.mem_cons_of_mem _ List.mem_cons_self)
    have BOX106 := p_box pe BOX105
    have FA_a_106 := p_fact pe FA_a_105 (List.mem_cons_of_mem _ List.mem_cons_self)
    have FA_b_106 := p_fact pe FA_b_105 (List.mem_cons_of_mem _ List.mem_cons_self)
    have FA_m_106 := p_fact pe FA_m_105 (List.mem_cons_of_mem _ List.mem_cons_self)
    have KB_bx_106 := p_oth pe KB_bx_105 NE_bx_x
    have KB_by_106 := p_oth pe KB_by_105 NE_by_x
    have KB_m_106 := p_oth pe KB_m_105 NE_m_x
    have KB_x_106 : Hid (Blk vs1 gx 30 #[.int .u64 S, .slice (some ⟨bq, oq, none⟩) R cap]) := p_blk pe KB_x_105 rfl
    have KB_y_106 := p_oth pe KB_y_105 (n_sym NE_x_y)
    clear pe BEL105 BOX105 FA_a_105 FA_b_105 FA_m_105 KB_bx_105 KB_by_105 KB_m_105 KB_x_105 KB_y_105
    refine hK0.out _ _ (by exact ⟨KB_bx_106.out, KB_by_106.out⟩) (fun hHeld => ?_)
    clear hK0 K0 hHeld
    refine wpAnyH_ready (rs := [7]) (by kernel_rfl) (by simp) ?_
    refine AllReadyH.cons rfl (fun K0 hK0 => ?_) ?_
    rotate_left
    · exact AllReadyH.nil
    have CE_y_0 : vs1.cell? ⟨gy, 0, none⟩ = some (.int .u64 0) := KB_y_106.out.cell 0
    have CF_y_0 : vs1.frozen? ⟨gy, 0, none⟩ = false := KB_y_106.out.frozen 0
    have CE_y_1 : vs1.cell? ⟨gy, 1, none⟩ = some (.slice none 0 0) := KB_y_106.out.cell 1
    have CF_y_1 : vs1.frozen? ⟨gy, 1, none⟩ = false := KB_y_106.out.frozen 1
    have CE_y_lt : gy < vs1.heap.size := KB_y_106.out.lt
    go_simp
    clear CE_y_0 CF_y_0 CE_y_1 CF_y_1 CE_y_lt
    obtain ⟨vs2, hv⟩ : ∃ q, q = ((vs1.setCell ⟨gy, 0, none⟩ (.int .u64 S)).setCell ⟨gy, 1, none⟩ (.slice (some ⟨bq', oq', none⟩) R cap')) := ⟨_, rfl⟩
    rw [← hv]
    have pe : vs2 = putCells vs1 gy 0 [.int .u64 S, .slice (some ⟨bq', oq', none⟩) R cap'] := hv
    clear hv
    have BEL107 := p_bel pe BEL106 BOX106 List.mem_cons_self
    have BOX107 := p_box pe BOX106
    have FA_a_107 := p_fact pe FA_a_106 List.mem_cons_self
    have FA_b_107 := p_fact pe FA_b_106 List.mem_cons_self
    have FA_m_107 := p_fact pe FA_m_106 List.mem_cons_self
    have KB_bx_107 := p_oth pe KB_bx_106 NE_bx_y
    have KB_by_107 := p_oth pe KB_by_106 NE_by_y
    have KB_m_107 := p_oth pe KB_m_106 NE_m_y
    have KB_x_107 := p_oth pe KB_x_106 NE_x_y
    have KB_y_107 : Hid (Blk vs2 gy 30 #[.int .u64 S, .slice (some ⟨bq', oq', none⟩) R cap']) := p_blk pe KB_y_106 rfl
    clear pe BEL106 BOX106 FA_a_106 FA_b_106 FA_m_106 KB_bx_106 KB_by_106 KB_m_106 KB_x_106 KB_y_106
    refine hK0.out _ _ (by exact ⟨KB_bx_107.out, KB_by_107.out⟩) (fun hHeld => ?_)
    clear hK0 K0 hHeld
    refine wpAnyH_done (by kernel_rfl) ?_ _
    refine NoPanic.normal ?_
    refine hQQ.out _ _ ?_
    clear hTU hUT hact hQQ
    generalize vs2 = v9 at BEL107 BOX107 FA_a_107 FA_b_107 FA_m_107 KB_bx_107 KB_by_107 KB_m_107 KB_x_107 KB_y_107 ⊢
    have E1 : Hid (∀ w1, Below v9.heap.size v9 w1 → Calls Try.prog 13 #[.agg #[.int .u64 S, .slice (some ⟨bq, oq, none⟩) R cap]] w1 fun e w' => e = .returned (.bool true) ∧ Below v9.heap.size v9 w') := fun w1 b1 => (hright_any w1 _ S R _ _ (FA_a_107.out.since b1).at (fun i hi => by show n ≤ 1000; omega)).mono fun e w' h => ⟨(told h true ⟨fun _ => OK.out.right, fun _ => rfl⟩).1, bel_trans b1 (told h true ⟨fun _ => OK.out.right, fun _ => rfl⟩).2⟩
    have E2 : Hid (∀ w1, Below v9.heap.size v9 w1 → Calls Try.prog 13 #[.agg #[.int .u64 S, .slice (some ⟨bq', oq', none⟩) R cap']] w1 fun e w' => e = .returned (.bool true) ∧ Below v9.heap.size v9 w') := fun w1 b1 => (hright_any w1 _ S R _ _ (FA_b_107.out.since b1).at (fun i hi => by show n ≤ 1000; omega)).mono fun e w' h => ⟨(told h true ⟨fun _ => OK'.out.right, fun _ => rfl⟩).1, bel_trans b1 (told h true ⟨fun _ => OK'.out.right, fun _ => rfl⟩).2⟩
    have KS : Hid (∀ w' : World, Below v9.heap.size v9 w' → (w'.cell? ⟨gx, 0, none⟩ = some (.int .u64 S) ∧ w'.cell? ⟨gx, 1, none⟩ = some (.slice (some ⟨bq, oq, none⟩) R cap) ∧ w'.cell? ⟨gy, 0, none⟩ = some (.int .u64 S) ∧ w'.cell? ⟨gy, 1, none⟩ = some (.slice (some ⟨bq', oq', none⟩) R cap') ∧ w'.cell? ⟨w.heap.size, 0, none⟩ = some (.int .u64 S) ∧ w'.cell? ⟨w.heap.size, 1, none⟩ = some (.slice (some ⟨bq, oq, none⟩) R cap) ∧ w'.cell? ⟨w.heap.size + 1, 0, none⟩ = some (.int .u64 S) ∧ w'.cell? ⟨w.heap.size + 1, 1, none⟩ = some (.slice (some ⟨bq', oq', none⟩) R cap') ∧ w'.cell? ⟨bq, oq, none⟩ = some (.slice A2 n cap2) ∧ w'.cell? ⟨bq', oq', none⟩ = some (.slice A3 n cap3))) := fun w' b1 => ⟨(KB_x_107.out.since b1).cell 0, (KB_x_107.out.since b1).cell 1, (KB_y_107.out.since b1).cell 0, (KB_y_107.out.since b1).cell 1, (KB_bx_107.out.since b1).cell 0, (KB_bx_107.out.since b1).cell 1, (KB_by_107.out.since b1).cell 0, (KB_by_107.out.since b1).cell 1, keep_of_below (bel_trans BEL107.out b1) _ _ D1.out, keep_of_below (bel_trans BEL107.out b1) _ _ D3.out⟩
    have Z0 : Hid (Below v9.heap.size v9 v9.drew) := (Below.refl _ _).drew
    have cr1 : v9.cell? ⟨bq, oq, none⟩ = some (.slice A2 n cap2) := keep_of_below BEL107.out _ _ D1.out
    have cr2 : v9.cell? ⟨bq', oq', none⟩ = some (.slice A3 n cap3) := keep_of_below BEL107.out _ _ D3.out
    have eS : (S != S) = false := by simp
    have eR : ((R : Int) != (R : Int)) = false := by simp
    have eN : ((n : Int) != (n : Int)) = false := by simp
    have CE_bx_0 : v9.cell? ⟨w.heap.size, 0, none⟩ = some (.int .u64 S) := KB_bx_107.out.cell 0
    have CE_bx_1 : v9.cell? ⟨w.heap.size, 1, none⟩ = some (.slice (some ⟨bq, oq, none⟩) R cap) := KB_bx_107.out.cell 1
    have CE_bx_lt : w.heap.size < v9.heap.size := KB_bx_107.out.lt
    have CE_by_0 : v9.cell? ⟨w.heap.size + 1, 0, none⟩ = some (.int .u64 S) := KB_by_107.out.cell 0
    have CE_by_1 : v9.cell? ⟨w.heap.size + 1, 1, none⟩ = some (.slice (some ⟨bq', oq', none⟩) R cap') := KB_by_107.out.cell 1
    have CE_by_lt : w.heap.size + 1 < v9.heap.size := KB_by_107.out.lt
    have CE_x_0 : v9.cell? ⟨gx, 0, none⟩ = some (.int .u64 S) := KB_x_107.out.cell 0
    have CE_x_1 : v9.cell? ⟨gx, 1, none⟩ = some (.slice (some ⟨bq, oq, none⟩) R cap) := KB_x_107.out.cell 1
    have CE_x_lt : gx < v9.heap.size := KB_x_107.out.lt
    have CE_y_0 : v9.cell? ⟨gy, 0, none⟩ = some (.int .u64 S) := KB_y_107.out.cell 0
    have CE_y_1 : v9.cell? ⟨gy, 1, none⟩ = some (.slice (some ⟨bq', oq', none⟩) R cap') := KB_y_107.out.cell 1
    have CE_y_lt : gy < v9.heap.size := KB_y_107.out.lt
    go_wp2_with fail
    have i3 : 0 < R := by omega
    go_region_held3 (fun w' => w'.cell? ⟨gx, 0, none⟩ = some (.int .u64 S) ∧ w'.cell? ⟨gx, 1, none⟩ = some (.slice (some ⟨bq, oq, none⟩) R cap) ∧ w'.cell? ⟨gy, 0, none⟩ = some (.int .u64 S) ∧ w'.cell? ⟨gy, 1, none⟩ = some (.slice (some ⟨bq', oq', none⟩) R cap') ∧ w'.cell? ⟨w.heap.size, 0, none⟩ = some (.int .u64 S) ∧ w'.cell? ⟨w.heap.size, 1, none⟩ = some (.slice (some ⟨bq, oq, none⟩) R cap) ∧ w'.cell? ⟨w.heap.size + 1, 0, none⟩ = some (.int .u64 S) ∧ w'.cell? ⟨w.heap.size + 1, 1, none⟩ = some (.slice (some ⟨bq', oq', none⟩) R cap') ∧ w'.cell? ⟨bq, oq, none⟩ = some (.slice A2 n cap2) ∧ w'.cell? ⟨bq', oq', none⟩ = some (.slice A3 n cap3)) (first | exact KS.out _ Z2.out | exact KS.out _ Z1.out | exact KS.out _ Z0.out | go_keep) (first
      | (have fl := Z1; clear fl; go_simp; go_at_call 13; refine (E2.out _ Z1.out).mono ?_; rintro e p2 ⟨rfl, cc⟩; have Z2 : Hid (Below v9.heap.size v9 p2) := cc; clear cc)
      | (have fl := Z0; clear fl; go_simp; go_at_call 13; refine (E1.out _ Z0.out).mono ?_; rintro e p1 ⟨rfl, cc⟩; have Z1 : Hid (Below v9.heap.size v9 p1) := cc; clear cc))
    all_goals clear CE_bx_0 CE_bx_1 CE_bx_lt CE_by_0 CE_by_1 CE_by_lt CE_x_0 CE_x_1 CE_x_lt CE_y_0 CE_y_1 CE_y_lt cr1 cr2 E1 E2 KS eS eR eN
    all_goals
      have BEL108 := h_bel BEL107 Z2.out
      have BOX108 := h_box BOX107 Z2.out
      have FA_a_108 := h_fact FA_a_107 Z2.out
      have FA_b_108 := h_fact FA_b_107 Z2.out
      have FA_m_108 := h_fact FA_m_107 Z2.out
      have KB_bx_108 := h_blk KB_bx_107 Z2.out
      have KB_by_108 := h_blk KB_by_107 Z2.out
      have KB_m_108 := h_blk KB_m_107 Z2.out
      have KB_x_108 := h_blk KB_x_107 Z2.out
      have KB_y_108 := h_blk KB_y_107 Z2.out
      clear BEL107 BOX107 FA_a_107 FA_b_107 FA_m_107 KB_bx_107 KB_by_107 KB_m_107 KB_x_107 KB_y_107
      clear Z0 Z1 Z2
      have CE_x_0 : p2.cell? ⟨gx, 0, none⟩ = some (.int .u64 S) := KB_x_108.out.cell 0
      have CE_x_1 : p2.cell? ⟨gx, 1, none⟩ = some (.slice (some ⟨bq, oq, none⟩) R cap) := KB_x_108.out.cell 1
      have CE_x_lt : gx < p2.heap.size := KB_x_108.out.lt
      have CE_y_0 : p2.cell? ⟨gy, 0, none⟩ = some (.int .u64 S) := KB_y_108.out.cell 0
      have CE_y_1 : p2.cell? ⟨gy, 1, none⟩ = some (.slice (some ⟨bq', oq', none⟩) R cap') := KB_y_108.out.cell 1
      have CE_y_lt : gy < p2.heap.size := KB_y_108.out.lt
      go_wp2_with fail
      refine (hmerge_any _ _ _ S R n Z Y FA_a_108.out.at FA_b_108.out.at OK.out OK'.out).mono ?_
      rintro e ww8 ⟨xy, B, rfl, hy, hB, b8⟩
      have HY : Hid (SgAt ww8 xy S R (fun _ => n) (mergeG Z Y)) := hy
      obtain ⟨vy, rfl, hvy⟩ := hy
      obtain ⟨Ay, cy, by_, oy, rfl, hx1, hx2⟩ := hvy.read
      clear hx1 hx2 hvy
      obtain rfl : B = true := hB.2 HM.out
      clear hB
      clear CE_x_0 CE_x_1 CE_x_lt CE_y_0 CE_y_1 CE_y_lt
      have BEL109 := h_bel BEL108 b8
      have BOX109 := h_box BOX108 b8
      have FA_a_109 := h_fact FA_a_108 b8
      have FA_b_109 := h_fact FA_b_108 b8
      have FA_m_109 := h_fact FA_m_108 b8
      have KB_bx_109 := h_blk KB_bx_108 b8
      have KB_by_109 := h_blk KB_by_108 b8
      have KB_m_109 := h_blk KB_m_108 b8
      have KB_x_109 := h_blk KB_x_108 b8
      have KB_y_109 := h_blk KB_y_108 b8
      clear BEL108 BOX108 FA_a_108 FA_b_108 FA_m_108 KB_bx_108 KB_by_108 KB_m_108 KB_x_108 KB_y_108
      clear b8
      go_upto_region 8 with fail
      have FY : Hid (SgAt (ww8.alloc (.cells #[.int .u64 S, .slice Ay R cy] 30)) (.agg #[.int .u64 S, .slice Ay R cy]) S R (fun _ => n) (mergeG Z Y)) := HY.out.keep (keep_of_below (bel_alloc _ _))
      clear HY
      have BEL110 := a_bel BEL109 (.cells #[.int .u64 S, .slice Ay R cy] 30)
      have BOX110 := a_box BOX109 BEL109 (.cells #[.int .u64 S, .slice Ay R cy] 30)
      have FA_a_110 := a_fact FA_a_109 (.cells #[.int .u64 S, .slice Ay R cy] 30)
      have FA_b_110 := a_fact FA_b_109 (.cells #[.int .u64 S, .slice Ay R cy] 30)
      have FA_m_110 := a_fact FA_m_109 (.cells #[.int .u64 S, .slice Ay R cy] 30)
      have KB_bx_110 := a_blk KB_bx_109 (.cells #[.int .u64 S, .slice Ay R cy] 30)
      have NE_bx_z := n_ne KB_bx_109
      have KB_by_110 := a_blk KB_by_109 (.cells #[.int .u64 S, .slice Ay R cy] 30)
      have NE_by_z := n_ne KB_by_109
      have KB_m_110 := a_blk KB_m_109 (.cells #[.int .u64 S, .slice Ay R cy] 30)
      have NE_m_z := n_ne KB_m_109
      have KB_x_110 := a_blk KB_x_109 (.cells #[.int .u64 S, .slice Ay R cy] 30)
      have NE_x_z := n_ne KB_x_109
      have KB_y_110 := a_blk KB_y_109 (.cells #[.int .u64 S, .slice Ay R cy] 30)
      have NE_y_z := n_ne KB_y_109
      have KB_z_110 := n_blk (u := ww8) 30 #[.int .u64 S, .slice Ay R cy]
      clear BEL109 BOX109 FA_a_109 FA_b_109 FA_m_109 KB_bx_109 KB_by_109 KB_m_109 KB_x_109 KB_y_109
      generalize (ww8.alloc (.cells #[.int .u64 S, .slice Ay R cy] 30)) = v8 at BEL110 BOX110 FA_a_110 FA_b_110 FA_m_110 KB_bx_110 KB_by_110 KB_m_110 KB_x_110 KB_y_110 KB_z_110 FY ⊢
      generalize ww8.heap.size = gz at BOX110 FA_a_110 FA_b_110 FA_m_110 KB_z_110 NE_bx_z NE_by_z NE_m_z NE_x_z NE_y_z ⊢
      have RM : Hid (∀ w1, Below v8.heap.size v8 w1 → Calls Try.prog 11 #[.agg #[.int .u64 S, .slice Am R cm]] w1 fun e w' => e = .returned (.agg #[.int .u64 S, .slice Am R cm]) ∧ Below v8.heap.size v8 w') := fun w1 b1 => (gref_any w1 _ S R _ _ (FA_m_110.out.since b1).at).mono fun e w' h => ⟨h.1, bel_trans b1 h.2⟩
      have EG : Hid (∀ w1, Below v8.heap.size v8 w1 → Calls Try.prog 10 #[.agg #[.int .u64 S, .slice Am R cm], .agg #[.int .u64 S, .slice Ay R cy]] w1 fun e w' => e = .returned (.bool true) ∧ Below v8.heap.size v8 w') := fun w1 b1 => (hequal_any w1 _ _ S S R R _ _ _ _ (FA_m_110.out.since b1).at (FY.out.keep (keep_of_below b1)) R2 (fun i hi => by show n ≤ 1000; omega)).mono fun e w' h => ⟨(told h true ⟨fun _ => ⟨rfl, rfl, fun i hi => ⟨rfl, fun j hj => rfl⟩⟩, fun _ => rfl⟩).1, bel_trans b1 (told h true ⟨fun _ => ⟨rfl, rfl, fun i hi => ⟨rfl, fun j hj => rfl⟩⟩, fun _ => rfl⟩).2⟩
      have WA : Hid (∀ w1, Below v8.heap.size v8 w1 → Calls Try.prog 12 #[] w1 fun e w' => e = .returned (.bool true) ∧ Below v8.heap.size v8 w') := fun w1 b1 => (gawake_any w1).mono fun e w' h => ⟨h.1, bel_trans b1 h.2⟩
      have KS : Hid (∀ w' : World, Below v8.heap.size v8 w' → (w'.cell? ⟨gm, 0, none⟩ = some (.int .u64 S) ∧ w'.cell? ⟨gm, 1, none⟩ = some (.slice Am R cm) ∧ w'.cell? ⟨gz, 0, none⟩ = some (.int .u64 S) ∧ w'.cell? ⟨gz, 1, none⟩ = some (.slice Ay R cy))) := fun w' b1 => ⟨(KB_m_110.out.since b1).cell 0, (KB_m_110.out.since b1).cell 1, (KB_z_110.out.since b1).cell 0, (KB_z_110.out.since b1).cell 1⟩
      have Z0 : Hid (Below v8.heap.size v8 v8.drew) := (Below.refl _ _).drew
      have CE_m_0 : v8.cell? ⟨gm, 0, none⟩ = some (.int .u64 S) := KB_m_110.out.cell 0
      have CE_m_1 : v8.cell? ⟨gm, 1, none⟩ = some (.slice Am R cm) := KB_m_110.out.cell 1
      have CE_m_lt : gm < v8.heap.size := KB_m_110.out.lt
      have CE_z_0 : v8.cell? ⟨gz, 0, none⟩ = some (.int .u64 S) := KB_z_110.out.cell 0
      have CE_z_1 : v8.cell? ⟨gz, 1, none⟩ = some (.slice Ay R cy) := KB_z_110.out.cell 1
      have CE_z_lt : gz < v8.heap.size := KB_z_110.out.lt
      clear FY FA_a_110 FA_b_110 FA_m_110
      go_wp2_with fail
      go_region_held3 (fun w' => w'.cell? ⟨gm, 0, none⟩ = some (.int .u64 S) ∧ w'.cell? ⟨gm, 1, none⟩ = some (.slice Am R cm) ∧ w'.cell? ⟨gz, 0, none⟩ = some (.int .u64 S) ∧ w'.cell? ⟨gz, 1, none⟩ = some (.slice Ay R cy)) (first | exact KS.out _ Z3.out | exact KS.out _ Z2.out | exact KS.out _ Z1.out | exact KS.out _ Z0.out | go_keep) (first
        | (have fl := Z2; clear fl; go_simp; go_at_call 12; refine (WA.out _ Z2.out).mono ?_; rintro e q3 ⟨rfl, cc⟩; have Z3 : Hid (Below v8.heap.size v8 q3) := cc; clear cc)
        | (have fl := Z1; clear fl; go_simp; go_at_call 10; refine (EG.out _ Z1.out).mono ?_; rintro e q2 ⟨rfl, cc⟩; have Z2 : Hid (Below v8.heap.size v8 q2) := cc; clear cc)
        | (have fl := Z0; clear fl; go_simp; go_at_call 11; refine (RM.out _ Z0.out).mono ?_; rintro e q1 ⟨rfl, cc⟩; have Z1 : Hid (Below v8.heap.size v8 q1) := cc; clear cc))
      all_goals go_wp2_with fail
      all_goals go_ret
      all_goals exact ⟨rfl, bel_trans BEL110.out Z3.out⟩
  have ND_2_x : Hid (∀ (v : World) (gx : Nat) (ll : Array Bool) (aa : Act), ll = #[true, true, true, true, true, false, false, false] → aa = (((act0.put (some 29) (.agg #[.int .u64 S, .slice (some ⟨bq, oq, none⟩) R cap])).put (some 31) (.agg #[.int .u64 S, .slice (some ⟨bq', oq', none⟩) R cap'])).put (some 7) (.pointer (some ⟨gx, 0, none⟩))) → Hid (Below w.heap.size w v) → Hid (Boxes w v [gx, gm, w.heap.size + 1, w.heap.size]) → Hid (HeldX [gx, gm, w.heap.size + 1, w.heap.size] (fun uq => SgAt uq (.agg #[.int .u64 S, .slice (some ⟨bq, oq, none⟩) R cap]) S R (fun _ => n) Z) v) → Hid (HeldX [gx, gm, w.heap.size + 1, w.heap.size] (fun uq => SgAt uq (.agg #[.int .u64 S, .slice (some ⟨bq', oq', none⟩) R cap']) S R (fun _ => n) Y) v) → Hid (HeldX [gx, gm, w.heap.size + 1, w.heap.size] (fun uq => SgAt uq (.agg #[.int .u64 S, .slice Am R cm]) S R (fun _ => n) (mergeG Z Y)) v) → Hid (Blk v w.heap.size 25 #[.int .u64 S, .slice (some ⟨bq, oq, none⟩) R cap]) → Hid (Blk v (w.heap.size + 1) 25 #[.int .u64 S, .slice (some ⟨bq', oq', none⟩) R cap']) → Hid (Blk v gm 25 #[.int .u64 S, .slice Am R cm]) → Hid (Blk v gx 30 #[.int .u64 0, .slice none 0 0]) → Hid (w.heap.size ≠ w.heap.size + 1) → Hid (w.heap.size ≠ gm) → Hid (w.heap.size + 1 ≠ gm) → Hid (w.heap.size ≠ gx) → Hid (w.heap.size + 1 ≠ gx) → Hid (gm ≠ gx) → TT 3 ll aa v) := by
    intro v gx ll aa hl hA BEL105 BOX105 FA_a_105 FA_b_105 FA_m_105 KB_bx_105 KB_by_105 KB_m_105 KB_x_105 NE_bx_by NE_bx_m NE_by_m NE_bx_x NE_by_x NE_m_x
    rw [hact.out] at hA
    try simp only [Act.put, List.setIfInBounds_toArray, List.set_cons_zero, List.set_cons_succ] at hA
    subst hl hA
    refine hUT.out _ _ _ _ ?_
    refine wpAnyH_ready (rs := [5]) (by kernel_rfl) (by simp) ?_
    refine AllReadyH.cons rfl (fun K0 hK0 => ?_) ?_
    · have BEL106 := a_bel BEL105 (.cells #[.int .u64 0, .slice none 0 0] 30)
      have BOX106 := a_box BOX105 BEL105 (.cells #[.int .u64 0, .slice none 0 0] 30)
      have FA_a_106 := a_fact FA_a_105 (.cells #[.int .u64 0, .slice none 0 0] 30)
      have FA_b_106 := a_fact FA_b_105 (.cells #[.int .u64 0, .slice none 0 0] 30)
      have FA_m_106 := a_fact FA_m_105 (.cells #[.int .u64 0, .slice none 0 0] 30)
      have KB_bx_106 := a_blk KB_bx_105 (.cells #[.int .u64 0, .slice none 0 0] 30)
      have NE_bx_y := n_ne KB_bx_105
      have KB_by_106 := a_blk KB_by_105 (.cells #[.int .u64 0, .slice none 0 0] 30)
      have NE_by_y := n_ne KB_by_105
      have KB_m_106 := a_blk KB_m_105 (.cells #[.int .u64 0, .slice none 0 0] 30)
      have NE_m_y := n_ne KB_m_105
      have KB_x_106 := a_blk KB_x_105 (.cells #[.int .u64 0, .slice none 0 0] 30)
      have NE_x_y := n_ne KB_x_105
      have KB_y_106 := n_blk (u := v) 30 #[.int .u64 0, .slice none 0 0]
      clear BEL105 BOX105 FA_a_105 FA_b_105 FA_m_105 KB_bx_105 KB_by_105 KB_m_105 KB_x_105
      go_simp
      generalize (v.alloc (.cells #[.int .u64 0, .slice none 0 0] 30)) = v2 at BEL106 BOX106 FA_a_106 FA_b_106 FA_m_106 KB_bx_106 KB_by_106 KB_m_106 KB_x_106 KB_y_106 ⊢
      generalize v.heap.size = gy at BOX106 FA_a_106 FA_b_106 FA_m_106 KB_y_106 NE_bx_y NE_by_y NE_m_y NE_x_y ⊢
      refine hK0.out _ _ (by exact ⟨KB_bx_106.out, KB_by_106.out⟩) (fun hHeld => ?_)
      clear hK0 K0 hHeld
      refine hTU.out _ _ _ _ ?_
      refine ND_2_xy.out _ gx gy _ _ ?_ ?_ BEL106 BOX106 FA_a_106 FA_b_106 FA_m_106 KB_bx_106 KB_by_106 KB_m_106 KB_x_106 KB_y_106 NE_bx_by NE_bx_m NE_by_m NE_bx_x NE_bx_y NE_by_x NE_by_y NE_m_x NE_m_y NE_x_y
      · first | rfl | kernel_rfl
      · rw [hact.out]; rfl
    exact AllReadyH.nil
  have ND_2_y : Hid (∀ (v : World) (gy : Nat) (ll : Array Bool) (aa : Act), ll = #[true, true, true, true, false, true, false, false] → aa = (((act0.put (some 29) (.agg #[.int .u64 S, .slice (some ⟨bq, oq, none⟩) R cap])).put (some 31) (.agg #[.int .u64 S, .slice (some ⟨bq', oq', none⟩) R cap'])).put (some 8) (.pointer (some ⟨gy, 0, none⟩))) → Hid (Below w.heap.size w v) → Hid (Boxes w v [gy, gm, w.heap.size + 1, w.heap.size]) → Hid (HeldX [gy, gm, w.heap.size + 1, w.heap.size] (fun uq => SgAt uq (.agg #[.int .u64 S, .slice (some ⟨bq, oq, none⟩) R cap]) S R (fun _ => n) Z) v) → Hid (HeldX [gy, gm, w.heap.size + 1, w.heap.size] (fun uq => SgAt uq (.agg #[.int .u64 S, .slice (some ⟨bq', oq', none⟩) R cap']) S R (fun _ => n) Y) v) → Hid (HeldX [gy, gm, w.heap.size + 1, w.heap.size] (fun uq => SgAt uq (.agg #[.int .u64 S, .slice Am R cm]) S R (fun _ => n) (mergeG Z Y)) v) → Hid (Blk v w.heap.size 25 #[.int .u64 S, .slice (some ⟨bq, oq, none⟩) R cap]) → Hid (Blk v (w.heap.size + 1) 25 #[.int .u64 S, .slice (some ⟨bq', oq', none⟩) R cap']) → Hid (Blk v gm 25 #[.int .u64 S, .slice Am R cm]) → Hid (Blk v gy 30 #[.int .u64 0, .slice none 0 0]) → Hid (w.heap.size ≠ w.heap.size + 1) → Hid (w.heap.size ≠ gm) → Hid (w.heap.size + 1 ≠ gm) → Hid (w.heap.size ≠ gy) → Hid (w.heap.size + 1 ≠ gy) → Hid (gm ≠ gy) → TT 3 ll aa v) := by
    intro v gy ll aa hl hA BEL105 BOX105 FA_a_105 FA_b_105 FA_m_105 KB_bx_105 KB_by_105 KB_m_105 KB_y_105 NE_bx_by NE_bx_m NE_by_m NE_bx_y NE_by_y NE_m_y
    rw [hact.out] at hA
    try simp only [Act.put, List.setIfInBounds_toArray, List.set_cons_zero, List.set_cons_succ] at hA
    subst hl hA
    refine hUT.out _ _ _ _ ?_
    refine wpAnyH_ready (rs := [4]) (by kernel_rfl) (by simp) ?_
    refine AllReadyH.cons rfl (fun K0 hK0 => ?_) ?_
    · have BEL106 := a_bel BEL105 (.cells #[.int .u64 0, .slice none 0 0] 30)
      have BOX106 := a_box BOX105 BEL105 (.cells #[.int .u64 0, .slice none 0 0] 30)
      have FA_a_106 := a_fact FA_a_105 (.cells #[.int .u64 0, .slice none 0 0] 30)
      have FA_b_106 := a_fact FA_b_105 (.cells #[.int .u64 0, .slice none 0 0] 30)
      have FA_m_106 := a_fact FA_m_105 (.cells #[.int .u64 0, .slice none 0 0] 30)
      have KB_bx_106 := a_blk KB_bx_105 (.cells #[.int .u64 0, .slice none 0 0] 30)
      have NE_bx_x := n_ne KB_bx_105
      have KB_by_106 := a_blk KB_by_105 (.cells #[.int .u64 0, .slice none 0 0] 30)
      have NE_by_x := n_ne KB_by_105
      have KB_m_106 := a_blk KB_m_105 (.cells #[.int .u64 0, .slice none 0 0] 30)
      have NE_m_x := n_ne KB_m_105
      have KB_y_106 := a_blk KB_y_105 (.cells #[.int .u64 0, .slice none 0 0] 30)
      have NE_y_x := n_ne KB_y_105
      have KB_x_106 := n_blk (u := v) 30 #[.int .u64 0, .slice none 0 0]
      clear BEL105 BOX105 FA_a_105 FA_b_105 FA_m_105 KB_bx_105 KB_by_105 KB_m_105 KB_y_105
      go_simp
      generalize (v.alloc (.cells #[.int .u64 0, .slice none 0 0] 30)) = v2 at BEL106 BOX106 FA_a_106 FA_b_106 FA_m_106 KB_bx_106 KB_by_106 KB_m_106 KB_y_106 KB_x_106 ⊢
      generalize v.heap.size = gx at BOX106 FA_a_106 FA_b_106 FA_m_106 KB_x_106 NE_bx_x NE_by_x NE_m_x NE_y_x ⊢
      refine hK0.out _ _ (by exact ⟨KB_bx_106.out, KB_by_106.out⟩) (fun hHeld => ?_)
      clear hK0 K0 hHeld
      refine hTU.out _ _ _ _ ?_
      refine ND_2_xy.out _ gx gy _ _ ?_ ?_ BEL106 (b_perm BOX106 (by intro p m; simp only [List.mem_cons, List.not_mem_nil, or_false] at m ⊢; omega)) (h_perm FA_a_106 (by intro p m; simp only [List.mem_cons, List.not_mem_nil, or_false] at m ⊢; omega)) (h_perm FA_b_106 (by intro p m; simp only [List.mem_cons, List.not_mem_nil, or_false] at m ⊢; omega)) (h_perm FA_m_106 (by intro p m; simp only [List.mem_cons, List.not_mem_nil, or_false] at m ⊢; omega)) KB_bx_106 KB_by_106 KB_m_106 KB_x_106 KB_y_106 NE_bx_by NE_bx_m NE_by_m NE_bx_x NE_bx_y NE_by_x NE_by_y NE_m_x NE_m_y (n_sym NE_y_x)
      · first | rfl | kernel_rfl
      · rw [hact.out]; rfl
    exact AllReadyH.nil
  have ND_2_ : Hid (∀ (v : World)  (ll : Array Bool) (aa : Act), ll = #[true, true, true, true, false, false, false, false] → aa = ((act0.put (some 29) (.agg #[.int .u64 S, .slice (some ⟨bq, oq, none⟩) R cap])).put (some 31) (.agg #[.int .u64 S, .slice (some ⟨bq', oq', none⟩) R cap'])) → Hid (Below w.heap.size w v) → Hid (Boxes w v [gm, w.heap.size + 1, w.heap.size]) → Hid (HeldX [gm, w.heap.size + 1, w.heap.size] (fun uq => SgAt uq (.agg #[.int .u64 S, .slice (some ⟨bq, oq, none⟩) R cap]) S R (fun _ => n) Z) v) → Hid (HeldX [gm, w.heap.size + 1, w.heap.size] (fun uq => SgAt uq (.agg #[.int .u64 S, .slice (some ⟨bq', oq', none⟩) R cap']) S R (fun _ => n) Y) v) → Hid (HeldX [gm, w.heap.size + 1, w.heap.size] (fun uq => SgAt uq (.agg #[.int .u64 S, .slice Am R cm]) S R (fun _ => n) (mergeG Z Y)) v) → Hid (Blk v w.heap.size 25 #[.int .u64 S, .slice (some ⟨bq, oq, none⟩) R cap]) → Hid (Blk v (w.heap.size + 1) 25 #[.int .u64 S, .slice (some ⟨bq', oq', none⟩) R cap']) → Hid (Blk v gm 25 #[.int .u64 S, .slice Am R cm]) → Hid (w.heap.size ≠ w.heap.size + 1) → Hid (w.heap.size ≠ gm) → Hid (w.heap.size + 1 ≠ gm) → TT 4 ll aa v) := by
    intro v  ll aa hl hA BEL105 BOX105 FA_a_105 FA_b_105 FA_m_105 KB_bx_105 KB_by_105 KB_m_105 NE_bx_by NE_bx_m NE_by_m
    rw [hact.out] at hA
    try simp only [Act.put, List.setIfInBounds_toArray, List.set_cons_zero, List.set_cons_succ] at hA
    subst hl hA
    refine hUT.out _ _ _ _ ?_
    refine wpAnyH_ready (rs := [4, 5]) (by kernel_rfl) (by simp) ?_
    refine AllReadyH.cons rfl (fun K0 hK0 => ?_) ?_
    · have BEL106 := a_bel BEL105 (.cells #[.int .u64 0, .slice none 0 0] 30)
      have BOX106 := a_box BOX105 BEL105 (.cells #[.int .u64 0, .slice none 0 0] 30)
      have FA_a_106 := a_fact FA_a_105 (.cells #[.int .u64 0, .slice none 0 0] 30)
      have FA_b_106 := a_fact FA_b_105 (.cells #[.int .u64 0, .slice none 0 0] 30)
      have FA_m_106 := a_fact FA_m_105 (.cells #[.int .u64 0, .slice none 0 0] 30)
      have KB_bx_106 := a_blk KB_bx_105 (.cells #[.int .u64 0, .slice none 0 0] 30)
      have NE_bx_x := n_ne KB_bx_105
      have KB_by_106 := a_blk KB_by_105 (.cells #[.int .u64 0, .slice none 0 0] 30)
      have NE_by_x := n_ne KB_by_105
      have KB_m_106 := a_blk KB_m_105 (.cells #[.int .u64 0, .slice none 0 0] 30)
      have NE_m_x := n_ne KB_m_105
      have KB_x_106 := n_blk (u := v) 30 #[.int .u64 0, .slice none 0 0]
      clear BEL105 BOX105 FA_a_105 FA_b_105 FA_m_105 KB_bx_105 KB_by_105 KB_m_105
      go_simp
      generalize (v.alloc (.cells #[.int .u64 0, .slice none 0 0] 30)) = v2 at BEL106 BOX106 FA_a_106 FA_b_106 FA_m_106 KB_bx_106 KB_by_106 KB_m_106 KB_x_106 ⊢
      generalize v.heap.size = gx at BOX106 FA_a_106 FA_b_106 FA_m_106 KB_x_106 NE_bx_x NE_by_x NE_m_x ⊢
      refine hK0.out _ _ (by exact ⟨KB_bx_106.out, KB_by_106.out⟩) (fun hHeld => ?_)
      clear hK0 K0 hHeld
      refine hTU.out _ _ _ _ ?_
      refine ND_2_x.out _ gx _ _ ?_ ?_ BEL106 BOX106 FA_a_106 FA_b_106 FA_m_106 KB_bx_106 KB_by_106 KB_m_106 KB_x_106 NE_bx_by NE_bx_m NE_by_m NE_bx_x NE_by_x NE_m_x
      · first | rfl | kernel_rfl
      · rw [hact.out]; rfl
    refine AllReadyH.cons rfl (fun K0 hK0 => ?_) ?_
    · have BEL106 := a_bel BEL105 (.cells #[.int .u64 0, .slice none 0 0] 30)
      have BOX106 := a_box BOX105 BEL105 (.cells #[.int .u64 0, .slice none 0 0] 30)
      have FA_a_106 := a_fact FA_a_105 (.cells #[.int .u64 0, .slice none 0 0] 30)
      have FA_b_106 := a_fact FA_b_105 (.cells #[.int .u64 0, .slice none 0 0] 30)
      have FA_m_106 := a_fact FA_m_105 (.cells #[.int .u64 0, .slice none 0 0] 30)
      have KB_bx_106 := a_blk KB_bx_105 (.cells #[.int .u64 0, .slice none 0 0] 30)
      have NE_bx_y := n_ne KB_bx_105
      have KB_by_106 := a_blk KB_by_105 (.cells #[.int .u64 0, .slice none 0 0] 30)
      have NE_by_y := n_ne KB_by_105
      have KB_m_106 := a_blk KB_m_105 (.cells #[.int .u64 0, .slice none 0 0] 30)
      have NE_m_y := n_ne KB_m_105
      have KB_y_106 := n_blk (u := v) 30 #[.int .u64 0, .slice none 0 0]
      clear BEL105 BOX105 FA_a_105 FA_b_105 FA_m_105 KB_bx_105 KB_by_105 KB_m_105
      go_simp
      generalize (v.alloc (.cells #[.int .u64 0, .slice none 0 0] 30)) = v2 at BEL106 BOX106 FA_a_106 FA_b_106 FA_m_106 KB_bx_106 KB_by_106 KB_m_106 KB_y_106 ⊢
      generalize v.heap.size = gy at BOX106 FA_a_106 FA_b_106 FA_m_106 KB_y_106 NE_bx_y NE_by_y NE_m_y ⊢
      refine hK0.out _ _ (by exact ⟨KB_bx_106.out, KB_by_106.out⟩) (fun hHeld => ?_)
      clear hK0 K0 hHeld
      refine hTU.out _ _ _ _ ?_
      refine ND_2_y.out _ gy _ _ ?_ ?_ BEL106 BOX106 FA_a_106 FA_b_106 FA_m_106 KB_bx_106 KB_by_106 KB_m_106 KB_y_106 NE_bx_by NE_bx_m NE_by_m NE_bx_y NE_by_y NE_m_y
      · first | rfl | kernel_rfl
      · rw [hact.out]; rfl
    exact AllReadyH.nil
  have ND_1_xy : Hid (∀ (v : World) (gx : Nat) (gy : Nat) (ll : Array Bool) (aa : Act), ll = #[true, true, true, false, true, true, false, false] → aa = (((act0.put (some 29) (.agg #[.int .u64 S, .slice (some ⟨bq, oq, none⟩) R cap])).put (some 7) (.pointer (some ⟨gx, 0, none⟩))).put (some 8) (.pointer (some ⟨gy, 0, none⟩))) → Hid (Below w.heap.size w v) → Hid (Boxes w v [gy, gx, gm, w.heap.size + 1, w.heap.size]) → Hid (HeldX [gy, gx, gm, w.heap.size + 1, w.heap.size] (fun uq => SgAt uq (.agg #[.int .u64 S, .slice (some ⟨bq, oq, none⟩) R cap]) S R (fun _ => n) Z) v) → Hid (HeldX [gy, gx, gm, w.heap.size + 1, w.heap.size] (fun uq => SgAt uq (.agg #[.int .u64 S, .slice (some ⟨bq', oq', none⟩) R cap']) S R (fun _ => n) Y) v) → Hid (HeldX [gy, gx, gm, w.heap.size + 1, w.heap.size] (fun uq => SgAt uq (.agg #[.int .u64 S, .slice Am R cm]) S R (fun _ => n) (mergeG Z Y)) v) → Hid (Blk v w.heap.size 25 #[.int .u64 S, .slice (some ⟨bq, oq, none⟩) R cap]) → Hid (Blk v (w.heap.size + 1) 25 #[.int .u64 S, .slice (some ⟨bq', oq', none⟩) R cap']) → Hid (Blk v gm 25 #[.int .u64 S, .slice Am R cm]) → Hid (Blk v gx 30 #[.int .u64 0, .slice none 0 0]) → Hid (Blk v gy 30 #[.int .u64 0, .slice none 0 0]) → Hid (w.heap.size ≠ w.heap.size + 1) → Hid (w.heap.size ≠ gm) → Hid (w.heap.size + 1 ≠ gm) → Hid (w.heap.size ≠ gx) → Hid (w.heap.size ≠ gy) → Hid (w.heap.size + 1 ≠ gx) → Hid (w.heap.size + 1 ≠ gy) → Hid (gm ≠ gx) → Hid (gm ≠ gy) → Hid (gx ≠ gy) → TT 3 ll aa v) := by
    intro v gx gy ll aa hl hA BEL105 BOX105 FA_a_105 FA_b_105 FA_m_105 KB_bx_105 KB_by_105 KB_m_105 KB_x_105 KB_y_105 NE_bx_by NE_bx_m NE_by_m NE_bx_x NE_bx_y NE_by_x NE_by_y NE_m_x NE_m_y NE_x_y
    rw [hact.out] at hA
    try simp only [Act.put, List.setIfInBounds_toArray, List.set_cons_zero, List.set_cons_succ] at hA
    subst hl hA
    refine hUT.out _ _ _ _ ?_
    refine wpAnyH_ready (rs := [3]) (by kernel_rfl) (by simp) ?_
    refine AllReadyH.cons rfl (fun K0 hK0 => ?_) ?_
    · refine step_func 11 #[.agg #[.int .u64 S, .slice (some ⟨bq', oq', none⟩) R cap']] (by rfl) rfl (by simp [Act.eval]) (fun _ _ => by kernel_rfl) ?_
      refine (gref_any _ _ S R _ _ FA_b_105.out.at).mono ?_
      rintro e q2 ⟨rfl, bb⟩
      have BEL106 := h_bel BEL105 bb
      have BOX106 := h_box BOX105 bb
      have FA_a_106 := h_fact FA_a_105 bb
      have FA_b_106 := h_fact FA_b_105 bb
      have FA_m_106 := h_fact FA_m_105 bb
      have KB_bx_106 := h_blk KB_bx_105 bb
      have KB_by_106 := h_blk KB_by_105 bb
      have KB_m_106 := h_blk KB_m_105 bb
      have KB_x_106 := h_blk KB_x_105 bb
      have KB_y_106 := h_blk KB_y_105 bb
      clear BEL105 BOX105 FA_a_105 FA_b_105 FA_m_105 KB_bx_105 KB_by_105 KB_m_105 KB_x_105 KB_y_105
      clear bb
      refine ⟨_, rfl, ?_⟩
      refine hK0.out _ _ (by exact ⟨KB_bx_106.out, KB_by_106.out⟩) (fun hHeld => ?_)
      clear hK0 K0 hHeld
      refine hTU.out _ _ _ _ ?_
      refine ND_2_xy.out _ gx gy _ _ ?_ ?_ BEL106 BOX106 FA_a_106 FA_b_106 FA_m_106 KB_bx_106 KB_by_106 KB_m_106 KB_x_106 KB_y_106 NE_bx_by NE_bx_m NE_by_m NE_bx_x NE_bx_y NE_by_x NE_by_y NE_m_x NE_m_y NE_x_y
      · first | rfl | kernel_rfl
      · rw [hact.out]; rfl
    exact AllReadyH.nil
  have ND_1_x : Hid (∀ (v : World) (gx : Nat) (ll : Array Bool) (aa : Act), ll = #[true, true, true, false, true, false, false, false] → aa = ((act0.put (some 29) (.agg #[.int .u64 S, .slice (some ⟨bq, oq, none⟩) R cap])).put (some 7) (.pointer (some ⟨gx, 0, none⟩))) → Hid (Below w.heap.size w v) → Hid (Boxes w v [gx, gm, w.heap.size + 1, w.heap.size]) → Hid (HeldX [gx, gm, w.heap.size + 1, w.heap.size] (fun uq => SgAt uq (.agg #[.int .u64 S, .slice (some ⟨bq, oq, none⟩) R cap]) S R (fun _ => n) Z) v) → Hid (HeldX [gx, gm, w.heap.size + 1, w.heap.size] (fun uq => SgAt uq (.agg #[.int .u64 S, .slice (some ⟨bq', oq', none⟩) R cap']) S R (fun _ => n) Y) v) → Hid (HeldX [gx, gm, w.heap.size + 1, w.heap.size] (fun uq => SgAt uq (.agg #[.int .u64 S, .slice Am R cm]) S R (fun _ => n) (mergeG Z Y)) v) → Hid (Blk v w.heap.size 25 #[.int .u64 S, .slice (some ⟨bq, oq, none⟩) R cap]) → Hid (Blk v (w.heap.size + 1) 25 #[.int .u64 S, .slice (some ⟨bq', oq', none⟩) R cap']) → Hid (Blk v gm 25 #[.int .u64 S, .slice Am R cm]) → Hid (Blk v gx 30 #[.int .u64 0, .slice none 0 0]) → Hid (w.heap.size ≠ w.heap.size + 1) → Hid (w.heap.size ≠ gm) → Hid (w.heap.size + 1 ≠ gm) → Hid (w.heap.size ≠ gx) → Hid (w.heap.size + 1 ≠ gx) → Hid (gm ≠ gx) → TT 4 ll aa v) := by
    intro v gx ll aa hl hA BEL105 BOX105 FA_a_105 FA_b_105 FA_m_105 KB_bx_105 KB_by_105 KB_m_105 KB_x_105 NE_bx_by NE_bx_m NE_by_m NE_bx_x NE_by_x NE_m_x
    rw [hact.out] at hA
    try simp only [Act.put, List.setIfInBounds_toArray, List.set_cons_zero, List.set_cons_succ] at hA
    subst hl hA
    refine hUT.out _ _ _ _ ?_
    refine wpAnyH_ready (rs := [3, 5]) (by kernel_rfl) (by simp) ?_
    refine AllReadyH.cons rfl (fun K0 hK0 => ?_) ?_
    · refine step_func 11 #[.agg #[.int .u64 S, .slice (some ⟨bq', oq', none⟩) R cap']] (by rfl) rfl (by simp [Act.eval]) (fun _ _ => by kernel_rfl) ?_
      refine (gref_any _ _ S R _ _ FA_b_105.out.at).mono ?_
      rintro e q2 ⟨rfl, bb⟩
      have BEL106 := h_bel BEL105 bb
      have BOX106 := h_box BOX105 bb
      have FA_a_106 := h_fact FA_a_105 bb
      have FA_b_106 := h_fact FA_b_105 bb
      have FA_m_106 := h_fact FA_m_105 bb
      have KB_bx_106 := h_blk KB_bx_105 bb
      have KB_by_106 := h_blk KB_by_105 bb
      have KB_m_106 := h_blk KB_m_105 bb
      have KB_x_106 := h_blk KB_x_105 bb
      clear BEL105 BOX105 FA_a_105 FA_b_105 FA_m_105 KB_bx_105 KB_by_105 KB_m_105 KB_x_105
      clear bb
      refine ⟨_, rfl, ?_⟩
      refine hK0.out _ _ (by exact ⟨KB_bx_106.out, KB_by_106.out⟩) (fun hHeld => ?_)
      clear hK0 K0 hHeld
      refine hTU.out _ _ _ _ ?_
      refine ND_2_x.out _ gx _ _ ?_ ?_ BEL106 BOX106 FA_a_106 FA_b_106 FA_m_106 KB_bx_106 KB_by_106 KB_m_106 KB_x_106 NE_bx_by NE_bx_m NE_by_m NE_bx_x NE_by_x NE_m_x
      · first | rfl | kernel_rfl
      · rw [hact.out]; rfl
    refine AllReadyH.cons rfl (fun K0 hK0 => ?_) ?_
    · have BEL106 := a_bel BEL105 (.cells #[.int .u64 0, .slice none 0 0] 30)
      have BOX106 := a_box BOX105 BEL105 (.cells #[.int .u64 0, .slice none 0 0] 30)
      have FA_a_106 := a_fact FA_a_105 (.cells #[.int .u64 0, .slice none 0 0] 30)
      have FA_b_106 := a_fact FA_b_105 (.cells #[.int .u64 0, .slice none 0 0] 30)
      have FA_m_106 := a_fact FA_m_105 (.cells #[.int .u64 0, .slice none 0 0] 30)
      have KB_bx_106 := a_blk KB_bx_105 (.cells #[.int .u64 0, .slice none 0 0] 30)
      have NE_bx_y := n_ne KB_bx_105
      have KB_by_106 := a_blk KB_by_105 (.cells #[.int .u64 0, .slice none 0 0] 30)
      have NE_by_y := n_ne KB_by_105
      have KB_m_106 := a_blk KB_m_105 (.cells #[.int .u64 0, .slice none 0 0] 30)
      have NE_m_y := n_ne KB_m_105
      have KB_x_106 := a_blk KB_x_105 (.cells #[.int .u64 0, .slice none 0 0] 30)
      have NE_x_y := n_ne KB_x_105
      have KB_y_106 := n_blk (u := v) 30 #[.int .u64 0, .slice none 0 0]
      clear BEL105 BOX105 FA_a_105 FA_b_105 FA_m_105 KB_bx_105 KB_by_105 KB_m_105 KB_x_105
      go_simp
      generalize (v.alloc (.cells #[.int .u64 0, .slice none 0 0] 30)) = v2 at BEL106 BOX106 FA_a_106 FA_b_106 FA_m_106 KB_bx_106 KB_by_106 KB_m_106 KB_x_106 KB_y_106 ⊢
      generalize v.heap.size = gy at BOX106 FA_a_106 FA_b_106 FA_m_106 KB_y_106 NE_bx_y NE_by_y NE_m_y NE_x_y ⊢
      refine hK0.out _ _ (by exact ⟨KB_bx_106.out, KB_by_106.out⟩) (fun hHeld => ?_)
      clear hK0 K0 hHeld
      refine hTU.out _ _ _ _ ?_
      refine ND_1_xy.out _ gx gy _ _ ?_ ?_ BEL106 BOX106 FA_a_106 FA_b_106 FA_m_106 KB_bx_106 KB_by_106 KB_m_106 KB_x_106 KB_y_106 NE_bx_by NE_bx_m NE_by_m NE_bx_x NE_bx_y NE_by_x NE_by_y NE_m_x NE_m_y NE_x_y
      · first | rfl | kernel_rfl
      · rw [hact.out]; rfl
    exact AllReadyH.nil
  have ND_1_y : Hid (∀ (v : World) (gy : Nat) (ll : Array Bool) (aa : Act), ll = #[true, true, true, false, false, true, false, false] → aa = ((act0.put (some 29) (.agg #[.int .u64 S, .slice (some ⟨bq, oq, none⟩) R cap])).put (some 8) (.pointer (some ⟨gy, 0, none⟩))) → Hid (Below w.heap.size w v) → Hid (Boxes w v [gy, gm, w.heap.size + 1, w.heap.size]) → Hid (HeldX [gy, gm, w.heap.size + 1, w.heap.size] (fun uq => SgAt uq (.agg #[.int .u64 S, .slice (some ⟨bq, oq, none⟩) R cap]) S R (fun _ => n) Z) v) → Hid (HeldX [gy, gm, w.heap.size + 1, w.heap.size] (fun uq => SgAt uq (.agg #[.int .u64 S, .slice (some ⟨bq', oq', none⟩) R cap']) S R (fun _ => n) Y) v) → Hid (HeldX [gy, gm, w.heap.size + 1, w.heap.size] (fun uq => SgAt uq (.agg #[.int .u64 S, .slice Am R cm]) S R (fun _ => n) (mergeG Z Y)) v) → Hid (Blk v w.heap.size 25 #[.int .u64 S, .slice (some ⟨bq, oq, none⟩) R cap]) → Hid (Blk v (w.heap.size + 1) 25 #[.int .u64 S, .slice (some ⟨bq', oq', none⟩) R cap']) → Hid (Blk v gm 25 #[.int .u64 S, .slice Am R cm]) → Hid (Blk v gy 30 #[.int .u64 0, .slice none 0 0]) → Hid (w.heap.size ≠ w.heap.size + 1) → Hid (w.heap.size ≠ gm) → Hid (w.heap.size + 1 ≠ gm) → Hid (w.heap.size ≠ gy) → Hid (w.heap.size + 1 ≠ gy) → Hid (gm ≠ gy) → TT 4 ll aa v) := by
    intro v gy ll aa hl hA BEL105 BOX105 FA_a_105 FA_b_105 FA_m_105 KB_bx_105 KB_by_105 KB_m_105 KB_y_105 NE_bx_by NE_bx_m NE_by_m NE_bx_y NE_by_y NE_m_y
    rw [hact.out] at hA
    try simp only [Act.put, List.setIfInBounds_toArray, List.set_cons_zero, List.set_cons_succ] at hA
    subst hl hA
    refine hUT.out _ _ _ _ ?_
    refine wpAnyH_ready (rs := [3, 4]) (by kernel_rfl) (by simp) ?_
    refine AllReadyH.cons rfl (fun K0 hK0 => ?_) ?_
    · refine step_func 11 #[.agg #[.int .u64 S, .slice (some ⟨bq', oq', none⟩) R cap']] (by rfl) rfl (by simp [Act.eval]) (fun _ _ => by kernel_rfl) ?_
      refine (gref_any _ _ S R _ _ FA_b_105.out.at).mono ?_
      rintro e q2 ⟨rfl, bb⟩
      have BEL106 := h_bel BEL105 bb
      have BOX106 := h_box BOX105 bb
      have FA_a_106 := h_fact FA_a_105 bb
      have FA_b_106 := h_fact FA_b_105 bb
      have FA_m_106 := h_fact FA_m_105 bb
      have KB_bx_106 := h_blk KB_bx_105 bb
      have KB_by_106 := h_blk KB_by_105 bb
      have KB_m_106 := h_blk KB_m_105 bb
      have KB_y_106 := h_blk KB_y_105 bb
      clear BEL105 BOX105 FA_a_105 FA_b_105 FA_m_105 KB_bx_105 KB_by_105 KB_m_105 KB_y_105
      clear bb
      refine ⟨_, rfl, ?_⟩
      refine hK0.out _ _ (by exact ⟨KB_bx_106.out, KB_by_106.out⟩) (fun hHeld => ?_)
      clear hK0 K0 hHeld
      refine hTU.out _ _ _ _ ?_
      refine ND_2_y.out _ gy _ _ ?_ ?_ BEL106 BOX106 FA_a_106 FA_b_106 FA_m_106 KB_bx_106 KB_by_106 KB_m_106 KB_y_106 NE_bx_by NE_bx_m NE_by_m NE_bx_y NE_by_y NE_m_y
      · first | rfl | kernel_rfl
      · rw [hact.out]; rfl
    refine AllReadyH.cons rfl (fun K0 hK0 => ?_) ?_
    · have BEL106 := a_bel BEL105 (.cells #[.int .u64 0, .slice none 0 0] 30)
      have BOX106 := a_box BOX105 BEL105 (.cells #[.int .u64 0, .slice none 0 0] 30)
      have FA_a_106 := a_fact FA_a_105 (.cells #[.int .u64 0, .slice none 0 0] 30)
      have FA_b_106 := a_fact FA_b_105 (.cells #[.int .u64 0, .slice none 0 0] 30)
      have FA_m_106 := a_fact FA_m_105 (.cells #[.int .u64 0, .slice none 0 0] 30)
      have KB_bx_106 := a_blk KB_bx_105 (.cells #[.int .u64 0, .slice none 0 0] 30)
      have NE_bx_x := n_ne KB_bx_105
      have KB_by_106 := a_blk KB_by_105 (.cells #[.int .u64 0, .slice none 0 0] 30)
      have NE_by_x := n_ne KB_by_105
      have KB_m_106 := a_blk KB_m_105 (.cells #[.int .u64 0, .slice none 0 0] 30)
      have NE_m_x := n_ne KB_m_105
      have KB_y_106 := a_blk KB_y_105 (.cells #[.int .u64 0, .slice none 0 0] 30)
      have NE_y_x := n_ne KB_y_105
      have KB_x_106 := n_blk (u := v) 30 #[.int .u64 0, .slice none 0 0]
      clear BEL105 BOX105 FA_a_105 FA_b_105 FA_m_105 KB_bx_105 KB_by_105 KB_m_105 KB_y_105
      go_simp
      generalize (v.alloc (.cells #[.int .u64 0, .slice none 0 0] 30)) = v2 at BEL106 BOX106 FA_a_106 FA_b_106 FA_m_106 KB_bx_106 KB_by_106 KB_m_106 KB_y_106 KB_x_106 ⊢
      generalize v.heap.size = gx at BOX106 FA_a_106 FA_b_106 FA_m_106 KB_x_106 NE_bx_x NE_by_x NE_m_x NE_y_x ⊢
      refine hK0.out _ _ (by exact ⟨KB_bx_106.out, KB_by_106.out⟩) (fun hHeld => ?_)
      clear hK0 K0 hHeld
      refine hTU.out _ _ _ _ ?_
      refine ND_1_xy.out _ gx gy _ _ ?_ ?_ BEL106 (b_perm BOX106 (by intro p m; simp only [List.mem_cons, List.not_mem_nil, or_false] at m ⊢; omega)) (h_perm FA_a_106 (by intro p m; simp only [List.mem_cons, List.not_mem_nil, or_false] at m ⊢; omega)) (h_perm FA_b_106 (by intro p m; simp only [List.mem_cons, List.not_mem_nil, or_false] at m ⊢; omega)) (h_perm FA_m_106 (by intro p m; simp only [List.mem_cons, List.not_mem_nil, or_false] at m ⊢; omega)) KB_bx_106 KB_by_106 KB_m_106 KB_x_106 KB_y_106 NE_bx_by NE_bx_m NE_by_m NE_bx_x NE_bx_y NE_by_x NE_by_y NE_m_x NE_m_y (n_sym NE_y_x)
      · first | rfl | kernel_rfl
      · rw [hact.out]; rfl
    exact AllReadyH.nil
  have ND_1_ : Hid (∀ (v : World)  (ll : Array Bool) (aa : Act), ll = #[true, true, true, false, false, false, false, false] → aa = (act0.put (some 29) (.agg #[.int .u64 S, .slice (some ⟨bq, oq, none⟩) R cap])) → Hid (Below w.heap.size w v) → Hid (Boxes w v [gm, w.heap.size + 1, w.heap.size]) → Hid (HeldX [gm, w.heap.size + 1, w.heap.size] (fun uq => SgAt uq (.agg #[.int .u64 S, .slice (some ⟨bq, oq, none⟩) R cap]) S R (fun _ => n) Z) v) → Hid (HeldX [gm, w.heap.size + 1, w.heap.size] (fun uq => SgAt uq (.agg #[.int .u64 S, .slice (some ⟨bq', oq', none⟩) R cap']) S R (fun _ => n) Y) v) → Hid (HeldX [gm, w.heap.size + 1, w.heap.size] (fun uq => SgAt uq (.agg #[.int .u64 S, .slice Am R cm]) S R (fun _ => n) (mergeG Z Y)) v) → Hid (Blk v w.heap.size 25 #[.int .u64 S, .slice (some ⟨bq, oq, none⟩) R cap]) → Hid (Blk v (w.heap.size + 1) 25 #[.int .u64 S, .slice (some ⟨bq', oq', none⟩) R cap']) → Hid (Blk v gm 25 #[.int .u64 S, .slice Am R cm]) → Hid (w.heap.size ≠ w.heap.size + 1) → Hid (w.heap.size ≠ gm) → Hid (w.heap.size + 1 ≠ gm) → TT 5 ll aa v) := by
    intro v  ll aa hl hA BEL105 BOX105 FA_a_105 FA_b_105 FA_m_105 KB_bx_105 KB_by_105 KB_m_105 NE_bx_by NE_bx_m NE_by_m
    rw [hact.out] at hA
    try simp only [Act.put, List.setIfInBounds_toArray, List.set_cons_zero, List.set_cons_succ] at hA
    subst hl hA
    refine hUT.out _ _ _ _ ?_
    refine wpAnyH_ready (rs := [3, 4, 5]) (by kernel_rfl) (by simp) ?_
    refine AllReadyH.cons rfl (fun K0 hK0 => ?_) ?_
    · refine step_func 11 #[.agg #[.int .u64 S, .slice (some ⟨bq', oq', none⟩) R cap']] (by rfl) rfl (by simp [Act.eval]) (fun _ _ => by kernel_rfl) ?_
      refine (gref_any _ _ S R _ _ FA_b_105.out.at).mono ?_
      rintro e q2 ⟨rfl, bb⟩
      have BEL106 := h_bel BEL105 bb
      have BOX106 := h_box BOX105 bb
      have FA_a_106 := h_fact FA_a_105 bb
      have FA_b_106 := h_fact FA_b_105 bb
      have FA_m_106 := h_fact FA_m_105 bb
      have KB_bx_106 := h_blk KB_bx_105 bb
      have KB_by_106 := h_blk KB_by_105 bb
      have KB_m_106 := h_blk KB_m_105 bb
      clear BEL105 BOX105 FA_a_105 FA_b_105 FA_m_105 KB_bx_105 KB_by_105 KB_m_105
      clear bb
      refine ⟨_, rfl, ?_⟩
      refine hK0.out _ _ (by exact ⟨KB_bx_106.out, KB_by_106.out⟩) (fun hHeld => ?_)
      clear hK0 K0 hHeld
      refine hTU.out _ _ _ _ ?_
      refine ND_2_.out _  _ _ ?_ ?_ BEL106 BOX106 FA_a_106 FA_b_106 FA_m_106 KB_bx_106 KB_by_106 KB_m_106 NE_bx_by NE_bx_m NE_by_m
      · first | rfl | kernel_rfl
      · rw [hact.out]; rfl
    refine AllReadyH.cons rfl (fun K0 hK0 => ?_) ?_
    · have BEL106 := a_bel BEL105 (.cells #[.int .u64 0, .slice none 0 0] 30)
      have BOX106 := a_box BOX105 BEL105 (.cells #[.int .u64 0, .slice none 0 0] 30)
      have FA_a_106 := a_fact FA_a_105 (.cells #[.int .u64 0, .slice none 0 0] 30)
      have FA_b_106 := a_fact FA_b_105 (.cells #[.int .u64 0, .slice none 0 0] 30)
      have FA_m_106 := a_fact FA_m_105 (.cells #[.int .u64 0, .slice none 0 0] 30)
      have KB_bx_106 := a_blk KB_bx_105 (.cells #[.int .u64 0, .slice none 0 0] 30)
      have NE_bx_x := n_ne KB_bx_105
      have KB_by_106 := a_blk KB_by_105 (.cells #[.int .u64 0, .slice none 0 0] 30)
      have NE_by_x := n_ne KB_by_105
      have KB_m_106 := a_blk KB_m_105 (.cells #[.int .u64 0, .slice none 0 0] 30)
      have NE_m_x := n_ne KB_m_105
      have KB_x_106 := n_blk (u := v) 30 #[.int .u64 0, .slice none 0 0]
      clear BEL105 BOX105 FA_a_105 FA_b_105 FA_m_105 KB_bx_105 KB_by_105 KB_m_105
      go_simp
      generalize (v.alloc (.cells #[.int .u64 0, .slice none 0 0] 30)) = v2 at BEL106 BOX106 FA_a_106 FA_b_106 FA_m_106 KB_bx_106 KB_by_106 KB_m_106 KB_x_106 ⊢
      generalize v.heap.size = gx at BOX106 FA_a_106 FA_b_106 FA_m_106 KB_x_106 NE_bx_x NE_by_x NE_m_x ⊢
      refine hK0.out _ _ (by exact ⟨KB_bx_106.out, KB_by_106.out⟩) (fun hHeld => ?_)
      clear hK0 K0 hHeld
      refine hTU.out _ _ _ _ ?_
      refine ND_1_x.out _ gx _ _ ?_ ?_ BEL106 BOX106 FA_a_106 FA_b_106 FA_m_106 KB_bx_106 KB_by_106 KB_m_106 KB_x_106 NE_bx_by NE_bx_m NE_by_m NE_bx_x NE_by_x NE_m_x
      · first | rfl | kernel_rfl
      · rw [hact.out]; rfl
    refine AllReadyH.cons rfl (fun K0 hK0 => ?_) ?_
    · have BEL106 := a_bel BEL105 (.cells #[.int .u64 0, .slice none 0 0] 30)
      have BOX106 := a_box BOX105 BEL105 (.cells #[.int .u64 0, .slice none 0 0] 30)
      have FA_a_106 := a_fact FA_a_105 (.cells #[.int .u64 0, .slice none 0 0] 30)
      have FA_b_106 := a_fact FA_b_105 (.cells #[.int .u64 0, .slice none 0 0] 30)
      have FA_m_106 := a_fact FA_m_105 (.cells #[.int .u64 0, .slice none 0 0] 30)
      have KB_bx_106 := a_blk KB_bx_105 (.cells #[.int .u64 0, .slice none 0 0] 30)
      have NE_bx_y := n_ne KB_bx_105
      have KB_by_106 := a_blk KB_by_105 (.cells #[.int .u64 0, .slice none 0 0] 30)
      have NE_by_y := n_ne KB_by_105
      have KB_m_106 := a_blk KB_m_105 (.cells #[.int .u64 0, .slice none 0 0] 30)
      have NE_m_y := n_ne KB_m_105
      have KB_y_106 := n_blk (u := v) 30 #[.int .u64 0, .slice none 0 0]
      clear BEL105 BOX105 FA_a_105 FA_b_105 FA_m_105 KB_bx_105 KB_by_105 KB_m_105
      go_simp
      generalize (v.alloc (.cells #[.int .u64 0, .slice none 0 0] 30)) = v2 at BEL106 BOX106 FA_a_106 FA_b_106 FA_m_106 KB_bx_106 KB_by_106 KB_m_106 KB_y_106 ⊢
      generalize v.heap.size = gy at BOX106 FA_a_106 FA_b_106 FA_m_106 KB_y_106 NE_bx_y NE_by_y NE_m_y ⊢
      refine hK0.out _ _ (by exact ⟨KB_bx_106.out, KB_by_106.out⟩) (fun hHeld => ?_)
      clear hK0 K0 hHeld
      refine hTU.out _ _ _ _ ?_
      refine ND_1_y.out _ gy _ _ ?_ ?_ BEL106 BOX106 FA_a_106 FA_b_106 FA_m_106 KB_bx_106 KB_by_106 KB_m_106 KB_y_106 NE_bx_by NE_bx_m NE_by_m NE_bx_y NE_by_y NE_m_y
      · first | rfl | kernel_rfl
      · rw [hact.out]; rfl
    exact AllReadyH.nil
  have ND_0_xy : Hid (∀ (v : World) (gx : Nat) (gy : Nat) (ll : Array Bool) (aa : Act), ll = #[true, false, true, false, true, true, false, false] → aa = ((act0.put (some 7) (.pointer (some ⟨gx, 0, none⟩))).put (some 8) (.pointer (some ⟨gy, 0, none⟩))) → Hid (Below w.heap.size w v) → Hid (Boxes w v [gy, gx, gm, w.heap.size + 1, w.heap.size]) → Hid (HeldX [gy, gx, gm, w.heap.size + 1, w.heap.size] (fun uq => SgAt uq (.agg #[.int .u64 S, .slice (some ⟨bq, oq, none⟩) R cap]) S R (fun _ => n) Z) v) → Hid (HeldX [gy, gx, gm, w.heap.size + 1, w.heap.size] (fun uq => SgAt uq (.agg #[.int .u64 S, .slice (some ⟨bq', oq', none⟩) R cap']) S R (fun _ => n) Y) v) → Hid (HeldX [gy, gx, gm, w.heap.size + 1, w.heap.size] (fun uq => SgAt uq (.agg #[.int .u64 S, .slice Am R cm]) S R (fun _ => n) (mergeG Z Y)) v) → Hid (Blk v w.heap.size 25 #[.int .u64 S, .slice (some ⟨bq, oq, none⟩) R cap]) → Hid (Blk v (w.heap.size + 1) 25 #[.int .u64 S, .slice (some ⟨bq', oq', none⟩) R cap']) → Hid (Blk v gm 25 #[.int .u64 S, .slice Am R cm]) → Hid (Blk v gx 30 #[.int .u64 0, .slice none 0 0]) → Hid (Blk v gy 30 #[.int .u64 0, .slice none 0 0]) → Hid (w.heap.size ≠ w.heap.size + 1) → Hid (w.heap.size ≠ gm) → Hid (w.heap.size + 1 ≠ gm) → Hid (w.heap.size ≠ gx) → Hid (w.heap.size ≠ gy) → Hid (w.heap.size + 1 ≠ gx) → Hid (w.heap.size + 1 ≠ gy) → Hid (gm ≠ gx) → Hid (gm ≠ gy) → Hid (gx ≠ gy) → TT 4 ll aa v) := by
    intro v gx gy ll aa hl hA BEL105 BOX105 FA_a_105 FA_b_105 FA_m_105 KB_bx_105 KB_by_105 KB_m_105 KB_x_105 KB_y_105 NE_bx_by NE_bx_m NE_by_m NE_bx_x NE_bx_y NE_by_x NE_by_y NE_m_x NE_m_y NE_x_y
    rw [hact.out] at hA
    try simp only [Act.put, List.setIfInBounds_toArray, List.set_cons_zero, List.set_cons_succ] at hA
    subst hl hA
    refine hUT.out _ _ _ _ ?_
    refine wpAnyH_ready (rs := [1]) (by kernel_rfl) (by simp) ?_
    refine AllReadyH.cons rfl (fun K0 hK0 => ?_) ?_
    · refine step_func 11 #[.agg #[.int .u64 S, .slice (some ⟨bq, oq, none⟩) R cap]] (by rfl) rfl (by simp [Act.eval]) (fun _ _ => by kernel_rfl) ?_
      refine (gref_any _ _ S R _ _ FA_a_105.out.at).mono ?_
      rintro e q1 ⟨rfl, bb⟩
      have BEL106 := h_bel BEL105 bb
      have BOX106 := h_box BOX105 bb
      have FA_a_106 := h_fact FA_a_105 bb
      have FA_b_106 := h_fact FA_b_105 bb
      have FA_m_106 := h_fact FA_m_105 bb
      have KB_bx_106 := h_blk KB_bx_105 bb
      have KB_by_106 := h_blk KB_by_105 bb
      have KB_m_106 := h_blk KB_m_105 bb
      have KB_x_106 := h_blk KB_x_105 bb
      have KB_y_106 := h_blk KB_y_105 bb
      clear BEL105 BOX105 FA_a_105 FA_b_105 FA_m_105 KB_bx_105 KB_by_105 KB_m_105 KB_x_105 KB_y_105
      clear bb
      refine ⟨_, rfl, ?_⟩
      refine hK0.out _ _ (by exact ⟨KB_bx_106.out, KB_by_106.out⟩) (fun hHeld => ?_)
      clear hK0 K0 hHeld
      refine hTU.out _ _ _ _ ?_
      refine ND_1_xy.out _ gx gy _ _ ?_ ?_ BEL106 BOX106 FA_a_106 FA_b_106 FA_m_106 KB_bx_106 KB_by_106 KB_m_106 KB_x_106 KB_y_106 NE_bx_by NE_bx_m NE_by_m NE_bx_x NE_bx_y NE_by_x NE_by_y NE_m_x NE_m_y NE_x_y
      · first | rfl | kernel_rfl
      · rw [hact.out]; rfl
    exact AllReadyH.nil
  have ND_0_x : Hid (∀ (v : World) (gx : Nat) (ll : Array Bool) (aa : Act), ll = #[true, false, true, false, true, false, false, false] → aa = (act0.put (some 7) (.pointer (some ⟨gx, 0, none⟩))) → Hid (Below w.heap.size w v) → Hid (Boxes w v [gx, gm, w.heap.size + 1, w.heap.size]) → Hid (HeldX [gx, gm, w.heap.size + 1, w.heap.size] (fun uq => SgAt uq (.agg #[.int .u64 S, .slice (some ⟨bq, oq, none⟩) R cap]) S R (fun _ => n) Z) v) → Hid (HeldX [gx, gm, w.heap.size + 1, w.heap.size] (fun uq => SgAt uq (.agg #[.int .u64 S, .slice (some ⟨bq', oq', none⟩) R cap']) S R (fun _ => n) Y) v) → Hid (HeldX [gx, gm, w.heap.size + 1, w.heap.size] (fun uq => SgAt uq (.agg #[.int .u64 S, .slice Am R cm]) S R (fun _ => n) (mergeG Z Y)) v) → Hid (Blk v w.heap.size 25 #[.int .u64 S, .slice (some ⟨bq, oq, none⟩) R cap]) → Hid (Blk v (w.heap.size + 1) 25 #[.int .u64 S, .slice (some ⟨bq', oq', none⟩) R cap']) → Hid (Blk v gm 25 #[.int .u64 S, .slice Am R cm]) → Hid (Blk v gx 30 #[.int .u64 0, .slice none 0 0]) → Hid (w.heap.size ≠ w.heap.size + 1) → Hid (w.heap.size ≠ gm) → Hid (w.heap.size + 1 ≠ gm) → Hid (w.heap.size ≠ gx) → Hid (w.heap.size + 1 ≠ gx) → Hid (gm ≠ gx) → TT 5 ll aa v) := by
    intro v gx ll aa hl hA BEL105 BOX105 FA_a_105 FA_b_105 FA_m_105 KB_bx_105 KB_by_105 KB_m_105 KB_x_105 NE_bx_by NE_bx_m NE_by_m NE_bx_x NE_by_x NE_m_x
    rw [hact.out] at hA
    try simp only [Act.put, List.setIfInBounds_toArray, List.set_cons_zero, List.set_cons_succ] at hA
    subst hl hA
    refine hUT.out _ _ _ _ ?_
    refine wpAnyH_ready (rs := [1, 5]) (by kernel_rfl) (by simp) ?_
    refine AllReadyH.cons rfl (fun K0 hK0 => ?_) ?_
    · refine step_func 11 #[.agg #[.int .u64 S, .slice (some ⟨bq, oq, none⟩) R cap]] (by rfl) rfl (by simp [Act.eval]) (fun _ _ => by kernel_rfl) ?_
      refine (gref_any _ _ S R _ _ FA_a_105.out.at).mono ?_
      rintro e q1 ⟨rfl, bb⟩
      have BEL106 := h_bel BEL105 bb
      have BOX106 := h_box BOX105 bb
      have FA_a_106 := h_fact FA_a_105 bb
      have FA_b_106 := h_fact FA_b_105 bb
      have FA_m_106 := h_fact FA_m_105 bb
      have KB_bx_106 := h_blk KB_bx_105 bb
      have KB_by_106 := h_blk KB_by_105 bb
      have KB_m_106 := h_blk KB_m_105 bb
      have KB_x_106 := h_blk KB_x_105 bb
      clear BEL105 BOX105 FA_a_105 FA_b_105 FA_m_105 KB_bx_105 KB_by_105 KB_m_105 KB_x_105
      clear bb
      refine ⟨_, rfl, ?_⟩
      refine hK0.out _ _ (by exact ⟨KB_bx_106.out, KB_by_106.out⟩) (fun hHeld => ?_)
      clear hK0 K0 hHeld
      refine hTU.out _ _ _ _ ?_
      refine ND_1_x.out _ gx _ _ ?_ ?_ BEL106 BOX106 FA_a_106 FA_b_106 FA_m_106 KB_bx_106 KB_by_106 KB_m_106 KB_x_106 NE_bx_by NE_bx_m NE_by_m NE_bx_x NE_by_x NE_m_x
      · first | rfl | kernel_rfl
      · rw [hact.out]; rfl
    refine AllReadyH.cons rfl (fun K0 hK0 => ?_) ?_
    · have BEL106 := a_bel BEL105 (.cells #[.int .u64 0, .slice none 0 0] 30)
      have BOX106 := a_box BOX105 BEL105 (.cells #[.int .u64 0, .slice none 0 0] 30)
      have FA_a_106 := a_fact FA_a_105 (.cells #[.int .u64 0, .slice none 0 0] 30)
      have FA_b_106 := a_fact FA_b_105 (.cells #[.int .u64 0, .slice none 0 0] 30)
      have FA_m_106 := a_fact FA_m_105 (.cells #[.int .u64 0, .slice none 0 0] 30)
      have KB_bx_106 := a_blk KB_bx_105 (.cells #[.int .u64 0, .slice none 0 0] 30)
      have NE_bx_y := n_ne KB_bx_105
      have KB_by_106 := a_blk KB_by_105 (.cells #[.int .u64 0, .slice none 0 0] 30)
      have NE_by_y := n_ne KB_by_105
      have KB_m_106 := a_blk KB_m_105 (.cells #[.int .u64 0, .slice none 0 0] 30)
      have NE_m_y := n_ne KB_m_105
      have KB_x_106 := a_blk KB_x_105 (.cells #[.int .u64 0, .slice none 0 0] 30)
      have NE_x_y := n_ne KB_x_105
      have KB_y_106 := n_blk (u := v) 30 #[.int .u64 0, .slice none 0 0]
      clear BEL105 BOX105 FA_a_105 FA_b_105 FA_m_105 KB_bx_105 KB_by_105 KB_m_105 KB_x_105
      go_simp
      generalize (v.alloc (.cells #[.int .u64 0, .slice none 0 0] 30)) = v2 at BEL106 BOX106 FA_a_106 FA_b_106 FA_m_106 KB_bx_106 KB_by_106 KB_m_106 KB_x_106 KB_y_106 ⊢
      generalize v.heap.size = gy at BOX106 FA_a_106 FA_b_106 FA_m_106 KB_y_106 NE_bx_y NE_by_y NE_m_y NE_x_y ⊢
      refine hK0.out _ _ (by exact ⟨KB_bx_106.out, KB_by_106.out⟩) (fun hHeld => ?_)
      clear hK0 K0 hHeld
      refine hTU.out _ _ _ _ ?_
      refine ND_0_xy.out _ gx gy _ _ ?_ ?_ BEL106 BOX106 FA_a_106 FA_b_106 FA_m_106 KB_bx_106 KB_by_106 KB_m_106 KB_x_106 KB_y_106 NE_bx_by NE_bx_m NE_by_m NE_bx_x NE_bx_y NE_by_x NE_by_y NE_m_x NE_m_y NE_x_y
      · first | rfl | kernel_rfl
      · rw [hact.out]; rfl
    exact AllReadyH.nil
  have ND_0_y : Hid (∀ (v : World) (gy : Nat) (ll : Array Bool) (aa : Act), ll = #[true, false, true, false, false, true, false, false] → aa = (act0.put (some 8) (.pointer (some ⟨gy, 0, none⟩))) → Hid (Below w.heap.size w v) → Hid (Boxes w v [gy, gm, w.heap.size + 1, w.heap.size]) → Hid (HeldX [gy, gm, w.heap.size + 1, w.heap.size] (fun uq => SgAt uq (.agg #[.int .u64 S, .slice (some ⟨bq, oq, none⟩) R cap]) S R (fun _ => n) Z) v) → Hid (HeldX [gy, gm, w.heap.size + 1, w.heap.size] (fun uq => SgAt uq (.agg #[.int .u64 S, .slice (some ⟨bq', oq', none⟩) R cap']) S R (fun _ => n) Y) v) → Hid (HeldX [gy, gm, w.heap.size + 1, w.heap.size] (fun uq => SgAt uq (.agg #[.int .u64 S, .slice Am R cm]) S R (fun _ => n) (mergeG Z Y)) v) → Hid (Blk v w.heap.size 25 #[.int .u64 S, .slice (some ⟨bq, oq, none⟩) R cap]) → Hid (Blk v (w.heap.size + 1) 25 #[.int .u64 S, .slice (some ⟨bq', oq', none⟩) R cap']) → Hid (Blk v gm 25 #[.int .u64 S, .slice Am R cm]) → Hid (Blk v gy 30 #[.int .u64 0, .slice none 0 0]) → Hid (w.heap.size ≠ w.heap.size + 1) → Hid (w.heap.size ≠ gm) → Hid (w.heap.size + 1 ≠ gm) → Hid (w.heap.size ≠ gy) → Hid (w.heap.size + 1 ≠ gy) → Hid (gm ≠ gy) → TT 5 ll aa v) := by
    intro v gy ll aa hl hA BEL105 BOX105 FA_a_105 FA_b_105 FA_m_105 KB_bx_105 KB_by_105 KB_m_105 KB_y_105 NE_bx_by NE_bx_m NE_by_m NE_bx_y NE_by_y NE_m_y
    rw [hact.out] at hA
    try simp only [Act.put, List.setIfInBounds_toArray, List.set_cons_zero, List.set_cons_succ] at hA
    subst hl hA
    refine hUT.out _ _ _ _ ?_
    refine wpAnyH_ready (rs := [1, 4]) (by kernel_rfl) (by simp) ?_
    refine AllReadyH.cons rfl (fun K0 hK0 => ?_) ?_
    · refine step_func 11 #[.agg #[.int .u64 S, .slice (some ⟨bq, oq, none⟩) R cap]] (by rfl) rfl (by simp [Act.eval]) (fun _ _ => by kernel_rfl) ?_
      refine (gref_any _ _ S R _ _ FA_a_105.out.at).mono ?_
      rintro e q1 ⟨rfl, bb⟩
      have BEL106 := h_bel BEL105 bb
      have BOX106 := h_box BOX105 bb
      have FA_a_106 := h_fact FA_a_105 bb
      have FA_b_106 := h_fact FA_b_105 bb
      have FA_m_106 := h_fact FA_m_105 bb
      have KB_bx_106 := h_blk KB_bx_105 bb
      have KB_by_106 := h_blk KB_by_105 bb
      have KB_m_106 := h_blk KB_m_105 bb
      have KB_y_106 := h_blk KB_y_105 bb
      clear BEL105 BOX105 FA_a_105 FA_b_105 FA_m_105 KB_bx_105 KB_by_105 KB_m_105 KB_y_105
      clear bb
      refine ⟨_, rfl, ?_⟩
      refine hK0.out _ _ (by exact ⟨KB_bx_106.out, KB_by_106.out⟩) (fun hHeld => ?_)
      clear hK0 K0 hHeld
      refine hTU.out _ _ _ _ ?_
      refine ND_1_y.out _ gy _ _ ?_ ?_ BEL106 BOX106 FA_a_106 FA_b_106 FA_m_106 KB_bx_106 KB_by_106 KB_m_106 KB_y_106 NE_bx_by NE_bx_m NE_by_m NE_bx_y NE_by_y NE_m_y
      · first | rfl | kernel_rfl
      · rw [hact.out]; rfl
    refine AllReadyH.cons rfl (fun K0 hK0 => ?_) ?_
    · have BEL106 := a_bel BEL105 (.cells #[.int .u64 0, .slice none 0 0] 30)
      have BOX106 := a_box BOX105 BEL105 (.cells #[.int .u64 0, .slice none 0 0] 30)
      have FA_a_106 := a_fact FA_a_105 (.cells #[.int .u64 0, .slice none 0 0] 30)
      have FA_b_106 := a_fact FA_b_105 (.cells #[.int .u64 0, .slice none 0 0] 30)
      have FA_m_106 := a_fact FA_m_105 (.cells #[.int .u64 0, .slice none 0 0] 30)
      have KB_bx_106 := a_blk KB_bx_105 (.cells #[.int .u64 0, .slice none 0 0] 30)
      have NE_bx_x := n_ne KB_bx_105
      have KB_by_106 := a_blk KB_by_105 (.cells #[.int .u64 0, .slice none 0 0] 30)
      have NE_by_x := n_ne KB_by_105
      have KB_m_106 := a_blk KB_m_105 (.cells #[.int .u64 0, .slice none 0 0] 30)
      have NE_m_x := n_ne KB_m_105
      have KB_y_106 := a_blk KB_y_105 (.cells #[.int .u64 0, .slice none 0 0] 30)
      have NE_y_x := n_ne KB_y_105
      have KB_x_106 := n_blk (u := v) 30 #[.int .u64 0, .slice none 0 0]
      clear BEL105 BOX105 FA_a_105 FA_b_105 FA_m_105 KB_bx_105 KB_by_105 KB_m_105 KB_y_105
      go_simp
      generalize (v.alloc (.cells #[.int .u64 0, .slice none 0 0] 30)) = v2 at BEL106 BOX106 FA_a_106 FA_b_106 FA_m_106 KB_bx_106 KB_by_106 KB_m_106 KB_y_106 KB_x_106 ⊢
      generalize v.heap.size = gx at BOX106 FA_a_106 FA_b_106 FA_m_106 KB_x_106 NE_bx_x NE_by_x NE_m_x NE_y_x ⊢
      refine hK0.out _ _ (by exact ⟨KB_bx_106.out, KB_by_106.out⟩) (fun hHeld => ?_)
      clear hK0 K0 hHeld
      refine hTU.out _ _ _ _ ?_
      refine ND_0_xy.out _ gx gy _ _ ?_ ?_ BEL106 (b_perm BOX106 (by intro p m; simp only [List.mem_cons, List.not_mem_nil, or_false] at m ⊢; omega)) (h_perm FA_a_106 (by intro p m; simp only [List.mem_cons, List.not_mem_nil, or_false] at m ⊢; omega)) (h_perm FA_b_106 (by intro p m; simp only [List.mem_cons, List.not_mem_nil, or_false] at m ⊢; omega)) (h_perm FA_m_106 (by intro p m; simp only [List.mem_cons, List.not_mem_nil, or_false] at m ⊢; omega)) KB_bx_106 KB_by_106 KB_m_106 KB_x_106 KB_y_106 NE_bx_by NE_bx_m NE_by_m NE_bx_x NE_bx_y NE_by_x NE_by_y NE_m_x NE_m_y (n_sym NE_y_x)
      · first | rfl | kernel_rfl
      · rw [hact.out]; rfl
    exact AllReadyH.nil
  have ND_0_ : Hid (∀ (v : World)  (ll : Array Bool) (aa : Act), ll = #[true, false, true, false, false, false, false, false] → aa = act0 → Hid (Below w.heap.size w v) → Hid (Boxes w v [gm, w.heap.size + 1, w.heap.size]) → Hid (HeldX [gm, w.heap.size + 1, w.heap.size] (fun uq => SgAt uq (.agg #[.int .u64 S, .slice (some ⟨bq, oq, none⟩) R cap]) S R (fun _ => n) Z) v) → Hid (HeldX [gm, w.heap.size + 1, w.heap.size] (fun uq => SgAt uq (.agg #[.int .u64 S, .slice (some ⟨bq', oq', none⟩) R cap']) S R (fun _ => n) Y) v) → Hid (HeldX [gm, w.heap.size + 1, w.heap.size] (fun uq => SgAt uq (.agg #[.int .u64 S, .slice Am R cm]) S R (fun _ => n) (mergeG Z Y)) v) → Hid (Blk v w.heap.size 25 #[.int .u64 S, .slice (some ⟨bq, oq, none⟩) R cap]) → Hid (Blk v (w.heap.size + 1) 25 #[.int .u64 S, .slice (some ⟨bq', oq', none⟩) R cap']) → Hid (Blk v gm 25 #[.int .u64 S, .slice Am R cm]) → Hid (w.heap.size ≠ w.heap.size + 1) → Hid (w.heap.size ≠ gm) → Hid (w.heap.size + 1 ≠ gm) → TT 6 ll aa v) := by
    intro v  ll aa hl hA BEL105 BOX105 FA_a_105 FA_b_105 FA_m_105 KB_bx_105 KB_by_105 KB_m_105 NE_bx_by NE_bx_m NE_by_m
    rw [hact.out] at hA
    try simp only [Act.put, List.setIfInBounds_toArray, List.set_cons_zero, List.set_cons_succ] at hA
    subst hl hA
    refine hUT.out _ _ _ _ ?_
    refine wpAnyH_ready (rs := [1, 4, 5]) (by kernel_rfl) (by simp) ?_
    refine AllReadyH.cons rfl (fun K0 hK0 => ?_) ?_
    · refine step_func 11 #[.agg #[.int .u64 S, .slice (some ⟨bq, oq, none⟩) R cap]] (by rfl) rfl (by simp [Act.eval]) (fun _ _ => by kernel_rfl) ?_
      refine (gref_any _ _ S R _ _ FA_a_105.out.at).mono ?_
      rintro e q1 ⟨rfl, bb⟩
      have BEL106 := h_bel BEL105 bb
      have BOX106 := h_box BOX105 bb
      have FA_a_106 := h_fact FA_a_105 bb
      have FA_b_106 := h_fact FA_b_105 bb
      have FA_m_106 := h_fact FA_m_105 bb
      have KB_bx_106 := h_blk KB_bx_105 bb
      have KB_by_106 := h_blk KB_by_105 bb
      have KB_m_106 := h_blk KB_m_105 bb
      clear BEL105 BOX105 FA_a_105 FA_b_105 FA_m_105 KB_bx_105 KB_by_105 KB_m_105
      clear bb
      refine ⟨_, rfl, ?_⟩
      refine hK0.out _ _ (by exact ⟨KB_bx_106.out, KB_by_106.out⟩) (fun hHeld => ?_)
      clear hK0 K0 hHeld
      refine hTU.out _ _ _ _ ?_
      refine ND_1_.out _  _ _ ?_ ?_ BEL106 BOX106 FA_a_106 FA_b_106 FA_m_106 KB_bx_106 KB_by_106 KB_m_106 NE_bx_by NE_bx_m NE_by_m
      · first | rfl | kernel_rfl
      · rw [hact.out]; rfl
    refine AllReadyH.cons rfl (fun K0 hK0 => ?_) ?_
    · have BEL106 := a_bel BEL105 (.cells #[.int .u64 0, .slice none 0 0] 30)
      have BOX106 := a_box BOX105 BEL105 (.cells #[.int .u64 0, .slice none 0 0] 30)
      have FA_a_106 := a_fact FA_a_105 (.cells #[.int .u64 0, .slice none 0 0] 30)
      have FA_b_106 := a_fact FA_b_105 (.cells #[.int .u64 0, .slice none 0 0] 30)
      have FA_m_106 := a_fact FA_m_105 (.cells #[.int .u64 0, .slice none 0 0] 30)
      have KB_bx_106 := a_blk KB_bx_105 (.cells #[.int .u64 0, .slice none 0 0] 30)
      have NE_bx_x := n_ne KB_bx_105
      have KB_by_106 := a_blk KB_by_105 (.cells #[.int .u64 0, .slice none 0 0] 30)
      have NE_by_x := n_ne KB_by_105
      have KB_m_106 := a_blk KB_m_105 (.cells #[.int .u64 0, .slice none 0 0] 30)
      have NE_m_x := n_ne KB_m_105
      have KB_x_106 := n_blk (u := v) 30 #[.int .u64 0, .slice none 0 0]
      clear BEL105 BOX105 FA_a_105 FA_b_105 FA_m_105 KB_bx_105 KB_by_105 KB_m_105
      go_simp
      generalize (v.alloc (.cells #[.int .u64 0, .slice none 0 0] 30)) = v2 at BEL106 BOX106 FA_a_106 FA_b_106 FA_m_106 KB_bx_106 KB_by_106 KB_m_106 KB_x_106 ⊢
      generalize v.heap.size = gx at BOX106 FA_a_106 FA_b_106 FA_m_106 KB_x_106 NE_bx_x NE_by_x NE_m_x ⊢
      refine hK0.out _ _ (by exact ⟨KB_bx_106.out, KB_by_106.out⟩) (fun hHeld => ?_)
      clear hK0 K0 hHeld
      refine hTU.out _ _ _ _ ?_
      refine ND_0_x.out _ gx _ _ ?_ ?_ BEL106 BOX106 FA_a_106 FA_b_106 FA_m_106 KB_bx_106 KB_by_106 KB_m_106 KB_x_106 NE_bx_by NE_bx_m NE_by_m NE_bx_x NE_by_x NE_m_x
      · first | rfl | kernel_rfl
      · rw [hact.out]; rfl
    refine AllReadyH.cons rfl (fun K0 hK0 => ?_) ?_
    · have BEL106 := a_bel BEL105 (.cells #[.int .u64 0, .slice none 0 0] 30)
      have BOX106 := a_box BOX105 BEL105 (.cells #[.int .u64 0, .slice none 0 0] 30)
      have FA_a_106 := a_fact FA_a_105 (.cells #[.int .u64 0, .slice none 0 0] 30)
      have FA_b_106 := a_fact FA_b_105 (.cells #[.int .u64 0, .slice none 0 0] 30)
      have FA_m_106 := a_fact FA_m_105 (.cells #[.int .u64 0, .slice none 0 0] 30)
      have KB_bx_106 := a_blk KB_bx_105 (.cells #[.int .u64 0, .slice none 0 0] 30)
      have NE_bx_y := n_ne KB_bx_105
      have KB_by_106 := a_blk KB_by_105 (.cells #[.int .u64 0, .slice none 0 0] 30)
      have NE_by_y := n_ne KB_by_105
      have KB_m_106 := a_blk KB_m_105 (.cells #[.int .u64 0, .slice none 0 0] 30)
      have NE_m_y := n_ne KB_m_105
      have KB_y_106 := n_blk (u := v) 30 #[.int .u64 0, .slice none 0 0]
      clear BEL105 BOX105 FA_a_105 FA_b_105 FA_m_105 KB_bx_105 KB_by_105 KB_m_105
      go_simp
      generalize (v.alloc (.cells #[.int .u64 0, .slice none 0 0] 30)) = v2 at BEL106 BOX106 FA_a_106 FA_b_106 FA_m_106 KB_bx_106 KB_by_106 KB_m_106 KB_y_106 ⊢
      generalize v.heap.size = gy at BOX106 FA_a_106 FA_b_106 FA_m_106 KB_y_106 NE_bx_y NE_by_y NE_m_y ⊢
      refine hK0.out _ _ (by exact ⟨KB_bx_106.out, KB_by_106.out⟩) (fun hHeld => ?_)
      clear hK0 K0 hHeld
      refine hTU.out _ _ _ _ ?_
      refine ND_0_y.out _ gy _ _ ?_ ?_ BEL106 BOX106 FA_a_106 FA_b_106 FA_m_106 KB_bx_106 KB_by_106 KB_m_106 KB_y_106 NE_bx_by NE_bx_m NE_by_m NE_bx_y NE_by_y NE_m_y
      · first | rfl | kernel_rfl
      · rw [hact.out]; rfl
    exact AllReadyH.nil
  refine ND_0_.out _  _ _ ?_ ?_ BEL5 BOX5 FA_a_5 FA_b_5 FA_m_5 KB_bx_5 KB_by_5 KB_m_5 NE_bx_by NE_bx_m NE_by_m
  · first | rfl | kernel_rfl
  · rfl

/-! ### The row -/
theorem laidOut : laidOutB Try.prog = true := by kernel_rfl
set_option maxRecDepth 100000 in
theorem lifted (os : Os) (started : os.Started) (H : Type) (enc : TypeId × Value → H) :
    ReturnsInHanded {} Try.checked os 5 .any (Rows.signedMergesSpec.pre6 enc Try.prog Try.f5 Rows.signedMergesRow.domain false) (Rows.signedMergesSpec.post enc Try.prog Try.f5 false true false false) := by
  refine returnsInHanded_of_change (C := Try.checked) own started (by kernel_rfl) Try.func5
    (ChangeSpec.witness6 (enc := enc) (C := Try.checked) false ⟨#[], #[.agg #[.int .u64 0, .slice none 0 0], .agg #[.int .u64 0, .slice none 0 0]], []⟩ 8 (by kernel_rfl) (by kernel_rfl) (by kernel_rfl) (by kernel_rfl)) ?_
  intro W base args ds gs before hval0 hW hcnd _
  have hval : ∀ (j : Nat) t v, Try.f5.params[j]? = some t → args[j]? = some v → Value.okWide Try.prog W .any base t v := hval0
  have hW' := hW
  obtain ⟨p, q, hA0, hV, rfl, hfz, hnd⟩ := hW
  have hA : DataW.TrodAll enc Try.prog W 0 (fun _ => true) true Try.f5.params.toList args.toList ds p := hA0
  rw [Try.params5] at hA hval
  obtain ⟨v0, vs0, d0, ds0, p0, q0, hargs, rfl, rfl, h0, r0⟩ := trodAll_cons hA
  obtain ⟨v1, vs1, d1, ds1, p1, q1, rfl, rfl, rfl, h1, r1⟩ := trodAll_cons r0
  obtain ⟨rfl, rfl, rfl⟩ := trodAll_nil r1
  obtain rfl : args = #[v0, v1] := by cases args; simp_all
  obtain ⟨rfl, rfl⟩ := trodVars_none hV
  have k0 := h0
  have lt0 : ∀ x ∈ p0, x.block < W.heap.size := by obtain ⟨m, hm⟩ := k0; exact DataW.trod_lt m _ _ _ hm
  obtain ⟨F0, w0⟩ := open_sg (hval 0 25 v0 rfl rfl) h0
  have k1 := h1
  have lt1 : ∀ x ∈ p1, x.block < W.heap.size := by obtain ⟨m, hm⟩ := k1; exact DataW.trod_lt m _ _ _ hm
  obtain ⟨F1, w1⟩ := open_sg (hval 1 25 v1 rfl rfl) h1
  clear hA0 hval0
  refine (walk v0 F0 v1 F1 W w0 w1).mono fun e W' ⟨he, bel⟩ => ?_
  subst he
  exact ⟨_, rfl, _, _, _, [], _, [], hW', trodAll_mk1 (shut_bool Try.underlying4 _), (trodAll_cons_mk (Below.trod laidOut (by kernel_rfl) (of_decide_eq_true (by kernel_rfl)) k0 bel lt0) (trodAll_cons_mk (Below.trod laidOut (by kernel_rfl) (of_decide_eq_true (by kernel_rfl)) k1 bel lt1) trodAll_mk0)), rfl, bel.frame _, fun h => by cases h⟩

theorem over : Rows.signedMergesRow.holds Try.pinned (OpenSpec.ofChange Rows.signedMergesSpec) :=
  OpenClaim.holds_of_wide 5 Try.f5 rfl rfl rfl rfl rfl rfl rfl ⟨rfl, rfl, rfl, rfl, rfl⟩ rfl rfl rfl rfl rfl (by kernel_rfl) Try.func5 (by kernel_rfl)
    (of_decide_eq_true (by kernel_rfl)) (by unfold Func.isWrapper; first | (rw [if_pos (by decide +kernel)]; kernel_rfl) | (rw [if_neg (by decide +kernel)]; exact ⟨rfl, rfl⟩))
    (fun os started H enc _ => lifted os started H enc)

theorem proved : Rows.SignedMergesSaid := over
end Go.Proofs.Ytpjpgcjlbfgkdaa.signedMerges
namespace Go.Proofs.Ytpjpgcjlbfgkdaa
theorem signedMerges_holds : Rows.SignedMergesSaid := signedMerges.proved
#print axioms signedMerges_holds
end Go.Proofs.Ytpjpgcjlbfgkdaa
