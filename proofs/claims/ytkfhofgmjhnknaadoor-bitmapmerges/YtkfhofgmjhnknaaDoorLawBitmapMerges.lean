
/-
  BitmapMerges: any two maps are merged as the document says, or refused. The table math/bits.deBruijn64tab is as the text of the library lays it (the card ties it).
-/
import Derived.Test.YtkfhofgmjhnknaaDoorRows
import Derived.Test.YtkfhofgmjhnknaaDoorCards
import Derived.Test.YtkfhofgmjhnknaaDoorTie
import Derived.Test.YtkfhofgmjhnknaaDoorTab
import Derived.Test.YtkfhofgmjhnknaaDoorBtmAwake
import Derived.Test.YtkfhofgmjhnknaaDoorBtmRef
import Derived.Test.YtkfhofgmjhnknaaDoorBtmMerge
import Derived.Test.YtkfhofgmjhnknaaDoorRegKit
import Derived.WalkKit
import Derived.ProofKit
import Derived.OpenShut
import Derived.ShutString
import Derived.ChangeOld
import Derived.ChangeMaps5
import Derived.Below
import Derived.Carry
import Derived.Laws.StructEq
import Derived.BigQuiet
import Derived.Deep.Cut
import Derived.Deep.CutRange
import Derived.Deep.RegionHeld
import Derived.LaidMore
import Derived.Stop.Joined
import Derived.SevenTiedAt
namespace Go.Proofs.YtkfhofgmjhnknaaDoor.bitmapMerges
open Fm Bl Bm L2 Go.Deep
open Go.ChangeShapes Go.WideShapes Go.ChangeAt Go.RowKit Go.ChangeMaps
set_option linter.unusedVariables false

theorem own : ownKnob Tryd.prog.godebug = none := by kernel_rfl

set_option maxRecDepth 8000 in
set_option maxHeartbeats 40000000 in
theorem walk (v0 : Value) (F0 : Mpt) (v1 : Value) (F1 : Mpt) (w : World) (h0 : MpIn w v0 F0) (h1 : MpIn w v1 F1) (hT0 : TabAt 0 Lib.deBruijn64tab w) :
    Calls Tryd.prog 5 #[v0, v1] w fun e w' => e = .returned (.bool true) ∧ Below w.heap.size w w' := by
  have HT : Hid (TabAt 0 Lib.deBruijn64tab w) := hT0
  clear hT0
  obtain ⟨S, R, L, Z⟩ := F0
  obtain ⟨hF, uS, hRm⟩ := h0
  obtain ⟨S', R', L', Y⟩ := F1
  obtain ⟨hG, uS', hRm'⟩ := h1
  simp only at hF uS hRm hG uS' hRm'
  obtain ⟨v, rfl, hv⟩ := id hF
  obtain ⟨A, cap, bq, oq, rfl, hcap, q4⟩ := hv.read
  obtain ⟨v', rfl, hv'⟩ := id hG
  obtain ⟨A', cap', bq', oq', rfl, hcap', q4'⟩ := hv'.read
  have HF : Hid (MpAt w (.agg #[.int .u64 S, .slice A R cap]) S R L Z) := hF
  have HG : Hid (MpAt w (.agg #[.int .u64 S', .slice A' R' cap']) S' R' L' Y) := hG
  have RA : Hid (RowsCells w A R bq oq L Z) := q4
  have RB : Hid (RowsCells w A' R' bq' oq' L' Y) := q4'
  clear hv hv' hcap hcap' q4 q4' hF hG
  have BEL0 : Hid (Below w.heap.size w w) := Below.refl _ _
  have BOX0 : Hid (Boxes w w []) := boxes_none w w
  have FA_a_0 : Hid (HeldX [] (fun uq => MpAt uq (.agg #[.int .u64 S, .slice A R cap]) S R L Z) w) := heldX_keep fun u k => HF.out.keep k
  have FA_b_0 : Hid (HeldX [] (fun uq => MpAt uq (.agg #[.int .u64 S', .slice A' R' cap']) S' R' L' Y) w) := heldX_keep fun u k => HG.out.keep k
  go_enter Tryd.func5, Tryd.ntmps5
  have BEL1 := a_bel BEL0 (.cells #[.int .u64 S, .slice A R cap] 25)
  have BOX1 := a_box BOX0 BEL0 (.cells #[.int .u64 S, .slice A R cap] 25)
  have FA_a_1 := a_fact FA_a_0 (.cells #[.int .u64 S, .slice A R cap] 25)
  have FA_b_1 := a_fact FA_b_0 (.cells #[.int .u64 S, .slice A R cap] 25)
  have KB_bx_1 := n_blk (u := w) 25 #[.int .u64 S, .slice A R cap]
  clear BEL0 BOX0 FA_a_0 FA_b_0
  have BEL2 := a_bel BEL1 (.cells #[.int .u64 S', .slice A' R' cap'] 25)
  have BOX2 := a_box BOX1 BEL1 (.cells #[.int .u64 S', .slice A' R' cap'] 25)
  have FA_a_2 := a_fact FA_a_1 (.cells #[.int .u64 S', .slice A' R' cap'] 25)
  have FA_b_2 := a_fact FA_b_1 (.cells #[.int .u64 S', .slice A' R' cap'] 25)
  have KB_bx_2 := a_blk KB_bx_1 (.cells #[.int .u64 S', .slice A' R' cap'] 25)
  have NE_bx_by := n_ne KB_bx_1
  have KB_by_2 := n_blk (u := (w.alloc (.cells #[.int .u64 S, .slice A R cap] 25))) 25 #[.int .u64 S', .slice A' R' cap']
  clear BEL1 BOX1 FA_a_1 FA_b_1 KB_bx_1
  try simp only [World.size_alloc] at BEL2
  try simp only [World.size_alloc] at BOX2
  try simp only [World.size_alloc] at FA_a_2
  try simp only [World.size_alloc] at FA_b_2
  try simp only [World.size_alloc] at NE_bx_by
  try simp only [World.size_alloc] at KB_by_2
  have CE_bx_0 : ((w.alloc (.cells #[.int .u64 S, .slice A R cap] 25)).alloc (.cells #[.int .u64 S', .slice A' R' cap'] 25)).cell? ⟨w.heap.size, 0, none⟩ = some (.int .u64 S) := KB_bx_2.out.cell 0
  have CE_bx_1 : ((w.alloc (.cells #[.int .u64 S, .slice A R cap] 25)).alloc (.cells #[.int .u64 S', .slice A' R' cap'] 25)).cell? ⟨w.heap.size, 1, none⟩ = some (.slice A R cap) := KB_bx_2.out.cell 1
  have CE_bx_lt : w.heap.size < ((w.alloc (.cells #[.int .u64 S, .slice A R cap] 25)).alloc (.cells #[.int .u64 S', .slice A' R' cap'] 25)).heap.size := KB_bx_2.out.lt
  have CE_by_0 : ((w.alloc (.cells #[.int .u64 S, .slice A R cap] 25)).alloc (.cells #[.int .u64 S', .slice A' R' cap'] 25)).cell? ⟨w.heap.size + 1, 0, none⟩ = some (.int .u64 S') := KB_by_2.out.cell 0
  have CE_by_1 : ((w.alloc (.cells #[.int .u64 S, .slice A R cap] 25)).alloc (.cells #[.int .u64 S', .slice A' R' cap'] 25)).cell? ⟨w.heap.size + 1, 1, none⟩ = some (.slice A' R' cap') := KB_by_2.out.cell 1
  have CE_by_lt : w.heap.size + 1 < ((w.alloc (.cells #[.int .u64 S, .slice A R cap] 25)).alloc (.cells #[.int .u64 S', .slice A' R' cap'] 25)).heap.size := KB_by_2.out.lt
  go_wp2_with fail
  clear CE_bx_0 CE_bx_1 CE_bx_lt CE_by_0 CE_by_1 CE_by_lt
  refine letterQ ?_
  intro QQ hQQ
  have BEL3 := h_bel BEL2 ((Below.refl _ _).drew)
  have BOX3 := h_box BOX2 ((Below.refl _ _).drew)
  have FA_a_3 := h_fact FA_a_2 ((Below.refl _ _).drew)
  have FA_b_3 := h_fact FA_b_2 ((Below.refl _ _).drew)
  have KB_bx_3 := h_blk KB_bx_2 ((Below.refl _ _).drew)
  have KB_by_3 := h_blk KB_by_2 ((Below.refl _ _).drew)
  clear BEL2 BOX2 FA_a_2 FA_b_2 KB_bx_2 KB_by_2
  refine wp_region_held_drew (S := (fun w' => Blk w' w.heap.size 25 #[.int .u64 S, .slice A R cap] ∧ Blk w' (w.heap.size + 1) 25 #[.int .u64 S', .slice A' R' cap'])) (by kernel_rfl) ⟨KB_bx_3.out, KB_by_3.out⟩ (fun hHeld => ?_)
  clear hHeld
  generalize ((w.alloc (.cells #[.int .u64 S, .slice A R cap] 25)).alloc (.cells #[.int .u64 S', .slice A' R' cap'] 25)).drew = v1 at BEL3 BOX3 FA_a_3 FA_b_3 KB_bx_3 KB_by_3 ⊢
  refine wpAnyH_take (i := 0) (v := ?_) rfl (by kernel_rfl) (by kernel_rfl) (by kernel_rfl) (fun _ _ _ h => h) (Or.inl ⟨by rfl, ?_⟩) ⟨KB_bx_3.out, KB_by_3.out⟩ ?_
  rotate_left
  · intro wq hSw; have cl0 := hSw.1.cell 0; have cl1 := hSw.1.cell 1; go_simp; first | done | with_reducible rfl
  simp only [List.getElem_toArray, List.getElem_cons_zero, Act.put, List.setIfInBounds_toArray, List.set_cons_zero, List.set_cons_succ]
  refine wpAnyH_take (i := 2) (v := ?_) rfl (by kernel_rfl) (by kernel_rfl) (by kernel_rfl) (fun _ _ _ h => h) (Or.inl ⟨by rfl, ?_⟩) ⟨KB_bx_3.out, KB_by_3.out⟩ ?_
  rotate_left
  · intro wq hSw; have cl0 := hSw.2.cell 0; have cl1 := hSw.2.cell 1; go_simp; first | done | with_reducible rfl
  simp only [List.getElem_toArray, List.getElem_cons_zero, List.getElem_cons_succ, Act.put, List.setIfInBounds_toArray, List.set_cons_zero, List.set_cons_succ]
  refine letterT (T := wpAnyH _ _ _ _ _) ?_
  intro TT hTU hUT
  refine letterA ?_
  intro act0 hact
  have ND_2_xy : Hid (∀ (v : World) (gx : Nat) (gy : Nat) (ll : Array Bool) (aa : Act), ll = #[true, true, true, true, true, true, false, false] → aa = ((((act0.put (some 12) (.agg #[.int .u64 S, .slice A R cap])).put (some 14) (.agg #[.int .u64 S', .slice A' R' cap'])).put (some 5) (.pointer (some ⟨gx, 0, none⟩))).put (some 6) (.pointer (some ⟨gy, 0, none⟩))) → Hid (Below w.heap.size w v) → Hid (Boxes w v [gy, gx, w.heap.size + 1, w.heap.size]) → Hid (HeldX [gy, gx, w.heap.size + 1, w.heap.size] (fun uq => MpAt uq (.agg #[.int .u64 S, .slice A R cap]) S R L Z) v) → Hid (HeldX [gy, gx, w.heap.size + 1, w.heap.size] (fun uq => MpAt uq (.agg #[.int .u64 S', .slice A' R' cap']) S' R' L' Y) v) → Hid (Blk v w.heap.size 25 #[.int .u64 S, .slice A R cap]) → Hid (Blk v (w.heap.size + 1) 25 #[.int .u64 S', .slice A' R' cap']) → Hid (Blk v gx 30 #[.int .u64 0, .slice none 0 0]) → Hid (Blk v gy 30 #[.int .u64 0, .slice none 0 0]) → Hid (w.heap.size ≠ w.heap.size + 1) → Hid (w.heap.size ≠ gx) → Hid (w.heap.size ≠ gy) → Hid (w.heap.size + 1 ≠ gx) → Hid (w.heap.size + 1 ≠ gy) → Hid (gx ≠ gy) → TT 2 ll aa v) := by
    intro v gx gy ll aa hl hA BEL103 BOX103 FA_a_103 FA_b_103 KB_bx_103 KB_by_103 KB_x_103 KB_y_103 NE_bx_by NE_bx_x NE_bx_y NE_by_x NE_by_y NE_x_y
    rw [hact.out] at hA
    try simp only [Act.put, List.setIfInBounds_toArray, List.set_cons_zero, List.set_cons_succ] at hA
    subst hl hA
    refine hUT.out _ _ _ _ ?_
    refine wpAnyH_ready (rs := [6]) (by kernel_rfl) (by simp) ?_
    refine AllReadyH.cons rfl (fun K0 hK0 => ?_) ?_
    rotate_left
    · exact AllReadyH.nil
    have CE_x_0 : v.cell? ⟨gx, 0, none⟩ = some (.int .u64 0) := KB_x_103.out.cell 0
    have CF_x_0 : v.frozen? ⟨gx, 0, none⟩ = false := KB_x_103.out.frozen 0
    have CE_x_1 : v.cell? ⟨gx, 1, none⟩ = some (.slice none 0 0) := KB_x_103.out.cell 1
    have CF_x_1 : v.frozen? ⟨gx, 1, none⟩ = false := KB_x_103.out.frozen 1
    have CE_x_lt : gx < v.heap.size := KB_x_103.out.lt
    go_simp
    clear CE_x_0 CF_x_0 CE_x_1 CF_x_1 CE_x_lt
    obtain ⟨vs1, hv⟩ : ∃ q, q = ((v.setCell ⟨gx, 0, none⟩ (.int .u64 S)).setCell ⟨gx, 1, none⟩ (.slice A R cap)) := ⟨_, rfl⟩
    rw [← hv]
    have pe : vs1 = putCells v gx 0 [.int .u64 S, .slice A R cap] := hv
    clear hv
    have BEL104 := p_bel pe BEL103 BOX103 (List.mem_cons_of_mem _ List.mem_cons_self)
    have BOX104 := p_box pe BOX103
    have FA_a_104 := p_fact pe FA_a_103 (List.mem_cons_of_mem _ List.mem_cons_self)
    have FA_b_104 := p_fact pe FA_b_103 (List.mem_cons_of_mem _ List.mem_cons_self)
    have KB_bx_104 := p_oth pe KB_bx_103 NE_bx_x
    have KB_by_104 := p_oth pe KB_by_103 NE_by_x
    have KB_x_104 : Hid (Blk vs1 gx 30 #[.int .u64 S, .slice A R cap]) := p_blk pe KB_x_103 rfl
    have KB_y_104 := p_oth pe KB_y_103 (n_sym NE_x_y)
    clear pe BEL103 BOX103 FA_a_103 FA_b_103 KB_bx_103 KB_by_103 KB_x_103 KB_y_103
    refine hK0.out _ _ (by exact ⟨KB_bx_104.out, KB_by_104.out⟩) (fun hHeld => ?_)
    clear hK0 K0 hHeld
    refine wpAnyH_ready (rs := [7]) (by kernel_rfl) (by simp) ?_
    refine AllReadyH.cons rfl (fun K0 hK0 => ?_) ?_
    rotate_left
    · exact AllReadyH.nil
    have CE_y_0 : vs1.cell? ⟨gy, 0, none⟩ = some (.int .u64 0) := KB_y_104.out.cell 0
    have CF_y_0 : vs1.frozen? ⟨gy, 0, none⟩ = false := KB_y_104.out.frozen 0
    have CE_y_1 : vs1.cell? ⟨gy, 1, none⟩ = some (.slice none 0 0) := KB_y_104.out.cell 1
    have CF_y_1 : vs1.frozen? ⟨gy, 1, none⟩ = false := KB_y_104.out.frozen 1
    have CE_y_lt : gy < vs1.heap.size := KB_y_104.out.lt
    go_simp
    clear CE_y_0 CF_y_0 CE_y_1 CF_y_1 CE_y_lt
    obtain ⟨vs2, hv⟩ : ∃ q, q = ((vs1.setCell ⟨gy, 0, none⟩ (.int .u64 S')).setCell ⟨gy, 1, none⟩ (.slice A' R' cap')) := ⟨_, rfl⟩
    rw [← hv]
    have pe : vs2 = putCells vs1 gy 0 [.int .u64 S', .slice A' R' cap'] := hv
    clear hv
    have BEL105 := p_bel pe BEL104 BOX104 List.mem_cons_self
    have BOX105 := p_box pe BOX104
    have FA_a_105 := p_fact pe FA_a_104 List.mem_cons_self
    have FA_b_105 := p_fact pe FA_b_104 List.mem_cons_self
    have KB_bx_105 := p_oth pe KB_bx_104 NE_bx_y
    have KB_by_105 := p_oth pe KB_by_104 NE_by_y
    have KB_x_105 := p_oth pe KB_x_104 NE_x_y
    have KB_y_105 : Hid (Blk vs2 gy 30 #[.int .u64 S', .slice A' R' cap']) := p_blk pe KB_y_104 rfl
    clear pe BEL104 BOX104 FA_a_104 FA_b_104 KB_bx_104 KB_by_104 KB_x_104 KB_y_104
    refine hK0.out _ _ (by exact ⟨KB_bx_105.out, KB_by_105.out⟩) (fun hHeld => ?_)
    clear hK0 K0 hHeld
    refine wpAnyH_done (by kernel_rfl) ?_ _
    refine NoPanic.normal ?_
    refine hQQ.out _ _ ?_
    clear hTU hUT hact hQQ
    generalize vs2 = u1 at BEL105 BOX105 FA_a_105 FA_b_105 KB_bx_105 KB_by_105 KB_x_105 KB_y_105 ⊢
    have CE_x_0 : u1.cell? ⟨gx, 0, none⟩ = some (.int .u64 S) := KB_x_105.out.cell 0
    have CE_x_1 : u1.cell? ⟨gx, 1, none⟩ = some (.slice A R cap) := KB_x_105.out.cell 1
    have CE_x_lt : gx < u1.heap.size := KB_x_105.out.lt
    have CE_y_0 : u1.cell? ⟨gy, 0, none⟩ = some (.int .u64 S') := KB_y_105.out.cell 0
    have CE_y_1 : u1.cell? ⟨gy, 1, none⟩ = some (.slice A' R' cap') := KB_y_105.out.cell 1
    have CE_y_lt : gy < u1.heap.size := KB_y_105.out.lt
    go_wp2_with fail
    refine (rsmall_any _ _ S R _ _ FA_a_105.out.at hRm).mono ?_
    rintro e ww3 ⟨B, rfl, hB, b3⟩
    have HB : Hid (B = true ↔ SmallM R L) := hB
    clear hB
    clear CE_x_0 CE_x_1 CE_x_lt CE_y_0 CE_y_1 CE_y_lt
    have BEL106 := h_bel BEL105 b3
    have BOX106 := h_box BOX105 b3
    have FA_a_106 := h_fact FA_a_105 b3
    have FA_b_106 := h_fact FA_b_105 b3
    have KB_bx_106 := h_blk KB_bx_105 b3
    have KB_by_106 := h_blk KB_by_105 b3
    have KB_x_106 := h_blk KB_x_105 b3
    have KB_y_106 := h_blk KB_y_105 b3
    clear BEL105 BOX105 FA_a_105 FA_b_105 KB_bx_105 KB_by_105 KB_x_105 KB_y_105
    clear b3
    cases B
    · go_wp2_with fail
      refine (mawake_any _ (tabAt_keep HT.out (keep_of_below BEL106.out))).mono ?_
      rintro e ww99 ⟨rfl, b9⟩
      have BEL107 := h_bel BEL106 b9
      have BOX107 := h_box BOX106 b9
      have FA_a_107 := h_fact FA_a_106 b9
      have FA_b_107 := h_fact FA_b_106 b9
      have KB_bx_107 := h_blk KB_bx_106 b9
      have KB_by_107 := h_blk KB_by_106 b9
      have KB_x_107 := h_blk KB_x_106 b9
      have KB_y_107 := h_blk KB_y_106 b9
      clear BEL106 BOX106 FA_a_106 FA_b_106 KB_bx_106 KB_by_106 KB_x_106 KB_y_106
      clear b9
      go_wp2_with fail
      go_ret
      exact ⟨rfl, BEL107.out⟩
    obtain ⟨R1, L1⟩ := HB.out.1 rfl
    have LL : Hid (∀ i, i < R → L i ≤ 1000) := fun i hi => by have := L1 i hi; omega
    have R2 : R ≤ 1000 := by omega
    clear HB L1
    have CE_y_0 : ww3.cell? ⟨gy, 0, none⟩ = some (.int .u64 S') := KB_y_106.out.cell 0
    have CE_y_1 : ww3.cell? ⟨gy, 1, none⟩ = some (.slice A' R' cap') := KB_y_106.out.cell 1
    have CE_y_lt : gy < ww3.heap.size := KB_y_106.out.lt
    go_wp2_with fail
    refine (rsmall_any _ _ S' R' _ _ FA_b_106.out.at hRm').mono ?_
    rintro e ww4 ⟨B, rfl, hB, b4⟩
    have HB : Hid (B = true ↔ SmallM R' L') := hB
    clear hB
    clear CE_y_0 CE_y_1 CE_y_lt
    have BEL107 := h_bel BEL106 b4
    have BOX107 := h_box BOX106 b4
    have FA_a_107 := h_fact FA_a_106 b4
    have FA_b_107 := h_fact FA_b_106 b4
    have KB_bx_107 := h_blk KB_bx_106 b4
    have KB_by_107 := h_blk KB_by_106 b4
    have KB_x_107 := h_blk KB_x_106 b4
    have KB_y_107 := h_blk KB_y_106 b4
    clear BEL106 BOX106 FA_a_106 FA_b_106 KB_bx_106 KB_by_106 KB_x_106 KB_y_106
    clear b4
    cases B
    · go_wp2_with fail
      refine (mawake_any _ (tabAt_keep HT.out (keep_of_below BEL107.out))).mono ?_
      rintro e ww99 ⟨rfl, b9⟩
      have BEL108 := h_bel BEL107 b9
      have BOX108 := h_box BOX107 b9
      have FA_a_108 := h_fact FA_a_107 b9
      have FA_b_108 := h_fact FA_b_107 b9
      have KB_bx_108 := h_blk KB_bx_107 b9
      have KB_by_108 := h_blk KB_by_107 b9
      have KB_x_108 := h_blk KB_x_107 b9
      have KB_y_108 := h_blk KB_y_107 b9
      clear BEL107 BOX107 FA_a_107 FA_b_107 KB_bx_107 KB_by_107 KB_x_107 KB_y_107
      clear b9
      go_wp2_with fail
      go_ret
      exact ⟨rfl, BEL108.out⟩
    obtain ⟨R1', L1'⟩ := HB.out.1 rfl
    have LL' : Hid (∀ i, i < R' → L' i ≤ 1000) := fun i hi => by have := L1' i hi; omega
    have R2' : R' ≤ 1000 := by omega
    clear HB L1'
    by_cases hok : RightM R L ∧ RightM R' L' ∧ AlikeM S R (L 0) S' R' (L' 0)
    rotate_left
    · have CE_bx_0 : ww4.cell? ⟨w.heap.size, 0, none⟩ = some (.int .u64 S) := KB_bx_107.out.cell 0
      have CE_bx_1 : ww4.cell? ⟨w.heap.size, 1, none⟩ = some (.slice A R cap) := KB_bx_107.out.cell 1
      have CE_bx_lt : w.heap.size < ww4.heap.size := KB_bx_107.out.lt
      have CE_by_0 : ww4.cell? ⟨w.heap.size + 1, 0, none⟩ = some (.int .u64 S') := KB_by_107.out.cell 0
      have CE_by_1 : ww4.cell? ⟨w.heap.size + 1, 1, none⟩ = some (.slice A' R' cap') := KB_by_107.out.cell 1
      have CE_by_lt : w.heap.size + 1 < ww4.heap.size := KB_by_107.out.lt
      go_wp2_with fail
      refine (mmerge_bad _ _ _ S S' R R' L L' Z Y FA_a_107.out.at FA_b_107.out.at R2 LL.out R2' LL'.out hok).mono ?_
      rintro e ww5 ⟨rfl, b5⟩
      clear CE_bx_0 CE_bx_1 CE_bx_lt CE_by_0 CE_by_1 CE_by_lt
      have BEL108 := h_bel BEL107 b5
      have BOX108 := h_box BOX107 b5
      have FA_a_108 := h_fact FA_a_107 b5
      have FA_b_108 := h_fact FA_b_107 b5
      have KB_bx_108 := h_blk KB_bx_107 b5
      have KB_by_108 := h_blk KB_by_107 b5
      have KB_x_108 := h_blk KB_x_107 b5
      have KB_y_108 := h_blk KB_y_107 b5
      clear BEL107 BOX107 FA_a_107 FA_b_107 KB_bx_107 KB_by_107 KB_x_107 KB_y_107
      clear b5
      go_upto_region 5 with fail
      have BEL109 := a_bel BEL108 (.cells #[.int .u64 0, .slice none 0 0] 25)
      have BOX109 := a_box BOX108 BEL108 (.cells #[.int .u64 0, .slice none 0 0] 25)
      have FA_a_109 := a_fact FA_a_108 (.cells #[.int .u64 0, .slice none 0 0] 25)
      have FA_b_109 := a_fact FA_b_108 (.cells #[.int .u64 0, .slice none 0 0] 25)
      have KB_bx_109 := a_blk KB_bx_108 (.cells #[.int .u64 0, .slice none 0 0] 25)
      have NE_bx_m := n_ne KB_bx_108
      have KB_by_109 := a_blk KB_by_108 (.cells #[.int .u64 0, .slice none 0 0] 25)
      have NE_by_m := n_ne KB_by_108
      have KB_x_109 := a_blk KB_x_108 (.cells #[.int .u64 0, .slice none 0 0] 25)
      have NE_x_m := n_ne KB_x_108
      have KB_y_109 := a_blk KB_y_108 (.cells #[.int .u64 0, .slice none 0 0] 25)
      have NE_y_m := n_ne KB_y_108
      have KB_m_109 := n_blk (u := ww5) 25 #[.int .u64 0, .slice none 0 0]
      clear BEL108 BOX108 FA_a_108 FA_b_108 KB_bx_108 KB_by_108 KB_x_108 KB_y_108
      generalize (ww5.alloc (.cells #[.int .u64 0, .slice none 0 0] 25)) = v9 at BEL109 BOX109 FA_a_109 FA_b_109 KB_bx_109 KB_by_109 KB_x_109 KB_y_109 KB_m_109 ⊢
      generalize ww5.heap.size = gm at BOX109 FA_a_109 FA_b_109 KB_m_109 NE_bx_m NE_by_m NE_x_m NE_y_m ⊢
      by_cases rp : RightM R L
      rotate_left
      · have E1 : Hid (∀ w1, Below v9.heap.size v9 w1 → Calls Tryd.prog 12 #[.agg #[.int .u64 S, .slice A R cap]] w1 fun e w' => e = .returned (.bool false) ∧ Below v9.heap.size v9 w') := fun w1 b1 => (rright_any w1 _ S R _ _ (FA_a_109.out.since b1).at R2 LL.out).mono fun e w' h => ⟨(told h false ⟨fun h => (by cases h), fun h => absurd h rp⟩).1, bel_trans b1 (told h false ⟨fun h => (by cases h), fun h => absurd h rp⟩).2⟩
        clear hok rp LL LL'
        clear FA_a_109 FA_b_109 HF HG
        go_wp2_with fail
        refine letterQ ?_
        intro QQ hQQ
        have Z0 : Hid (Below v9.heap.size v9 v9.drew) := (Below.refl _ _).drew
        refine wp_region_held_drew (S := fun w2 => Below v9.heap.size v9 w2) (by kernel_rfl) Z0.out (fun hHeld => ?_)
        clear hHeld
        generalize v9.drew = q0 at Z0 ⊢
        refine wpAnyH_take (i := 0) (v := ?_) rfl (by kernel_rfl) (by kernel_rfl) (by kernel_rfl) (fun _ _ _ h => h) (Or.inl ⟨by rfl, ?_⟩) Z0.out ?_
        rotate_left
        · intro wq hSw; have cl0 := (KB_x_109.out.since hSw).cell 0; have cl1 := (KB_x_109.out.since hSw).cell 1; go_simp; first | done | with_reducible rfl
        simp only [List.getElem_toArray, List.getElem_cons_zero, Act.put, List.setIfInBounds_toArray, List.set_cons_zero, List.set_cons_succ]
        refine wpAnyH_ready (rs := [1]) (by kernel_rfl) (by simp) ?_
        refine AllReadyH.cons rfl (fun K0 hK0 => ?_) ?_
        rotate_left
        · exact AllReadyH.nil
        refine step_func 12 #[.agg #[.int .u64 S, .slice A R cap]] (by rfl) rfl (by simp [Act.eval]) (fun _ _ => by kernel_rfl) ?_
        refine (E1.out _ Z0.out).mono ?_
        rintro e q1 ⟨rfl, cc⟩
        have Z1 : Hid (Below v9.heap.size v9 q1) := cc
        clear cc
        refine ⟨_, rfl, ?_⟩
        refine hK0.out _ _ Z1.out (fun hHeld => ?_)
        clear hK0 K0 hHeld
        refine wpAnyH_take (i := 2) (v := ?_) rfl (by kernel_rfl) (by kernel_rfl) (by kernel_rfl) (fun _ _ _ h => h) (Or.inl ⟨by rfl, ?_⟩) Z1.out ?_
        rotate_left
        · intro wq hSw; go_simp; first | done | with_reducible rfl
        simp only [List.getElem_toArray, List.getElem_cons_zero, List.getElem_cons_succ, Act.put, List.setIfInBounds_toArray, List.set_cons_zero, List.set_cons_succ]
        refine wpAnyH_take (i := 3) (v := ?_) rfl (by kernel_rfl) (by kernel_rfl) (by kernel_rfl) (fun _ _ _ h => h) (Or.inl ⟨by rfl, ?_⟩) Z1.out ?_
        rotate_left
        · intro wq hSw; go_simp; first | done | with_reducible rfl
        simp only [List.getElem_toArray, List.getElem_cons_zero, List.getElem_cons_succ, Act.put, List.setIfInBounds_toArray, List.set_cons_zero, List.set_cons_succ]
        refine wpAnyH_take (i := 4) (v := undef) rfl (by kernel_rfl) (by kernel_rfl) (by kernel_rfl) (fun _ _ _ h => h) (Or.inr ⟨by rfl, rfl⟩) Z1.out ?_
        simp only [List.getElem_toArray, List.getElem_cons_zero, List.getElem_cons_succ, Act.put, List.setIfInBounds_toArray, List.set_cons_zero, List.set_cons_succ]
        refine wpAnyH_take (i := 5) (v := undef) rfl (by kernel_rfl) (by kernel_rfl) (by kernel_rfl) (fun _ _ _ h => h) (Or.inr ⟨by rfl, rfl⟩) Z1.out ?_
        simp only [List.getElem_toArray, List.getElem_cons_zero, List.getElem_cons_succ, Act.put, List.setIfInBounds_toArray, List.set_cons_zero, List.set_cons_succ]
        refine wpAnyH_take (i := 6) (v := undef) rfl (by kernel_rfl) (by kernel_rfl) (by kernel_rfl) (fun _ _ _ h => h) (Or.inr ⟨by rfl, rfl⟩) Z1.out ?_
        simp only [List.getElem_toArray, List.getElem_cons_zero, List.getElem_cons_succ, Act.put, List.setIfInBounds_toArray, List.set_cons_zero, List.set_cons_succ]
        refine wpAnyH_take (i := 7) (v := ?_) rfl (by kernel_rfl) (by kernel_rfl) (by kernel_rfl) (fun _ _ _ h => h) (Or.inl ⟨by rfl, ?_⟩) Z1.out ?_
        rotate_left
        · intro wq hSw; go_simp; first | done | with_reducible rfl
        simp only [List.getElem_toArray, List.getElem_cons_zero, List.getElem_cons_succ, Act.put, List.setIfInBounds_toArray, List.set_cons_zero, List.set_cons_succ]
        refine wpAnyH_take (i := 8) (v := ?_) rfl (by kernel_rfl) (by kernel_rfl) (by kernel_rfl) (fun _ _ _ h => h) (Or.inl ⟨by rfl, ?_⟩) Z1.out ?_
        rotate_left
        · intro wq hSw; go_simp; first | done | with_reducible rfl
        simp only [List.getElem_toArray, List.getElem_cons_zero, List.getElem_cons_succ, Act.put, List.setIfInBounds_toArray, List.set_cons_zero, List.set_cons_succ]
        refine wpAnyH_take (i := 9) (v := undef) rfl (by kernel_rfl) (by kernel_rfl) (by kernel_rfl) (fun _ _ _ h => h) (Or.inr ⟨by rfl, rfl⟩) Z1.out ?_
        simp only [List.getElem_toArray, List.getElem_cons_zero, List.getElem_cons_succ, Act.put, List.setIfInBounds_toArray, List.set_cons_zero, List.set_cons_succ]
        refine wpAnyH_take (i := 10) (v := undef) rfl (by kernel_rfl) (by kernel_rfl) (by kernel_rfl) (fun _ _ _ h => h) (Or.inr ⟨by rfl, rfl⟩) Z1.out ?_
        simp only [List.getElem_toArray, List.getElem_cons_zero, List.getElem_cons_succ, Act.put, List.setIfInBounds_toArray, List.set_cons_zero, List.set_cons_succ]
        refine wpAnyH_take (i := 11) (v := undef) rfl (by kernel_rfl) (by kernel_rfl) (by kernel_rfl) (fun _ _ _ h => h) (Or.inr ⟨by rfl, rfl⟩) Z1.out ?_
        simp only [List.getElem_toArray, List.getElem_cons_zero, List.getElem_cons_succ, Act.put, List.setIfInBounds_toArray, List.set_cons_zero, List.set_cons_succ]
        refine wpAnyH_take (i := 12) (v := undef) rfl (by kernel_rfl) (by kernel_rfl) (by kernel_rfl) (fun _ _ _ h => h) (Or.inr ⟨by rfl, rfl⟩) Z1.out ?_
        simp only [List.getElem_toArray, List.getElem_cons_zero, List.getElem_cons_succ, Act.put, List.setIfInBounds_toArray, List.set_cons_zero, List.set_cons_succ]
        refine wpAnyH_take (i := 13) (v := undef) rfl (by kernel_rfl) (by kernel_rfl) (by kernel_rfl) (fun _ _ _ h => h) (Or.inr ⟨by rfl, rfl⟩) Z1.out ?_
        simp only [List.getElem_toArray, List.getElem_cons_zero, List.getElem_cons_succ, Act.put, List.setIfInBounds_toArray, List.set_cons_zero, List.set_cons_succ]
        refine wpAnyH_take (i := 14) (v := ?_) rfl (by kernel_rfl) (by kernel_rfl) (by kernel_rfl) (fun _ _ _ h => h) (Or.inl ⟨by rfl, ?_⟩) Z1.out ?_
        rotate_left
        · intro wq hSw; go_simp; first | done | with_reducible rfl
        simp only [List.getElem_toArray, List.getElem_cons_zero, List.getElem_cons_succ, Act.put, List.setIfInBounds_toArray, List.set_cons_zero, List.set_cons_succ]
        refine wpAnyH_take (i := 15) (v := ?_) rfl (by kernel_rfl) (by kernel_rfl) (by kernel_rfl) (fun _ _ _ h => h) (Or.inl ⟨by rfl, ?_⟩) Z1.out ?_
        rotate_left
        · intro wq hSw; go_simp; first | done | with_reducible rfl
        simp only [List.getElem_toArray, List.getElem_cons_zero, List.getElem_cons_succ, Act.put, List.setIfInBounds_toArray, List.set_cons_zero, List.set_cons_succ]
        refine wpAnyH_take (i := 16) (v := undef) rfl (by kernel_rfl) (by kernel_rfl) (by kernel_rfl) (fun _ _ _ h => h) (Or.inr ⟨by rfl, rfl⟩) Z1.out ?_
        simp only [List.getElem_toArray, List.getElem_cons_zero, List.getElem_cons_succ, Act.put, List.setIfInBounds_toArray, List.set_cons_zero, List.set_cons_succ]
        refine wpAnyH_take (i := 17) (v := undef) rfl (by kernel_rfl) (by kernel_rfl) (by kernel_rfl) (fun _ _ _ h => h) (Or.inr ⟨by rfl, rfl⟩) Z1.out ?_
        simp only [List.getElem_toArray, List.getElem_cons_zero, List.getElem_cons_succ, Act.put, List.setIfInBounds_toArray, List.set_cons_zero, List.set_cons_succ]
        refine wpAnyH_take (i := 18) (v := undef) rfl (by kernel_rfl) (by kernel_rfl) (by kernel_rfl) (fun _ _ _ h => h) (Or.inr ⟨by rfl, rfl⟩) Z1.out ?_
        simp only [List.getElem_toArray, List.getElem_cons_zero, List.getElem_cons_succ, Act.put, List.setIfInBounds_toArray, List.set_cons_zero, List.set_cons_succ]
        refine wpAnyH_take (i := 19) (v := undef) rfl (by kernel_rfl) (by kernel_rfl) (by kernel_rfl) (fun _ _ _ h => h) (Or.inr ⟨by rfl, rfl⟩) Z1.out ?_
        simp only [List.getElem_toArray, List.getElem_cons_zero, List.getElem_cons_succ, Act.put, List.setIfInBounds_toArray, List.set_cons_zero, List.set_cons_succ]
        refine wpAnyH_take (i := 20) (v := undef) rfl (by kernel_rfl) (by kernel_rfl) (by kernel_rfl) (fun _ _ _ h => h) (Or.inr ⟨by rfl, rfl⟩) Z1.out ?_
        simp only [List.getElem_toArray, List.getElem_cons_zero, List.getElem_cons_succ, Act.put, List.setIfInBounds_toArray, List.set_cons_zero, List.set_cons_succ]
        refine wpAnyH_take (i := 21) (v := undef) rfl (by kernel_rfl) (by kernel_rfl) (by kernel_rfl) (fun _ _ _ h => h) (Or.inr ⟨by rfl, rfl⟩) Z1.out ?_
        simp only [List.getElem_toArray, List.getElem_cons_zero, List.getElem_cons_succ, Act.put, List.setIfInBounds_toArray, List.set_cons_zero, List.set_cons_succ]
        refine wpAnyH_take (i := 22) (v := undef) rfl (by kernel_rfl) (by kernel_rfl) (by kernel_rfl) (fun _ _ _ h => h) (Or.inr ⟨by rfl, rfl⟩) Z1.out ?_
        simp only [List.getElem_toArray, List.getElem_cons_zero, List.getElem_cons_succ, Act.put, List.setIfInBounds_toArray, List.set_cons_zero, List.set_cons_succ]
        refine wpAnyH_take (i := 23) (v := ?_) rfl (by kernel_rfl) (by kernel_rfl) (by kernel_rfl) (fun _ _ _ h => h) (Or.inl ⟨by rfl, ?_⟩) Z1.out ?_
        rotate_left
        · intro wq hSw; go_simp; first | done | with_reducible rfl
        simp only [List.getElem_toArray, List.getElem_cons_zero, List.getElem_cons_succ, Act.put, List.setIfInBounds_toArray, List.set_cons_zero, List.set_cons_succ]
        refine wpAnyH_take (i := 24) (v := ?_) rfl (by kernel_rfl) (by kernel_rfl) (by kernel_rfl) (fun _ _ _ h => h) (Or.inl ⟨by rfl, ?_⟩) Z1.out ?_
        rotate_left
        · intro wq hSw; go_simp; first | done | with_reducible rfl
        simp only [List.getElem_toArray, List.getElem_cons_zero, List.getElem_cons_succ, Act.put, List.setIfInBounds_toArray, List.set_cons_zero, List.set_cons_succ]
        refine wpAnyH_take (i := 25) (v := undef) rfl (by kernel_rfl) (by kernel_rfl) (by kernel_rfl) (fun _ _ _ h => h) (Or.inr ⟨by rfl, rfl⟩) Z1.out ?_
        simp only [List.getElem_toArray, List.getElem_cons_zero, List.getElem_cons_succ, Act.put, List.setIfInBounds_toArray, List.set_cons_zero, List.set_cons_succ]
        refine wpAnyH_take (i := 26) (v := undef) rfl (by kernel_rfl) (by kernel_rfl) (by kernel_rfl) (fun _ _ _ h => h) (Or.inr ⟨by rfl, rfl⟩) Z1.out ?_
        simp only [List.getElem_toArray, List.getElem_cons_zero, List.getElem_cons_succ, Act.put, List.setIfInBounds_toArray, List.set_cons_zero, List.set_cons_succ]
        refine wpAnyH_take (i := 27) (v := undef) rfl (by kernel_rfl) (by kernel_rfl) (by kernel_rfl) (fun _ _ _ h => h) (Or.inr ⟨by rfl, rfl⟩) Z1.out ?_
        simp only [List.getElem_toArray, List.getElem_cons_zero, List.getElem_cons_succ, Act.put, List.setIfInBounds_toArray, List.set_cons_zero, List.set_cons_succ]
        refine wpAnyH_take (i := 28) (v := undef) rfl (by kernel_rfl) (by kernel_rfl) (by kernel_rfl) (fun _ _ _ h => h) (Or.inr ⟨by rfl, rfl⟩) Z1.out ?_
        simp only [List.getElem_toArray, List.getElem_cons_zero, List.getElem_cons_succ, Act.put, List.setIfInBounds_toArray, List.set_cons_zero, List.set_cons_succ]
        refine wpAnyH_take (i := 29) (v := undef) rfl (by kernel_rfl) (by kernel_rfl) (by kernel_rfl) (fun _ _ _ h => h) (Or.inr ⟨by rfl, rfl⟩) Z1.out ?_
        simp only [List.getElem_toArray, List.getElem_cons_zero, List.getElem_cons_succ, Act.put, List.setIfInBounds_toArray, List.set_cons_zero, List.set_cons_succ]
        refine wpAnyH_take (i := 30) (v := undef) rfl (by kernel_rfl) (by kernel_rfl) (by kernel_rfl) (fun _ _ _ h => h) (Or.inr ⟨by rfl, rfl⟩) Z1.out ?_
        simp only [List.getElem_toArray, List.getElem_cons_zero, List.getElem_cons_succ, Act.put, List.setIfInBounds_toArray, List.set_cons_zero, List.set_cons_succ]
        refine wpAnyH_take (i := 31) (v := undef) rfl (by kernel_rfl) (by kernel_rfl) (by kernel_rfl) (fun _ _ _ h => h) (Or.inr ⟨by rfl, rfl⟩) Z1.out ?_
        simp only [List.getElem_toArray, List.getElem_cons_zero, List.getElem_cons_succ, Act.put, List.setIfInBounds_toArray, List.set_cons_zero, List.set_cons_succ]
        refine wpAnyH_take (i := 32) (v := undef) rfl (by kernel_rfl) (by kernel_rfl) (by kernel_rfl) (fun _ _ _ h => h) (Or.inr ⟨by rfl, rfl⟩) Z1.out ?_
        simp only [List.getElem_toArray, List.getElem_cons_zero, List.getElem_cons_succ, Act.put, List.setIfInBounds_toArray, List.set_cons_zero, List.set_cons_succ]
        refine wpAnyH_take (i := 33) (v := undef) rfl (by kernel_rfl) (by kernel_rfl) (by kernel_rfl) (fun _ _ _ h => h) (Or.inr ⟨by rfl, rfl⟩) Z1.out ?_
        simp only [List.getElem_toArray, List.getElem_cons_zero, List.getElem_cons_succ, Act.put, List.setIfInBounds_toArray, List.set_cons_zero, List.set_cons_succ]
        refine wpAnyH_take (i := 34) (v := undef) rfl (by kernel_rfl) (by kernel_rfl) (by kernel_rfl) (fun _ _ _ h => h) (Or.inr ⟨by rfl, rfl⟩) Z1.out ?_
        simp only [List.getElem_toArray, List.getElem_cons_zero, List.getElem_cons_succ, Act.put, List.setIfInBounds_toArray, List.set_cons_zero, List.set_cons_succ]
        refine wpAnyH_take (i := 35) (v := undef) rfl (by kernel_rfl) (by kernel_rfl) (by kernel_rfl) (fun _ _ _ h => h) (Or.inr ⟨by rfl, rfl⟩) Z1.out ?_
        simp only [List.getElem_toArray, List.getElem_cons_zero, List.getElem_cons_succ, Act.put, List.setIfInBounds_toArray, List.set_cons_zero, List.set_cons_succ]
        refine wpAnyH_take (i := 36) (v := ?_) rfl (by kernel_rfl) (by kernel_rfl) (by kernel_rfl) (fun _ _ _ h => h) (Or.inl ⟨by rfl, ?_⟩) Z1.out ?_
        rotate_left
        · intro wq hSw; go_simp; first | done | with_reducible rfl
        simp only [List.getElem_toArray, List.getElem_cons_zero, List.getElem_cons_succ, Act.put, List.setIfInBounds_toArray, List.set_cons_zero, List.set_cons_succ]
        refine wpAnyH_done (by kernel_rfl) ?_ _
        refine NoPanic.normal ?_
        refine hQQ.out _ _ ?_
        clear hQQ
        have cm : q1.cell? ⟨gm, 1, none⟩ = some (.slice none 0 0) := (KB_m_109.out.since Z1.out).cell 1
        go_wp2_with fail
        refine (mawake_any _ (tabAt_keep HT.out (keep_of_below (bel_trans BEL109.out Z1.out)))).mono ?_
        rintro e ww9 ⟨rfl, b9⟩
        go_wp2_with fail
        go_ret
        exact ⟨rfl, bel_trans (bel_trans BEL109.out Z1.out) b9⟩
      by_cases rq : RightM R' L'
      rotate_left
      · have E1 : Hid (∀ w1, Below v9.heap.size v9 w1 → Calls Tryd.prog 12 #[.agg #[.int .u64 S, .slice A R cap]] w1 fun e w' => e = .returned (.bool true) ∧ Below v9.heap.size v9 w') := fun w1 b1 => (rright_any w1 _ S R _ _ (FA_a_109.out.since b1).at R2 LL.out).mono fun e w' h => ⟨(told h true ⟨fun _ => rp, fun _ => rfl⟩).1, bel_trans b1 (told h true ⟨fun _ => rp, fun _ => rfl⟩).2⟩
        have E2 : Hid (∀ w1, Below v9.heap.size v9 w1 → Calls Tryd.prog 12 #[.agg #[.int .u64 S', .slice A' R' cap']] w1 fun e w' => e = .returned (.bool false) ∧ Below v9.heap.size v9 w') := fun w1 b1 => (rright_any w1 _ S' R' _ _ (FA_b_109.out.since b1).at R2' LL'.out).mono fun e w' h => ⟨(told h false ⟨fun h => (by cases h), fun h => absurd h rq⟩).1, bel_trans b1 (told h false ⟨fun h => (by cases h), fun h => absurd h rq⟩).2⟩
        clear hok rp rq LL LL'
        clear FA_a_109 FA_b_109 HF HG
        go_wp2_with fail
        refine letterQ ?_
        intro QQ hQQ
        have Z0 : Hid (Below v9.heap.size v9 v9.drew) := (Below.refl _ _).drew
        refine wp_region_held_drew (S := fun w2 => Below v9.heap.size v9 w2) (by kernel_rfl) Z0.out (fun hHeld => ?_)
        clear hHeld
        generalize v9.drew = q0 at Z0 ⊢
        refine wpAnyH_take (i := 0) (v := ?_) rfl (by kernel_rfl) (by kernel_rfl) (by kernel_rfl) (fun _ _ _ h => h) (Or.inl ⟨by rfl, ?_⟩) Z0.out ?_
        rotate_left
        · intro wq hSw; have cl0 := (KB_x_109.out.since hSw).cell 0; have cl1 := (KB_x_109.out.since hSw).cell 1; go_simp; first | done | with_reducible rfl
        simp only [List.getElem_toArray, List.getElem_cons_zero, Act.put, List.setIfInBounds_toArray, List.set_cons_zero, List.set_cons_succ]
        refine wpAnyH_ready (rs := [1]) (by kernel_rfl) (by simp) ?_
        refine AllReadyH.cons rfl (fun K0 hK0 => ?_) ?_
        rotate_left
        · exact AllReadyH.nil
        refine step_func 12 #[.agg #[.int .u64 S, .slice A R cap]] (by rfl) rfl (by simp [Act.eval]) (fun _ _ => by kernel_rfl) ?_
        refine (E1.out _ Z0.out).mono ?_
        rintro e q1 ⟨rfl, cc⟩
        have Z1 : Hid (Below v9.heap.size v9 q1) := cc
        clear cc
        refine ⟨_, rfl, ?_⟩
        refine hK0.out _ _ Z1.out (fun hHeld => ?_)
        clear hK0 K0 hHeld
        refine wpAnyH_take (i := 2) (v := ?_) rfl (by kernel_rfl) (by kernel_rfl) (by kernel_rfl) (fun _ _ _ h => h) (Or.inl ⟨by rfl, ?_⟩) Z1.out ?_
        rotate_left
        · intro wq hSw; go_simp; first | done | with_reducible rfl
        simp only [List.getElem_toArray, List.getElem_cons_zero, List.getElem_cons_succ, Act.put, List.setIfInBounds_toArray, List.set_cons_zero, List.set_cons_succ]
        refine wpAnyH_take (i := 3) (v := ?_) rfl (by kernel_rfl) (by kernel_rfl) (by kernel_rfl) (fun _ _ _ h => h) (Or.inl ⟨by rfl, ?_⟩) Z1.out ?_
        rotate_left
        · intro wq hSw; go_simp; first | done | with_reducible rfl
        simp only [List.getElem_toArray, List.getElem_cons_zero, List.getElem_cons_succ, Act.put, List.setIfInBounds_toArray, List.set_cons_zero, List.set_cons_succ]
        refine wpAnyH_take (i := 4) (v := ?_) rfl (by kernel_rfl) (by kernel_rfl) (by kernel_rfl) (fun _ _ _ h => h) (Or.inl ⟨by rfl, ?_⟩) Z1.out ?_
        rotate_left
        · intro wq hSw; have cl0 := (KB_y_109.out.since hSw).cell 0; have cl1 := (KB_y_109.out.since hSw).cell 1; go_simp; first | done | with_reducible rfl
        simp only [List.getElem_toArray, List.getElem_cons_zero, List.getElem_cons_succ, Act.put, List.setIfInBounds_toArray, List.set_cons_zero, List.set_cons_succ]
        refine wpAnyH_ready (rs := [5]) (by kernel_rfl) (by simp) ?_
        refine AllReadyH.cons rfl (fun K0 hK0 => ?_) ?_
        rotate_left
        · exact AllReadyH.nil
        refine step_func 12 #[.agg #[.int .u64 S', .slice A' R' cap']] (by rfl) rfl (by simp [Act.eval]) (fun _ _ => by kernel_rfl) ?_
        refine (E2.out _ Z1.out).mono ?_
        rintro e q2 ⟨rfl, cc⟩
        have Z2 : Hid (Below v9.heap.size v9 q2) := cc
        clear cc
        refine ⟨_, rfl, ?_⟩
        refine hK0.out _ _ Z2.out (fun hHeld => ?_)
        clear hK0 K0 hHeld
        refine wpAnyH_take (i := 6) (v := ?_) rfl (by kernel_rfl) (by kernel_rfl) (by kernel_rfl) (fun _ _ _ h => h) (Or.inl ⟨by rfl, ?_⟩) Z2.out ?_
        rotate_left
        · intro wq hSw; go_simp; first | done | with_reducible rfl
        simp only [List.getElem_toArray, List.getElem_cons_zero, List.getElem_cons_succ, Act.put, List.setIfInBounds_toArray, List.set_cons_zero, List.set_cons_succ]
        refine wpAnyH_take (i := 7) (v := ?_) rfl (by kernel_rfl) (by kernel_rfl) (by kernel_rfl) (fun _ _ _ h => h) (Or.inl ⟨by rfl, ?_⟩) Z2.out ?_
        rotate_left
        · intro wq hSw; go_simp; first | done | with_reducible rfl
        simp only [List.getElem_toArray, List.getElem_cons_zero, List.getElem_cons_succ, Act.put, List.setIfInBounds_toArray, List.set_cons_zero, List.set_cons_succ]
        refine wpAnyH_take (i := 8) (v := ?_) rfl (by kernel_rfl) (by kernel_rfl) (by kernel_rfl) (fun _ _ _ h => h) (Or.inl ⟨by rfl, ?_⟩) Z2.out ?_
        rotate_left
        · intro wq hSw; go_simp; first | done | with_reducible rfl
        simp only [List.getElem_toArray, List.getElem_cons_zero, List.getElem_cons_succ, Act.put, List.setIfInBounds_toArray, List.set_cons_zero, List.set_cons_succ]
        refine wpAnyH_take (i := 9) (v := undef) rfl (by kernel_rfl) (by kernel_rfl) (by kernel_rfl) (fun _ _ _ h => h) (Or.inr ⟨by rfl, rfl⟩) Z2.out ?_
        simp only [List.getElem_toArray, List.getElem_cons_zero, List.getElem_cons_succ, Act.put, List.setIfInBounds_toArray, List.set_cons_zero, List.set_cons_succ]
        refine wpAnyH_take (i := 10) (v := undef) rfl (by kernel_rfl) (by kernel_rfl) (by kernel_rfl) (fun _ _ _ h => h) (Or.inr ⟨by rfl, rfl⟩) Z2.out ?_
        simp only [List.getElem_toArray, List.getElem_cons_zero, List.getElem_cons_succ, Act.put, List.setIfInBounds_toArray, List.set_cons_zero, List.set_cons_succ]
        refine wpAnyH_take (i := 11) (v := undef) rfl (by kernel_rfl) (by kernel_rfl) (by kernel_rfl) (fun _ _ _ h => h) (Or.inr ⟨by rfl, rfl⟩) Z2.out ?_
        simp only [List.getElem_toArray, List.getElem_cons_zero, List.getElem_cons_succ, Act.put, List.setIfInBounds_toArray, List.set_cons_zero, List.set_cons_succ]
        refine wpAnyH_take (i := 12) (v := undef) rfl (by kernel_rfl) (by kernel_rfl) (by kernel_rfl) (fun _ _ _ h => h) (Or.inr ⟨by rfl, rfl⟩) Z2.out ?_
        simp only [List.getElem_toArray, List.getElem_cons_zero, List.getElem_cons_succ, Act.put, List.setIfInBounds_toArray, List.set_cons_zero, List.set_cons_succ]
        refine wpAnyH_take (i := 13) (v := undef) rfl (by kernel_rfl) (by kernel_rfl) (by kernel_rfl) (fun _ _ _ h => h) (Or.inr ⟨by rfl, rfl⟩) Z2.out ?_
        simp only [List.getElem_toArray, List.getElem_cons_zero, List.getElem_cons_succ, Act.put, List.setIfInBounds_toArray, List.set_cons_zero, List.set_cons_succ]
        refine wpAnyH_take (i := 14) (v := ?_) rfl (by kernel_rfl) (by kernel_rfl) (by kernel_rfl) (fun _ _ _ h => h) (Or.inl ⟨by rfl, ?_⟩) Z2.out ?_
        rotate_left
        · intro wq hSw; go_simp; first | done | with_reducible rfl
        simp only [List.getElem_toArray, List.getElem_cons_zero, List.getElem_cons_succ, Act.put, List.setIfInBounds_toArray, List.set_cons_zero, List.set_cons_succ]
        refine wpAnyH_take (i := 15) (v := ?_) rfl (by kernel_rfl) (by kernel_rfl) (by kernel_rfl) (fun _ _ _ h => h) (Or.inl ⟨by rfl, ?_⟩) Z2.out ?_
        rotate_left
        · intro wq hSw; go_simp; first | done | with_reducible rfl
        simp only [List.getElem_toArray, List.getElem_cons_zero, List.getElem_cons_succ, Act.put, List.setIfInBounds_toArray, List.set_cons_zero, List.set_cons_succ]
        refine wpAnyH_take (i := 16) (v := undef) rfl (by kernel_rfl) (by kernel_rfl) (by kernel_rfl) (fun _ _ _ h => h) (Or.inr ⟨by rfl, rfl⟩) Z2.out ?_
        simp only [List.getElem_toArray, List.getElem_cons_zero, List.getElem_cons_succ, Act.put, List.setIfInBounds_toArray, List.set_cons_zero, List.set_cons_succ]
        refine wpAnyH_take (i := 17) (v := undef) rfl (by kernel_rfl) (by kernel_rfl) (by kernel_rfl) (fun _ _ _ h => h) (Or.inr ⟨by rfl, rfl⟩) Z2.out ?_
        simp only [List.getElem_toArray, List.getElem_cons_zero, List.getElem_cons_succ, Act.put, List.setIfInBounds_toArray, List.set_cons_zero, List.set_cons_succ]
        refine wpAnyH_take (i := 18) (v := undef) rfl (by kernel_rfl) (by kernel_rfl) (by kernel_rfl) (fun _ _ _ h => h) (Or.inr ⟨by rfl, rfl⟩) Z2.out ?_
        simp only [List.getElem_toArray, List.getElem_cons_zero, List.getElem_cons_succ, Act.put, List.setIfInBounds_toArray, List.set_cons_zero, List.set_cons_succ]
        refine wpAnyH_take (i := 19) (v := undef) rfl (by kernel_rfl) (by kernel_rfl) (by kernel_rfl) (fun _ _ _ h => h) (Or.inr ⟨by rfl, rfl⟩) Z2.out ?_
        simp only [List.getElem_toArray, List.getElem_cons_zero, List.getElem_cons_succ, Act.put, List.setIfInBounds_toArray, List.set_cons_zero, List.set_cons_succ]
        refine wpAnyH_take (i := 20) (v := undef) rfl (by kernel_rfl) (by kernel_rfl) (by kernel_rfl) (fun _ _ _ h => h) (Or.inr ⟨by rfl, rfl⟩) Z2.out ?_
        simp only [List.getElem_toArray, List.getElem_cons_zero, List.getElem_cons_succ, Act.put, List.setIfInBounds_toArray, List.set_cons_zero, List.set_cons_succ]
        refine wpAnyH_take (i := 21) (v := undef) rfl (by kernel_rfl) (by kernel_rfl) (by kernel_rfl) (fun _ _ _ h => h) (Or.inr ⟨by rfl, rfl⟩) Z2.out ?_
        simp only [List.getElem_toArray, List.getElem_cons_zero, List.getElem_cons_succ, Act.put, List.setIfInBounds_toArray, List.set_cons_zero, List.set_cons_succ]
        refine wpAnyH_take (i := 22) (v := undef) rfl (by kernel_rfl) (by kernel_rfl) (by kernel_rfl) (fun _ _ _ h => h) (Or.inr ⟨by rfl, rfl⟩) Z2.out ?_
        simp only [List.getElem_toArray, List.getElem_cons_zero, List.getElem_cons_succ, Act.put, List.setIfInBounds_toArray, List.set_cons_zero, List.set_cons_succ]
        refine wpAnyH_take (i := 23) (v := ?_) rfl (by kernel_rfl) (by kernel_rfl) (by kernel_rfl) (fun _ _ _ h => h) (Or.inl ⟨by rfl, ?_⟩) Z2.out ?_
        rotate_left
        · intro wq hSw; go_simp; first | done | with_reducible rfl
        simp only [List.getElem_toArray, List.getElem_cons_zero, List.getElem_cons_succ, Act.put, List.setIfInBounds_toArray, List.set_cons_zero, List.set_cons_succ]
        refine wpAnyH_take (i := 24) (v := ?_) rfl (by kernel_rfl) (by kernel_rfl) (by kernel_rfl) (fun _ _ _ h => h) (Or.inl ⟨by rfl, ?_⟩) Z2.out ?_
        rotate_left
        · intro wq hSw; go_simp; first | done | with_reducible rfl
        simp only [List.getElem_toArray, List.getElem_cons_zero, List.getElem_cons_succ, Act.put, List.setIfInBounds_toArray, List.set_cons_zero, List.set_cons_succ]
        refine wpAnyH_take (i := 25) (v := undef) rfl (by kernel_rfl) (by kernel_rfl) (by kernel_rfl) (fun _ _ _ h => h) (Or.inr ⟨by rfl, rfl⟩) Z2.out ?_
        simp only [List.getElem_toArray, List.getElem_cons_zero, List.getElem_cons_succ, Act.put, List.setIfInBounds_toArray, List.set_cons_zero, List.set_cons_succ]
        refine wpAnyH_take (i := 26) (v := undef) rfl (by kernel_rfl) (by kernel_rfl) (by kernel_rfl) (fun _ _ _ h => h) (Or.inr ⟨by rfl, rfl⟩) Z2.out ?_
        simp only [List.getElem_toArray, List.getElem_cons_zero, List.getElem_cons_succ, Act.put, List.setIfInBounds_toArray, List.set_cons_zero, List.set_cons_succ]
        refine wpAnyH_take (i := 27) (v := undef) rfl (by kernel_rfl) (by kernel_rfl) (by kernel_rfl) (fun _ _ _ h => h) (Or.inr ⟨by rfl, rfl⟩) Z2.out ?_
        simp only [List.getElem_toArray, List.getElem_cons_zero, List.getElem_cons_succ, Act.put, List.setIfInBounds_toArray, List.set_cons_zero, List.set_cons_succ]
        refine wpAnyH_take (i := 28) (v := undef) rfl (by kernel_rfl) (by kernel_rfl) (by kernel_rfl) (fun _ _ _ h => h) (Or.inr ⟨by rfl, rfl⟩) Z2.out ?_
        simp only [List.getElem_toArray, List.getElem_cons_zero, List.getElem_cons_succ, Act.put, List.setIfInBounds_toArray, List.set_cons_zero, List.set_cons_succ]
        refine wpAnyH_take (i := 29) (v := undef) rfl (by kernel_rfl) (by kernel_rfl) (by kernel_rfl) (fun _ _ _ h => h) (Or.inr ⟨by rfl, rfl⟩) Z2.out ?_
        simp only [List.getElem_toArray, List.getElem_cons_zero, List.getElem_cons_succ, Act.put, List.setIfInBounds_toArray, List.set_cons_zero, List.set_cons_succ]
        refine wpAnyH_take (i := 30) (v := undef) rfl (by kernel_rfl) (by kernel_rfl) (by kernel_rfl) (fun _ _ _ h => h) (Or.inr ⟨by rfl, rfl⟩) Z2.out ?_
        simp only [List.getElem_toArray, List.getElem_cons_zero, List.getElem_cons_succ, Act.put, List.setIfInBounds_toArray, List.set_cons_zero, List.set_cons_succ]
        refine wpAnyH_take (i := 31) (v := undef) rfl (by kernel_rfl) (by kernel_rfl) (by kernel_rfl) (fun _ _ _ h => h) (Or.inr ⟨by rfl, rfl⟩) Z2.out ?_
        simp only [List.getElem_toArray, List.getElem_cons_zero, List.getElem_cons_succ, Act.put, List.setIfInBounds_toArray, List.set_cons_zero, List.set_cons_succ]
        refine wpAnyH_take (i := 32) (v := undef) rfl (by kernel_rfl) (by kernel_rfl) (by kernel_rfl) (fun _ _ _ h => h) (Or.inr ⟨by rfl, rfl⟩) Z2.out ?_
        simp only [List.getElem_toArray, List.getElem_cons_zero, List.getElem_cons_succ, Act.put, List.setIfInBounds_toArray, List.set_cons_zero, List.set_cons_succ]
        refine wpAnyH_take (i := 33) (v := undef) rfl (by kernel_rfl) (by kernel_rfl) (by kernel_rfl) (fun _ _ _ h => h) (Or.inr ⟨by rfl, rfl⟩) Z2.out ?_
        simp only [List.getElem_toArray, List.getElem_cons_zero, List.getElem_cons_succ, Act.put, List.setIfInBounds_toArray, List.set_cons_zero, List.set_cons_succ]
        refine wpAnyH_take (i := 34) (v := undef) rfl (by kernel_rfl) (by kernel_rfl) (by kernel_rfl) (fun _ _ _ h => h) (Or.inr ⟨by rfl, rfl⟩) Z2.out ?_
        simp only [List.getElem_toArray, List.getElem_cons_zero, List.getElem_cons_succ, Act.put, List.setIfInBounds_toArray, List.set_cons_zero, List.set_cons_succ]
        refine wpAnyH_take (i := 35) (v := undef) rfl (by kernel_rfl) (by kernel_rfl) (by kernel_rfl) (fun _ _ _ h => h) (Or.inr ⟨by rfl, rfl⟩) Z2.out ?_
        simp only [List.getElem_toArray, List.getElem_cons_zero, List.getElem_cons_succ, Act.put, List.setIfInBounds_toArray, List.set_cons_zero, List.set_cons_succ]
        refine wpAnyH_take (i := 36) (v := ?_) rfl (by kernel_rfl) (by kernel_rfl) (by kernel_rfl) (fun _ _ _ h => h) (Or.inl ⟨by rfl, ?_⟩) Z2.out ?_
        rotate_left
        · intro wq hSw; go_simp; first | done | with_reducible rfl
        simp only [List.getElem_toArray, List.getElem_cons_zero, List.getElem_cons_succ, Act.put, List.setIfInBounds_toArray, List.set_cons_zero, List.set_cons_succ]
        refine wpAnyH_done (by kernel_rfl) ?_ _
        refine NoPanic.normal ?_
        refine hQQ.out _ _ ?_
        clear hQQ
        have cm : q2.cell? ⟨gm, 1, none⟩ = some (.slice none 0 0) := (KB_m_109.out.since Z2.out).cell 1
        go_wp2_with fail
        refine (mawake_any _ (tabAt_keep HT.out (keep_of_below (bel_trans BEL109.out Z2.out)))).mono ?_
        rintro e ww9 ⟨rfl, b9⟩
        go_wp2_with fail
        go_ret
        exact ⟨rfl, bel_trans (bel_trans BEL109.out Z2.out) b9⟩
      have E1 : Hid (∀ w1, Below v9.heap.size v9 w1 → Calls Tryd.prog 12 #[.agg #[.int .u64 S, .slice A R cap]] w1 fun e w' => e = .returned (.bool true) ∧ Below v9.heap.size v9 w') := fun w1 b1 => (rright_any w1 _ S R _ _ (FA_a_109.out.since b1).at R2 LL.out).mono fun e w' h => ⟨(told h true ⟨fun _ => rp, fun _ => rfl⟩).1, bel_trans b1 (told h true ⟨fun _ => rp, fun _ => rfl⟩).2⟩
      have E2 : Hid (∀ w1, Below v9.heap.size v9 w1 → Calls Tryd.prog 12 #[.agg #[.int .u64 S', .slice A' R' cap']] w1 fun e w' => e = .returned (.bool true) ∧ Below v9.heap.size v9 w') := fun w1 b1 => (rright_any w1 _ S' R' _ _ (FA_b_109.out.since b1).at R2' LL'.out).mono fun e w' h => ⟨(told h true ⟨fun _ => rq, fun _ => rfl⟩).1, bel_trans b1 (told h true ⟨fun _ => rq, fun _ => rfl⟩).2⟩
      have p1 : 0 < R := by have := rp.1; omega
      have p2 : 0 < R' := by have := rq.1; omega
      obtain ⟨rfl, A2, cap2, b2, o2, d1, _⟩ := RA.out 0 p1
      obtain ⟨rfl, A3, cap3, b3, o3, d3, _⟩ := RB.out 0 p2
      rw [Nat.add_zero] at d1 d3
      obtain ⟨n, hn⟩ : ∃ n, n = L 0 := ⟨_, rfl⟩
      obtain ⟨n', hn'⟩ : ∃ n', n' = L' 0 := ⟨_, rfl⟩
      rw [← hn] at d1
      rw [← hn'] at d3
      have D1 : Hid (w.cell? ⟨bq, oq, none⟩ = some (.slice A2 n cap2)) := d1
      have D3 : Hid (w.cell? ⟨bq', oq', none⟩ = some (.slice A3 n' cap3)) := d3
      have i1 : (0 : Int) < (R : Int) := by omega
      have i2 : (0 : Int) < (R' : Int) := by omega
      have i3 : 0 < R := by omega
      have i4 : 0 < R' := by omega
      clear d1 d3
      by_cases hS : S = S'
      rotate_left
      · have ne : (S != S') = true := by simp; omega
        clear hS
        clear hok rp rq LL LL' hn hn'
        clear FA_a_109 FA_b_109 HF HG RA RB
        go_wp2_with fail
        refine letterQ ?_
        intro QQ hQQ
        have Z0 : Hid (Below v9.heap.size v9 v9.drew) := (Below.refl _ _).drew
        refine wp_region_held_drew (S := fun w2 => Below v9.heap.size v9 w2) (by kernel_rfl) Z0.out (fun hHeld => ?_)
        clear hHeld
        generalize v9.drew = q0 at Z0 ⊢
        refine wpAnyH_take (i := 0) (v := ?_) rfl (by kernel_rfl) (by kernel_rfl) (by kernel_rfl) (fun _ _ _ h => h) (Or.inl ⟨by rfl, ?_⟩) Z0.out ?_
        rotate_left
        · intro wq hSw; have cl0 := (KB_x_109.out.since hSw).cell 0; have cl1 := (KB_x_109.out.since hSw).cell 1; go_simp; first | done | with_reducible rfl
        simp only [List.getElem_toArray, List.getElem_cons_zero, Act.put, List.setIfInBounds_toArray, List.set_cons_zero, List.set_cons_succ]
        refine wpAnyH_ready (rs := [1]) (by kernel_rfl) (by simp) ?_
        refine AllReadyH.cons rfl (fun K0 hK0 => ?_) ?_
        rotate_left
        · exact AllReadyH.nil
        refine step_func 12 #[.agg #[.int .u64 S, .slice (some ⟨bq, oq, none⟩) R cap]] (by rfl) rfl (by simp [Act.eval]) (fun _ _ => by kernel_rfl) ?_
        refine (E1.out _ Z0.out).mono ?_
        rintro e q1 ⟨rfl, cc⟩
        have Z1 : Hid (Below v9.heap.size v9 q1) := cc
        clear cc
        refine ⟨_, rfl, ?_⟩
        refine hK0.out _ _ Z1.out (fun hHeld => ?_)
        clear hK0 K0 hHeld
        refine wpAnyH_take (i := 2) (v := ?_) rfl (by kernel_rfl) (by kernel_rfl) (by kernel_rfl) (fun _ _ _ h => h) (Or.inl ⟨by rfl, ?_⟩) Z1.out ?_
        rotate_left
        · intro wq hSw; go_simp; first | done | with_reducible rfl
        simp only [List.getElem_toArray, List.getElem_cons_zero, List.getElem_cons_succ, Act.put, List.setIfInBounds_toArray, List.set_cons_zero, List.set_cons_succ]
        refine wpAnyH_take (i := 3) (v := ?_) rfl (by kernel_rfl) (by kernel_rfl) (by kernel_rfl) (fun _ _ _ h => h) (Or.inl ⟨by rfl, ?_⟩) Z1.out ?_
        rotate_left
        · intro wq hSw; go_simp; first | done | with_reducible rfl
        simp only [List.getElem_toArray, List.getElem_cons_zero, List.getElem_cons_succ, Act.put, List.setIfInBounds_toArray, List.set_cons_zero, List.set_cons_succ]
        refine wpAnyH_take (i := 4) (v := ?_) rfl (by kernel_rfl) (by kernel_rfl) (by kernel_rfl) (fun _ _ _ h => h) (Or.inl ⟨by rfl, ?_⟩) Z1.out ?_
        rotate_left
        · intro wq hSw; have cl0 := (KB_y_109.out.since hSw).cell 0; have cl1 := (KB_y_109.out.since hSw).cell 1; go_simp; first | done | with_reducible rfl
        simp only [List.getElem_toArray, List.getElem_cons_zero, List.getElem_cons_succ, Act.put, List.setIfInBounds_toArray, List.set_cons_zero, List.set_cons_succ]
        refine wpAnyH_ready (rs := [5]) (by kernel_rfl) (by simp) ?_
        refine AllReadyH.cons rfl (fun K0 hK0 => ?_) ?_
        rotate_left
        · exact AllReadyH.nil
        refine step_func 12 #[.agg #[.int .u64 S', .slice (some ⟨bq', oq', none⟩) R' cap']] (by rfl) rfl (by simp [Act.eval]) (fun _ _ => by kernel_rfl) ?_
        refine (E2.out _ Z1.out).mono ?_
        rintro e q2 ⟨rfl, cc⟩
        have Z2 : Hid (Below v9.heap.size v9 q2) := cc
        clear cc
        refine ⟨_, rfl, ?_⟩
        refine hK0.out _ _ Z2.out (fun hHeld => ?_)
        clear hK0 K0 hHeld
        refine wpAnyH_take (i := 6) (v := ?_) rfl (by kernel_rfl) (by kernel_rfl) (by kernel_rfl) (fun _ _ _ h => h) (Or.inl ⟨by rfl, ?_⟩) Z2.out ?_
        rotate_left
        · intro wq hSw; go_simp; first | done | with_reducible rfl
        simp only [List.getElem_toArray, List.getElem_cons_zero, List.getElem_cons_succ, Act.put, List.setIfInBounds_toArray, List.set_cons_zero, List.set_cons_succ]
        refine wpAnyH_take (i := 7) (v := ?_) rfl (by kernel_rfl) (by kernel_rfl) (by kernel_rfl) (fun _ _ _ h => h) (Or.inl ⟨by rfl, ?_⟩) Z2.out ?_
        rotate_left
        · intro wq hSw; go_simp; first | done | with_reducible rfl
        simp only [List.getElem_toArray, List.getElem_cons_zero, List.getElem_cons_succ, Act.put, List.setIfInBounds_toArray, List.set_cons_zero, List.set_cons_succ]
        refine wpAnyH_take (i := 8) (v := ?_) rfl (by kernel_rfl) (by kernel_rfl) (by kernel_rfl) (fun _ _ _ h => h) (Or.inl ⟨by rfl, ?_⟩) Z2.out ?_
        rotate_left
        · intro wq hSw; go_simp; first | done | with_reducible rfl
        simp only [List.getElem_toArray, List.getElem_cons_zero, List.getElem_cons_succ, Act.put, List.setIfInBounds_toArray, List.set_cons_zero, List.set_cons_succ]
        refine wpAnyH_take (i := 9) (v := ?_) rfl (by kernel_rfl) (by kernel_rfl) (by kernel_rfl) (fun _ _ _ h => h) (Or.inl ⟨by rfl, ?_⟩) Z2.out ?_
        rotate_left
        · intro wq hSw; go_simp; first | done | with_reducible rfl
        simp only [List.getElem_toArray, List.getElem_cons_zero, List.getElem_cons_succ, Act.put, List.setIfInBounds_toArray, List.set_cons_zero, List.set_cons_succ]
        refine wpAnyH_take (i := 10) (v := ?_) rfl (by kernel_rfl) (by kernel_rfl) (by kernel_rfl) (fun _ _ _ h => h) (Or.inl ⟨by rfl, ?_⟩) Z2.out ?_
        rotate_left
        · intro wq hSw; have cl0 := (KB_bx_109.out.since hSw).cell 0; go_simp; first | done | with_reducible rfl
        simp only [List.getElem_toArray, List.getElem_cons_zero, List.getElem_cons_succ, Act.put, List.setIfInBounds_toArray, List.set_cons_zero, List.set_cons_succ]
        refine wpAnyH_take (i := 11) (v := ?_) rfl (by kernel_rfl) (by kernel_rfl) (by kernel_rfl) (fun _ _ _ h => h) (Or.inl ⟨by rfl, ?_⟩) Z2.out ?_
        rotate_left
        · intro wq hSw; go_simp; first | done | with_reducible rfl
        simp only [List.getElem_toArray, List.getElem_cons_zero, List.getElem_cons_succ, Act.put, List.setIfInBounds_toArray, List.set_cons_zero, List.set_cons_succ]
        refine wpAnyH_take (i := 12) (v := ?_) rfl (by kernel_rfl) (by kernel_rfl) (by kernel_rfl) (fun _ _ _ h => h) (Or.inl ⟨by rfl, ?_⟩) Z2.out ?_
        rotate_left
        · intro wq hSw; have cl0 := (KB_by_109.out.since hSw).cell 0; go_simp; first | done | with_reducible rfl
        simp only [List.getElem_toArray, List.getElem_cons_zero, List.getElem_cons_succ, Act.put, List.setIfInBounds_toArray, List.set_cons_zero, List.set_cons_succ]
        refine wpAnyH_take (i := 13) (v := ?_) rfl (by kernel_rfl) (by kernel_rfl) (by kernel_rfl) (fun _ _ _ h => h) (Or.inl ⟨by rfl, ?_⟩) Z2.out ?_
        rotate_left
        · intro wq hSw; go_simp; first | done | with_reducible rfl
        simp only [List.getElem_toArray, List.getElem_cons_zero, List.getElem_cons_succ, Act.put, List.setIfInBounds_toArray, List.set_cons_zero, List.set_cons_succ]
        refine wpAnyH_take (i := 14) (v := ?_) rfl (by kernel_rfl) (by kernel_rfl) (by kernel_rfl) (fun _ _ _ h => h) (Or.inl ⟨by rfl, ?_⟩) Z2.out ?_
        rotate_left
        · intro wq hSw; go_simp; first | done | with_reducible rfl
        simp only [List.getElem_toArray, List.getElem_cons_zero, List.getElem_cons_succ, Act.put, List.setIfInBounds_toArray, List.set_cons_zero, List.set_cons_succ]
        refine wpAnyH_take (i := 15) (v := ?_) rfl (by kernel_rfl) (by kernel_rfl) (by kernel_rfl) (fun _ _ _ h => h) (Or.inl ⟨by rfl, ?_⟩) Z2.out ?_
        rotate_left
        · intro wq hSw; go_simp; first | done | with_reducible rfl
        simp only [List.getElem_toArray, List.getElem_cons_zero, List.getElem_cons_succ, Act.put, List.setIfInBounds_toArray, List.set_cons_zero, List.set_cons_succ]
        refine wpAnyH_take (i := 16) (v := undef) rfl (by kernel_rfl) (by kernel_rfl) (by kernel_rfl) (fun _ _ _ h => h) (Or.inr ⟨by rfl, rfl⟩) Z2.out ?_
        simp only [List.getElem_toArray, List.getElem_cons_zero, List.getElem_cons_succ, Act.put, List.setIfInBounds_toArray, List.set_cons_zero, List.set_cons_succ]
        refine wpAnyH_take (i := 17) (v := undef) rfl (by kernel_rfl) (by kernel_rfl) (by kernel_rfl) (fun _ _ _ h => h) (Or.inr ⟨by rfl, rfl⟩) Z2.out ?_
        simp only [List.getElem_toArray, List.getElem_cons_zero, List.getElem_cons_succ, Act.put, List.setIfInBounds_toArray, List.set_cons_zero, List.set_cons_succ]
        refine wpAnyH_take (i := 18) (v := undef) rfl (by kernel_rfl) (by kernel_rfl) (by kernel_rfl) (fun _ _ _ h => h) (Or.inr ⟨by rfl, rfl⟩) Z2.out ?_
        simp only [List.getElem_toArray, List.getElem_cons_zero, List.getElem_cons_succ, Act.put, List.setIfInBounds_toArray, List.set_cons_zero, List.set_cons_succ]
        refine wpAnyH_take (i := 19) (v := undef) rfl (by kernel_rfl) (by kernel_rfl) (by kernel_rfl) (fun _ _ _ h => h) (Or.inr ⟨by rfl, rfl⟩) Z2.out ?_
        simp only [List.getElem_toArray, List.getElem_cons_zero, List.getElem_cons_succ, Act.put, List.setIfInBounds_toArray, List.set_cons_zero, List.set_cons_succ]
        refine wpAnyH_take (i := 20) (v := undef) rfl (by kernel_rfl) (by kernel_rfl) (by kernel_rfl) (fun _ _ _ h => h) (Or.inr ⟨by rfl, rfl⟩) Z2.out ?_
        simp only [List.getElem_toArray, List.getElem_cons_zero, List.getElem_cons_succ, Act.put, List.setIfInBounds_toArray, List.set_cons_zero, List.set_cons_succ]
        refine wpAnyH_take (i := 21) (v := undef) rfl (by kernel_rfl) (by kernel_rfl) (by kernel_rfl) (fun _ _ _ h => h) (Or.inr ⟨by rfl, rfl⟩) Z2.out ?_
        simp only [List.getElem_toArray, List.getElem_cons_zero, List.getElem_cons_succ, Act.put, List.setIfInBounds_toArray, List.set_cons_zero, List.set_cons_succ]
        refine wpAnyH_take (i := 22) (v := undef) rfl (by kernel_rfl) (by kernel_rfl) (by kernel_rfl) (fun _ _ _ h => h) (Or.inr ⟨by rfl, rfl⟩) Z2.out ?_
        simp only [List.getElem_toArray, List.getElem_cons_zero, List.getElem_cons_succ, Act.put, List.setIfInBounds_toArray, List.set_cons_zero, List.set_cons_succ]
        refine wpAnyH_take (i := 23) (v := ?_) rfl (by kernel_rfl) (by kernel_rfl) (by kernel_rfl) (fun _ _ _ h => h) (Or.inl ⟨by rfl, ?_⟩) Z2.out ?_
        rotate_left
        · intro wq hSw; go_simp; first | done | with_reducible rfl
        simp only [List.getElem_toArray, List.getElem_cons_zero, List.getElem_cons_succ, Act.put, List.setIfInBounds_toArray, List.set_cons_zero, List.set_cons_succ]
        refine wpAnyH_take (i := 24) (v := ?_) rfl (by kernel_rfl) (by kernel_rfl) (by kernel_rfl) (fun _ _ _ h => h) (Or.inl ⟨by rfl, ?_⟩) Z2.out ?_
        rotate_left
        · intro wq hSw; go_simp; first | done | with_reducible rfl
        simp only [List.getElem_toArray, List.getElem_cons_zero, List.getElem_cons_succ, Act.put, List.setIfInBounds_toArray, List.set_cons_zero, List.set_cons_succ]
        refine wpAnyH_take (i := 25) (v := undef) rfl (by kernel_rfl) (by kernel_rfl) (by kernel_rfl) (fun _ _ _ h => h) (Or.inr ⟨by rfl, rfl⟩) Z2.out ?_
        simp only [List.getElem_toArray, List.getElem_cons_zero, List.getElem_cons_succ, Act.put, List.setIfInBounds_toArray, List.set_cons_zero, List.set_cons_succ]
        refine wpAnyH_take (i := 26) (v := undef) rfl (by kernel_rfl) (by kernel_rfl) (by kernel_rfl) (fun _ _ _ h => h) (Or.inr ⟨by rfl, rfl⟩) Z2.out ?_
        simp only [List.getElem_toArray, List.getElem_cons_zero, List.getElem_cons_succ, Act.put, List.setIfInBounds_toArray, List.set_cons_zero, List.set_cons_succ]
        refine wpAnyH_take (i := 27) (v := undef) rfl (by kernel_rfl) (by kernel_rfl) (by kernel_rfl) (fun _ _ _ h => h) (Or.inr ⟨by rfl, rfl⟩) Z2.out ?_
        simp only [List.getElem_toArray, List.getElem_cons_zero, List.getElem_cons_succ, Act.put, List.setIfInBounds_toArray, List.set_cons_zero, List.set_cons_succ]
        refine wpAnyH_take (i := 28) (v := undef) rfl (by kernel_rfl) (by kernel_rfl) (by kernel_rfl) (fun _ _ _ h => h) (Or.inr ⟨by rfl, rfl⟩) Z2.out ?_
        simp only [List.getElem_toArray, List.getElem_cons_zero, List.getElem_cons_succ, Act.put, List.setIfInBounds_toArray, List.set_cons_zero, List.set_cons_succ]
        refine wpAnyH_take (i := 29) (v := undef) rfl (by kernel_rfl) (by kernel_rfl) (by kernel_rfl) (fun _ _ _ h => h) (Or.inr ⟨by rfl, rfl⟩) Z2.out ?_
        simp only [List.getElem_toArray, List.getElem_cons_zero, List.getElem_cons_succ, Act.put, List.setIfInBounds_toArray, List.set_cons_zero, List.set_cons_succ]
        refine wpAnyH_take (i := 30) (v := undef) rfl (by kernel_rfl) (by kernel_rfl) (by kernel_rfl) (fun _ _ _ h => h) (Or.inr ⟨by rfl, rfl⟩) Z2.out ?_
        simp only [List.getElem_toArray, List.getElem_cons_zero, List.getElem_cons_succ, Act.put, List.setIfInBounds_toArray, List.set_cons_zero, List.set_cons_succ]
        refine wpAnyH_take (i := 31) (v := undef) rfl (by kernel_rfl) (by kernel_rfl) (by kernel_rfl) (fun _ _ _ h => h) (Or.inr ⟨by rfl, rfl⟩) Z2.out ?_
        simp only [List.getElem_toArray, List.getElem_cons_zero, List.getElem_cons_succ, Act.put, List.setIfInBounds_toArray, List.set_cons_zero, List.set_cons_succ]
        refine wpAnyH_take (i := 32) (v := undef) rfl (by kernel_rfl) (by kernel_rfl) (by kernel_rfl) (fun _ _ _ h => h) (Or.inr ⟨by rfl, rfl⟩) Z2.out ?_
        simp only [List.getElem_toArray, List.getElem_cons_zero, List.getElem_cons_succ, Act.put, List.setIfInBounds_toArray, List.set_cons_zero, List.set_cons_succ]
        refine wpAnyH_take (i := 33) (v := undef) rfl (by kernel_rfl) (by kernel_rfl) (by kernel_rfl) (fun _ _ _ h => h) (Or.inr ⟨by rfl, rfl⟩) Z2.out ?_
        simp only [List.getElem_toArray, List.getElem_cons_zero, List.getElem_cons_succ, Act.put, List.setIfInBounds_toArray, List.set_cons_zero, List.set_cons_succ]
        refine wpAnyH_take (i := 34) (v := undef) rfl (by kernel_rfl) (by kernel_rfl) (by kernel_rfl) (fun _ _ _ h => h) (Or.inr ⟨by rfl, rfl⟩) Z2.out ?_
        simp only [List.getElem_toArray, List.getElem_cons_zero, List.getElem_cons_succ, Act.put, List.setIfInBounds_toArray, List.set_cons_zero, List.set_cons_succ]
        refine wpAnyH_take (i := 35) (v := undef) rfl (by kernel_rfl) (by kernel_rfl) (by kernel_rfl) (fun _ _ _ h => h) (Or.inr ⟨by rfl, rfl⟩) Z2.out ?_
        simp only [List.getElem_toArray, List.getElem_cons_zero, List.getElem_cons_succ, Act.put, List.setIfInBounds_toArray, List.set_cons_zero, List.set_cons_succ]
        refine wpAnyH_take (i := 36) (v := ?_) rfl (by kernel_rfl) (by kernel_rfl) (by kernel_rfl) (fun _ _ _ h => h) (Or.inl ⟨by rfl, ?_⟩) Z2.out ?_
        rotate_left
        · intro wq hSw; go_simp; first | done | with_reducible rfl
        simp only [List.getElem_toArray, List.getElem_cons_zero, List.getElem_cons_succ, Act.put, List.setIfInBounds_toArray, List.set_cons_zero, List.set_cons_succ]
        refine wpAnyH_done (by kernel_rfl) ?_ _
        refine NoPanic.normal ?_
        refine hQQ.out _ _ ?_
        clear hQQ
        have cm : q2.cell? ⟨gm, 1, none⟩ = some (.slice none 0 0) := (KB_m_109.out.since Z2.out).cell 1
        go_wp2_with fail
        refine (mawake_any _ (tabAt_keep HT.out (keep_of_below (bel_trans BEL109.out Z2.out)))).mono ?_
        rintro e ww9 ⟨rfl, b9⟩
        go_wp2_with fail
        go_ret
        exact ⟨rfl, bel_trans (bel_trans BEL109.out Z2.out) b9⟩
      have eq3 : (S != S') = false := by simp; omega
      have HH3 : Hid (S = S') := hS
      clear hS
      by_cases hR : R = R'
      rotate_left
      · have ne : ((R : Int) != (R' : Int)) = true := by simp; omega
        clear hR
        clear hok rp rq LL LL' hn hn'
        clear FA_a_109 FA_b_109 HF HG RA RB
        go_wp2_with fail
        refine letterQ ?_
        intro QQ hQQ
        have Z0 : Hid (Below v9.heap.size v9 v9.drew) := (Below.refl _ _).drew
        refine wp_region_held_drew (S := fun w2 => Below v9.heap.size v9 w2) (by kernel_rfl) Z0.out (fun hHeld => ?_)
        clear hHeld
        generalize v9.drew = q0 at Z0 ⊢
        refine wpAnyH_take (i := 0) (v := ?_) rfl (by kernel_rfl) (by kernel_rfl) (by kernel_rfl) (fun _ _ _ h => h) (Or.inl ⟨by rfl, ?_⟩) Z0.out ?_
        rotate_left
        · intro wq hSw; have cl0 := (KB_x_109.out.since hSw).cell 0; have cl1 := (KB_x_109.out.since hSw).cell 1; go_simp; first | done | with_reducible rfl
        simp only [List.getElem_toArray, List.getElem_cons_zero, Act.put, List.setIfInBounds_toArray, List.set_cons_zero, List.set_cons_succ]
        refine wpAnyH_ready (rs := [1]) (by kernel_rfl) (by simp) ?_
        refine AllReadyH.cons rfl (fun K0 hK0 => ?_) ?_
        rotate_left
        · exact AllReadyH.nil
        refine step_func 12 #[.agg #[.int .u64 S, .slice (some ⟨bq, oq, none⟩) R cap]] (by rfl) rfl (by simp [Act.eval]) (fun _ _ => by kernel_rfl) ?_
        refine (E1.out _ Z0.out).mono ?_
        rintro e q1 ⟨rfl, cc⟩
        have Z1 : Hid (Below v9.heap.size v9 q1) := cc
        clear cc
        refine ⟨_, rfl, ?_⟩
        refine hK0.out _ _ Z1.out (fun hHeld => ?_)
        clear hK0 K0 hHeld
        refine wpAnyH_take (i := 2) (v := ?_) rfl (by kernel_rfl) (by kernel_rfl) (by kernel_rfl) (fun _ _ _ h => h) (Or.inl ⟨by rfl, ?_⟩) Z1.out ?_
        rotate_left
        · intro wq hSw; go_simp; first | done | with_reducible rfl
        simp only [List.getElem_toArray, List.getElem_cons_zero, List.getElem_cons_succ, Act.put, List.setIfInBounds_toArray, List.set_cons_zero, List.set_cons_succ]
        refine wpAnyH_take (i := 3) (v := ?_) rfl (by kernel_rfl) (by kernel_rfl) (by kernel_rfl) (fun _ _ _ h => h) (Or.inl ⟨by rfl, ?_⟩) Z1.out ?_
        rotate_left
        · intro wq hSw; go_simp; first | done | with_reducible rfl
        simp only [List.getElem_toArray, List.getElem_cons_zero, List.getElem_cons_succ, Act.put, List.setIfInBounds_toArray, List.set_cons_zero, List.set_cons_succ]
        refine wpAnyH_take (i := 4) (v := ?_) rfl (by kernel_rfl) (by kernel_rfl) (by kernel_rfl) (fun _ _ _ h => h) (Or.inl ⟨by rfl, ?_⟩) Z1.out ?_
        rotate_left
        · intro wq hSw; have cl0 := (KB_y_109.out.since hSw).cell 0; have cl1 := (KB_y_109.out.since hSw).cell 1; go_simp; first | done | with_reducible rfl
        simp only [List.getElem_toArray, List.getElem_cons_zero, List.getElem_cons_succ, Act.put, List.setIfInBounds_toArray, List.set_cons_zero, List.set_cons_succ]
        refine wpAnyH_ready (rs := [5]) (by kernel_rfl) (by simp) ?_
        refine AllReadyH.cons rfl (fun K0 hK0 => ?_) ?_
        rotate_left
        · exact AllReadyH.nil
        refine step_func 12 #[.agg #[.int .u64 S', .slice (some ⟨bq', oq', none⟩) R' cap']] (by rfl) rfl (by simp [Act.eval]) (fun _ _ => by kernel_rfl) ?_
        refine (E2.out _ Z1.out).mono ?_
        rintro e q2 ⟨rfl, cc⟩
        have Z2 : Hid (Below v9.heap.size v9 q2) := cc
        clear cc
        refine ⟨_, rfl, ?_⟩
        refine hK0.out _ _ Z2.out (fun hHeld => ?_)
        clear hK0 K0 hHeld
        refine wpAnyH_take (i := 6) (v := ?_) rfl (by kernel_rfl) (by kernel_rfl) (by kernel_rfl) (fun _ _ _ h => h) (Or.inl ⟨by rfl, ?_⟩) Z2.out ?_
        rotate_left
        · intro wq hSw; go_simp; first | done | with_reducible rfl
        simp only [List.getElem_toArray, List.getElem_cons_zero, List.getElem_cons_succ, Act.put, List.setIfInBounds_toArray, List.set_cons_zero, List.set_cons_succ]
        refine wpAnyH_take (i := 7) (v := ?_) rfl (by kernel_rfl) (by kernel_rfl) (by kernel_rfl) (fun _ _ _ h => h) (Or.inl ⟨by rfl, ?_⟩) Z2.out ?_
        rotate_left
        · intro wq hSw; go_simp; first | done | with_reducible rfl
        simp only [List.getElem_toArray, List.getElem_cons_zero, List.getElem_cons_succ, Act.put, List.setIfInBounds_toArray, List.set_cons_zero, List.set_cons_succ]
        refine wpAnyH_take (i := 8) (v := ?_) rfl (by kernel_rfl) (by kernel_rfl) (by kernel_rfl) (fun _ _ _ h => h) (Or.inl ⟨by rfl, ?_⟩) Z2.out ?_
        rotate_left
        · intro wq hSw; go_simp; first | done | with_reducible rfl
        simp only [List.getElem_toArray, List.getElem_cons_zero, List.getElem_cons_succ, Act.put, List.setIfInBounds_toArray, List.set_cons_zero, List.set_cons_succ]
        refine wpAnyH_take (i := 9) (v := ?_) rfl (by kernel_rfl) (by kernel_rfl) (by kernel_rfl) (fun _ _ _ h => h) (Or.inl ⟨by rfl, ?_⟩) Z2.out ?_
        rotate_left
        · intro wq hSw; go_simp; first | done | with_reducible rfl
        simp only [List.getElem_toArray, List.getElem_cons_zero, List.getElem_cons_succ, Act.put, List.setIfInBounds_toArray, List.set_cons_zero, List.set_cons_succ]
        refine wpAnyH_take (i := 10) (v := ?_) rfl (by kernel_rfl) (by kernel_rfl) (by kernel_rfl) (fun _ _ _ h => h) (Or.inl ⟨by rfl, ?_⟩) Z2.out ?_
        rotate_left
        · intro wq hSw; have cl0 := (KB_bx_109.out.since hSw).cell 0; go_simp; first | done | with_reducible rfl
        simp only [List.getElem_toArray, List.getElem_cons_zero, List.getElem_cons_succ, Act.put, List.setIfInBounds_toArray, List.set_cons_zero, List.set_cons_succ]
        refine wpAnyH_take (i := 11) (v := ?_) rfl (by kernel_rfl) (by kernel_rfl) (by kernel_rfl) (fun _ _ _ h => h) (Or.inl ⟨by rfl, ?_⟩) Z2.out ?_
        rotate_left
        · intro wq hSw; go_simp; first | done | with_reducible rfl
        simp only [List.getElem_toArray, List.getElem_cons_zero, List.getElem_cons_succ, Act.put, List.setIfInBounds_toArray, List.set_cons_zero, List.set_cons_succ]
        refine wpAnyH_take (i := 12) (v := ?_) rfl (by kernel_rfl) (by kernel_rfl) (by kernel_rfl) (fun _ _ _ h => h) (Or.inl ⟨by rfl, ?_⟩) Z2.out ?_
        rotate_left
        · intro wq hSw; have cl0 := (KB_by_109.out.since hSw).cell 0; go_simp; first | done | with_reducible rfl
        simp only [List.getElem_toArray, List.getElem_cons_zero, List.getElem_cons_succ, Act.put, List.setIfInBounds_toArray, List.set_cons_zero, List.set_cons_succ]
        refine wpAnyH_take (i := 13) (v := ?_) rfl (by kernel_rfl) (by kernel_rfl) (by kernel_rfl) (fun _ _ _ h => h) (Or.inl ⟨by rfl, ?_⟩) Z2.out ?_
        rotate_left
        · intro wq hSw; go_simp; first | done | with_reducible rfl
        simp only [List.getElem_toArray, List.getElem_cons_zero, List.getElem_cons_succ, Act.put, List.setIfInBounds_toArray, List.set_cons_zero, List.set_cons_succ]
        refine wpAnyH_take (i := 14) (v := ?_) rfl (by kernel_rfl) (by kernel_rfl) (by kernel_rfl) (fun _ _ _ h => h) (Or.inl ⟨by rfl, ?_⟩) Z2.out ?_
        rotate_left
        · intro wq hSw; go_simp; first | done | with_reducible rfl
        simp only [List.getElem_toArray, List.getElem_cons_zero, List.getElem_cons_succ, Act.put, List.setIfInBounds_toArray, List.set_cons_zero, List.set_cons_succ]
        refine wpAnyH_take (i := 15) (v := ?_) rfl (by kernel_rfl) (by kernel_rfl) (by kernel_rfl) (fun _ _ _ h => h) (Or.inl ⟨by rfl, ?_⟩) Z2.out ?_
        rotate_left
        · intro wq hSw; go_simp; first | done | with_reducible rfl
        simp only [List.getElem_toArray, List.getElem_cons_zero, List.getElem_cons_succ, Act.put, List.setIfInBounds_toArray, List.set_cons_zero, List.set_cons_succ]
        refine wpAnyH_take (i := 16) (v := ?_) rfl (by kernel_rfl) (by kernel_rfl) (by kernel_rfl) (fun _ _ _ h => h) (Or.inl ⟨by rfl, ?_⟩) Z2.out ?_
        rotate_left
        · intro wq hSw; go_simp; first | done | with_reducible rfl
        simp only [List.getElem_toArray, List.getElem_cons_zero, List.getElem_cons_succ, Act.put, List.setIfInBounds_toArray, List.set_cons_zero, List.set_cons_succ]
        refine wpAnyH_take (i := 17) (v := ?_) rfl (by kernel_rfl) (by kernel_rfl) (by kernel_rfl) (fun _ _ _ h => h) (Or.inl ⟨by rfl, ?_⟩) Z2.out ?_
        rotate_left
        · intro wq hSw; have cl0 := (KB_bx_109.out.since hSw).cell 1; go_simp; first | done | with_reducible rfl
        simp only [List.getElem_toArray, List.getElem_cons_zero, List.getElem_cons_succ, Act.put, List.setIfInBounds_toArray, List.set_cons_zero, List.set_cons_succ]
        refine wpAnyH_take (i := 18) (v := ?_) rfl (by kernel_rfl) (by kernel_rfl) (by kernel_rfl) (fun _ _ _ h => h) (Or.inl ⟨by rfl, ?_⟩) Z2.out ?_
        rotate_left
        · intro wq hSw; go_simp; first | done | with_reducible rfl
        simp only [List.getElem_toArray, List.getElem_cons_zero, List.getElem_cons_succ, Act.put, List.setIfInBounds_toArray, List.set_cons_zero, List.set_cons_succ]
        refine wpAnyH_take (i := 19) (v := ?_) rfl (by kernel_rfl) (by kernel_rfl) (by kernel_rfl) (fun _ _ _ h => h) (Or.inl ⟨by rfl, ?_⟩) Z2.out ?_
        rotate_left
        · intro wq hSw; go_simp; first | done | with_reducible rfl
        simp only [List.getElem_toArray, List.getElem_cons_zero, List.getElem_cons_succ, Act.put, List.setIfInBounds_toArray, List.set_cons_zero, List.set_cons_succ]
        refine wpAnyH_take (i := 20) (v := ?_) rfl (by kernel_rfl) (by kernel_rfl) (by kernel_rfl) (fun _ _ _ h => h) (Or.inl ⟨by rfl, ?_⟩) Z2.out ?_
        rotate_left
        · intro wq hSw; have cl0 := (KB_by_109.out.since hSw).cell 1; go_simp; first | done | with_reducible rfl
        simp only [List.getElem_toArray, List.getElem_cons_zero, List.getElem_cons_succ, Act.put, List.setIfInBounds_toArray, List.set_cons_zero, List.set_cons_succ]
        refine wpAnyH_take (i := 21) (v := ?_) rfl (by kernel_rfl) (by kernel_rfl) (by kernel_rfl) (fun _ _ _ h => h) (Or.inl ⟨by rfl, ?_⟩) Z2.out ?_
        rotate_left
        · intro wq hSw; go_simp; first | done | with_reducible rfl
        simp only [List.getElem_toArray, List.getElem_cons_zero, List.getElem_cons_succ, Act.put, List.setIfInBounds_toArray, List.set_cons_zero, List.set_cons_succ]
        refine wpAnyH_take (i := 22) (v := ?_) rfl (by kernel_rfl) (by kernel_rfl) (by kernel_rfl) (fun _ _ _ h => h) (Or.inl ⟨by rfl, ?_⟩) Z2.out ?_
        rotate_left
        · intro wq hSw; go_simp; first | done | with_reducible rfl
        simp only [List.getElem_toArray, List.getElem_cons_zero, List.getElem_cons_succ, Act.put, List.setIfInBounds_toArray, List.set_cons_zero, List.set_cons_succ]
        refine wpAnyH_take (i := 23) (v := ?_) rfl (by kernel_rfl) (by kernel_rfl) (by kernel_rfl) (fun _ _ _ h => h) (Or.inl ⟨by rfl, ?_⟩) Z2.out ?_
        rotate_left
        · intro wq hSw; go_simp; first | done | with_reducible rfl
        simp only [List.getElem_toArray, List.getElem_cons_zero, List.getElem_cons_succ, Act.put, List.setIfInBounds_toArray, List.set_cons_zero, List.set_cons_succ]
        refine wpAnyH_take (i := 24) (v := ?_) rfl (by kernel_rfl) (by kernel_rfl) (by kernel_rfl) (fun _ _ _ h => h) (Or.inl ⟨by rfl, ?_⟩) Z2.out ?_
        rotate_left
        · intro wq hSw; go_simp; first | done | with_reducible rfl
        simp only [List.getElem_toArray, List.getElem_cons_zero, List.getElem_cons_succ, Act.put, List.setIfInBounds_toArray, List.set_cons_zero, List.set_cons_succ]
        refine wpAnyH_take (i := 25) (v := undef) rfl (by kernel_rfl) (by kernel_rfl) (by kernel_rfl) (fun _ _ _ h => h) (Or.inr ⟨by rfl, rfl⟩) Z2.out ?_
        simp only [List.getElem_toArray, List.getElem_cons_zero, List.getElem_cons_succ, Act.put, List.setIfInBounds_toArray, List.set_cons_zero, List.set_cons_succ]
        refine wpAnyH_take (i := 26) (v := undef) rfl (by kernel_rfl) (by kernel_rfl) (by kernel_rfl) (fun _ _ _ h => h) (Or.inr ⟨by rfl, rfl⟩) Z2.out ?_
        simp only [List.getElem_toArray, List.getElem_cons_zero, List.getElem_cons_succ, Act.put, List.setIfInBounds_toArray, List.set_cons_zero, List.set_cons_succ]
        refine wpAnyH_take (i := 27) (v := undef) rfl (by kernel_rfl) (by kernel_rfl) (by kernel_rfl) (fun _ _ _ h => h) (Or.inr ⟨by rfl, rfl⟩) Z2.out ?_
        simp only [List.getElem_toArray, List.getElem_cons_zero, List.getElem_cons_succ, Act.put, List.setIfInBounds_toArray, List.set_cons_zero, List.set_cons_succ]
        refine wpAnyH_take (i := 28) (v := undef) rfl (by kernel_rfl) (by kernel_rfl) (by kernel_rfl) (fun _ _ _ h => h) (Or.inr ⟨by rfl, rfl⟩) Z2.out ?_
        simp only [List.getElem_toArray, List.getElem_cons_zero, List.getElem_cons_succ, Act.put, List.setIfInBounds_toArray, List.set_cons_zero, List.set_cons_succ]
        refine wpAnyH_take (i := 29) (v := undef) rfl (by kernel_rfl) (by kernel_rfl) (by kernel_rfl) (fun _ _ _ h => h) (Or.inr ⟨by rfl, rfl⟩) Z2.out ?_
        simp only [List.getElem_toArray, List.getElem_cons_zero, List.getElem_cons_succ, Act.put, List.setIfInBounds_toArray, List.set_cons_zero, List.set_cons_succ]
        refine wpAnyH_take (i := 30) (v := undef) rfl (by kernel_rfl) (by kernel_rfl) (by kernel_rfl) (fun _ _ _ h => h) (Or.inr ⟨by rfl, rfl⟩) Z2.out ?_
        simp only [List.getElem_toArray, List.getElem_cons_zero, List.getElem_cons_succ, Act.put, List.setIfInBounds_toArray, List.set_cons_zero, List.set_cons_succ]
        refine wpAnyH_take (i := 31) (v := undef) rfl (by kernel_rfl) (by kernel_rfl) (by kernel_rfl) (fun _ _ _ h => h) (Or.inr ⟨by rfl, rfl⟩) Z2.out ?_
        simp only [List.getElem_toArray, List.getElem_cons_zero, List.getElem_cons_succ, Act.put, List.setIfInBounds_toArray, List.set_cons_zero, List.set_cons_succ]
        refine wpAnyH_take (i := 32) (v := undef) rfl (by kernel_rfl) (by kernel_rfl) (by kernel_rfl) (fun _ _ _ h => h) (Or.inr ⟨by rfl, rfl⟩) Z2.out ?_
        simp only [List.getElem_toArray, List.getElem_cons_zero, List.getElem_cons_succ, Act.put, List.setIfInBounds_toArray, List.set_cons_zero, List.set_cons_succ]
        refine wpAnyH_take (i := 33) (v := undef) rfl (by kernel_rfl) (by kernel_rfl) (by kernel_rfl) (fun _ _ _ h => h) (Or.inr ⟨by rfl, rfl⟩) Z2.out ?_
        simp only [List.getElem_toArray, List.getElem_cons_zero, List.getElem_cons_succ, Act.put, List.setIfInBounds_toArray, List.set_cons_zero, List.set_cons_succ]
        refine wpAnyH_take (i := 34) (v := undef) rfl (by kernel_rfl) (by kernel_rfl) (by kernel_rfl) (fun _ _ _ h => h) (Or.inr ⟨by rfl, rfl⟩) Z2.out ?_
        simp only [List.getElem_toArray, List.getElem_cons_zero, List.getElem_cons_succ, Act.put, List.setIfInBounds_toArray, List.set_cons_zero, List.set_cons_succ]
        refine wpAnyH_take (i := 35) (v := undef) rfl (by kernel_rfl) (by kernel_rfl) (by kernel_rfl) (fun _ _ _ h => h) (Or.inr ⟨by rfl, rfl⟩) Z2.out ?_
        simp only [List.getElem_toArray, List.getElem_cons_zero, List.getElem_cons_succ, Act.put, List.setIfInBounds_toArray, List.set_cons_zero, List.set_cons_succ]
        refine wpAnyH_take (i := 36) (v := ?_) rfl (by kernel_rfl) (by kernel_rfl) (by kernel_rfl) (fun _ _ _ h => h) (Or.inl ⟨by rfl, ?_⟩) Z2.out ?_
        rotate_left
        · intro wq hSw; go_simp; first | done | with_reducible rfl
        simp only [List.getElem_toArray, List.getElem_cons_zero, List.getElem_cons_succ, Act.put, List.setIfInBounds_toArray, List.set_cons_zero, List.set_cons_succ]
        refine wpAnyH_done (by kernel_rfl) ?_ _
        refine NoPanic.normal ?_
        refine hQQ.out _ _ ?_
        clear hQQ
        have cm : q2.cell? ⟨gm, 1, none⟩ = some (.slice none 0 0) := (KB_m_109.out.since Z2.out).cell 1
        go_wp2_with fail
        refine (mawake_any _ (tabAt_keep HT.out (keep_of_below (bel_trans BEL109.out Z2.out)))).mono ?_
        rintro e ww9 ⟨rfl, b9⟩
        go_wp2_with fail
        go_ret
        exact ⟨rfl, bel_trans (bel_trans BEL109.out Z2.out) b9⟩
      have eq4 : ((R : Int) != (R' : Int)) = false := by simp; omega
      have HH4 : Hid (R = R') := hR
      clear hR
      have hN : ¬ n = n' := fun e => hok ⟨rp, rq, HH3.out, HH4.out, by rw [← hn, ← hn']; exact e⟩
      have ne : ((n : Int) != (n' : Int)) = true := by simp; omega
      clear hok rp rq LL LL' hn hn'
      clear FA_a_109 FA_b_109 HF HG RA RB
      go_wp2_with fail
      refine letterQ ?_
      intro QQ hQQ
      have Z0 : Hid (Below v9.heap.size v9 v9.drew) := (Below.refl _ _).drew
      refine wp_region_held_drew (S := fun w2 => Below v9.heap.size v9 w2) (by kernel_rfl) Z0.out (fun hHeld => ?_)
      clear hHeld
      generalize v9.drew = q0 at Z0 ⊢
      refine wpAnyH_take (i := 0) (v := ?_) rfl (by kernel_rfl) (by kernel_rfl) (by kernel_rfl) (fun _ _ _ h => h) (Or.inl ⟨by rfl, ?_⟩) Z0.out ?_
      rotate_left
      · intro wq hSw; have cl0 := (KB_x_109.out.since hSw).cell 0; have cl1 := (KB_x_109.out.since hSw).cell 1; go_simp; first | done | with_reducible rfl
      simp only [List.getElem_toArray, List.getElem_cons_zero, Act.put, List.setIfInBounds_toArray, List.set_cons_zero, List.set_cons_succ]
      refine wpAnyH_ready (rs := [1]) (by kernel_rfl) (by simp) ?_
      refine AllReadyH.cons rfl (fun K0 hK0 => ?_) ?_
      rotate_left
      · exact AllReadyH.nil
      refine step_func 12 #[.agg #[.int .u64 S, .slice (some ⟨bq, oq, none⟩) R cap]] (by rfl) rfl (by simp [Act.eval]) (fun _ _ => by kernel_rfl) ?_
      refine (E1.out _ Z0.out).mono ?_
      rintro e q1 ⟨rfl, cc⟩
      have Z1 : Hid (Below v9.heap.size v9 q1) := cc
      clear cc
      refine ⟨_, rfl, ?_⟩
      refine hK0.out _ _ Z1.out (fun hHeld => ?_)
      clear hK0 K0 hHeld
      refine wpAnyH_take (i := 2) (v := ?_) rfl (by kernel_rfl) (by kernel_rfl) (by kernel_rfl) (fun _ _ _ h => h) (Or.inl ⟨by rfl, ?_⟩) Z1.out ?_
      rotate_left
      · intro wq hSw; go_simp; first | done | with_reducible rfl
      simp only [List.getElem_toArray, List.getElem_cons_zero, List.getElem_cons_succ, Act.put, List.setIfInBounds_toArray, List.set_cons_zero, List.set_cons_succ]
      refine wpAnyH_take (i := 3) (v := ?_) rfl (by kernel_rfl) (by kernel_rfl) (by kernel_rfl) (fun _ _ _ h => h) (Or.inl ⟨by rfl, ?_⟩) Z1.out ?_
      rotate_left
      · intro wq hSw; go_simp; first | done | with_reducible rfl
      simp only [List.getElem_toArray, List.getElem_cons_zero, List.getElem_cons_succ, Act.put, List.setIfInBounds_toArray, List.set_cons_zero, List.set_cons_succ]
      refine wpAnyH_take (i := 4) (v := ?_) rfl (by kernel_rfl) (by kernel_rfl) (by kernel_rfl) (fun _ _ _ h => h) (Or.inl ⟨by rfl, ?_⟩) Z1.out ?_
      rotate_left
      · intro wq hSw; have cl0 := (KB_y_109.out.since hSw).cell 0; have cl1 := (KB_y_109.out.since hSw).cell 1; go_simp; first | done | with_reducible rfl
      simp only [List.getElem_toArray, List.getElem_cons_zero, List.getElem_cons_succ, Act.put, List.setIfInBounds_toArray, List.set_cons_zero, List.set_cons_succ]
      refine wpAnyH_ready (rs := [5]) (by kernel_rfl) (by simp) ?_
      refine AllReadyH.cons rfl (fun K0 hK0 => ?_) ?_
      rotate_left
      · exact AllReadyH.nil
      refine step_func 12 #[.agg #[.int .u64 S', .slice (some ⟨bq', oq', none⟩) R' cap']] (by rfl) rfl (by simp [Act.eval]) (fun _ _ => by kernel_rfl) ?_
      refine (E2.out _ Z1.out).mono ?_
      rintro e q2 ⟨rfl, cc⟩
      have Z2 : Hid (Below v9.heap.size v9 q2) := cc
      clear cc
      refine ⟨_, rfl, ?_⟩
      refine hK0.out _ _ Z2.out (fun hHeld => ?_)
      clear hK0 K0 hHeld
      refine wpAnyH_take (i := 6) (v := ?_) rfl (by kernel_rfl) (by kernel_rfl) (by kernel_rfl) (fun _ _ _ h => h) (Or.inl ⟨by rfl, ?_⟩) Z2.out ?_
      rotate_left
      · intro wq hSw; go_simp; first | done | with_reducible rfl
      simp only [List.getElem_toArray, List.getElem_cons_zero, List.getElem_cons_succ, Act.put, List.setIfInBounds_toArray, List.set_cons_zero, List.set_cons_succ]
      refine wpAnyH_take (i := 7) (v := ?_) rfl (by kernel_rfl) (by kernel_rfl) (by kernel_rfl) (fun _ _ _ h => h) (Or.inl ⟨by rfl, ?_⟩) Z2.out ?_
      rotate_left
      · intro wq hSw; go_simp; first | done | with_reducible rfl
      simp only [List.getElem_toArray, List.getElem_cons_zero, List.getElem_cons_succ, Act.put, List.setIfInBounds_toArray, List.set_cons_zero, List.set_cons_succ]
      refine wpAnyH_take (i := 8) (v := ?_) rfl (by kernel_rfl) (by kernel_rfl) (by kernel_rfl) (fun _ _ _ h => h) (Or.inl ⟨by rfl, ?_⟩) Z2.out ?_
      rotate_left
      · intro wq hSw; go_simp; first | done | with_reducible rfl
      simp only [List.getElem_toArray, List.getElem_cons_zero, List.getElem_cons_succ, Act.put, List.setIfInBounds_toArray, List.set_cons_zero, List.set_cons_succ]
      refine wpAnyH_take (i := 9) (v := ?_) rfl (by kernel_rfl) (by kernel_rfl) (by kernel_rfl) (fun _ _ _ h => h) (Or.inl ⟨by rfl, ?_⟩) Z2.out ?_
      rotate_left
      · intro wq hSw; go_simp; first | done | with_reducible rfl
      simp only [List.getElem_toArray, List.getElem_cons_zero, List.getElem_cons_succ, Act.put, List.setIfInBounds_toArray, List.set_cons_zero, List.set_cons_succ]
      refine wpAnyH_take (i := 10) (v := ?_) rfl (by kernel_rfl) (by kernel_rfl) (by kernel_rfl) (fun _ _ _ h => h) (Or.inl ⟨by rfl, ?_⟩) Z2.out ?_
      rotate_left
      · intro wq hSw; have cl0 := (KB_bx_109.out.since hSw).cell 0; go_simp; first | done | with_reducible rfl
      simp only [List.getElem_toArray, List.getElem_cons_zero, List.getElem_cons_succ, Act.put, List.setIfInBounds_toArray, List.set_cons_zero, List.set_cons_succ]
      refine wpAnyH_take (i := 11) (v := ?_) rfl (by kernel_rfl) (by kernel_rfl) (by kernel_rfl) (fun _ _ _ h => h) (Or.inl ⟨by rfl, ?_⟩) Z2.out ?_
      rotate_left
      · intro wq hSw; go_simp; first | done | with_reducible rfl
      simp only [List.getElem_toArray, List.getElem_cons_zero, List.getElem_cons_succ, Act.put, List.setIfInBounds_toArray, List.set_cons_zero, List.set_cons_succ]
      refine wpAnyH_take (i := 12) (v := ?_) rfl (by kernel_rfl) (by kernel_rfl) (by kernel_rfl) (fun _ _ _ h => h) (Or.inl ⟨by rfl, ?_⟩) Z2.out ?_
      rotate_left
      · intro wq hSw; have cl0 := (KB_by_109.out.since hSw).cell 0; go_simp; first | done | with_reducible rfl
      simp only [List.getElem_toArray, List.getElem_cons_zero, List.getElem_cons_succ, Act.put, List.setIfInBounds_toArray, List.set_cons_zero, List.set_cons_succ]
      refine wpAnyH_take (i := 13) (v := ?_) rfl (by kernel_rfl) (by kernel_rfl) (by kernel_rfl) (fun _ _ _ h => h) (Or.inl ⟨by rfl, ?_⟩) Z2.out ?_
      rotate_left
      · intro wq hSw; go_simp; first | done | with_reducible rfl
      simp only [List.getElem_toArray, List.getElem_cons_zero, List.getElem_cons_succ, Act.put, List.setIfInBounds_toArray, List.set_cons_zero, List.set_cons_succ]
      refine wpAnyH_take (i := 14) (v := ?_) rfl (by kernel_rfl) (by kernel_rfl) (by kernel_rfl) (fun _ _ _ h => h) (Or.inl ⟨by rfl, ?_⟩) Z2.out ?_
      rotate_left
      · intro wq hSw; go_simp; first | done | with_reducible rfl
      simp only [List.getElem_toArray, List.getElem_cons_zero, List.getElem_cons_succ, Act.put, List.setIfInBounds_toArray, List.set_cons_zero, List.set_cons_succ]
      refine wpAnyH_take (i := 15) (v := ?_) rfl (by kernel_rfl) (by kernel_rfl) (by kernel_rfl) (fun _ _ _ h => h) (Or.inl ⟨by rfl, ?_⟩) Z2.out ?_
      rotate_left
      · intro wq hSw; go_simp; first | done | with_reducible rfl
      simp only [List.getElem_toArray, List.getElem_cons_zero, List.getElem_cons_succ, Act.put, List.setIfInBounds_toArray, List.set_cons_zero, List.set_cons_succ]
      refine wpAnyH_take (i := 16) (v := ?_) rfl (by kernel_rfl) (by kernel_rfl) (by kernel_rfl) (fun _ _ _ h => h) (Or.inl ⟨by rfl, ?_⟩) Z2.out ?_
      rotate_left
      · intro wq hSw; go_simp; first | done | with_reducible rfl
      simp only [List.getElem_toArray, List.getElem_cons_zero, List.getElem_cons_succ, Act.put, List.setIfInBounds_toArray, List.set_cons_zero, List.set_cons_succ]
      refine wpAnyH_take (i := 17) (v := ?_) rfl (by kernel_rfl) (by kernel_rfl) (by kernel_rfl) (fun _ _ _ h => h) (Or.inl ⟨by rfl, ?_⟩) Z2.out ?_
      rotate_left
      · intro wq hSw; have cl0 := (KB_bx_109.out.since hSw).cell 1; go_simp; first | done | with_reducible rfl
      simp only [List.getElem_toArray, List.getElem_cons_zero, List.getElem_cons_succ, Act.put, List.setIfInBounds_toArray, List.set_cons_zero, List.set_cons_succ]
      refine wpAnyH_take (i := 18) (v := ?_) rfl (by kernel_rfl) (by kernel_rfl) (by kernel_rfl) (fun _ _ _ h => h) (Or.inl ⟨by rfl, ?_⟩) Z2.out ?_
      rotate_left
      · intro wq hSw; go_simp; first | done | with_reducible rfl
      simp only [List.getElem_toArray, List.getElem_cons_zero, List.getElem_cons_succ, Act.put, List.setIfInBounds_toArray, List.set_cons_zero, List.set_cons_succ]
      refine wpAnyH_take (i := 19) (v := ?_) rfl (by kernel_rfl) (by kernel_rfl) (by kernel_rfl) (fun _ _ _ h => h) (Or.inl ⟨by rfl, ?_⟩) Z2.out ?_
      rotate_left
      · intro wq hSw; go_simp; first | done | with_reducible rfl
      simp only [List.getElem_toArray, List.getElem_cons_zero, List.getElem_cons_succ, Act.put, List.setIfInBounds_toArray, List.set_cons_zero, List.set_cons_succ]
      refine wpAnyH_take (i := 20) (v := ?_) rfl (by kernel_rfl) (by kernel_rfl) (by kernel_rfl) (fun _ _ _ h => h) (Or.inl ⟨by rfl, ?_⟩) Z2.out ?_
      rotate_left
      · intro wq hSw; have cl0 := (KB_by_109.out.since hSw).cell 1; go_simp; first | done | with_reducible rfl
      simp only [List.getElem_toArray, List.getElem_cons_zero, List.getElem_cons_succ, Act.put, List.setIfInBounds_toArray, List.set_cons_zero, List.set_cons_succ]
      refine wpAnyH_take (i := 21) (v := ?_) rfl (by kernel_rfl) (by kernel_rfl) (by kernel_rfl) (fun _ _ _ h => h) (Or.inl ⟨by rfl, ?_⟩) Z2.out ?_
      rotate_left
      · intro wq hSw; go_simp; first | done | with_reducible rfl
      simp only [List.getElem_toArray, List.getElem_cons_zero, List.getElem_cons_succ, Act.put, List.setIfInBounds_toArray, List.set_cons_zero, List.set_cons_succ]
      refine wpAnyH_take (i := 22) (v := ?_) rfl (by kernel_rfl) (by kernel_rfl) (by kernel_rfl) (fun _ _ _ h => h) (Or.inl ⟨by rfl, ?_⟩) Z2.out ?_
      rotate_left
      · intro wq hSw; go_simp; first | done | with_reducible rfl
      simp only [List.getElem_toArray, List.getElem_cons_zero, List.getElem_cons_succ, Act.put, List.setIfInBounds_toArray, List.set_cons_zero, List.set_cons_succ]
      refine wpAnyH_take (i := 23) (v := ?_) rfl (by kernel_rfl) (by kernel_rfl) (by kernel_rfl) (fun _ _ _ h => h) (Or.inl ⟨by rfl, ?_⟩) Z2.out ?_
      rotate_left
      · intro wq hSw; go_simp; first | done | with_reducible rfl
      simp only [List.getElem_toArray, List.getElem_cons_zero, List.getElem_cons_succ, Act.put, List.setIfInBounds_toArray, List.set_cons_zero, List.set_cons_succ]
      refine wpAnyH_take (i := 24) (v := ?_) rfl (by kernel_rfl) (by kernel_rfl) (by kernel_rfl) (fun _ _ _ h => h) (Or.inl ⟨by rfl, ?_⟩) Z2.out ?_
      rotate_left
      · intro wq hSw; go_simp; first | done | with_reducible rfl
      simp only [List.getElem_toArray, List.getElem_cons_zero, List.getElem_cons_succ, Act.put, List.setIfInBounds_toArray, List.set_cons_zero, List.set_cons_succ]
      refine wpAnyH_take (i := 25) (v := ?_) rfl (by kernel_rfl) (by kernel_rfl) (by kernel_rfl) (fun _ _ _ h => h) (Or.inl ⟨by rfl, ?_⟩) Z2.out ?_
      rotate_left
      · intro wq hSw; go_simp; first | done | with_reducible rfl
      simp only [List.getElem_toArray, List.getElem_cons_zero, List.getElem_cons_succ, Act.put, List.setIfInBounds_toArray, List.set_cons_zero, List.set_cons_succ]
      refine wpAnyH_take (i := 26) (v := ?_) rfl (by kernel_rfl) (by kernel_rfl) (by kernel_rfl) (fun _ _ _ h => h) (Or.inl ⟨by rfl, ?_⟩) Z2.out ?_
      rotate_left
      · intro wq hSw; have cl0 := (KB_bx_109.out.since hSw).cell 1; go_simp; first | done | with_reducible rfl
      simp only [List.getElem_toArray, List.getElem_cons_zero, List.getElem_cons_succ, Act.put, List.setIfInBounds_toArray, List.set_cons_zero, List.set_cons_succ]
      refine wpAnyH_take (i := 27) (v := ?_) rfl (by kernel_rfl) (by kernel_rfl) (by kernel_rfl) (fun _ _ _ h => h) (Or.inl ⟨by rfl, ?_⟩) Z2.out ?_
      rotate_left
      · intro wq hSw; go_simp; first | done | with_reducible rfl
      simp only [List.getElem_toArray, List.getElem_cons_zero, List.getElem_cons_succ, Act.put, List.setIfInBounds_toArray, List.set_cons_zero, List.set_cons_succ]
      refine wpAnyH_take (i := 28) (v := ?_) rfl (by kernel_rfl) (by kernel_rfl) (by kernel_rfl) (fun _ _ _ h => h) (Or.inl ⟨by rfl, ?_⟩) Z2.out ?_
      rotate_left
      · intro wq hSw; have cl0 := keep_of_below (bel_trans BEL109.out hSw) _ _ D1.out; go_simp; first | done | with_reducible rfl
      simp only [List.getElem_toArray, List.getElem_cons_zero, List.getElem_cons_succ, Act.put, List.setIfInBounds_toArray, List.set_cons_zero, List.set_cons_succ]
      refine wpAnyH_take (i := 29) (v := ?_) rfl (by kernel_rfl) (by kernel_rfl) (by kernel_rfl) (fun _ _ _ h => h) (Or.inl ⟨by rfl, ?_⟩) Z2.out ?_
      rotate_left
      · intro wq hSw; go_simp; first | done | with_reducible rfl
      simp only [List.getElem_toArray, List.getElem_cons_zero, List.getElem_cons_succ, Act.put, List.setIfInBounds_toArray, List.set_cons_zero, List.set_cons_succ]
      refine wpAnyH_take (i := 30) (v := ?_) rfl (by kernel_rfl) (by kernel_rfl) (by kernel_rfl) (fun _ _ _ h => h) (Or.inl ⟨by rfl, ?_⟩) Z2.out ?_
      rotate_left
      · intro wq hSw; go_simp; first | done | with_reducible rfl
      simp only [List.getElem_toArray, List.getElem_cons_zero, List.getElem_cons_succ, Act.put, List.setIfInBounds_toArray, List.set_cons_zero, List.set_cons_succ]
      refine wpAnyH_take (i := 31) (v := ?_) rfl (by kernel_rfl) (by kernel_rfl) (by kernel_rfl) (fun _ _ _ h => h) (Or.inl ⟨by rfl, ?_⟩) Z2.out ?_
      rotate_left
      · intro wq hSw; have cl0 := (KB_by_109.out.since hSw).cell 1; go_simp; first | done | with_reducible rfl
      simp only [List.getElem_toArray, List.getElem_cons_zero, List.getElem_cons_succ, Act.put, List.setIfInBounds_toArray, List.set_cons_zero, List.set_cons_succ]
      refine wpAnyH_take (i := 32) (v := ?_) rfl (by kernel_rfl) (by kernel_rfl) (by kernel_rfl) (fun _ _ _ h => h) (Or.inl ⟨by rfl, ?_⟩) Z2.out ?_
      rotate_left
      · intro wq hSw; go_simp; first | done | with_reducible rfl
      simp only [List.getElem_toArray, List.getElem_cons_zero, List.getElem_cons_succ, Act.put, List.setIfInBounds_toArray, List.set_cons_zero, List.set_cons_succ]
      refine wpAnyH_take (i := 33) (v := ?_) rfl (by kernel_rfl) (by kernel_rfl) (by kernel_rfl) (fun _ _ _ h => h) (Or.inl ⟨by rfl, ?_⟩) Z2.out ?_
      rotate_left
      · intro wq hSw; have cl0 := keep_of_below (bel_trans BEL109.out hSw) _ _ D3.out; go_simp; first | done | with_reducible rfl
      simp only [List.getElem_toArray, List.getElem_cons_zero, List.getElem_cons_succ, Act.put, List.setIfInBounds_toArray, List.set_cons_zero, List.set_cons_succ]
      refine wpAnyH_take (i := 34) (v := ?_) rfl (by kernel_rfl) (by kernel_rfl) (by kernel_rfl) (fun _ _ _ h => h) (Or.inl ⟨by rfl, ?_⟩) Z2.out ?_
      rotate_left
      · intro wq hSw; go_simp; first | done | with_reducible rfl
      simp only [List.getElem_toArray, List.getElem_cons_zero, List.getElem_cons_succ, Act.put, List.setIfInBounds_toArray, List.set_cons_zero, List.set_cons_succ]
      refine wpAnyH_take (i := 35) (v := ?_) rfl (by kernel_rfl) (by kernel_rfl) (by kernel_rfl) (fun _ _ _ h => h) (Or.inl ⟨by rfl, ?_⟩) Z2.out ?_
      rotate_left
      · intro wq hSw; go_simp; first | done | with_reducible rfl
      simp only [List.getElem_toArray, List.getElem_cons_zero, List.getElem_cons_succ, Act.put, List.setIfInBounds_toArray, List.set_cons_zero, List.set_cons_succ]
      refine wpAnyH_take (i := 36) (v := ?_) rfl (by kernel_rfl) (by kernel_rfl) (by kernel_rfl) (fun _ _ _ h => h) (Or.inl ⟨by rfl, ?_⟩) Z2.out ?_
      rotate_left
      · intro wq hSw; go_simp; first | done | with_reducible rfl
      simp only [List.getElem_toArray, List.getElem_cons_zero, List.getElem_cons_succ, Act.put, List.setIfInBounds_toArray, List.set_cons_zero, List.set_cons_succ]
      refine wpAnyH_done (by kernel_rfl) ?_ _
      refine NoPanic.normal ?_
      refine hQQ.out _ _ ?_
      clear hQQ
      have cm : q2.cell? ⟨gm, 1, none⟩ = some (.slice none 0 0) := (KB_m_109.out.since Z2.out).cell 1
      go_wp2_with fail
      refine (mawake_any _ (tabAt_keep HT.out (keep_of_below (bel_trans BEL109.out Z2.out)))).mono ?_
      rintro e ww9 ⟨rfl, b9⟩
      go_wp2_with fail
      go_ret
      exact ⟨rfl, bel_trans (bel_trans BEL109.out Z2.out) b9⟩
    obtain ⟨rp, rq, eS, eR, eL⟩ := hok
    subst eS eR
    obtain ⟨n, hn⟩ : ∃ n, n = L 0 := ⟨_, rfl⟩
    have OK : Hid (OkM R n) := by rw [hn]; exact rp.ok
    have n2 : n ≤ 256 := OK.out.2.2.2
    have n1 : 1 ≤ n := OK.out.2.2.1
    have r1 : 1 ≤ R := OK.out.1
    have LK : Hid (∀ i, i < R → L i = n) := fun i hi => by rw [hn]; exact rp.2.2.2.2 i hi
    have LK' : Hid (∀ i, i < R → L' i = n) := fun i hi => by rw [hn, eL]; exact rq.2.2.2.2 i hi
    obtain ⟨rfl, A2, cap2, b2, o2, d1, _⟩ := RA.out 0 r1
    obtain ⟨rfl, A3, cap3, b3, o3, d3, _⟩ := RB.out 0 r1
    rw [Nat.add_zero] at d1 d3
    rw [LK.out 0 r1] at d1
    rw [LK'.out 0 r1] at d3
    have D1 : Hid (w.cell? ⟨bq, oq, none⟩ = some (.slice A2 n cap2)) := d1
    have D3 : Hid (w.cell? ⟨bq', oq', none⟩ = some (.slice A3 n cap3)) := d3
    have RW1 : Hid (RowsCells w (some ⟨bq, oq, none⟩) R bq oq (fun _ => n) Z) := fun r hr => by have := RA.out r hr; rw [LK.out r hr] at this; exact this
    have RW2 : Hid (RowsCells w (some ⟨bq', oq', none⟩) R bq' oq' (fun _ => n) Y) := fun r hr => by have := RB.out r hr; rw [LK'.out r hr] at this; exact this
    have i1 : (0 : Int) < (R : Int) := by omega
    clear rp rq hn eL RA RB d1 d3
    have FN := FA_a_107.out.imp (Q := fun uq => MpAt uq (.agg #[.int .u64 S, .slice (some ⟨bq, oq, none⟩) R cap]) S R (fun _ => n) Z) (fun u h => h.congr LK.out (fun _ _ _ _ => rfl))
    clear FA_a_107
    have FA_a_107 : Hid (HeldX [gy, gx, w.heap.size + 1, w.heap.size] (fun uq => MpAt uq (.agg #[.int .u64 S, .slice (some ⟨bq, oq, none⟩) R cap]) S R (fun _ => n) Z) ww4) := FN
    clear FN
    have FN := FA_b_107.out.imp (Q := fun uq => MpAt uq (.agg #[.int .u64 S, .slice (some ⟨bq', oq', none⟩) R cap']) S R (fun _ => n) Y) (fun u h => h.congr LK'.out (fun _ _ _ _ => rfl))
    clear FA_b_107
    have FA_b_107 : Hid (HeldX [gy, gx, w.heap.size + 1, w.heap.size] (fun uq => MpAt uq (.agg #[.int .u64 S, .slice (some ⟨bq', oq', none⟩) R cap']) S R (fun _ => n) Y) ww4) := FN
    clear FN
    have CE_bx_0 : ww4.cell? ⟨w.heap.size, 0, none⟩ = some (.int .u64 S) := KB_bx_107.out.cell 0
    have CE_bx_1 : ww4.cell? ⟨w.heap.size, 1, none⟩ = some (.slice (some ⟨bq, oq, none⟩) R cap) := KB_bx_107.out.cell 1
    have CE_bx_lt : w.heap.size < ww4.heap.size := KB_bx_107.out.lt
    have CE_by_0 : ww4.cell? ⟨w.heap.size + 1, 0, none⟩ = some (.int .u64 S) := KB_by_107.out.cell 0
    have CE_by_1 : ww4.cell? ⟨w.heap.size + 1, 1, none⟩ = some (.slice (some ⟨bq', oq', none⟩) R cap') := KB_by_107.out.cell 1
    have CE_by_lt : w.heap.size + 1 < ww4.heap.size := KB_by_107.out.lt
    go_wp2_with fail
    refine (mmerge_any _ _ _ S R n Z Y FA_a_107.out.at FA_b_107.out.at OK.out).mono ?_
    rintro e ww5 ⟨xm, rfl, fm, b5⟩
    clear CE_bx_0 CE_bx_1 CE_bx_lt CE_by_0 CE_by_1 CE_by_lt
    obtain ⟨vm, rfl, hvm⟩ := fm.at
    obtain ⟨Am, cm, bbm, oom, rfl, hx1, hx2⟩ := hvm.read
    clear hx1 hx2 hvm
    have FA_m_108 : Hid (HeldX [gy, gx, w.heap.size + 1, w.heap.size] (fun uq => MpAt uq (.agg #[.int .u64 S, .slice Am R cm]) S R (fun _ => n) (mergeM Z Y)) ww5) := Held.new fm BOX107.out
    have BEL108 := h_bel BEL107 b5
    have BOX108 := h_box BOX107 b5
    have FA_a_108 := h_fact FA_a_107 b5
    have FA_b_108 := h_fact FA_b_107 b5
    have KB_bx_108 := h_blk KB_bx_107 b5
    have KB_by_108 := h_blk KB_by_107 b5
    have KB_x_108 := h_blk KB_x_107 b5
    have KB_y_108 := h_blk KB_y_107 b5
    clear BEL107 BOX107 FA_a_107 FA_b_107 KB_bx_107 KB_by_107 KB_x_107 KB_y_107
    clear b5 fm
    go_upto_region 5 with fail
    have BEL109 := a_bel BEL108 (.cells #[.int .u64 S, .slice Am R cm] 25)
    have BOX109 := a_box BOX108 BEL108 (.cells #[.int .u64 S, .slice Am R cm] 25)
    have FA_a_109 := a_fact FA_a_108 (.cells #[.int .u64 S, .slice Am R cm] 25)
    have FA_b_109 := a_fact FA_b_108 (.cells #[.int .u64 S, .slice Am R cm] 25)
    have FA_m_109 := a_fact FA_m_108 (.cells #[.int .u64 S, .slice Am R cm] 25)
    have KB_bx_109 := a_blk KB_bx_108 (.cells #[.int .u64 S, .slice Am R cm] 25)
    have NE_bx_m := n_ne KB_bx_108
    have KB_by_109 := a_blk KB_by_108 (.cells #[.int .u64 S, .slice Am R cm] 25)
    have NE_by_m := n_ne KB_by_108
    have KB_x_109 := a_blk KB_x_108 (.cells #[.int .u64 S, .slice Am R cm] 25)
    have NE_x_m := n_ne KB_x_108
    have KB_y_109 := a_blk KB_y_108 (.cells #[.int .u64 S, .slice Am R cm] 25)
    have NE_y_m := n_ne KB_y_108
    have KB_m_109 := n_blk (u := ww5) 25 #[.int .u64 S, .slice Am R cm]
    clear BEL108 BOX108 FA_a_108 FA_b_108 FA_m_108 KB_bx_108 KB_by_108 KB_x_108 KB_y_108
    generalize (ww5.alloc (.cells #[.int .u64 S, .slice Am R cm] 25)) = v9 at BEL109 BOX109 FA_a_109 FA_b_109 FA_m_109 KB_bx_109 KB_by_109 KB_x_109 KB_y_109 KB_m_109 ⊢
    generalize ww5.heap.size = gm at BOX109 FA_a_109 FA_b_109 FA_m_109 KB_m_109 NE_bx_m NE_by_m NE_x_m NE_y_m ⊢
    have E1 : Hid (∀ w1, Below v9.heap.size v9 w1 → Calls Tryd.prog 12 #[.agg #[.int .u64 S, .slice (some ⟨bq, oq, none⟩) R cap]] w1 fun e w' => e = .returned (.bool true) ∧ Below v9.heap.size v9 w') := fun w1 b1 => (rright_any w1 _ S R _ _ (FA_a_109.out.since b1).at R2 (fun i hi => by show n ≤ 1000; omega)).mono fun e w' h => ⟨(told h true ⟨fun _ => OK.out.right, fun _ => rfl⟩).1, bel_trans b1 (told h true ⟨fun _ => OK.out.right, fun _ => rfl⟩).2⟩
    have E2 : Hid (∀ w1, Below v9.heap.size v9 w1 → Calls Tryd.prog 12 #[.agg #[.int .u64 S, .slice (some ⟨bq', oq', none⟩) R cap']] w1 fun e w' => e = .returned (.bool true) ∧ Below v9.heap.size v9 w') := fun w1 b1 => (rright_any w1 _ S R _ _ (FA_b_109.out.since b1).at R2 (fun i hi => by show n ≤ 1000; omega)).mono fun e w' h => ⟨(told h true ⟨fun _ => OK.out.right, fun _ => rfl⟩).1, bel_trans b1 (told h true ⟨fun _ => OK.out.right, fun _ => rfl⟩).2⟩
    have eS : (S != S) = false := by simp
    have eR : ((R : Int) != (R : Int)) = false := by simp
    have eN : ((n : Int) != (n : Int)) = false := by simp
    have i3 : 0 < R := by omega
    go_wp2_with fail
    refine letterQ ?_
    intro QQ hQQ
    have Z0 : Hid (Below v9.heap.size v9 v9.drew) := (Below.refl _ _).drew
    refine wp_region_held_drew (S := fun w2 => Below v9.heap.size v9 w2) (by kernel_rfl) Z0.out (fun hHeld => ?_)
    clear hHeld
    generalize v9.drew = p0 at Z0 ⊢
    refine wpAnyH_take (i := 0) (v := ?_) rfl (by kernel_rfl) (by kernel_rfl) (by kernel_rfl) (fun _ _ _ h => h) (Or.inl ⟨by rfl, ?_⟩) Z0.out ?_
    rotate_left
    · intro wq hSw; have cl0 := (KB_x_109.out.since hSw).cell 0; have cl1 := (KB_x_109.out.since hSw).cell 1; go_simp; first | done | with_reducible rfl
    simp only [List.getElem_toArray, List.getElem_cons_zero, Act.put, List.setIfInBounds_toArray, List.set_cons_zero, List.set_cons_succ]
    refine wpAnyH_ready (rs := [1]) (by kernel_rfl) (by simp) ?_
    refine AllReadyH.cons rfl (fun K0 hK0 => ?_) ?_
    rotate_left
    · exact AllReadyH.nil
    refine step_func 12 #[.agg #[.int .u64 S, .slice (some ⟨bq, oq, none⟩) R cap]] (by rfl) rfl (by simp [Act.eval]) (fun _ _ => by kernel_rfl) ?_
    refine (E1.out _ Z0.out).mono ?_
    rintro e p1 ⟨rfl, cc⟩
    have Z1 : Hid (Below v9.heap.size v9 p1) := cc
    clear cc
    refine ⟨_, rfl, ?_⟩
    refine hK0.out _ _ Z1.out (fun hHeld => ?_)
    clear hK0 K0 hHeld
    refine wpAnyH_take (i := 2) (v := ?_) rfl (by kernel_rfl) (by kernel_rfl) (by kernel_rfl) (fun _ _ _ h => h) (Or.inl ⟨by rfl, ?_⟩) Z1.out ?_
    rotate_left
    · intro wq hSw; go_simp; first | done | with_reducible rfl
    simp only [List.getElem_toArray, List.getElem_cons_zero, List.getElem_cons_succ, Act.put, List.setIfInBounds_toArray, List.set_cons_zero, List.set_cons_succ]
    refine wpAnyH_take (i := 3) (v := ?_) rfl (by kernel_rfl) (by kernel_rfl) (by kernel_rfl) (fun _ _ _ h => h) (Or.inl ⟨by rfl, ?_⟩) Z1.out ?_
    rotate_left
    · intro wq hSw; go_simp; first | done | with_reducible rfl
    simp only [List.getElem_toArray, List.getElem_cons_zero, List.getElem_cons_succ, Act.put, List.setIfInBounds_toArray, List.set_cons_zero, List.set_cons_succ]
    refine wpAnyH_take (i := 4) (v := ?_) rfl (by kernel_rfl) (by kernel_rfl) (by kernel_rfl) (fun _ _ _ h => h) (Or.inl ⟨by rfl, ?_⟩) Z1.out ?_
    rotate_left
    · intro wq hSw; have cl0 := (KB_y_109.out.since hSw).cell 0; have cl1 := (KB_y_109.out.since hSw).cell 1; go_simp; first | done | with_reducible rfl
    simp only [List.getElem_toArray, List.getElem_cons_zero, List.getElem_cons_succ, Act.put, List.setIfInBounds_toArray, List.set_cons_zero, List.set_cons_succ]
    refine wpAnyH_ready (rs := [5]) (by kernel_rfl) (by simp) ?_
    refine AllReadyH.cons rfl (fun K0 hK0 => ?_) ?_
    rotate_left
    · exact AllReadyH.nil
    refine step_func 12 #[.agg #[.int .u64 S, .slice (some ⟨bq', oq', none⟩) R cap']] (by rfl) rfl (by simp [Act.eval]) (fun _ _ => by kernel_rfl) ?_
    refine (E2.out _ Z1.out).mono ?_
    rintro e p2 ⟨rfl, cc⟩
    have Z2 : Hid (Below v9.heap.size v9 p2) := cc
    clear cc
    refine ⟨_, rfl, ?_⟩
    refine hK0.out _ _ Z2.out (fun hHeld => ?_)
    clear hK0 K0 hHeld
    refine wpAnyH_take (i := 6) (v := ?_) rfl (by kernel_rfl) (by kernel_rfl) (by kernel_rfl) (fun _ _ _ h => h) (Or.inl ⟨by rfl, ?_⟩) Z2.out ?_
    rotate_left
    · intro wq hSw; go_simp; first | done | with_reducible rfl
    simp only [List.getElem_toArray, List.getElem_cons_zero, List.getElem_cons_succ, Act.put, List.setIfInBounds_toArray, List.set_cons_zero, List.set_cons_succ]
    refine wpAnyH_take (i := 7) (v := ?_) rfl (by kernel_rfl) (by kernel_rfl) (by kernel_rfl) (fun _ _ _ h => h) (Or.inl ⟨by rfl, ?_⟩) Z2.out ?_
    rotate_left
    · intro wq hSw; go_simp; first | done | with_reducible rfl
    simp only [List.getElem_toArray, List.getElem_cons_zero, List.getElem_cons_succ, Act.put, List.setIfInBounds_toArray, List.set_cons_zero, List.set_cons_succ]
    refine wpAnyH_take (i := 8) (v := ?_) rfl (by kernel_rfl) (by kernel_rfl) (by kernel_rfl) (fun _ _ _ h => h) (Or.inl ⟨by rfl, ?_⟩) Z2.out ?_
    rotate_left
    · intro wq hSw; go_simp; first | done | with_reducible rfl
    simp only [List.getElem_toArray, List.getElem_cons_zero, List.getElem_cons_succ, Act.put, List.setIfInBounds_toArray, List.set_cons_zero, List.set_cons_succ]
    refine wpAnyH_take (i := 9) (v := ?_) rfl (by kernel_rfl) (by kernel_rfl) (by kernel_rfl) (fun _ _ _ h => h) (Or.inl ⟨by rfl, ?_⟩) Z2.out ?_
    rotate_left
    · intro wq hSw; go_simp; first | done | with_reducible rfl
    simp only [List.getElem_toArray, List.getElem_cons_zero, List.getElem_cons_succ, Act.put, List.setIfInBounds_toArray, List.set_cons_zero, List.set_cons_succ]
    refine wpAnyH_take (i := 10) (v := ?_) rfl (by kernel_rfl) (by kernel_rfl) (by kernel_rfl) (fun _ _ _ h => h) (Or.inl ⟨by rfl, ?_⟩) Z2.out ?_
    rotate_left
    · intro wq hSw; have cl0 := (KB_bx_109.out.since hSw).cell 0; go_simp; first | done | with_reducible rfl
    simp only [List.getElem_toArray, List.getElem_cons_zero, List.getElem_cons_succ, Act.put, List.setIfInBounds_toArray, List.set_cons_zero, List.set_cons_succ]
    refine wpAnyH_take (i := 11) (v := ?_) rfl (by kernel_rfl) (by kernel_rfl) (by kernel_rfl) (fun _ _ _ h => h) (Or.inl ⟨by rfl, ?_⟩) Z2.out ?_
    rotate_left
    · intro wq hSw; go_simp; first | done | with_reducible rfl
    simp only [List.getElem_toArray, List.getElem_cons_zero, List.getElem_cons_succ, Act.put, List.setIfInBounds_toArray, List.set_cons_zero, List.set_cons_succ]
    refine wpAnyH_take (i := 12) (v := ?_) rfl (by kernel_rfl) (by kernel_rfl) (by kernel_rfl) (fun _ _ _ h => h) (Or.inl ⟨by rfl, ?_⟩) Z2.out ?_
    rotate_left
    · intro wq hSw; have cl0 := (KB_by_109.out.since hSw).cell 0; go_simp; first | done | with_reducible rfl
    simp only [List.getElem_toArray, List.getElem_cons_zero, List.getElem_cons_succ, Act.put, List.setIfInBounds_toArray, List.set_cons_zero, List.set_cons_succ]
    refine wpAnyH_take (i := 13) (v := ?_) rfl (by kernel_rfl) (by kernel_rfl) (by kernel_rfl) (fun _ _ _ h => h) (Or.inl ⟨by rfl, ?_⟩) Z2.out ?_
    rotate_left
    · intro wq hSw; go_simp; first | done | with_reducible rfl
    simp only [List.getElem_toArray, List.getElem_cons_zero, List.getElem_cons_succ, Act.put, List.setIfInBounds_toArray, List.set_cons_zero, List.set_cons_succ]
    refine wpAnyH_take (i := 14) (v := ?_) rfl (by kernel_rfl) (by kernel_rfl) (by kernel_rfl) (fun _ _ _ h => h) (Or.inl ⟨by rfl, ?_⟩) Z2.out ?_
    rotate_left
    · intro wq hSw; go_simp; first | done | with_reducible rfl
    simp only [List.getElem_toArray, List.getElem_cons_zero, List.getElem_cons_succ, Act.put, List.setIfInBounds_toArray, List.set_cons_zero, List.set_cons_succ]
    refine wpAnyH_take (i := 15) (v := ?_) rfl (by kernel_rfl) (by kernel_rfl) (by kernel_rfl) (fun _ _ _ h => h) (Or.inl ⟨by rfl, ?_⟩) Z2.out ?_
    rotate_left
    · intro wq hSw; go_simp; first | done | with_reducible rfl
    simp only [List.getElem_toArray, List.getElem_cons_zero, List.getElem_cons_succ, Act.put, List.setIfInBounds_toArray, List.set_cons_zero, List.set_cons_succ]
    refine wpAnyH_take (i := 16) (v := ?_) rfl (by kernel_rfl) (by kernel_rfl) (by kernel_rfl) (fun _ _ _ h => h) (Or.inl ⟨by rfl, ?_⟩) Z2.out ?_
    rotate_left
    · intro wq hSw; go_simp; first | done | with_reducible rfl
    simp only [List.getElem_toArray, List.getElem_cons_zero, List.getElem_cons_succ, Act.put, List.setIfInBounds_toArray, List.set_cons_zero, List.set_cons_succ]
    refine wpAnyH_take (i := 17) (v := ?_) rfl (by kernel_rfl) (by kernel_rfl) (by kernel_rfl) (fun _ _ _ h => h) (Or.inl ⟨by rfl, ?_⟩) Z2.out ?_
    rotate_left
    · intro wq hSw; have cl0 := (KB_bx_109.out.since hSw).cell 1; go_simp; first | done | with_reducible rfl
    simp only [List.getElem_toArray, List.getElem_cons_zero, List.getElem_cons_succ, Act.put, List.setIfInBounds_toArray, List.set_cons_zero, List.set_cons_succ]
    refine wpAnyH_take (i := 18) (v := ?_) rfl (by kernel_rfl) (by kernel_rfl) (by kernel_rfl) (fun _ _ _ h => h) (Or.inl ⟨by rfl, ?_⟩) Z2.out ?_
    rotate_left
    · intro wq hSw; go_simp; first | done | with_reducible rfl
    simp only [List.getElem_toArray, List.getElem_cons_zero, List.getElem_cons_succ, Act.put, List.setIfInBounds_toArray, List.set_cons_zero, List.set_cons_succ]
    refine wpAnyH_take (i := 19) (v := ?_) rfl (by kernel_rfl) (by kernel_rfl) (by kernel_rfl) (fun _ _ _ h => h) (Or.inl ⟨by rfl, ?_⟩) Z2.out ?_
    rotate_left
    · intro wq hSw; go_simp; first | done | with_reducible rfl
    simp only [List.getElem_toArray, List.getElem_cons_zero, List.getElem_cons_succ, Act.put, List.setIfInBounds_toArray, List.set_cons_zero, List.set_cons_succ]
    refine wpAnyH_take (i := 20) (v := ?_) rfl (by kernel_rfl) (by kernel_rfl) (by kernel_rfl) (fun _ _ _ h => h) (Or.inl ⟨by rfl, ?_⟩) Z2.out ?_
    rotate_left
    · intro wq hSw; have cl0 := (KB_by_109.out.since hSw).cell 1; go_simp; first | done | with_reducible rfl
    simp only [List.getElem_toArray, List.getElem_cons_zero, List.getElem_cons_succ, Act.put, List.setIfInBounds_toArray, List.set_cons_zero, List.set_cons_succ]
    refine wpAnyH_take (i := 21) (v := ?_) rfl (by kernel_rfl) (by kernel_rfl) (by kernel_rfl) (fun _ _ _ h => h) (Or.inl ⟨by rfl, ?_⟩) Z2.out ?_
    rotate_left
    · intro wq hSw; go_simp; first | done | with_reducible rfl
    simp only [List.getElem_toArray, List.getElem_cons_zero, List.getElem_cons_succ, Act.put, List.setIfInBounds_toArray, List.set_cons_zero, List.set_cons_succ]
    refine wpAnyH_take (i := 22) (v := ?_) rfl (by kernel_rfl) (by kernel_rfl) (by kernel_rfl) (fun _ _ _ h => h) (Or.inl ⟨by rfl, ?_⟩) Z2.out ?_
    rotate_left
    · intro wq hSw; go_simp; first | done | with_reducible rfl
    simp only [List.getElem_toArray, List.getElem_cons_zero, List.getElem_cons_succ, Act.put, List.setIfInBounds_toArray, List.set_cons_zero, List.set_cons_succ]
    refine wpAnyH_take (i := 23) (v := ?_) rfl (by kernel_rfl) (by kernel_rfl) (by kernel_rfl) (fun _ _ _ h => h) (Or.inl ⟨by rfl, ?_⟩) Z2.out ?_
    rotate_left
    · intro wq hSw; go_simp; first | done | with_reducible rfl
    simp only [List.getElem_toArray, List.getElem_cons_zero, List.getElem_cons_succ, Act.put, List.setIfInBounds_toArray, List.set_cons_zero, List.set_cons_succ]
    refine wpAnyH_take (i := 24) (v := ?_) rfl (by kernel_rfl) (by kernel_rfl) (by kernel_rfl) (fun _ _ _ h => h) (Or.inl ⟨by rfl, ?_⟩) Z2.out ?_
    rotate_left
    · intro wq hSw; go_simp; first | done | with_reducible rfl
    simp only [List.getElem_toArray, List.getElem_cons_zero, List.getElem_cons_succ, Act.put, List.setIfInBounds_toArray, List.set_cons_zero, List.set_cons_succ]
    refine wpAnyH_take (i := 25) (v := ?_) rfl (by kernel_rfl) (by kernel_rfl) (by kernel_rfl) (fun _ _ _ h => h) (Or.inl ⟨by rfl, ?_⟩) Z2.out ?_
    rotate_left
    · intro wq hSw; go_simp; first | done | with_reducible rfl
    simp only [List.getElem_toArray, List.getElem_cons_zero, List.getElem_cons_succ, Act.put, List.setIfInBounds_toArray, List.set_cons_zero, List.set_cons_succ]
    refine wpAnyH_take (i := 26) (v := ?_) rfl (by kernel_rfl) (by kernel_rfl) (by kernel_rfl) (fun _ _ _ h => h) (Or.inl ⟨by rfl, ?_⟩) Z2.out ?_
    rotate_left
    · intro wq hSw; have cl0 := (KB_bx_109.out.since hSw).cell 1; go_simp; first | done | with_reducible rfl
    simp only [List.getElem_toArray, List.getElem_cons_zero, List.getElem_cons_succ, Act.put, List.setIfInBounds_toArray, List.set_cons_zero, List.set_cons_succ]
    refine wpAnyH_take (i := 27) (v := ?_) rfl (by kernel_rfl) (by kernel_rfl) (by kernel_rfl) (fun _ _ _ h => h) (Or.inl ⟨by rfl, ?_⟩) Z2.out ?_
    rotate_left
    · intro wq hSw; go_simp; first | done | with_reducible rfl
    simp only [List.getElem_toArray, List.getElem_cons_zero, List.getElem_cons_succ, Act.put, List.setIfInBounds_toArray, List.set_cons_zero, List.set_cons_succ]
    refine wpAnyH_take (i := 28) (v := ?_) rfl (by kernel_rfl) (by kernel_rfl) (by kernel_rfl) (fun _ _ _ h => h) (Or.inl ⟨by rfl, ?_⟩) Z2.out ?_
    rotate_left
    · intro wq hSw; have cl0 := keep_of_below (bel_trans BEL109.out hSw) _ _ D1.out; go_simp; first | done | with_reducible rfl
    simp only [List.getElem_toArray, List.getElem_cons_zero, List.getElem_cons_succ, Act.put, List.setIfInBounds_toArray, List.set_cons_zero, List.set_cons_succ]
    refine wpAnyH_take (i := 29) (v := ?_) rfl (by kernel_rfl) (by kernel_rfl) (by kernel_rfl) (fun _ _ _ h => h) (Or.inl ⟨by rfl, ?_⟩) Z2.out ?_
    rotate_left
    · intro wq hSw; go_simp; first | done | with_reducible rfl
    simp only [List.getElem_toArray, List.getElem_cons_zero, List.getElem_cons_succ, Act.put, List.setIfInBounds_toArray, List.set_cons_zero, List.set_cons_succ]
    refine wpAnyH_take (i := 30) (v := ?_) rfl (by kernel_rfl) (by kernel_rfl) (by kernel_rfl) (fun _ _ _ h => h) (Or.inl ⟨by rfl, ?_⟩) Z2.out ?_
    rotate_left
    · intro wq hSw; go_simp; first | done | with_reducible rfl
    simp only [List.getElem_toArray, List.getElem_cons_zero, List.getElem_cons_succ, Act.put, List.setIfInBounds_toArray, List.set_cons_zero, List.set_cons_succ]
    refine wpAnyH_take (i := 31) (v := ?_) rfl (by kernel_rfl) (by kernel_rfl) (by kernel_rfl) (fun _ _ _ h => h) (Or.inl ⟨by rfl, ?_⟩) Z2.out ?_
    rotate_left
    · intro wq hSw; have cl0 := (KB_by_109.out.since hSw).cell 1; go_simp; first | done | with_reducible rfl
    simp only [List.getElem_toArray, List.getElem_cons_zero, List.getElem_cons_succ, Act.put, List.setIfInBounds_toArray, List.set_cons_zero, List.set_cons_succ]
    refine wpAnyH_take (i := 32) (v := ?_) rfl (by kernel_rfl) (by kernel_rfl) (by kernel_rfl) (fun _ _ _ h => h) (Or.inl ⟨by rfl, ?_⟩) Z2.out ?_
    rotate_left
    · intro wq hSw; go_simp; first | done | with_reducible rfl
    simp only [List.getElem_toArray, List.getElem_cons_zero, List.getElem_cons_succ, Act.put, List.setIfInBounds_toArray, List.set_cons_zero, List.set_cons_succ]
    refine wpAnyH_take (i := 33) (v := ?_) rfl (by kernel_rfl) (by kernel_rfl) (by kernel_rfl) (fun _ _ _ h => h) (Or.inl ⟨by rfl, ?_⟩) Z2.out ?_
    rotate_left
    · intro wq hSw; have cl0 := keep_of_below (bel_trans BEL109.out hSw) _ _ D3.out; go_simp; first | done | with_reducible rfl
    simp only [List.getElem_toArray, List.getElem_cons_zero, List.getElem_cons_succ, Act.put, List.setIfInBounds_toArray, List.set_cons_zero, List.set_cons_succ]
    refine wpAnyH_take (i := 34) (v := ?_) rfl (by kernel_rfl) (by kernel_rfl) (by kernel_rfl) (fun _ _ _ h => h) (Or.inl ⟨by rfl, ?_⟩) Z2.out ?_
    rotate_left
    · intro wq hSw; go_simp; first | done | with_reducible rfl
    simp only [List.getElem_toArray, List.getElem_cons_zero, List.getElem_cons_succ, Act.put, List.setIfInBounds_toArray, List.set_cons_zero, List.set_cons_succ]
    refine wpAnyH_take (i := 35) (v := ?_) rfl (by kernel_rfl) (by kernel_rfl) (by kernel_rfl) (fun _ _ _ h => h) (Or.inl ⟨by rfl, ?_⟩) Z2.out ?_
    rotate_left
    · intro wq hSw; go_simp; first | done | with_reducible rfl
    simp only [List.getElem_toArray, List.getElem_cons_zero, List.getElem_cons_succ, Act.put, List.setIfInBounds_toArray, List.set_cons_zero, List.set_cons_succ]
    refine wpAnyH_take (i := 36) (v := ?_) rfl (by kernel_rfl) (by kernel_rfl) (by kernel_rfl) (fun _ _ _ h => h) (Or.inl ⟨by rfl, ?_⟩) Z2.out ?_
    rotate_left
    · intro wq hSw; go_simp; first | done | with_reducible rfl
    simp only [List.getElem_toArray, List.getElem_cons_zero, List.getElem_cons_succ, Act.put, List.setIfInBounds_toArray, List.set_cons_zero, List.set_cons_succ]
    refine wpAnyH_done (by kernel_rfl) ?_ _
    refine NoPanic.normal ?_
    refine hQQ.out _ _ ?_
    clear hQQ
    clear E1 E2
    have BEL110 := h_bel BEL109 Z2.out
    have BOX110 := h_box BOX109 Z2.out
    have FA_a_110 := h_fact FA_a_109 Z2.out
    have FA_b_110 := h_fact FA_b_109 Z2.out
    have FA_m_110 := h_fact FA_m_109 Z2.out
    have KB_bx_110 := h_blk KB_bx_109 Z2.out
    have KB_by_110 := h_blk KB_by_109 Z2.out
    have KB_x_110 := h_blk KB_x_109 Z2.out
    have KB_y_110 := h_blk KB_y_109 Z2.out
    have KB_m_110 := h_blk KB_m_109 Z2.out
    clear BEL109 BOX109 FA_a_109 FA_b_109 FA_m_109 KB_bx_109 KB_by_109 KB_x_109 KB_y_109 KB_m_109
    clear Z0 Z1 Z2
    clear KB_x_110
    clear KB_y_110
    obtain ⟨vg, eg, hg⟩ := FA_m_110.out.at
    cases eg
    obtain ⟨Am2, cm2, bg, og, eg, hx1, hr⟩ := hg.read
    cases eg
    obtain ⟨rfl, A9, cap9, b9, o9, c9, _⟩ := hr 0 r1
    have RW : Hid (RowsCells p2 (some ⟨bg, og, none⟩) R bg og (fun _ => n) (mergeM Z Y)) := hr
    rw [Nat.add_zero] at c9
    clear hx1 hr hg
    have CE_bx_0 : p2.cell? ⟨w.heap.size, 0, none⟩ = some (.int .u64 S) := KB_bx_110.out.cell 0
    have CE_bx_1 : p2.cell? ⟨w.heap.size, 1, none⟩ = some (.slice (some ⟨bq, oq, none⟩) R cap) := KB_bx_110.out.cell 1
    have CE_bx_lt : w.heap.size < p2.heap.size := KB_bx_110.out.lt
    have CE_m_0 : p2.cell? ⟨gm, 0, none⟩ = some (.int .u64 S) := KB_m_110.out.cell 0
    have CE_m_1 : p2.cell? ⟨gm, 1, none⟩ = some (.slice (some ⟨bg, og, none⟩) R cm) := KB_m_110.out.cell 1
    have CE_m_lt : gm < p2.heap.size := KB_m_110.out.lt
    go_wp2_with fail
    clear CE_bx_0 CE_bx_1 CE_bx_lt CE_m_0 CE_m_1 CE_m_lt
    clear c9 eS eR
    go_loopg [95] R (fun gk i wr => ∃ k : Nat, (gk = R - k ∧ k ≤ R ∧ Below p2.heap.size p2 wr) ∧ i = .int .i64 (k : Int))
    case atStart => exact ⟨0, ⟨rfl, by omega, Below.refl _ _⟩, rfl⟩
    case round =>
      obtain ⟨k, ⟨hg, hk, hb⟩, rfl⟩ := hrel
      have HK : Hid (gk = R - k ∧ Below p2.heap.size p2 wr) := ⟨hg, hb⟩
      have x2 : wr.cell? ⟨gm, 1, none⟩ = some (.slice (some ⟨bg, og, none⟩) R cm) := (KB_m_110.out.since hb).cell 1
      have y2 : wr.cell? ⟨w.heap.size, 1, none⟩ = some (.slice (some ⟨bq, oq, none⟩) R cap) := (KB_bx_110.out.since hb).cell 1
      by_cases hlt : k < R
      · obtain ⟨_, A5, cap5, b5, o5, ck, _, fk, gk5⟩ := RW.out k hlt
        obtain rfl := fk (by show 0 < n; omega)
        obtain ⟨_, A6, cap6, b6, o6, dk, _, fk6, gk6⟩ := RW1.out k hlt
        obtain rfl := fk6 (by show 0 < n; omega)
        obtain ⟨_, A7, cap7, b7, o7, ek, _, fk7, gk7⟩ := RW2.out k hlt
        obtain rfl := fk7 (by show 0 < n; omega)
        have CM : Hid (p2.cell? ⟨bg, og + k, none⟩ = some (.slice (some ⟨b5, o5, none⟩) n cap5) ∧ ∀ j, j < n → p2.cell? ⟨b5, o5 + j, none⟩ = some (.bool (mergeM Z Y k j))) := ⟨ck, gk5⟩
        have CA : Hid (p2.cell? ⟨bq, oq + k, none⟩ = some (.slice (some ⟨b6, o6, none⟩) n cap6) ∧ ∀ j, j < n → p2.cell? ⟨b6, o6 + j, none⟩ = some (.bool (Z k j))) := ⟨keep_of_below BEL110.out _ _ dk, fun j hj => keep_of_below BEL110.out _ _ (gk6 j hj)⟩
        have CB : Hid (p2.cell? ⟨bq', oq' + k, none⟩ = some (.slice (some ⟨b7, o7, none⟩) n cap7) ∧ ∀ j, j < n → p2.cell? ⟨b7, o7 + j, none⟩ = some (.bool (Y k j))) := ⟨keep_of_below BEL110.out _ _ ek, fun j hj => keep_of_below BEL110.out _ _ (gk7 j hj)⟩
        have c1 := keep_of_below hb _ _ CM.out.1
        have c2 := keep_of_below hb _ _ CA.out.1
        have bk : (k : Int) < (R : Int) := by omega
        have bk0 : (0 : Int) ≤ (k : Int) := by omega
        clear hg hb ck fk gk5 dk fk6 gk6 ek fk7 gk7
        go_wp2_with fail
        go_quiet (fail)
        have BD : Hid (Below p2.heap.size p2 (wr.drewN nq)) := below_drewN HK.out.2 nq
        clear c1 c2 x2 y2
        generalize wr.drewN nq = wd at BD ⊢
        have x2 : wd.cell? ⟨gm, 1, none⟩ = some (.slice (some ⟨bg, og, none⟩) R cm) := (KB_m_110.out.since BD.out).cell 1
        have c1 := keep_of_below BD.out _ _ CM.out.1
        go_wp2_with fail
        clear c1 x2
        go_loopg [117] n (fun gj i wi => ∃ c : Nat, (gj = n - c ∧ c ≤ n ∧ Below p2.heap.size p2 wi) ∧ i = .int .i64 (c : Int))
        case atStart => exact ⟨0, ⟨rfl, by omega, BD.out⟩, rfl⟩
        case round =>
          obtain ⟨c, ⟨hg, hc, hb⟩, rfl⟩ := hrel
          have HJ : Hid (gk = n - c ∧ Below p2.heap.size p2 wr) := ⟨hg, hb⟩
          by_cases hcl : c < n
          · have x2 : wr.cell? ⟨gm, 1, none⟩ = some (.slice (some ⟨bg, og, none⟩) R cm) := (KB_m_110.out.since hb).cell 1
            have y2 : wr.cell? ⟨w.heap.size, 1, none⟩ = some (.slice (some ⟨bq, oq, none⟩) R cap) := (KB_bx_110.out.since hb).cell 1
            have z2 : wr.cell? ⟨w.heap.size + 1, 1, none⟩ = some (.slice (some ⟨bq', oq', none⟩) R cap') := (KB_by_110.out.since hb).cell 1
            have c1 := keep_of_below hb _ _ CM.out.1
            have c2 := keep_of_below hb _ _ CA.out.1
            have c3 := keep_of_below hb _ _ CB.out.1
            have bc : (c : Int) < (n : Int) := by omega
            have bc0 : (0 : Int) ≤ (c : Int) := by omega
            obtain ⟨za, hza⟩ : ∃ za, za = Z k c := ⟨_, rfl⟩
            obtain ⟨zb, hzb⟩ : ∃ zb, zb = Y k c := ⟨_, rfl⟩
            have d1 : wr.cell? ⟨b5, o5 + c, none⟩ = some (.bool (za || zb)) := by rw [hza, hzb]; exact keep_of_below hb _ _ (CM.out.2 c hcl)
            have d2 : wr.cell? ⟨b6, o6 + c, none⟩ = some (.bool za) := by rw [hza]; exact keep_of_below hb _ _ (CA.out.2 c hcl)
            have d3 : wr.cell? ⟨b7, o7 + c, none⟩ = some (.bool zb) := by rw [hzb]; exact keep_of_below hb _ _ (CB.out.2 c hcl)
            clear hg hb hza hzb
            cases za
            rotate_left
            · simp only [Bool.true_or] at d1
              go_wp2_with fail
              go_quiet (fail)
              go_wp2_with fail
              go_roundg (n - (c + 1))
              case measure => have := HJ.out.1; omega
              case rel => exact ⟨c + 1, ⟨rfl, by omega, below_drewN HJ.out.2 nq⟩, by go_num⟩
            · simp only [Bool.false_or] at d1
              go_wp2_with fail
              go_quiet (fail)
              go_wp2_with fail
              go_roundg (n - (c + 1))
              case measure => have := HJ.out.1; omega
              case rel => exact ⟨c + 1, ⟨rfl, by omega, below_drewN HJ.out.2 nq⟩, by go_num⟩
          · have bc : ¬ (c : Int) < (n : Int) := by omega
            clear hg hb
            go_wp2_with fail
            go_roundg (R - (k + 1))
            case measure => have := HK.out.1; omega
            case rel => exact ⟨k + 1, ⟨rfl, by omega, HJ.out.2⟩, by go_num⟩
      · have bk : ¬ (k : Int) < (R : Int) := by omega
        have BW : Below p2.heap.size p2 wr := hb
        clear hg hb x2 y2
        have BEL111 := h_bel BEL110 BW
        have BOX111 := h_box BOX110 BW
        have FA_a_111 := h_fact FA_a_110 BW
        have FA_b_111 := h_fact FA_b_110 BW
        have FA_m_111 := h_fact FA_m_110 BW
        have KB_bx_111 := h_blk KB_bx_110 BW
        have KB_by_111 := h_blk KB_by_110 BW
        have KB_m_111 := h_blk KB_m_110 BW
        clear BEL110 BOX110 FA_a_110 FA_b_110 FA_m_110 KB_bx_110 KB_by_110 KB_m_110
        clear BW
        go_wp2_with fail
        refine (mawake_any _ (tabAt_keep HT.out (keep_of_below BEL111.out))).mono ?_
        rintro e ww99 ⟨rfl, b9⟩
        have BEL112 := h_bel BEL111 b9
        have BOX112 := h_box BOX111 b9
        have FA_a_112 := h_fact FA_a_111 b9
        have FA_b_112 := h_fact FA_b_111 b9
        have FA_m_112 := h_fact FA_m_111 b9
        have KB_bx_112 := h_blk KB_bx_111 b9
        have KB_by_112 := h_blk KB_by_111 b9
        have KB_m_112 := h_blk KB_m_111 b9
        clear BEL111 BOX111 FA_a_111 FA_b_111 FA_m_111 KB_bx_111 KB_by_111 KB_m_111
        clear b9
        go_wp2_with fail
        go_ret
        exact ⟨rfl, BEL112.out⟩
  have ND_2_x : Hid (∀ (v : World) (gx : Nat) (ll : Array Bool) (aa : Act), ll = #[true, true, true, true, true, false, false, false] → aa = (((act0.put (some 12) (.agg #[.int .u64 S, .slice A R cap])).put (some 14) (.agg #[.int .u64 S', .slice A' R' cap'])).put (some 5) (.pointer (some ⟨gx, 0, none⟩))) → Hid (Below w.heap.size w v) → Hid (Boxes w v [gx, w.heap.size + 1, w.heap.size]) → Hid (HeldX [gx, w.heap.size + 1, w.heap.size] (fun uq => MpAt uq (.agg #[.int .u64 S, .slice A R cap]) S R L Z) v) → Hid (HeldX [gx, w.heap.size + 1, w.heap.size] (fun uq => MpAt uq (.agg #[.int .u64 S', .slice A' R' cap']) S' R' L' Y) v) → Hid (Blk v w.heap.size 25 #[.int .u64 S, .slice A R cap]) → Hid (Blk v (w.heap.size + 1) 25 #[.int .u64 S', .slice A' R' cap']) → Hid (Blk v gx 30 #[.int .u64 0, .slice none 0 0]) → Hid (w.heap.size ≠ w.heap.size + 1) → Hid (w.heap.size ≠ gx) → Hid (w.heap.size + 1 ≠ gx) → TT 3 ll aa v) := by
    intro v gx ll aa hl hA BEL103 BOX103 FA_a_103 FA_b_103 KB_bx_103 KB_by_103 KB_x_103 NE_bx_by NE_bx_x NE_by_x
    rw [hact.out] at hA
    try simp only [Act.put, List.setIfInBounds_toArray, List.set_cons_zero, List.set_cons_succ] at hA
    subst hl hA
    refine hUT.out _ _ _ _ ?_
    refine wpAnyH_ready (rs := [5]) (by kernel_rfl) (by simp) ?_
    refine AllReadyH.cons rfl (fun K0 hK0 => ?_) ?_
    · have BEL104 := a_bel BEL103 (.cells #[.int .u64 0, .slice none 0 0] 30)
      have BOX104 := a_box BOX103 BEL103 (.cells #[.int .u64 0, .slice none 0 0] 30)
      have FA_a_104 := a_fact FA_a_103 (.cells #[.int .u64 0, .slice none 0 0] 30)
      have FA_b_104 := a_fact FA_b_103 (.cells #[.int .u64 0, .slice none 0 0] 30)
      have KB_bx_104 := a_blk KB_bx_103 (.cells #[.int .u64 0, .slice none 0 0] 30)
      have NE_bx_y := n_ne KB_bx_103
      have KB_by_104 := a_blk KB_by_103 (.cells #[.int .u64 0, .slice none 0 0] 30)
      have NE_by_y := n_ne KB_by_103
      have KB_x_104 := a_blk KB_x_103 (.cells #[.int .u64 0, .slice none 0 0] 30)
      have NE_x_y := n_ne KB_x_103
      have KB_y_104 := n_blk (u := v) 30 #[.int .u64 0, .slice none 0 0]
      clear BEL103 BOX103 FA_a_103 FA_b_103 KB_bx_103 KB_by_103 KB_x_103
      go_simp
      generalize (v.alloc (.cells #[.int .u64 0, .slice none 0 0] 30)) = v2 at BEL104 BOX104 FA_a_104 FA_b_104 KB_bx_104 KB_by_104 KB_x_104 KB_y_104 ⊢
      generalize v.heap.size = gy at BOX104 FA_a_104 FA_b_104 KB_y_104 NE_bx_y NE_by_y NE_x_y ⊢
      refine hK0.out _ _ (by exact ⟨KB_bx_104.out, KB_by_104.out⟩) (fun hHeld => ?_)
      clear hK0 K0 hHeld
      refine hTU.out _ _ _ _ ?_
      refine ND_2_xy.out _ gx gy _ _ ?_ ?_ BEL104 BOX104 FA_a_104 FA_b_104 KB_bx_104 KB_by_104 KB_x_104 KB_y_104 NE_bx_by NE_bx_x NE_bx_y NE_by_x NE_by_y NE_x_y
      · first | rfl | kernel_rfl
      · rw [hact.out]; rfl
    exact AllReadyH.nil
  have ND_2_y : Hid (∀ (v : World) (gy : Nat) (ll : Array Bool) (aa : Act), ll = #[true, true, true, true, false, true, false, false] → aa = (((act0.put (some 12) (.agg #[.int .u64 S, .slice A R cap])).put (some 14) (.agg #[.int .u64 S', .slice A' R' cap'])).put (some 6) (.pointer (some ⟨gy, 0, none⟩))) → Hid (Below w.heap.size w v) → Hid (Boxes w v [gy, w.heap.size + 1, w.heap.size]) → Hid (HeldX [gy, w.heap.size + 1, w.heap.size] (fun uq => MpAt uq (.agg #[.int .u64 S, .slice A R cap]) S R L Z) v) → Hid (HeldX [gy, w.heap.size + 1, w.heap.size] (fun uq => MpAt uq (.agg #[.int .u64 S', .slice A' R' cap']) S' R' L' Y) v) → Hid (Blk v w.heap.size 25 #[.int .u64 S, .slice A R cap]) → Hid (Blk v (w.heap.size + 1) 25 #[.int .u64 S', .slice A' R' cap']) → Hid (Blk v gy 30 #[.int .u64 0, .slice none 0 0]) → Hid (w.heap.size ≠ w.heap.size + 1) → Hid (w.heap.size ≠ gy) → Hid (w.heap.size + 1 ≠ gy) → TT 3 ll aa v) := by
    intro v gy ll aa hl hA BEL103 BOX103 FA_a_103 FA_b_103 KB_bx_103 KB_by_103 KB_y_103 NE_bx_by NE_bx_y NE_by_y
    rw [hact.out] at hA
    try simp only [Act.put, List.setIfInBounds_toArray, List.set_cons_zero, List.set_cons_succ] at hA
    subst hl hA
    refine hUT.out _ _ _ _ ?_
    refine wpAnyH_ready (rs := [4]) (by kernel_rfl) (by simp) ?_
    refine AllReadyH.cons rfl (fun K0 hK0 => ?_) ?_
    · have BEL104 := a_bel BEL103 (.cells #[.int .u64 0, .slice none 0 0] 30)
      have BOX104 := a_box BOX103 BEL103 (.cells #[.int .u64 0, .slice none 0 0] 30)
      have FA_a_104 := a_fact FA_a_103 (.cells #[.int .u64 0, .slice none 0 0] 30)
      have FA_b_104 := a_fact FA_b_103 (.cells #[.int .u64 0, .slice none 0 0] 30)
      have KB_bx_104 := a_blk KB_bx_103 (.cells #[.int .u64 0, .slice none 0 0] 30)
      have NE_bx_x := n_ne KB_bx_103
      have KB_by_104 := a_blk KB_by_103 (.cells #[.int .u64 0, .slice none 0 0] 30)
      have NE_by_x := n_ne KB_by_103
      have KB_y_104 := a_blk KB_y_103 (.cells #[.int .u64 0, .slice none 0 0] 30)
      have NE_y_x := n_ne KB_y_103
      have KB_x_104 := n_blk (u := v) 30 #[.int .u64 0, .slice none 0 0]
      clear BEL103 BOX103 FA_a_103 FA_b_103 KB_bx_103 KB_by_103 KB_y_103
      go_simp
      generalize (v.alloc (.cells #[.int .u64 0, .slice none 0 0] 30)) = v2 at BEL104 BOX104 FA_a_104 FA_b_104 KB_bx_104 KB_by_104 KB_y_104 KB_x_104 ⊢
      generalize v.heap.size = gx at BOX104 FA_a_104 FA_b_104 KB_x_104 NE_bx_x NE_by_x NE_y_x ⊢
      refine hK0.out _ _ (by exact ⟨KB_bx_104.out, KB_by_104.out⟩) (fun hHeld => ?_)
      clear hK0 K0 hHeld
      refine hTU.out _ _ _ _ ?_
      refine ND_2_xy.out _ gx gy _ _ ?_ ?_ BEL104 (b_perm BOX104 (by intro p m; simp only [List.mem_cons, List.not_mem_nil, or_false] at m ⊢; omega)) (h_perm FA_a_104 (by intro p m; simp only [List.mem_cons, List.not_mem_nil, or_false] at m ⊢; omega)) (h_perm FA_b_104 (by intro p m; simp only [List.mem_cons, List.not_mem_nil, or_false] at m ⊢; omega)) KB_bx_104 KB_by_104 KB_x_104 KB_y_104 NE_bx_by NE_bx_x NE_bx_y NE_by_x NE_by_y (n_sym NE_y_x)
      · first | rfl | kernel_rfl
      · rw [hact.out]; rfl
    exact AllReadyH.nil
  have ND_2_ : Hid (∀ (v : World)  (ll : Array Bool) (aa : Act), ll = #[true, true, true, true, false, false, false, false] → aa = ((act0.put (some 12) (.agg #[.int .u64 S, .slice A R cap])).put (some 14) (.agg #[.int .u64 S', .slice A' R' cap'])) → Hid (Below w.heap.size w v) → Hid (Boxes w v [w.heap.size + 1, w.heap.size]) → Hid (HeldX [w.heap.size + 1, w.heap.size] (fun uq => MpAt uq (.agg #[.int .u64 S, .slice A R cap]) S R L Z) v) → Hid (HeldX [w.heap.size + 1, w.heap.size] (fun uq => MpAt uq (.agg #[.int .u64 S', .slice A' R' cap']) S' R' L' Y) v) → Hid (Blk v w.heap.size 25 #[.int .u64 S, .slice A R cap]) → Hid (Blk v (w.heap.size + 1) 25 #[.int .u64 S', .slice A' R' cap']) → Hid (w.heap.size ≠ w.heap.size + 1) → TT 4 ll aa v) := by
    intro v  ll aa hl hA BEL103 BOX103 FA_a_103 FA_b_103 KB_bx_103 KB_by_103 NE_bx_by
    rw [hact.out] at hA
    try simp only [Act.put, List.setIfInBounds_toArray, List.set_cons_zero, List.set_cons_succ] at hA
    subst hl hA
    refine hUT.out _ _ _ _ ?_
    refine wpAnyH_ready (rs := [4, 5]) (by kernel_rfl) (by simp) ?_
    refine AllReadyH.cons rfl (fun K0 hK0 => ?_) ?_
    · have BEL104 := a_bel BEL103 (.cells #[.int .u64 0, .slice none 0 0] 30)
      have BOX104 := a_box BOX103 BEL103 (.cells #[.int .u64 0, .slice none 0 0] 30)
      have FA_a_104 := a_fact FA_a_103 (.cells #[.int .u64 0, .slice none 0 0] 30)
      have FA_b_104 := a_fact FA_b_103 (.cells #[.int .u64 0, .slice none 0 0] 30)
      have KB_bx_104 := a_blk KB_bx_103 (.cells #[.int .u64 0, .slice none 0 0] 30)
      have NE_bx_x := n_ne KB_bx_103
      have KB_by_104 := a_blk KB_by_103 (.cells #[.int .u64 0, .slice none 0 0] 30)
      have NE_by_x := n_ne KB_by_103
      have KB_x_104 := n_blk (u := v) 30 #[.int .u64 0, .slice none 0 0]
      clear BEL103 BOX103 FA_a_103 FA_b_103 KB_bx_103 KB_by_103
      go_simp
      generalize (v.alloc (.cells #[.int .u64 0, .slice none 0 0] 30)) = v2 at BEL104 BOX104 FA_a_104 FA_b_104 KB_bx_104 KB_by_104 KB_x_104 ⊢
      generalize v.heap.size = gx at BOX104 FA_a_104 FA_b_104 KB_x_104 NE_bx_x NE_by_x ⊢
      refine hK0.out _ _ (by exact ⟨KB_bx_104.out, KB_by_104.out⟩) (fun hHeld => ?_)
      clear hK0 K0 hHeld
      refine hTU.out _ _ _ _ ?_
      refine ND_2_x.out _ gx _ _ ?_ ?_ BEL104 BOX104 FA_a_104 FA_b_104 KB_bx_104 KB_by_104 KB_x_104 NE_bx_by NE_bx_x NE_by_x
      · first | rfl | kernel_rfl
      · rw [hact.out]; rfl
    refine AllReadyH.cons rfl (fun K0 hK0 => ?_) ?_
    · have BEL104 := a_bel BEL103 (.cells #[.int .u64 0, .slice none 0 0] 30)
      have BOX104 := a_box BOX103 BEL103 (.cells #[.int .u64 0, .slice none 0 0] 30)
      have FA_a_104 := a_fact FA_a_103 (.cells #[.int .u64 0, .slice none 0 0] 30)
      have FA_b_104 := a_fact FA_b_103 (.cells #[.int .u64 0, .slice none 0 0] 30)
      have KB_bx_104 := a_blk KB_bx_103 (.cells #[.int .u64 0, .slice none 0 0] 30)
      have NE_bx_y := n_ne KB_bx_103
      have KB_by_104 := a_blk KB_by_103 (.cells #[.int .u64 0, .slice none 0 0] 30)
      have NE_by_y := n_ne KB_by_103
      have KB_y_104 := n_blk (u := v) 30 #[.int .u64 0, .slice none 0 0]
      clear BEL103 BOX103 FA_a_103 FA_b_103 KB_bx_103 KB_by_103
      go_simp
      generalize (v.alloc (.cells #[.int .u64 0, .slice none 0 0] 30)) = v2 at BEL104 BOX104 FA_a_104 FA_b_104 KB_bx_104 KB_by_104 KB_y_104 ⊢
      generalize v.heap.size = gy at BOX104 FA_a_104 FA_b_104 KB_y_104 NE_bx_y NE_by_y ⊢
      refine hK0.out _ _ (by exact ⟨KB_bx_104.out, KB_by_104.out⟩) (fun hHeld => ?_)
      clear hK0 K0 hHeld
      refine hTU.out _ _ _ _ ?_
      refine ND_2_y.out _ gy _ _ ?_ ?_ BEL104 BOX104 FA_a_104 FA_b_104 KB_bx_104 KB_by_104 KB_y_104 NE_bx_by NE_bx_y NE_by_y
      · first | rfl | kernel_rfl
      · rw [hact.out]; rfl
    exact AllReadyH.nil
  have ND_1_xy : Hid (∀ (v : World) (gx : Nat) (gy : Nat) (ll : Array Bool) (aa : Act), ll = #[true, true, true, false, true, true, false, false] → aa = (((act0.put (some 12) (.agg #[.int .u64 S, .slice A R cap])).put (some 5) (.pointer (some ⟨gx, 0, none⟩))).put (some 6) (.pointer (some ⟨gy, 0, none⟩))) → Hid (Below w.heap.size w v) → Hid (Boxes w v [gy, gx, w.heap.size + 1, w.heap.size]) → Hid (HeldX [gy, gx, w.heap.size + 1, w.heap.size] (fun uq => MpAt uq (.agg #[.int .u64 S, .slice A R cap]) S R L Z) v) → Hid (HeldX [gy, gx, w.heap.size + 1, w.heap.size] (fun uq => MpAt uq (.agg #[.int .u64 S', .slice A' R' cap']) S' R' L' Y) v) → Hid (Blk v w.heap.size 25 #[.int .u64 S, .slice A R cap]) → Hid (Blk v (w.heap.size + 1) 25 #[.int .u64 S', .slice A' R' cap']) → Hid (Blk v gx 30 #[.int .u64 0, .slice none 0 0]) → Hid (Blk v gy 30 #[.int .u64 0, .slice none 0 0]) → Hid (w.heap.size ≠ w.heap.size + 1) → Hid (w.heap.size ≠ gx) → Hid (w.heap.size ≠ gy) → Hid (w.heap.size + 1 ≠ gx) → Hid (w.heap.size + 1 ≠ gy) → Hid (gx ≠ gy) → TT 3 ll aa v) := by
    intro v gx gy ll aa hl hA BEL103 BOX103 FA_a_103 FA_b_103 KB_bx_103 KB_by_103 KB_x_103 KB_y_103 NE_bx_by NE_bx_x NE_bx_y NE_by_x NE_by_y NE_x_y
    rw [hact.out] at hA
    try simp only [Act.put, List.setIfInBounds_toArray, List.set_cons_zero, List.set_cons_succ] at hA
    subst hl hA
    refine hUT.out _ _ _ _ ?_
    refine wpAnyH_ready (rs := [3]) (by kernel_rfl) (by simp) ?_
    refine AllReadyH.cons rfl (fun K0 hK0 => ?_) ?_
    · refine step_func 10 #[.agg #[.int .u64 S', .slice A' R' cap']] (by rfl) rfl (by simp [Act.eval]) (fun _ _ => by kernel_rfl) ?_
      refine (mref_any _ _ S' R' _ _ FA_b_103.out.at).mono ?_
      rintro e q2 ⟨rfl, bb⟩
      have BEL104 := h_bel BEL103 bb
      have BOX104 := h_box BOX103 bb
      have FA_a_104 := h_fact FA_a_103 bb
      have FA_b_104 := h_fact FA_b_103 bb
      have KB_bx_104 := h_blk KB_bx_103 bb
      have KB_by_104 := h_blk KB_by_103 bb
      have KB_x_104 := h_blk KB_x_103 bb
      have KB_y_104 := h_blk KB_y_103 bb
      clear BEL103 BOX103 FA_a_103 FA_b_103 KB_bx_103 KB_by_103 KB_x_103 KB_y_103
      clear bb
      refine ⟨_, rfl, ?_⟩
      refine hK0.out _ _ (by exact ⟨KB_bx_104.out, KB_by_104.out⟩) (fun hHeld => ?_)
      clear hK0 K0 hHeld
      refine hTU.out _ _ _ _ ?_
      refine ND_2_xy.out _ gx gy _ _ ?_ ?_ BEL104 BOX104 FA_a_104 FA_b_104 KB_bx_104 KB_by_104 KB_x_104 KB_y_104 NE_bx_by NE_bx_x NE_bx_y NE_by_x NE_by_y NE_x_y
      · first | rfl | kernel_rfl
      · rw [hact.out]; rfl
    exact AllReadyH.nil
  have ND_1_x : Hid (∀ (v : World) (gx : Nat) (ll : Array Bool) (aa : Act), ll = #[true, true, true, false, true, false, false, false] → aa = ((act0.put (some 12) (.agg #[.int .u64 S, .slice A R cap])).put (some 5) (.pointer (some ⟨gx, 0, none⟩))) → Hid (Below w.heap.size w v) → Hid (Boxes w v [gx, w.heap.size + 1, w.heap.size]) → Hid (HeldX [gx, w.heap.size + 1, w.heap.size] (fun uq => MpAt uq (.agg #[.int .u64 S, .slice A R cap]) S R L Z) v) → Hid (HeldX [gx, w.heap.size + 1, w.heap.size] (fun uq => MpAt uq (.agg #[.int .u64 S', .slice A' R' cap']) S' R' L' Y) v) → Hid (Blk v w.heap.size 25 #[.int .u64 S, .slice A R cap]) → Hid (Blk v (w.heap.size + 1) 25 #[.int .u64 S', .slice A' R' cap']) → Hid (Blk v gx 30 #[.int .u64 0, .slice none 0 0]) → Hid (w.heap.size ≠ w.heap.size + 1) → Hid (w.heap.size ≠ gx) → Hid (w.heap.size + 1 ≠ gx) → TT 4 ll aa v) := by
    intro v gx ll aa hl hA BEL103 BOX103 FA_a_103 FA_b_103 KB_bx_103 KB_by_103 KB_x_103 NE_bx_by NE_bx_x NE_by_x
    rw [hact.out] at hA
    try simp only [Act.put, List.setIfInBounds_toArray, List.set_cons_zero, List.set_cons_succ] at hA
    subst hl hA
    refine hUT.out _ _ _ _ ?_
    refine wpAnyH_ready (rs := [3, 5]) (by kernel_rfl) (by simp) ?_
    refine AllReadyH.cons rfl (fun K0 hK0 => ?_) ?_
    · refine step_func 10 #[.agg #[.int .u64 S', .slice A' R' cap']] (by rfl) rfl (by simp [Act.eval]) (fun _ _ => by kernel_rfl) ?_
      refine (mref_any _ _ S' R' _ _ FA_b_103.out.at).mono ?_
      rintro e q2 ⟨rfl, bb⟩
      have BEL104 := h_bel BEL103 bb
      have BOX104 := h_box BOX103 bb
      have FA_a_104 := h_fact FA_a_103 bb
      have FA_b_104 := h_fact FA_b_103 bb
      have KB_bx_104 := h_blk KB_bx_103 bb
      have KB_by_104 := h_blk KB_by_103 bb
      have KB_x_104 := h_blk KB_x_103 bb
      clear BEL103 BOX103 FA_a_103 FA_b_103 KB_bx_103 KB_by_103 KB_x_103
      clear bb
      refine ⟨_, rfl, ?_⟩
      refine hK0.out _ _ (by exact ⟨KB_bx_104.out, KB_by_104.out⟩) (fun hHeld => ?_)
      clear hK0 K0 hHeld
      refine hTU.out _ _ _ _ ?_
      refine ND_2_x.out _ gx _ _ ?_ ?_ BEL104 BOX104 FA_a_104 FA_b_104 KB_bx_104 KB_by_104 KB_x_104 NE_bx_by NE_bx_x NE_by_x
      · first | rfl | kernel_rfl
      · rw [hact.out]; rfl
    refine AllReadyH.cons rfl (fun K0 hK0 => ?_) ?_
    · have BEL104 := a_bel BEL103 (.cells #[.int .u64 0, .slice none 0 0] 30)
      have BOX104 := a_box BOX103 BEL103 (.cells #[.int .u64 0, .slice none 0 0] 30)
      have FA_a_104 := a_fact FA_a_103 (.cells #[.int .u64 0, .slice none 0 0] 30)
      have FA_b_104 := a_fact FA_b_103 (.cells #[.int .u64 0, .slice none 0 0] 30)
      have KB_bx_104 := a_blk KB_bx_103 (.cells #[.int .u64 0, .slice none 0 0] 30)
      have NE_bx_y := n_ne KB_bx_103
      have KB_by_104 := a_blk KB_by_103 (.cells #[.int .u64 0, .slice none 0 0] 30)
      have NE_by_y := n_ne KB_by_103
      have KB_x_104 := a_blk KB_x_103 (.cells #[.int .u64 0, .slice none 0 0] 30)
      have NE_x_y := n_ne KB_x_103
      have KB_y_104 := n_blk (u := v) 30 #[.int .u64 0, .slice none 0 0]
      clear BEL103 BOX103 FA_a_103 FA_b_103 KB_bx_103 KB_by_103 KB_x_103
      go_simp
      generalize (v.alloc (.cells #[.int .u64 0, .slice none 0 0] 30)) = v2 at BEL104 BOX104 FA_a_104 FA_b_104 KB_bx_104 KB_by_104 KB_x_104 KB_y_104 ⊢
      generalize v.heap.size = gy at BOX104 FA_a_104 FA_b_104 KB_y_104 NE_bx_y NE_by_y NE_x_y ⊢
      refine hK0.out _ _ (by exact ⟨KB_bx_104.out, KB_by_104.out⟩) (fun hHeld => ?_)
      clear hK0 K0 hHeld
      refine hTU.out _ _ _ _ ?_
      refine ND_1_xy.out _ gx gy _ _ ?_ ?_ BEL104 BOX104 FA_a_104 FA_b_104 KB_bx_104 KB_by_104 KB_x_104 KB_y_104 NE_bx_by NE_bx_x NE_bx_y NE_by_x NE_by_y NE_x_y
      · first | rfl | kernel_rfl
      · rw [hact.out]; rfl
    exact AllReadyH.nil
  have ND_1_y : Hid (∀ (v : World) (gy : Nat) (ll : Array Bool) (aa : Act), ll = #[true, true, true, false, false, true, false, false] → aa = ((act0.put (some 12) (.agg #[.int .u64 S, .slice A R cap])).put (some 6) (.pointer (some ⟨gy, 0, none⟩))) → Hid (Below w.heap.size w v) → Hid (Boxes w v [gy, w.heap.size + 1, w.heap.size]) → Hid (HeldX [gy, w.heap.size + 1, w.heap.size] (fun uq => MpAt uq (.agg #[.int .u64 S, .slice A R cap]) S R L Z) v) → Hid (HeldX [gy, w.heap.size + 1, w.heap.size] (fun uq => MpAt uq (.agg #[.int .u64 S', .slice A' R' cap']) S' R' L' Y) v) → Hid (Blk v w.heap.size 25 #[.int .u64 S, .slice A R cap]) → Hid (Blk v (w.heap.size + 1) 25 #[.int .u64 S', .slice A' R' cap']) → Hid (Blk v gy 30 #[.int .u64 0, .slice none 0 0]) → Hid (w.heap.size ≠ w.heap.size + 1) → Hid (w.heap.size ≠ gy) → Hid (w.heap.size + 1 ≠ gy) → TT 4 ll aa v) := by
    intro v gy ll aa hl hA BEL103 BOX103 FA_a_103 FA_b_103 KB_bx_103 KB_by_103 KB_y_103 NE_bx_by NE_bx_y NE_by_y
    rw [hact.out] at hA
    try simp only [Act.put, List.setIfInBounds_toArray, List.set_cons_zero, List.set_cons_succ] at hA
    subst hl hA
    refine hUT.out _ _ _ _ ?_
    refine wpAnyH_ready (rs := [3, 4]) (by kernel_rfl) (by simp) ?_
    refine AllReadyH.cons rfl (fun K0 hK0 => ?_) ?_
    · refine step_func 10 #[.agg #[.int .u64 S', .slice A' R' cap']] (by rfl) rfl (by simp [Act.eval]) (fun _ _ => by kernel_rfl) ?_
      refine (mref_any _ _ S' R' _ _ FA_b_103.out.at).mono ?_
      rintro e q2 ⟨rfl, bb⟩
      have BEL104 := h_bel BEL103 bb
      have BOX104 := h_box BOX103 bb
      have FA_a_104 := h_fact FA_a_103 bb
      have FA_b_104 := h_fact FA_b_103 bb
      have KB_bx_104 := h_blk KB_bx_103 bb
      have KB_by_104 := h_blk KB_by_103 bb
      have KB_y_104 := h_blk KB_y_103 bb
      clear BEL103 BOX103 FA_a_103 FA_b_103 KB_bx_103 KB_by_103 KB_y_103
      clear bb
      refine ⟨_, rfl, ?_⟩
      refine hK0.out _ _ (by exact ⟨KB_bx_104.out, KB_by_104.out⟩) (fun hHeld => ?_)
      clear hK0 K0 hHeld
      refine hTU.out _ _ _ _ ?_
      refine ND_2_y.out _ gy _ _ ?_ ?_ BEL104 BOX104 FA_a_104 FA_b_104 KB_bx_104 KB_by_104 KB_y_104 NE_bx_by NE_bx_y NE_by_y
      · first | rfl | kernel_rfl
      · rw [hact.out]; rfl
    refine AllReadyH.cons rfl (fun K0 hK0 => ?_) ?_
    · have BEL104 := a_bel BEL103 (.cells #[.int .u64 0, .slice none 0 0] 30)
      have BOX104 := a_box BOX103 BEL103 (.cells #[.int .u64 0, .slice none 0 0] 30)
      have FA_a_104 := a_fact FA_a_103 (.cells #[.int .u64 0, .slice none 0 0] 30)
      have FA_b_104 := a_fact FA_b_103 (.cells #[.int .u64 0, .slice none 0 0] 30)
      have KB_bx_104 := a_blk KB_bx_103 (.cells #[.int .u64 0, .slice none 0 0] 30)
      have NE_bx_x := n_ne KB_bx_103
      have KB_by_104 := a_blk KB_by_103 (.cells #[.int .u64 0, .slice none 0 0] 30)
      have NE_by_x := n_ne KB_by_103
      have KB_y_104 := a_blk KB_y_103 (.cells #[.int .u64 0, .slice none 0 0] 30)
      have NE_y_x := n_ne KB_y_103
      have KB_x_104 := n_blk (u := v) 30 #[.int .u64 0, .slice none 0 0]
      clear BEL103 BOX103 FA_a_103 FA_b_103 KB_bx_103 KB_by_103 KB_y_103
      go_simp
      generalize (v.alloc (.cells #[.int .u64 0, .slice none 0 0] 30)) = v2 at BEL104 BOX104 FA_a_104 FA_b_104 KB_bx_104 KB_by_104 KB_y_104 KB_x_104 ⊢
      generalize v.heap.size = gx at BOX104 FA_a_104 FA_b_104 KB_x_104 NE_bx_x NE_by_x NE_y_x ⊢
      refine hK0.out _ _ (by exact ⟨KB_bx_104.out, KB_by_104.out⟩) (fun hHeld => ?_)
      clear hK0 K0 hHeld
      refine hTU.out _ _ _ _ ?_
      refine ND_1_xy.out _ gx gy _ _ ?_ ?_ BEL104 (b_perm BOX104 (by intro p m; simp only [List.mem_cons, List.not_mem_nil, or_false] at m ⊢; omega)) (h_perm FA_a_104 (by intro p m; simp only [List.mem_cons, List.not_mem_nil, or_false] at m ⊢; omega)) (h_perm FA_b_104 (by intro p m; simp only [List.mem_cons, List.not_mem_nil, or_false] at m ⊢; omega)) KB_bx_104 KB_by_104 KB_x_104 KB_y_104 NE_bx_by NE_bx_x NE_bx_y NE_by_x NE_by_y (n_sym NE_y_x)
      · first | rfl | kernel_rfl
      · rw [hact.out]; rfl
    exact AllReadyH.nil
  have ND_1_ : Hid (∀ (v : World)  (ll : Array Bool) (aa : Act), ll = #[true, true, true, false, false, false, false, false] → aa = (act0.put (some 12) (.agg #[.int .u64 S, .slice A R cap])) → Hid (Below w.heap.size w v) → Hid (Boxes w v [w.heap.size + 1, w.heap.size]) → Hid (HeldX [w.heap.size + 1, w.heap.size] (fun uq => MpAt uq (.agg #[.int .u64 S, .slice A R cap]) S R L Z) v) → Hid (HeldX [w.heap.size + 1, w.heap.size] (fun uq => MpAt uq (.agg #[.int .u64 S', .slice A' R' cap']) S' R' L' Y) v) → Hid (Blk v w.heap.size 25 #[.int .u64 S, .slice A R cap]) → Hid (Blk v (w.heap.size + 1) 25 #[.int .u64 S', .slice A' R' cap']) → Hid (w.heap.size ≠ w.heap.size + 1) → TT 5 ll aa v) := by
    intro v  ll aa hl hA BEL103 BOX103 FA_a_103 FA_b_103 KB_bx_103 KB_by_103 NE_bx_by
    rw [hact.out] at hA
    try simp only [Act.put, List.setIfInBounds_toArray, List.set_cons_zero, List.set_cons_succ] at hA
    subst hl hA
    refine hUT.out _ _ _ _ ?_
    refine wpAnyH_ready (rs := [3, 4, 5]) (by kernel_rfl) (by simp) ?_
    refine AllReadyH.cons rfl (fun K0 hK0 => ?_) ?_
    · refine step_func 10 #[.agg #[.int .u64 S', .slice A' R' cap']] (by rfl) rfl (by simp [Act.eval]) (fun _ _ => by kernel_rfl) ?_
      refine (mref_any _ _ S' R' _ _ FA_b_103.out.at).mono ?_
      rintro e q2 ⟨rfl, bb⟩
      have BEL104 := h_bel BEL103 bb
      have BOX104 := h_box BOX103 bb
      have FA_a_104 := h_fact FA_a_103 bb
      have FA_b_104 := h_fact FA_b_103 bb
      have KB_bx_104 := h_blk KB_bx_103 bb
      have KB_by_104 := h_blk KB_by_103 bb
      clear BEL103 BOX103 FA_a_103 FA_b_103 KB_bx_103 KB_by_103
      clear bb
      refine ⟨_, rfl, ?_⟩
      refine hK0.out _ _ (by exact ⟨KB_bx_104.out, KB_by_104.out⟩) (fun hHeld => ?_)
      clear hK0 K0 hHeld
      refine hTU.out _ _ _ _ ?_
      refine ND_2_.out _  _ _ ?_ ?_ BEL104 BOX104 FA_a_104 FA_b_104 KB_bx_104 KB_by_104 NE_bx_by
      · first | rfl | kernel_rfl
      · rw [hact.out]; rfl
    refine AllReadyH.cons rfl (fun K0 hK0 => ?_) ?_
    · have BEL104 := a_bel BEL103 (.cells #[.int .u64 0, .slice none 0 0] 30)
      have BOX104 := a_box BOX103 BEL103 (.cells #[.int .u64 0, .slice none 0 0] 30)
      have FA_a_104 := a_fact FA_a_103 (.cells #[.int .u64 0, .slice none 0 0] 30)
      have FA_b_104 := a_fact FA_b_103 (.cells #[.int .u64 0, .slice none 0 0] 30)
      have KB_bx_104 := a_blk KB_bx_103 (.cells #[.int .u64 0, .slice none 0 0] 30)
      have NE_bx_x := n_ne KB_bx_103
      have KB_by_104 := a_blk KB_by_103 (.cells #[.int .u64 0, .slice none 0 0] 30)
      have NE_by_x := n_ne KB_by_103
      have KB_x_104 := n_blk (u := v) 30 #[.int .u64 0, .slice none 0 0]
      clear BEL103 BOX103 FA_a_103 FA_b_103 KB_bx_103 KB_by_103
      go_simp
      generalize (v.alloc (.cells #[.int .u64 0, .slice none 0 0] 30)) = v2 at BEL104 BOX104 FA_a_104 FA_b_104 KB_bx_104 KB_by_104 KB_x_104 ⊢
      generalize v.heap.size = gx at BOX104 FA_a_104 FA_b_104 KB_x_104 NE_bx_x NE_by_x ⊢
      refine hK0.out _ _ (by exact ⟨KB_bx_104.out, KB_by_104.out⟩) (fun hHeld => ?_)
      clear hK0 K0 hHeld
      refine hTU.out _ _ _ _ ?_
      refine ND_1_x.out _ gx _ _ ?_ ?_ BEL104 BOX104 FA_a_104 FA_b_104 KB_bx_104 KB_by_104 KB_x_104 NE_bx_by NE_bx_x NE_by_x
      · first | rfl | kernel_rfl
      · rw [hact.out]; rfl
    refine AllReadyH.cons rfl (fun K0 hK0 => ?_) ?_
    · have BEL104 := a_bel BEL103 (.cells #[.int .u64 0, .slice none 0 0] 30)
      have BOX104 := a_box BOX103 BEL103 (.cells #[.int .u64 0, .slice none 0 0] 30)
      have FA_a_104 := a_fact FA_a_103 (.cells #[.int .u64 0, .slice none 0 0] 30)
      have FA_b_104 := a_fact FA_b_103 (.cells #[.int .u64 0, .slice none 0 0] 30)
      have KB_bx_104 := a_blk KB_bx_103 (.cells #[.int .u64 0, .slice none 0 0] 30)
      have NE_bx_y := n_ne KB_bx_103
      have KB_by_104 := a_blk KB_by_103 (.cells #[.int .u64 0, .slice none 0 0] 30)
      have NE_by_y := n_ne KB_by_103
      have KB_y_104 := n_blk (u := v) 30 #[.int .u64 0, .slice none 0 0]
      clear BEL103 BOX103 FA_a_103 FA_b_103 KB_bx_103 KB_by_103
      go_simp
      generalize (v.alloc (.cells #[.int .u64 0, .slice none 0 0] 30)) = v2 at BEL104 BOX104 FA_a_104 FA_b_104 KB_bx_104 KB_by_104 KB_y_104 ⊢
      generalize v.heap.size = gy at BOX104 FA_a_104 FA_b_104 KB_y_104 NE_bx_y NE_by_y ⊢
      refine hK0.out _ _ (by exact ⟨KB_bx_104.out, KB_by_104.out⟩) (fun hHeld => ?_)
      clear hK0 K0 hHeld
      refine hTU.out _ _ _ _ ?_
      refine ND_1_y.out _ gy _ _ ?_ ?_ BEL104 BOX104 FA_a_104 FA_b_104 KB_bx_104 KB_by_104 KB_y_104 NE_bx_by NE_bx_y NE_by_y
      · first | rfl | kernel_rfl
      · rw [hact.out]; rfl
    exact AllReadyH.nil
  have ND_0_xy : Hid (∀ (v : World) (gx : Nat) (gy : Nat) (ll : Array Bool) (aa : Act), ll = #[true, false, true, false, true, true, false, false] → aa = ((act0.put (some 5) (.pointer (some ⟨gx, 0, none⟩))).put (some 6) (.pointer (some ⟨gy, 0, none⟩))) → Hid (Below w.heap.size w v) → Hid (Boxes w v [gy, gx, w.heap.size + 1, w.heap.size]) → Hid (HeldX [gy, gx, w.heap.size + 1, w.heap.size] (fun uq => MpAt uq (.agg #[.int .u64 S, .slice A R cap]) S R L Z) v) → Hid (HeldX [gy, gx, w.heap.size + 1, w.heap.size] (fun uq => MpAt uq (.agg #[.int .u64 S', .slice A' R' cap']) S' R' L' Y) v) → Hid (Blk v w.heap.size 25 #[.int .u64 S, .slice A R cap]) → Hid (Blk v (w.heap.size + 1) 25 #[.int .u64 S', .slice A' R' cap']) → Hid (Blk v gx 30 #[.int .u64 0, .slice none 0 0]) → Hid (Blk v gy 30 #[.int .u64 0, .slice none 0 0]) → Hid (w.heap.size ≠ w.heap.size + 1) → Hid (w.heap.size ≠ gx) → Hid (w.heap.size ≠ gy) → Hid (w.heap.size + 1 ≠ gx) → Hid (w.heap.size + 1 ≠ gy) → Hid (gx ≠ gy) → TT 4 ll aa v) := by
    intro v gx gy ll aa hl hA BEL103 BOX103 FA_a_103 FA_b_103 KB_bx_103 KB_by_103 KB_x_103 KB_y_103 NE_bx_by NE_bx_x NE_bx_y NE_by_x NE_by_y NE_x_y
    rw [hact.out] at hA
    try simp only [Act.put, List.setIfInBounds_toArray, List.set_cons_zero, List.set_cons_succ] at hA
    subst hl hA
    refine hUT.out _ _ _ _ ?_
    refine wpAnyH_ready (rs := [1]) (by kernel_rfl) (by simp) ?_
    refine AllReadyH.cons rfl (fun K0 hK0 => ?_) ?_
    · refine step_func 10 #[.agg #[.int .u64 S, .slice A R cap]] (by rfl) rfl (by simp [Act.eval]) (fun _ _ => by kernel_rfl) ?_
      refine (mref_any _ _ S R _ _ FA_a_103.out.at).mono ?_
      rintro e q1 ⟨rfl, bb⟩
      have BEL104 := h_bel BEL103 bb
      have BOX104 := h_box BOX103 bb
      have FA_a_104 := h_fact FA_a_103 bb
      have FA_b_104 := h_fact FA_b_103 bb
      have KB_bx_104 := h_blk KB_bx_103 bb
      have KB_by_104 := h_blk KB_by_103 bb
      have KB_x_104 := h_blk KB_x_103 bb
      have KB_y_104 := h_blk KB_y_103 bb
      clear BEL103 BOX103 FA_a_103 FA_b_103 KB_bx_103 KB_by_103 KB_x_103 KB_y_103
      clear bb
      refine ⟨_, rfl, ?_⟩
      refine hK0.out _ _ (by exact ⟨KB_bx_104.out, KB_by_104.out⟩) (fun hHeld => ?_)
      clear hK0 K0 hHeld
      refine hTU.out _ _ _ _ ?_
      refine ND_1_xy.out _ gx gy _ _ ?_ ?_ BEL104 BOX104 FA_a_104 FA_b_104 KB_bx_104 KB_by_104 KB_x_104 KB_y_104 NE_bx_by NE_bx_x NE_bx_y NE_by_x NE_by_y NE_x_y
      · first | rfl | kernel_rfl
      · rw [hact.out]; rfl
    exact AllReadyH.nil
  have ND_0_x : Hid (∀ (v : World) (gx : Nat) (ll : Array Bool) (aa : Act), ll = #[true, false, true, false, true, false, false, false] → aa = (act0.put (some 5) (.pointer (some ⟨gx, 0, none⟩))) → Hid (Below w.heap.size w v) → Hid (Boxes w v [gx, w.heap.size + 1, w.heap.size]) → Hid (HeldX [gx, w.heap.size + 1, w.heap.size] (fun uq => MpAt uq (.agg #[.int .u64 S, .slice A R cap]) S R L Z) v) → Hid (HeldX [gx, w.heap.size + 1, w.heap.size] (fun uq => MpAt uq (.agg #[.int .u64 S', .slice A' R' cap']) S' R' L' Y) v) → Hid (Blk v w.heap.size 25 #[.int .u64 S, .slice A R cap]) → Hid (Blk v (w.heap.size + 1) 25 #[.int .u64 S', .slice A' R' cap']) → Hid (Blk v gx 30 #[.int .u64 0, .slice none 0 0]) → Hid (w.heap.size ≠ w.heap.size + 1) → Hid (w.heap.size ≠ gx) → Hid (w.heap.size + 1 ≠ gx) → TT 5 ll aa v) := by
    intro v gx ll aa hl hA BEL103 BOX103 FA_a_103 FA_b_103 KB_bx_103 KB_by_103 KB_x_103 NE_bx_by NE_bx_x NE_by_x
    rw [hact.out] at hA
    try simp only [Act.put, List.setIfInBounds_toArray, List.set_cons_zero, List.set_cons_succ] at hA
    subst hl hA
    refine hUT.out _ _ _ _ ?_
    refine wpAnyH_ready (rs := [1, 5]) (by kernel_rfl) (by simp) ?_
    refine AllReadyH.cons rfl (fun K0 hK0 => ?_) ?_
    · refine step_func 10 #[.agg #[.int .u64 S, .slice A R cap]] (by rfl) rfl (by simp [Act.eval]) (fun _ _ => by kernel_rfl) ?_
      refine (mref_any _ _ S R _ _ FA_a_103.out.at).mono ?_
      rintro e q1 ⟨rfl, bb⟩
      have BEL104 := h_bel BEL103 bb
      have BOX104 := h_box BOX103 bb
      have FA_a_104 := h_fact FA_a_103 bb
      have FA_b_104 := h_fact FA_b_103 bb
      have KB_bx_104 := h_blk KB_bx_103 bb
      have KB_by_104 := h_blk KB_by_103 bb
      have KB_x_104 := h_blk KB_x_103 bb
      clear BEL103 BOX103 FA_a_103 FA_b_103 KB_bx_103 KB_by_103 KB_x_103
      clear bb
      refine ⟨_, rfl, ?_⟩
      refine hK0.out _ _ (by exact ⟨KB_bx_104.out, KB_by_104.out⟩) (fun hHeld => ?_)
      clear hK0 K0 hHeld
      refine hTU.out _ _ _ _ ?_
      refine ND_1_x.out _ gx _ _ ?_ ?_ BEL104 BOX104 FA_a_104 FA_b_104 KB_bx_104 KB_by_104 KB_x_104 NE_bx_by NE_bx_x NE_by_x
      · first | rfl | kernel_rfl
      · rw [hact.out]; rfl
    refine AllReadyH.cons rfl (fun K0 hK0 => ?_) ?_
    · have BEL104 := a_bel BEL103 (.cells #[.int .u64 0, .slice none 0 0] 30)
      have BOX104 := a_box BOX103 BEL103 (.cells #[.int .u64 0, .slice none 0 0] 30)
      have FA_a_104 := a_fact FA_a_103 (.cells #[.int .u64 0, .slice none 0 0] 30)
      have FA_b_104 := a_fact FA_b_103 (.cells #[.int .u64 0, .slice none 0 0] 30)
      have KB_bx_104 := a_blk KB_bx_103 (.cells #[.int .u64 0, .slice none 0 0] 30)
      have NE_bx_y := n_ne KB_bx_103
      have KB_by_104 := a_blk KB_by_103 (.cells #[.int .u64 0, .slice none 0 0] 30)
      have NE_by_y := n_ne KB_by_103
      have KB_x_104 := a_blk KB_x_103 (.cells #[.int .u64 0, .slice none 0 0] 30)
      have NE_x_y := n_ne KB_x_103
      have KB_y_104 := n_blk (u := v) 30 #[.int .u64 0, .slice none 0 0]
      clear BEL103 BOX103 FA_a_103 FA_b_103 KB_bx_103 KB_by_103 KB_x_103
      go_simp
      generalize (v.alloc (.cells #[.int .u64 0, .slice none 0 0] 30)) = v2 at BEL104 BOX104 FA_a_104 FA_b_104 KB_bx_104 KB_by_104 KB_x_104 KB_y_104 ⊢
      generalize v.heap.size = gy at BOX104 FA_a_104 FA_b_104 KB_y_104 NE_bx_y NE_by_y NE_x_y ⊢
      refine hK0.out _ _ (by exact ⟨KB_bx_104.out, KB_by_104.out⟩) (fun hHeld => ?_)
      clear hK0 K0 hHeld
      refine hTU.out _ _ _ _ ?_
      refine ND_0_xy.out _ gx gy _ _ ?_ ?_ BEL104 BOX104 FA_a_104 FA_b_104 KB_bx_104 KB_by_104 KB_x_104 KB_y_104 NE_bx_by NE_bx_x NE_bx_y NE_by_x NE_by_y NE_x_y
      · first | rfl | kernel_rfl
      · rw [hact.out]; rfl
    exact AllReadyH.nil
  have ND_0_y : Hid (∀ (v : World) (gy : Nat) (ll : Array Bool) (aa : Act), ll = #[true, false, true, false, false, true, false, false] → aa = (act0.put (some 6) (.pointer (some ⟨gy, 0, none⟩))) → Hid (Below w.heap.size w v) → Hid (Boxes w v [gy, w.heap.size + 1, w.heap.size]) → Hid (HeldX [gy, w.heap.size + 1, w.heap.size] (fun uq => MpAt uq (.agg #[.int .u64 S, .slice A R cap]) S R L Z) v) → Hid (HeldX [gy, w.heap.size + 1, w.heap.size] (fun uq => MpAt uq (.agg #[.int .u64 S', .slice A' R' cap']) S' R' L' Y) v) → Hid (Blk v w.heap.size 25 #[.int .u64 S, .slice A R cap]) → Hid (Blk v (w.heap.size + 1) 25 #[.int .u64 S', .slice A' R' cap']) → Hid (Blk v gy 30 #[.int .u64 0, .slice none 0 0]) → Hid (w.heap.size ≠ w.heap.size + 1) → Hid (w.heap.size ≠ gy) → Hid (w.heap.size + 1 ≠ gy) → TT 5 ll aa v) := by
    intro v gy ll aa hl hA BEL103 BOX103 FA_a_103 FA_b_103 KB_bx_103 KB_by_103 KB_y_103 NE_bx_by NE_bx_y NE_by_y
    rw [hact.out] at hA
    try simp only [Act.put, List.setIfInBounds_toArray, List.set_cons_zero, List.set_cons_succ] at hA
    subst hl hA
    refine hUT.out _ _ _ _ ?_
    refine wpAnyH_ready (rs := [1, 4]) (by kernel_rfl) (by simp) ?_
    refine AllReadyH.cons rfl (fun K0 hK0 => ?_) ?_
    · refine step_func 10 #[.agg #[.int .u64 S, .slice A R cap]] (by rfl) rfl (by simp [Act.eval]) (fun _ _ => by kernel_rfl) ?_
      refine (mref_any _ _ S R _ _ FA_a_103.out.at).mono ?_
      rintro e q1 ⟨rfl, bb⟩
      have BEL104 := h_bel BEL103 bb
      have BOX104 := h_box BOX103 bb
      have FA_a_104 := h_fact FA_a_103 bb
      have FA_b_104 := h_fact FA_b_103 bb
      have KB_bx_104 := h_blk KB_bx_103 bb
      have KB_by_104 := h_blk KB_by_103 bb
      have KB_y_104 := h_blk KB_y_103 bb
      clear BEL103 BOX103 FA_a_103 FA_b_103 KB_bx_103 KB_by_103 KB_y_103
      clear bb
      refine ⟨_, rfl, ?_⟩
      refine hK0.out _ _ (by exact ⟨KB_bx_104.out, KB_by_104.out⟩) (fun hHeld => ?_)
      clear hK0 K0 hHeld
      refine hTU.out _ _ _ _ ?_
      refine ND_1_y.out _ gy _ _ ?_ ?_ BEL104 BOX104 FA_a_104 FA_b_104 KB_bx_104 KB_by_104 KB_y_104 NE_bx_by NE_bx_y NE_by_y
      · first | rfl | kernel_rfl
      · rw [hact.out]; rfl
    refine AllReadyH.cons rfl (fun K0 hK0 => ?_) ?_
    · have BEL104 := a_bel BEL103 (.cells #[.int .u64 0, .slice none 0 0] 30)
      have BOX104 := a_box BOX103 BEL103 (.cells #[.int .u64 0, .slice none 0 0] 30)
      have FA_a_104 := a_fact FA_a_103 (.cells #[.int .u64 0, .slice none 0 0] 30)
      have FA_b_104 := a_fact FA_b_103 (.cells #[.int .u64 0, .slice none 0 0] 30)
      have KB_bx_104 := a_blk KB_bx_103 (.cells #[.int .u64 0, .slice none 0 0] 30)
      have NE_bx_x := n_ne KB_bx_103
      have KB_by_104 := a_blk KB_by_103 (.cells #[.int .u64 0, .slice none 0 0] 30)
      have NE_by_x := n_ne KB_by_103
      have KB_y_104 := a_blk KB_y_103 (.cells #[.int .u64 0, .slice none 0 0] 30)
      have NE_y_x := n_ne KB_y_103
      have KB_x_104 := n_blk (u := v) 30 #[.int .u64 0, .slice none 0 0]
      clear BEL103 BOX103 FA_a_103 FA_b_103 KB_bx_103 KB_by_103 KB_y_103
      go_simp
      generalize (v.alloc (.cells #[.int .u64 0, .slice none 0 0] 30)) = v2 at BEL104 BOX104 FA_a_104 FA_b_104 KB_bx_104 KB_by_104 KB_y_104 KB_x_104 ⊢
      generalize v.heap.size = gx at BOX104 FA_a_104 FA_b_104 KB_x_104 NE_bx_x NE_by_x NE_y_x ⊢
      refine hK0.out _ _ (by exact ⟨KB_bx_104.out, KB_by_104.out⟩) (fun hHeld => ?_)
      clear hK0 K0 hHeld
      refine hTU.out _ _ _ _ ?_
      refine ND_0_xy.out _ gx gy _ _ ?_ ?_ BEL104 (b_perm BOX104 (by intro p m; simp only [List.mem_cons, List.not_mem_nil, or_false] at m ⊢; omega)) (h_perm FA_a_104 (by intro p m; simp only [List.mem_cons, List.not_mem_nil, or_false] at m ⊢; omega)) (h_perm FA_b_104 (by intro p m; simp only [List.mem_cons, List.not_mem_nil, or_false] at m ⊢; omega)) KB_bx_104 KB_by_104 KB_x_104 KB_y_104 NE_bx_by NE_bx_x NE_bx_y NE_by_x NE_by_y (n_sym NE_y_x)
      · first | rfl | kernel_rfl
      · rw [hact.out]; rfl
    exact AllReadyH.nil
  have ND_0_ : Hid (∀ (v : World)  (ll : Array Bool) (aa : Act), ll = #[true, false, true, false, false, false, false, false] → aa = act0 → Hid (Below w.heap.size w v) → Hid (Boxes w v [w.heap.size + 1, w.heap.size]) → Hid (HeldX [w.heap.size + 1, w.heap.size] (fun uq => MpAt uq (.agg #[.int .u64 S, .slice A R cap]) S R L Z) v) → Hid (HeldX [w.heap.size + 1, w.heap.size] (fun uq => MpAt uq (.agg #[.int .u64 S', .slice A' R' cap']) S' R' L' Y) v) → Hid (Blk v w.heap.size 25 #[.int .u64 S, .slice A R cap]) → Hid (Blk v (w.heap.size + 1) 25 #[.int .u64 S', .slice A' R' cap']) → Hid (w.heap.size ≠ w.heap.size + 1) → TT 6 ll aa v) := by
    intro v  ll aa hl hA BEL103 BOX103 FA_a_103 FA_b_103 KB_bx_103 KB_by_103 NE_bx_by
    rw [hact.out] at hA
    try simp only [Act.put, List.setIfInBounds_toArray, List.set_cons_zero, List.set_cons_succ] at hA
    subst hl hA
    refine hUT.out _ _ _ _ ?_
    refine wpAnyH_ready (rs := [1, 4, 5]) (by kernel_rfl) (by simp) ?_
    refine AllReadyH.cons rfl (fun K0 hK0 => ?_) ?_
    · refine step_func 10 #[.agg #[.int .u64 S, .slice A R cap]] (by rfl) rfl (by simp [Act.eval]) (fun _ _ => by kernel_rfl) ?_
      refine (mref_any _ _ S R _ _ FA_a_103.out.at).mono ?_
      rintro e q1 ⟨rfl, bb⟩
      have BEL104 := h_bel BEL103 bb
      have BOX104 := h_box BOX103 bb
      have FA_a_104 := h_fact FA_a_103 bb
      have FA_b_104 := h_fact FA_b_103 bb
      have KB_bx_104 := h_blk KB_bx_103 bb
      have KB_by_104 := h_blk KB_by_103 bb
      clear BEL103 BOX103 FA_a_103 FA_b_103 KB_bx_103 KB_by_103
      clear bb
      refine ⟨_, rfl, ?_⟩
      refine hK0.out _ _ (by exact ⟨KB_bx_104.out, KB_by_104.out⟩) (fun hHeld => ?_)
      clear hK0 K0 hHeld
      refine hTU.out _ _ _ _ ?_
      refine ND_1_.out _  _ _ ?_ ?_ BEL104 BOX104 FA_a_104 FA_b_104 KB_bx_104 KB_by_104 NE_bx_by
      · first | rfl | kernel_rfl
      · rw [hact.out]; rfl
    refine AllReadyH.cons rfl (fun K0 hK0 => ?_) ?_
    · have BEL104 := a_bel BEL103 (.cells #[.int .u64 0, .slice none 0 0] 30)
      have BOX104 := a_box BOX103 BEL103 (.cells #[.int .u64 0, .slice none 0 0] 30)
      have FA_a_104 := a_fact FA_a_103 (.cells #[.int .u64 0, .slice none 0 0] 30)
      have FA_b_104 := a_fact FA_b_103 (.cells #[.int .u64 0, .slice none 0 0] 30)
      have KB_bx_104 := a_blk KB_bx_103 (.cells #[.int .u64 0, .slice none 0 0] 30)
      have NE_bx_x := n_ne KB_bx_103
      have KB_by_104 := a_blk KB_by_103 (.cells #[.int .u64 0, .slice none 0 0] 30)
      have NE_by_x := n_ne KB_by_103
      have KB_x_104 := n_blk (u := v) 30 #[.int .u64 0, .slice none 0 0]
      clear BEL103 BOX103 FA_a_103 FA_b_103 KB_bx_103 KB_by_103
      go_simp
      generalize (v.alloc (.cells #[.int .u64 0, .slice none 0 0] 30)) = v2 at BEL104 BOX104 FA_a_104 FA_b_104 KB_bx_104 KB_by_104 KB_x_104 ⊢
      generalize v.heap.size = gx at BOX104 FA_a_104 FA_b_104 KB_x_104 NE_bx_x NE_by_x ⊢
      refine hK0.out _ _ (by exact ⟨KB_bx_104.out, KB_by_104.out⟩) (fun hHeld => ?_)
      clear hK0 K0 hHeld
      refine hTU.out _ _ _ _ ?_
      refine ND_0_x.out _ gx _ _ ?_ ?_ BEL104 BOX104 FA_a_104 FA_b_104 KB_bx_104 KB_by_104 KB_x_104 NE_bx_by NE_bx_x NE_by_x
      · first | rfl | kernel_rfl
      · rw [hact.out]; rfl
    refine AllReadyH.cons rfl (fun K0 hK0 => ?_) ?_
    · have BEL104 := a_bel BEL103 (.cells #[.int .u64 0, .slice none 0 0] 30)
      have BOX104 := a_box BOX103 BEL103 (.cells #[.int .u64 0, .slice none 0 0] 30)
      have FA_a_104 := a_fact FA_a_103 (.cells #[.int .u64 0, .slice none 0 0] 30)
      have FA_b_104 := a_fact FA_b_103 (.cells #[.int .u64 0, .slice none 0 0] 30)
      have KB_bx_104 := a_blk KB_bx_103 (.cells #[.int .u64 0, .slice none 0 0] 30)
      have NE_bx_y := n_ne KB_bx_103
      have KB_by_104 := a_blk KB_by_103 (.cells #[.int .u64 0, .slice none 0 0] 30)
      have NE_by_y := n_ne KB_by_103
      have KB_y_104 := n_blk (u := v) 30 #[.int .u64 0, .slice none 0 0]
      clear BEL103 BOX103 FA_a_103 FA_b_103 KB_bx_103 KB_by_103
      go_simp
      generalize (v.alloc (.cells #[.int .u64 0, .slice none 0 0] 30)) = v2 at BEL104 BOX104 FA_a_104 FA_b_104 KB_bx_104 KB_by_104 KB_y_104 ⊢
      generalize v.heap.size = gy at BOX104 FA_a_104 FA_b_104 KB_y_104 NE_bx_y NE_by_y ⊢
      refine hK0.out _ _ (by exact ⟨KB_bx_104.out, KB_by_104.out⟩) (fun hHeld => ?_)
      clear hK0 K0 hHeld
      refine hTU.out _ _ _ _ ?_
      refine ND_0_y.out _ gy _ _ ?_ ?_ BEL104 BOX104 FA_a_104 FA_b_104 KB_bx_104 KB_by_104 KB_y_104 NE_bx_by NE_bx_y NE_by_y
      · first | rfl | kernel_rfl
      · rw [hact.out]; rfl
    exact AllReadyH.nil
  refine ND_0_.out _  _ _ ?_ ?_ BEL3 BOX3 FA_a_3 FA_b_3 KB_bx_3 KB_by_3 NE_bx_by
  · first | rfl | kernel_rfl
  · rfl

/-! ### The row -/
theorem laidOut : laidOutB Tryd.prog = true := by kernel_rfl
theorem door_met (os : Os) (args : Array Value) : laidMetH Tryd.prog Rows.bitmapMergesRow.laid ((World.doorLaid Tryd.prog 400 os).forCall (fun _ _ => 0) ⟨#[], args, []⟩).memory :=
  laidMetH_of_parts3 (fuel := 8) (laidMet_of_run' 8 (by kernel_rfl) (by kernel_rfl)) (by kernel_rfl) (by kernel_rfl)
set_option maxRecDepth 100000 in
theorem lifted (os : Os) (started : os.Started) (H : Type) (enc : TypeId × Value → H) :
    ReturnsInHanded {} Tryd.checked os 5 .any (fun w args => (Rows.bitmapMergesSpec.pre enc Tryd.prog Tryd.f5 [] false w args ∧ laidMetH Tryd.prog Rows.bitmapMergesRow.laid w) ∧ sizedMet enc Tryd.prog Tryd.f5 (OpenSpec.ofChange Rows.bitmapMergesSpec) false w args) (Rows.bitmapMergesSpec.post enc Tryd.prog Tryd.f5 false true false false) := by
  refine returnsInHanded_of_change_and (C := Tryd.checked) (X := fun w _ => laidMetH Tryd.prog Rows.bitmapMergesRow.laid w) (fun _ _ _ hh h => h.of_heap hh) own started (by kernel_rfl) Tryd.func5
    (ChangeSpec.witness_shaped (enc := enc) (C := Tryd.checked) (os := os) (X := fun w _ => laidMetH Tryd.prog Rows.bitmapMergesRow.laid w) false (World.doorLaid Tryd.prog 400 os) #[.agg #[.int .u64 0, .slice none 0 0], .agg #[.int .u64 0, .slice none 0 0]] 8 rfl (World.shaped_of_RefB (by kernel_rfl) (by kernel_rfl)) (by kernel_rfl) (by kernel_rfl) (by kernel_rfl) (door_met os _)) ?_
  intro W base args ds gs before hval0 hW _ _ hL _
  have hval : ∀ (j : Nat) t v, Tryd.f5.params[j]? = some t → args[j]? = some v → Value.okWide Tryd.prog W .any base t v := hval0
  have hW' := hW
  obtain ⟨p, q, hA0, hV, rfl, hfz, hnd⟩ := hW
  have hA : DataW.TrodAll enc Tryd.prog W 0 (fun _ => true) true Tryd.f5.params.toList args.toList ds p := hA0
  rw [Tryd.params5] at hA hval
  obtain ⟨v0, vs0, d0, ds0, p0, q0, hargs, rfl, rfl, h0, r0⟩ := trodAll_cons hA
  obtain ⟨v1, vs1, d1, ds1, p1, q1, rfl, rfl, rfl, h1, r1⟩ := trodAll_cons r0
  obtain ⟨rfl, rfl, rfl⟩ := trodAll_nil r1
  obtain rfl : args = #[v0, v1] := by cases args; simp_all
  obtain ⟨rfl, rfl⟩ := trodVars_none hV
  have k0 := h0
  have lt0 : ∀ x ∈ p0, x.block < W.heap.size := by obtain ⟨m, hm⟩ := k0; exact DataW.trod_lt m _ _ _ hm
  obtain ⟨F0, w0⟩ := open_mp (hval 0 25 v0 rfl rfl) h0
  have k1 := h1
  have lt1 : ∀ x ∈ p1, x.block < W.heap.size := by obtain ⟨m, hm⟩ := k1; exact DataW.trod_lt m _ _ _ hm
  obtain ⟨F1, w1⟩ := open_mp (hval 1 25 v1 rfl rfl) h1
  have hT := tab_of hL
  clear hA0 hval0
  refine (walk v0 F0 v1 F1 W w0 w1 hT).mono fun e W' ⟨he, bel⟩ => ?_
  subst he
  exact ⟨_, rfl, _, _, _, [], _, [], hW', trodAll_mk1 (shut_bool Tryd.underlying4 _), (trodAll_cons_mk (Below.trod laidOut (by kernel_rfl) (of_decide_eq_true (by kernel_rfl)) k0 bel lt0) (trodAll_cons_mk (Below.trod laidOut (by kernel_rfl) (of_decide_eq_true (by kernel_rfl)) k1 bel lt1) trodAll_mk0)), rfl, bel.frame _, fun h => by cases h⟩

theorem over : Rows.bitmapMergesRow.holds Tryd.pinned (OpenSpec.ofChange Rows.bitmapMergesSpec) :=
  OpenClaim.holds_of_wide 5 Tryd.f5 rfl rfl rfl rfl rfl rfl rfl ⟨rfl, rfl, rfl, rfl, rfl⟩ rfl rfl rfl rfl rfl (by kernel_rfl) Tryd.func5 (by kernel_rfl)
    (of_decide_eq_true (by kernel_rfl)) (by unfold Func.isWrapper; first | (rw [if_pos (by decide +kernel)]; kernel_rfl) | (rw [if_neg (by decide +kernel)]; exact ⟨rfl, rfl⟩))
    (fun os started H enc _ => lifted os started H enc)

/-- The card: the row, its listed variable tied to the text of the program. -/
theorem proved : Rows.BitmapMergesCardSaid :=
  Claim7.holds_tied_plain_at .later [] [.data] true (true, "d7fea8b7464b8eb0538f847a3aaee3a43cd24ee3633f5fd47a89fd9ba8ea7cde") false
    over (fun _ h => by cases h) (by kernel_rfl) (fun _ h => by cases h) bitmapMerges_row_tie rfl ⟨rfl, rfl⟩ (by kernel_rfl) rfl
    (fun f fn hf hfn => by
      obtain rfl : f = 5 := Option.some.inj ((show Tryd.prog.funcNamed "rillmeter/rillmeterlaw13.BitmapMerges" = some 5 by kernel_rfl).symm.trans hf) |>.symm
      obtain rfl : fn = Tryd.f5 := (Option.some.inj (Tryd.func5.symm.trans hfn)).symm
      exact ⟨by kernel_rfl, fun j t ht => by
        rw [Tryd.params5] at ht
        have hm : t ∈ [25, 25] := by simpa using Array.mem_of_getElem? ht
        have hall : ([25, 25].all fun u => !Tryd.prog.wantsStandIn u) = true := by kernel_rfl
        exact (show Tryd.prog.wantsStandIn t = false by simpa using List.all_eq_true.1 hall t hm)⟩)
    (by kernel_rfl)
end Go.Proofs.YtkfhofgmjhnknaaDoor.bitmapMerges
namespace Go.Proofs.YtkfhofgmjhnknaaDoor
theorem bitmapMerges_holds : Rows.BitmapMergesCardSaid := bitmapMerges.proved
#print axioms bitmapMerges_holds
end Go.Proofs.YtkfhofgmjhnknaaDoor
