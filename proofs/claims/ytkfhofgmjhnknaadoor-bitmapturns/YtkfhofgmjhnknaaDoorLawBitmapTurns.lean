
/-
  BitmapTurns: what any map is with any thing more, and its estimate, are what the document says. The table math/bits.deBruijn64tab is as the text of the library lays it (the card ties it).
-/
import Derived.Test.YtkfhofgmjhnknaaDoorRows
import Derived.Test.YtkfhofgmjhnknaaDoorCards
import Derived.Test.YtkfhofgmjhnknaaDoorTie
import Derived.Test.YtkfhofgmjhnknaaDoorTab
import Derived.Test.YtkfhofgmjhnknaaDoorBtmAwake
import Derived.Test.YtkfhofgmjhnknaaDoorBtmRAdd
import Derived.Test.YtkfhofgmjhnknaaDoorRegKit
import Derived.WalkKit
import Derived.ProofKit
import Derived.OpenShut
import Derived.ShutString
import Derived.ChangeOld
import Derived.ChangeMaps5
import Derived.Below
import Derived.Carry
import Derived.Laws.StructEq
import Derived.BigQuiet
import Derived.Deep.Cut
import Derived.Deep.CutRange
import Derived.Deep.RegionHeld
import Derived.LaidMore
import Derived.Stop.Joined
import Derived.SevenTiedAt
namespace Go.Proofs.YtkfhofgmjhnknaaDoor.bitmapTurns
open Fm Bl Bm L2 Go.Deep
open Go.ChangeShapes Go.WideShapes Go.ChangeAt Go.RowKit Go.ChangeMaps
set_option linter.unusedVariables false

theorem own : ownKnob Tryd.prog.godebug = none := by kernel_rfl

set_option maxRecDepth 8000 in
set_option maxHeartbeats 20000000 in
theorem walk (v0 : Value) (F0 : Mpt) (s : ByteArray) (w : World) (h0 : MpIn w v0 F0) (ws : s.size ≤ 9223372036854775807) (hT0 : TabAt 0 Lib.deBruijn64tab w) :
    Calls Tryd.prog 4 #[v0, .string s] w fun e w' => e = .returned (.bool true) ∧ Below w.heap.size w w' := by
  have HT : Hid (TabAt 0 Lib.deBruijn64tab w) := hT0
  clear hT0
  obtain ⟨S, R, L, Z⟩ := F0
  obtain ⟨hF, uS, hRm⟩ := h0
  simp only at hF uS hRm
  obtain ⟨v, rfl, hv⟩ := id hF
  obtain ⟨A, cap, bq, oq, rfl, hcap, q4⟩ := hv.read
  clear hv hcap
  have HF : Hid (MpAt w (.agg #[.int .u64 S, .slice A R cap]) S R L Z) := hF
  have RA : Hid (RowsCells w A R bq oq L Z) := q4
  clear hF q4
  have BEL0 : Hid (Below w.heap.size w w) := Below.refl _ _
  have BOX0 : Hid (Boxes w w []) := boxes_none w w
  have FA_a_0 : Hid (HeldX [] (fun uq => MpAt uq (.agg #[.int .u64 S, .slice A R cap]) S R L Z) w) := heldX_keep fun u k => HF.out.keep k
  go_enter Tryd.func4, Tryd.ntmps4
  have BEL1 := a_bel BEL0 (.cells #[.int .u64 S, .slice A R cap] 25)
  have BOX1 := a_box BOX0 BEL0 (.cells #[.int .u64 S, .slice A R cap] 25)
  have FA_a_1 := a_fact FA_a_0 (.cells #[.int .u64 S, .slice A R cap] 25)
  have KB_bx_1 := n_blk (u := w) 25 #[.int .u64 S, .slice A R cap]
  clear BEL0 BOX0 FA_a_0
  have CE_bx_0 : (w.alloc (.cells #[.int .u64 S, .slice A R cap] 25)).cell? ⟨w.heap.size, 0, none⟩ = some (.int .u64 S) := KB_bx_1.out.cell 0
  have CE_bx_1 : (w.alloc (.cells #[.int .u64 S, .slice A R cap] 25)).cell? ⟨w.heap.size, 1, none⟩ = some (.slice A R cap) := KB_bx_1.out.cell 1
  have CE_bx_lt : w.heap.size < (w.alloc (.cells #[.int .u64 S, .slice A R cap] 25)).heap.size := KB_bx_1.out.lt
  go_wp2_with fail
  refine (mref_any _ _ S R _ _ FA_a_1.out.at).mono ?_
  rintro e ww1 ⟨rfl, b1⟩
  clear CE_bx_0 CE_bx_1 CE_bx_lt
  have BEL2 := h_bel BEL1 b1
  have BOX2 := h_box BOX1 b1
  have FA_a_2 := h_fact FA_a_1 b1
  have KB_bx_2 := h_blk KB_bx_1 b1
  clear BEL1 BOX1 FA_a_1 KB_bx_1
  clear b1
  go_wp2_with fail
  refine (rsmall_any _ _ S R _ _ FA_a_2.out.at hRm).mono ?_
  rintro e ww2 ⟨B, rfl, hB, b2⟩
  have HB : Hid (B = true ↔ SmallM R L) := hB
  clear hB
  have BEL3 := h_bel BEL2 b2
  have BOX3 := h_box BOX2 b2
  have FA_a_3 := h_fact FA_a_2 b2
  have KB_bx_3 := h_blk KB_bx_2 b2
  clear BEL2 BOX2 FA_a_2 KB_bx_2
  clear b2
  cases B
  · go_wp2_with fail
    refine (mawake_any _ (tabAt_keep HT.out (keep_of_below BEL3.out))).mono ?_
    rintro e ww99 ⟨rfl, b9⟩
    have BEL4 := h_bel BEL3 b9
    have BOX4 := h_box BOX3 b9
    have FA_a_4 := h_fact FA_a_3 b9
    have KB_bx_4 := h_blk KB_bx_3 b9
    clear BEL3 BOX3 FA_a_3 KB_bx_3
    clear b9
    go_wp2_with fail
    go_ret
    exact ⟨rfl, BEL4.out⟩
  obtain ⟨R1, L1⟩ := HB.out.1 rfl
  have LL : Hid (∀ i, i < R → L i ≤ 1000) := fun i hi => by have := L1 i hi; omega
  have R2 : R ≤ 1000 := by omega
  clear HB L1
  by_cases hs : s.size > 100
  · have hs2 : (s.size : Int) > 100 := by omega
    go_wp2_with fail
    refine (mawake_any _ (tabAt_keep HT.out (keep_of_below BEL3.out))).mono ?_
    rintro e ww99 ⟨rfl, b9⟩
    have BEL4 := h_bel BEL3 b9
    have BOX4 := h_box BOX3 b9
    have FA_a_4 := h_fact FA_a_3 b9
    have KB_bx_4 := h_blk KB_bx_3 b9
    clear BEL3 BOX3 FA_a_3 KB_bx_3
    clear b9
    go_wp2_with fail
    go_ret
    exact ⟨rfl, BEL4.out⟩
  have hs2 : ¬ (s.size : Int) > 100 := by omega
  have hs3 : s.size ≤ 100 := by omega
  have CE_bx_0 : ww2.cell? ⟨w.heap.size, 0, none⟩ = some (.int .u64 S) := KB_bx_3.out.cell 0
  have CE_bx_1 : ww2.cell? ⟨w.heap.size, 1, none⟩ = some (.slice A R cap) := KB_bx_3.out.cell 1
  have CE_bx_lt : w.heap.size < ww2.heap.size := KB_bx_3.out.lt
  go_wp2_with fail
  refine (mref_any _ _ S R _ _ FA_a_3.out.at).mono ?_
  rintro e ww3 ⟨rfl, b3⟩
  clear CE_bx_0 CE_bx_1 CE_bx_lt
  have BEL4 := h_bel BEL3 b3
  have BOX4 := h_box BOX3 b3
  have FA_a_4 := h_fact FA_a_3 b3
  have KB_bx_4 := h_blk KB_bx_3 b3
  clear BEL3 BOX3 FA_a_3 KB_bx_3
  clear b3
  go_upto_region 4 with fail
  have BEL5 := a_bel BEL4 (.cells #[.int .u64 S, .slice A R cap] 30)
  have BOX5 := a_box BOX4 BEL4 (.cells #[.int .u64 S, .slice A R cap] 30)
  have FA_a_5 := a_fact FA_a_4 (.cells #[.int .u64 S, .slice A R cap] 30)
  have KB_bx_5 := a_blk KB_bx_4 (.cells #[.int .u64 S, .slice A R cap] 30)
  have NE_bx_x := n_ne KB_bx_4
  have KB_x_5 := n_blk (u := ww3) 30 #[.int .u64 S, .slice A R cap]
  clear BEL4 BOX4 FA_a_4 KB_bx_4
  generalize (ww3.alloc (.cells #[.int .u64 S, .slice A R cap] 30)) = u1 at BEL5 BOX5 FA_a_5 KB_bx_5 KB_x_5 ⊢
  generalize ww3.heap.size = gx at BOX5 FA_a_5 KB_x_5 NE_bx_x ⊢
  have CE_bx_0 : u1.cell? ⟨w.heap.size, 0, none⟩ = some (.int .u64 S) := KB_bx_5.out.cell 0
  have CE_bx_1 : u1.cell? ⟨w.heap.size, 1, none⟩ = some (.slice A R cap) := KB_bx_5.out.cell 1
  have CE_bx_lt : w.heap.size < u1.heap.size := KB_bx_5.out.lt
  by_cases rp : RightM R L
  rotate_left
  · go_wp2_with fail
    refine (madd_bad _ _ S R L Z s FA_a_5.out.at (by omega) LL.out rp).mono ?_
    rintro e ww4 ⟨xg, rfl, fg, b4⟩
    clear CE_bx_0 CE_bx_1 CE_bx_lt
    obtain ⟨vg, rfl, hvg⟩ := fg.at
    obtain ⟨Ag, cg, bbg, oog, rfl, hx1, hx2⟩ := hvg.read
    clear hx1 hx2 hvg
    have FA_g_6 : Hid (HeldX [gx, w.heap.size] (fun uq => MpAt uq (.agg #[.int .u64 S, .slice Ag R cg]) S R L Z) ww4) := Held.new fg BOX5.out
    have BEL6 := h_bel BEL5 b4
    have BOX6 := h_box BOX5 b4
    have FA_a_6 := h_fact FA_a_5 b4
    have KB_bx_6 := h_blk KB_bx_5 b4
    have KB_x_6 := h_blk KB_x_5 b4
    clear BEL5 BOX5 FA_a_5 KB_bx_5 KB_x_5
    clear b4 fg
    go_upto_region 5 with fail
    have BEL7 := a_bel BEL6 (.cells #[.int .u64 S, .slice Ag R cg] 25)
    have BOX7 := a_box BOX6 BEL6 (.cells #[.int .u64 S, .slice Ag R cg] 25)
    have FA_a_7 := a_fact FA_a_6 (.cells #[.int .u64 S, .slice Ag R cg] 25)
    have FA_g_7 := a_fact FA_g_6 (.cells #[.int .u64 S, .slice Ag R cg] 25)
    have KB_bx_7 := a_blk KB_bx_6 (.cells #[.int .u64 S, .slice Ag R cg] 25)
    have NE_bx_g := n_ne KB_bx_6
    have KB_x_7 := a_blk KB_x_6 (.cells #[.int .u64 S, .slice Ag R cg] 25)
    have NE_x_g := n_ne KB_x_6
    have KB_g_7 := n_blk (u := ww4) 25 #[.int .u64 S, .slice Ag R cg]
    clear BEL6 BOX6 FA_a_6 FA_g_6 KB_bx_6 KB_x_6
    generalize (ww4.alloc (.cells #[.int .u64 S, .slice Ag R cg] 25)) = u2 at BEL7 BOX7 FA_a_7 FA_g_7 KB_bx_7 KB_x_7 KB_g_7 ⊢
    generalize ww4.heap.size = gg at BOX7 FA_a_7 FA_g_7 KB_g_7 NE_bx_g NE_x_g ⊢
    have CE_bx_0 : u2.cell? ⟨w.heap.size, 0, none⟩ = some (.int .u64 S) := KB_bx_7.out.cell 0
    have CE_bx_1 : u2.cell? ⟨w.heap.size, 1, none⟩ = some (.slice A R cap) := KB_bx_7.out.cell 1
    have CE_bx_lt : w.heap.size < u2.heap.size := KB_bx_7.out.lt
    go_wp2_with fail
    refine (mplace_bad _ _ S R L Z s FA_a_7.out.at R2 LL.out rp).mono ?_
    rintro e ww5 ⟨rfl, b5⟩
    clear CE_bx_0 CE_bx_1 CE_bx_lt
    have BEL8 := h_bel BEL7 b5
    have BOX8 := h_box BOX7 b5
    have FA_a_8 := h_fact FA_a_7 b5
    have FA_g_8 := h_fact FA_g_7 b5
    have KB_bx_8 := h_blk KB_bx_7 b5
    have KB_x_8 := h_blk KB_x_7 b5
    have KB_g_8 := h_blk KB_g_7 b5
    clear BEL7 BOX7 FA_a_7 FA_g_7 KB_bx_7 KB_x_7 KB_g_7
    clear b5
    have CE_x_0 : ww5.cell? ⟨gx, 0, none⟩ = some (.int .u64 S) := KB_x_8.out.cell 0
    have CE_x_1 : ww5.cell? ⟨gx, 1, none⟩ = some (.slice A R cap) := KB_x_8.out.cell 1
    have CE_x_lt : gx < ww5.heap.size := KB_x_8.out.lt
    go_wp2_with fail
    refine (rright_any _ _ S R _ _ FA_a_8.out.at R2 LL.out).mono ?_
    intro e ww6 h6
    obtain ⟨rfl, b6⟩ := told h6 false ⟨fun h => (by cases h), fun h => absurd h rp⟩
    clear h6
    clear CE_x_0 CE_x_1 CE_x_lt
    have BEL9 := h_bel BEL8 b6
    have BOX9 := h_box BOX8 b6
    have FA_a_9 := h_fact FA_a_8 b6
    have FA_g_9 := h_fact FA_g_8 b6
    have KB_bx_9 := h_blk KB_bx_8 b6
    have KB_x_9 := h_blk KB_x_8 b6
    have KB_g_9 := h_blk KB_g_8 b6
    clear BEL8 BOX8 FA_a_8 FA_g_8 KB_bx_8 KB_x_8 KB_g_8
    clear b6
    have RPN : Hid (¬ RightM R L) := rp
    clear rp
    have RM : Hid (∀ w1, Below ww6.heap.size ww6 w1 → Calls Tryd.prog 13 #[.agg #[.int .u64 S, .slice A R cap]] w1 fun e w' => e = .returned (.bool false) ∧ Below ww6.heap.size ww6 w') := fun w1 b1 => (mright_no (FA_a_9.out.since b1).at R2 LL.out RPN.out).mono fun e w' h => ⟨h.1, bel_trans b1 h.2⟩
    have RG : Hid (∀ w1, Below ww6.heap.size ww6 w1 → Calls Tryd.prog 10 #[.agg #[.int .u64 S, .slice Ag R cg]] w1 fun e w' => e = .returned (.agg #[.int .u64 S, .slice Ag R cg]) ∧ Below ww6.heap.size ww6 w') := fun w1 b1 => (mref_any w1 _ S R _ _ (FA_g_9.out.since b1).at).mono fun e w' h => ⟨h.1, bel_trans b1 h.2⟩
    have E1 : Hid (∀ w1, Below ww6.heap.size ww6 w1 → Calls Tryd.prog 9 #[.agg #[.int .u64 S, .slice Ag R cg], .agg #[.int .u64 S, .slice A R cap]] w1 fun e w' => e = .returned (.bool true) ∧ Below ww6.heap.size ww6 w') := fun w1 b1 => (requal_any w1 _ _ S S R R _ _ _ _ (FA_g_9.out.since b1).at (FA_a_9.out.since b1).at R2 LL.out).mono fun e w' h => ⟨(told h true ⟨fun _ => ⟨rfl, rfl, fun i hi => ⟨rfl, fun j hj => rfl⟩⟩, fun _ => rfl⟩).1, bel_trans b1 (told h true ⟨fun _ => ⟨rfl, rfl, fun i hi => ⟨rfl, fun j hj => rfl⟩⟩, fun _ => rfl⟩).2⟩
    have ES : Hid (∀ w1, Below ww6.heap.size ww6 w1 → Calls Tryd.prog 17 #[.agg #[.int .u64 S, .slice A R cap]] w1 fun e w' => e = .returned (.int .i64 0) ∧ Below ww6.heap.size ww6 w') := fun w1 b1 => (mestim_bad w1 _ S R L Z (FA_a_9.out.since b1).at R2 LL.out RPN.out).mono fun e w' h => ⟨h.1, bel_trans b1 h.2⟩
    have WA : Hid (∀ w1, Below ww6.heap.size ww6 w1 → Calls Tryd.prog 11 #[] w1 fun e w' => e = .returned (.bool true) ∧ Below ww6.heap.size ww6 w') := fun w1 b1 => (mawake_any w1 (tabAt_keep HT.out (keep_of_below (bel_trans BEL9.out b1)))).mono fun e w' h => ⟨h.1, bel_trans b1 h.2⟩
    have KS : Hid (∀ w' : World, Below ww6.heap.size ww6 w' → (w'.cell? ⟨w.heap.size, 0, none⟩ = some (.int .u64 S) ∧ w'.cell? ⟨w.heap.size, 1, none⟩ = some (.slice A R cap) ∧ w'.cell? ⟨gg, 0, none⟩ = some (.int .u64 S) ∧ w'.cell? ⟨gg, 1, none⟩ = some (.slice Ag R cg) ∧ w'.cell? ⟨gx, 0, none⟩ = some (.int .u64 S) ∧ w'.cell? ⟨gx, 1, none⟩ = some (.slice A R cap))) := fun w' b1 => ⟨(KB_bx_9.out.since b1).cell 0, (KB_bx_9.out.since b1).cell 1, (KB_g_9.out.since b1).cell 0, (KB_g_9.out.since b1).cell 1, (KB_x_9.out.since b1).cell 0, (KB_x_9.out.since b1).cell 1⟩
    have Z0 : Hid (Below ww6.heap.size ww6 ww6.drew) := (Below.refl _ _).drew
    have CE_bx_0 : ww6.cell? ⟨w.heap.size, 0, none⟩ = some (.int .u64 S) := KB_bx_9.out.cell 0
    have CE_bx_1 : ww6.cell? ⟨w.heap.size, 1, none⟩ = some (.slice A R cap) := KB_bx_9.out.cell 1
    have CE_bx_lt : w.heap.size < ww6.heap.size := KB_bx_9.out.lt
    have CE_x_0 : ww6.cell? ⟨gx, 0, none⟩ = some (.int .u64 S) := KB_x_9.out.cell 0
    have CE_x_1 : ww6.cell? ⟨gx, 1, none⟩ = some (.slice A R cap) := KB_x_9.out.cell 1
    have CE_x_lt : gx < ww6.heap.size := KB_x_9.out.lt
    have CE_g_0 : ww6.cell? ⟨gg, 0, none⟩ = some (.int .u64 S) := KB_g_9.out.cell 0
    have CE_g_1 : ww6.cell? ⟨gg, 1, none⟩ = some (.slice Ag R cg) := KB_g_9.out.cell 1
    have CE_g_lt : gg < ww6.heap.size := KB_g_9.out.lt
    clear FA_a_9 FA_g_9
    go_wp2_with fail
    go_region_held3 (fun w' => w'.cell? ⟨w.heap.size, 0, none⟩ = some (.int .u64 S) ∧ w'.cell? ⟨w.heap.size, 1, none⟩ = some (.slice A R cap) ∧ w'.cell? ⟨gg, 0, none⟩ = some (.int .u64 S) ∧ w'.cell? ⟨gg, 1, none⟩ = some (.slice Ag R cg) ∧ w'.cell? ⟨gx, 0, none⟩ = some (.int .u64 S) ∧ w'.cell? ⟨gx, 1, none⟩ = some (.slice A R cap)) (first | exact KS.out _ Z5.out | exact KS.out _ Z4.out | exact KS.out _ Z3.out | exact KS.out _ Z2.out | exact KS.out _ Z1.out | exact KS.out _ Z0.out | go_keep) (first
      | (have fl := Z4; clear fl; go_simp; go_at_call 11; refine (WA.out _ Z4.out).mono ?_; rintro e q5 ⟨rfl, cc⟩; have Z5 : Hid (Below ww6.heap.size ww6 q5) := cc; clear cc)
      | (have fl := Z3; clear fl; go_simp; go_at_call 17; refine (ES.out _ Z3.out).mono ?_; rintro e q4 ⟨rfl, cc⟩; have Z4 : Hid (Below ww6.heap.size ww6 q4) := cc; clear cc)
      | (have fl := Z2; clear fl; go_simp; go_at_call 9; refine (E1.out _ Z2.out).mono ?_; rintro e q3 ⟨rfl, cc⟩; have Z3 : Hid (Below ww6.heap.size ww6 q3) := cc; clear cc)
      | (have fl := Z1; clear fl; go_simp; go_at_call 10; refine (RG.out _ Z1.out).mono ?_; rintro e q2 ⟨rfl, cc⟩; have Z2 : Hid (Below ww6.heap.size ww6 q2) := cc; clear cc)
      | (have fl := Z0; clear fl; go_simp; go_at_call 13; refine (RM.out _ Z0.out).mono ?_; rintro e q1 ⟨rfl, cc⟩; have Z1 : Hid (Below ww6.heap.size ww6 q1) := cc; clear cc))
    all_goals go_wp2_with fail
    all_goals go_ret
    all_goals exact ⟨rfl, bel_trans BEL9.out Z5.out⟩
  obtain ⟨n, hn⟩ : ∃ n, n = L 0 := ⟨_, rfl⟩
  have OK : Hid (OkM R n) := by rw [hn]; exact rp.ok
  have RP : Hid (RightM R (fun _ => n)) := OK.out.right
  have n2 : n ≤ 256 := OK.out.2.2.2
  have n1 : 1 ≤ n := OK.out.2.2.1
  have LK : Hid (∀ i, i < R → L i = n) := fun i hi => by rw [hn]; exact rp.2.2.2.2 i hi
  clear rp hn
  have FN := FA_a_5.out.imp (Q := fun uq => MpAt uq (.agg #[.int .u64 S, .slice A R cap]) S R (fun _ => n) Z) (fun u h => h.congr LK.out (fun _ _ _ _ => rfl))
  clear FA_a_5
  have FA_a_5 : Hid (HeldX [gx, w.heap.size] (fun uq => MpAt uq (.agg #[.int .u64 S, .slice A R cap]) S R (fun _ => n) Z) u1) := FN
  clear FN
  go_wp2_with fail
  refine (madd_ok _ _ S R n Z s FA_a_5.out.at OK.out uS (by omega) (tabAt_keep HT.out (keep_of_below BEL5.out))).mono ?_
  rintro e ww4 ⟨xg, rfl, fg, b4⟩
  clear CE_bx_0 CE_bx_1 CE_bx_lt
  obtain ⟨vg, rfl, hvg⟩ := fg.at
  obtain ⟨Ag, cg, bbg, oog, rfl, hx1, hx2⟩ := hvg.read
  clear hx1 hx2 hvg
  have FA_g_6 : Hid (HeldX [gx, w.heap.size] (fun uq => MpAt uq (.agg #[.int .u64 S, .slice Ag R cg]) S R (fun _ => n) (addM S R n Z s)) ww4) := Held.new fg BOX5.out
  have BEL6 := h_bel BEL5 b4
  have BOX6 := h_box BOX5 b4
  have FA_a_6 := h_fact FA_a_5 b4
  have KB_bx_6 := h_blk KB_bx_5 b4
  have KB_x_6 := h_blk KB_x_5 b4
  clear BEL5 BOX5 FA_a_5 KB_bx_5 KB_x_5
  clear b4 fg
  go_upto_region 5 with fail
  have BEL7 := a_bel BEL6 (.cells #[.int .u64 S, .slice Ag R cg] 25)
  have BOX7 := a_box BOX6 BEL6 (.cells #[.int .u64 S, .slice Ag R cg] 25)
  have FA_a_7 := a_fact FA_a_6 (.cells #[.int .u64 S, .slice Ag R cg] 25)
  have FA_g_7 := a_fact FA_g_6 (.cells #[.int .u64 S, .slice Ag R cg] 25)
  have KB_bx_7 := a_blk KB_bx_6 (.cells #[.int .u64 S, .slice Ag R cg] 25)
  have NE_bx_g := n_ne KB_bx_6
  have KB_x_7 := a_blk KB_x_6 (.cells #[.int .u64 S, .slice Ag R cg] 25)
  have NE_x_g := n_ne KB_x_6
  have KB_g_7 := n_blk (u := ww4) 25 #[.int .u64 S, .slice Ag R cg]
  clear BEL6 BOX6 FA_a_6 FA_g_6 KB_bx_6 KB_x_6
  generalize (ww4.alloc (.cells #[.int .u64 S, .slice Ag R cg] 25)) = u2 at BEL7 BOX7 FA_a_7 FA_g_7 KB_bx_7 KB_x_7 KB_g_7 ⊢
  generalize ww4.heap.size = gg at BOX7 FA_a_7 FA_g_7 KB_g_7 NE_bx_g NE_x_g ⊢
  have CE_bx_0 : u2.cell? ⟨w.heap.size, 0, none⟩ = some (.int .u64 S) := KB_bx_7.out.cell 0
  have CE_bx_1 : u2.cell? ⟨w.heap.size, 1, none⟩ = some (.slice A R cap) := KB_bx_7.out.cell 1
  have CE_bx_lt : w.heap.size < u2.heap.size := KB_bx_7.out.lt
  obtain ⟨P, hP⟩ : ∃ P, P = lineN S s R := ⟨_, rfl⟩
  obtain ⟨Q, hQ⟩ : ∃ Q, Q = bitN S s n := ⟨_, rfl⟩
  have HPQ : Hid (P = lineN S s R ∧ Q = bitN S s n) := ⟨hP, hQ⟩
  go_wp2_with fail
  refine (mplace_ok _ _ S R n Z s FA_a_7.out.at OK.out uS (by omega) (tabAt_keep HT.out (keep_of_below BEL7.out))).mono ?_
  rintro e ww5 ⟨rfl, b5⟩
  clear CE_bx_0 CE_bx_1 CE_bx_lt
  rw [← hP, ← hQ]
  clear hP hQ
  have BEL8 := h_bel BEL7 b5
  have BOX8 := h_box BOX7 b5
  have FA_a_8 := h_fact FA_a_7 b5
  have FA_g_8 := h_fact FA_g_7 b5
  have KB_bx_8 := h_blk KB_bx_7 b5
  have KB_x_8 := h_blk KB_x_7 b5
  have KB_g_8 := h_blk KB_g_7 b5
  clear BEL7 BOX7 FA_a_7 FA_g_7 KB_bx_7 KB_x_7 KB_g_7
  clear b5
  have CE_x_0 : ww5.cell? ⟨gx, 0, none⟩ = some (.int .u64 S) := KB_x_8.out.cell 0
  have CE_x_1 : ww5.cell? ⟨gx, 1, none⟩ = some (.slice A R cap) := KB_x_8.out.cell 1
  have CE_x_lt : gx < ww5.heap.size := KB_x_8.out.lt
  go_wp2_with fail
  refine (rright_any _ _ S R _ _ FA_a_8.out.at R2 (fun i hi => by show n ≤ 1000; omega)).mono ?_
  intro e ww6 h6
  obtain ⟨rfl, b6⟩ := told h6 true ⟨fun _ => RP.out, fun _ => rfl⟩
  clear h6
  clear CE_x_0 CE_x_1 CE_x_lt
  have BEL9 := h_bel BEL8 b6
  have BOX9 := h_box BOX8 b6
  have FA_a_9 := h_fact FA_a_8 b6
  have FA_g_9 := h_fact FA_g_8 b6
  have KB_bx_9 := h_blk KB_bx_8 b6
  have KB_x_9 := h_blk KB_x_8 b6
  have KB_g_9 := h_blk KB_g_8 b6
  clear BEL8 BOX8 FA_a_8 FA_g_8 KB_bx_8 KB_x_8 KB_g_8
  clear b6
  have CE_x_0 : ww6.cell? ⟨gx, 0, none⟩ = some (.int .u64 S) := KB_x_9.out.cell 0
  have CE_x_1 : ww6.cell? ⟨gx, 1, none⟩ = some (.slice A R cap) := KB_x_9.out.cell 1
  have CE_x_lt : gx < ww6.heap.size := KB_x_9.out.lt
  go_wp2_with fail
  refine (rplace_any _ _ S R n Z s FA_a_9.out.at OK.out uS (by omega)).mono ?_
  rintro e ww7 ⟨rfl, b7⟩
  clear CE_x_0 CE_x_1 CE_x_lt
  rw [← HPQ.out.1, ← HPQ.out.2]
  have BEL10 := h_bel BEL9 b7
  have BOX10 := h_box BOX9 b7
  have FA_a_10 := h_fact FA_a_9 b7
  have FA_g_10 := h_fact FA_g_9 b7
  have KB_bx_10 := h_blk KB_bx_9 b7
  have KB_x_10 := h_blk KB_x_9 b7
  have KB_g_10 := h_blk KB_g_9 b7
  clear BEL9 BOX9 FA_a_9 FA_g_9 KB_bx_9 KB_x_9 KB_g_9
  clear b7
  obtain ⟨T, hT⟩ : ∃ T, T = estM n Z R := ⟨_, rfl⟩
  have HE : Hid (T = estM n Z R) := hT
  clear hT
  have e1 : ((P : Int) == (P : Int)) = true := by simp
  have e2 : ((Q : Int) == (Q : Int)) = true := by simp
  have e3 : ((T : Int) == (T : Int)) = true := by simp
  have RM : Hid (∀ w1, Below ww7.heap.size ww7 w1 → Calls Tryd.prog 13 #[.agg #[.int .u64 S, .slice A R cap]] w1 fun e w' => e = .returned (.bool true) ∧ Below ww7.heap.size ww7 w') := fun w1 b1 => (mright_yes (FA_a_10.out.since b1).at RP.out).mono fun e w' h => ⟨h.1, bel_trans b1 h.2⟩
  have RG : Hid (∀ w1, Below ww7.heap.size ww7 w1 → Calls Tryd.prog 10 #[.agg #[.int .u64 S, .slice Ag R cg]] w1 fun e w' => e = .returned (.agg #[.int .u64 S, .slice Ag R cg]) ∧ Below ww7.heap.size ww7 w') := fun w1 b1 => (mref_any w1 _ S R _ _ (FA_g_10.out.since b1).at).mono fun e w' h => ⟨h.1, bel_trans b1 h.2⟩
  have AD : Hid (∀ w1, Below ww7.heap.size ww7 w1 → Calls Tryd.prog 19 #[.agg #[.int .u64 S, .slice A R cap], .string s] w1 fun e w' => ∃ y, e = .returned y ∧ MpAt w' y S R (fun _ => n) (addM S R n Z s) ∧ Below ww7.heap.size ww7 w') := fun w1 b1 => (radd_any w1 _ S R n Z s (FA_a_10.out.since b1).at OK.out uS (by omega)).mono fun e w' ⟨y, h1, h2, h3⟩ => ⟨y, h1, h2, bel_trans b1 h3⟩
  have E1 : Hid (∀ w1 y, Below ww7.heap.size ww7 w1 → MpAt w1 y S R (fun _ => n) (addM S R n Z s) → Calls Tryd.prog 9 #[.agg #[.int .u64 S, .slice Ag R cg], y] w1 fun e w' => e = .returned (.bool true) ∧ Below ww7.heap.size ww7 w') := fun w1 y b1 hy => (requal_any w1 _ _ S S R R _ _ _ _ (FA_g_10.out.since b1).at hy R2 (fun i hi => by show n ≤ 1000; omega)).mono fun e w' h => ⟨(told h true ⟨fun _ => ⟨rfl, rfl, fun i hi => ⟨rfl, fun j hj => rfl⟩⟩, fun _ => rfl⟩).1, bel_trans b1 (told h true ⟨fun _ => ⟨rfl, rfl, fun i hi => ⟨rfl, fun j hj => rfl⟩⟩, fun _ => rfl⟩).2⟩
  have ES : Hid (∀ w1, Below ww7.heap.size ww7 w1 → Calls Tryd.prog 17 #[.agg #[.int .u64 S, .slice A R cap]] w1 fun e w' => e = .returned (.int .i64 (T : Int)) ∧ Below ww7.heap.size ww7 w') := fun w1 b1 => (mestim_ok w1 _ S R n Z (FA_a_10.out.since b1).at OK.out).mono fun e w' h => ⟨(by rw [HE.out]; exact h.1), bel_trans b1 h.2⟩
  have ER : Hid (∀ w1, Below ww7.heap.size ww7 w1 → Calls Tryd.prog 20 #[.agg #[.int .u64 S, .slice A R cap]] w1 fun e w' => e = .returned (.int .i64 (T : Int)) ∧ Below ww7.heap.size ww7 w') := fun w1 b1 => (restim_any w1 _ S R n Z (FA_a_10.out.since b1).at OK.out).mono fun e w' h => ⟨(by rw [HE.out]; exact h.1), bel_trans b1 h.2⟩
  have WA : Hid (∀ w1, Below ww7.heap.size ww7 w1 → Calls Tryd.prog 11 #[] w1 fun e w' => e = .returned (.bool true) ∧ Below ww7.heap.size ww7 w') := fun w1 b1 => (mawake_any w1 (tabAt_keep HT.out (keep_of_below (bel_trans BEL10.out b1)))).mono fun e w' h => ⟨h.1, bel_trans b1 h.2⟩
  have KS : Hid (∀ w' : World, Below ww7.heap.size ww7 w' → (w'.cell? ⟨w.heap.size, 0, none⟩ = some (.int .u64 S) ∧ w'.cell? ⟨w.heap.size, 1, none⟩ = some (.slice A R cap) ∧ w'.cell? ⟨gg, 0, none⟩ = some (.int .u64 S) ∧ w'.cell? ⟨gg, 1, none⟩ = some (.slice Ag R cg) ∧ w'.cell? ⟨gx, 0, none⟩ = some (.int .u64 S) ∧ w'.cell? ⟨gx, 1, none⟩ = some (.slice A R cap))) := fun w' b1 => ⟨(KB_bx_10.out.since b1).cell 0, (KB_bx_10.out.since b1).cell 1, (KB_g_10.out.since b1).cell 0, (KB_g_10.out.since b1).cell 1, (KB_x_10.out.since b1).cell 0, (KB_x_10.out.since b1).cell 1⟩
  have Z0 : Hid (Below ww7.heap.size ww7 ww7.drew) := (Below.refl _ _).drew
  have CE_bx_0 : ww7.cell? ⟨w.heap.size, 0, none⟩ = some (.int .u64 S) := KB_bx_10.out.cell 0
  have CE_bx_1 : ww7.cell? ⟨w.heap.size, 1, none⟩ = some (.slice A R cap) := KB_bx_10.out.cell 1
  have CE_bx_lt : w.heap.size < ww7.heap.size := KB_bx_10.out.lt
  have CE_x_0 : ww7.cell? ⟨gx, 0, none⟩ = some (.int .u64 S) := KB_x_10.out.cell 0
  have CE_x_1 : ww7.cell? ⟨gx, 1, none⟩ = some (.slice A R cap) := KB_x_10.out.cell 1
  have CE_x_lt : gx < ww7.heap.size := KB_x_10.out.lt
  have CE_g_0 : ww7.cell? ⟨gg, 0, none⟩ = some (.int .u64 S) := KB_g_10.out.cell 0
  have CE_g_1 : ww7.cell? ⟨gg, 1, none⟩ = some (.slice Ag R cg) := KB_g_10.out.cell 1
  have CE_g_lt : gg < ww7.heap.size := KB_g_10.out.lt
  clear FA_a_10 FA_g_10
  go_wp2_with fail
  go_region_held3 (fun w' => w'.cell? ⟨w.heap.size, 0, none⟩ = some (.int .u64 S) ∧ w'.cell? ⟨w.heap.size, 1, none⟩ = some (.slice A R cap) ∧ w'.cell? ⟨gg, 0, none⟩ = some (.int .u64 S) ∧ w'.cell? ⟨gg, 1, none⟩ = some (.slice Ag R cg) ∧ w'.cell? ⟨gx, 0, none⟩ = some (.int .u64 S) ∧ w'.cell? ⟨gx, 1, none⟩ = some (.slice A R cap)) (first | exact KS.out _ Z7.out | exact KS.out _ Z6.out | exact KS.out _ Z5.out | exact KS.out _ Z4.out | exact KS.out _ Z3.out | exact KS.out _ Z2.out | exact KS.out _ Z1.out | exact KS.out _ Z0.out | go_keep) (first
    | (have fl := Z6; clear fl; go_simp; go_at_call 11; refine (WA.out _ Z6.out).mono ?_; rintro e q7 ⟨rfl, cc⟩; have Z7 : Hid (Below ww7.heap.size ww7 q7) := cc; clear cc)
    | (have fl := Z5; clear fl; go_simp; go_at_call 20; refine (ER.out _ Z5.out).mono ?_; rintro e q6 ⟨rfl, cc⟩; have Z6 : Hid (Below ww7.heap.size ww7 q6) := cc; clear cc)
    | (have fl := Z4; clear fl; go_simp; go_at_call 17; refine (ES.out _ Z4.out).mono ?_; rintro e q5 ⟨rfl, cc⟩; have Z5 : Hid (Below ww7.heap.size ww7 q5) := cc; clear cc)
    | (have fl := Z3; clear fl; go_simp; go_at_call 9; refine (E1.out _ _ Z3.out FY.out).mono ?_; rintro e q4 ⟨rfl, cc⟩; have Z4 : Hid (Below ww7.heap.size ww7 q4) := cc; clear cc)
    | (have fl := Z2; clear fl; go_simp; go_at_call 19; refine (AD.out _ Z2.out).mono ?_; rintro e q3 ⟨y, rfl, fy, cc⟩; have Z3 : Hid (Below ww7.heap.size ww7 q3) := cc; have FY : Hid (MpAt q3 y S R (fun _ => n) (addM S R n Z s)) := fy; clear fy; clear cc)
    | (have fl := Z1; clear fl; go_simp; go_at_call 10; refine (RG.out _ Z1.out).mono ?_; rintro e q2 ⟨rfl, cc⟩; have Z2 : Hid (Below ww7.heap.size ww7 q2) := cc; clear cc)
    | (have fl := Z0; clear fl; go_simp; go_at_call 13; refine (RM.out _ Z0.out).mono ?_; rintro e q1 ⟨rfl, cc⟩; have Z1 : Hid (Below ww7.heap.size ww7 q1) := cc; clear cc))
  all_goals go_wp2_with fail
  all_goals go_ret
  all_goals exact ⟨rfl, bel_trans BEL10.out Z7.out⟩

/-! ### The row -/
theorem laidOut : laidOutB Tryd.prog = true := by kernel_rfl
theorem door_met (os : Os) (args : Array Value) : laidMetH Tryd.prog Rows.bitmapTurnsRow.laid ((World.doorLaid Tryd.prog 400 os).forCall (fun _ _ => 0) ⟨#[], args, []⟩).memory :=
  laidMetH_of_parts3 (fuel := 8) (laidMet_of_run' 8 (by kernel_rfl) (by kernel_rfl)) (by kernel_rfl) (by kernel_rfl)
set_option maxRecDepth 100000 in
theorem lifted (os : Os) (started : os.Started) (H : Type) (enc : TypeId × Value → H) :
    ReturnsInHanded {} Tryd.checked os 4 .any (fun w args => (Rows.bitmapTurnsSpec.pre enc Tryd.prog Tryd.f4 [] false w args ∧ laidMetH Tryd.prog Rows.bitmapTurnsRow.laid w) ∧ sizedMet enc Tryd.prog Tryd.f4 (OpenSpec.ofChange Rows.bitmapTurnsSpec) false w args) (Rows.bitmapTurnsSpec.post enc Tryd.prog Tryd.f4 false true false false) := by
  refine returnsInHanded_of_change_and (C := Tryd.checked) (X := fun w _ => laidMetH Tryd.prog Rows.bitmapTurnsRow.laid w) (fun _ _ _ hh h => h.of_heap hh) own started (by kernel_rfl) Tryd.func4
    (ChangeSpec.witness_shaped (enc := enc) (C := Tryd.checked) (os := os) (X := fun w _ => laidMetH Tryd.prog Rows.bitmapTurnsRow.laid w) false (World.doorLaid Tryd.prog 400 os) #[.agg #[.int .u64 0, .slice none 0 0], .string ⟨#[]⟩] 8 rfl (World.shaped_of_RefB (by kernel_rfl) (by kernel_rfl)) (by kernel_rfl) (by kernel_rfl) (by kernel_rfl) (door_met os _)) ?_
  intro W base args ds gs before hval0 hW _ _ hL _
  have hval : ∀ (j : Nat) t v, Tryd.f4.params[j]? = some t → args[j]? = some v → Value.okWide Tryd.prog W .any base t v := hval0
  have hW' := hW
  obtain ⟨p, q, hA0, hV, rfl, hfz, hnd⟩ := hW
  have hA : DataW.TrodAll enc Tryd.prog W 0 (fun _ => true) true Tryd.f4.params.toList args.toList ds p := hA0
  rw [Tryd.params4] at hA hval
  obtain ⟨v0, vs0, d0, ds0, p0, q0, hargs, rfl, rfl, h0, r0⟩ := trodAll_cons hA
  obtain ⟨v1, vs1, d1, ds1, p1, q1, rfl, rfl, rfl, h1, r1⟩ := trodAll_cons r0
  obtain ⟨rfl, rfl, rfl⟩ := trodAll_nil r1
  obtain rfl : args = #[v0, v1] := by cases args; simp_all
  obtain ⟨rfl, rfl⟩ := trodVars_none hV
  have k0 := h0
  have lt0 : ∀ x ∈ p0, x.block < W.heap.size := by obtain ⟨m, hm⟩ := k0; exact DataW.trod_lt m _ _ _ hm
  obtain ⟨F0, w0⟩ := open_mp (hval 0 25 v0 rfl rfl) h0
  obtain ⟨a1, rfl, rfl, rfl, w1⟩ := open_string Tryd.underlying9 (hval 1 9 v1 rfl rfl) h1
  have hT := tab_of hL
  clear hA0 hval0
  refine (walk v0 F0 a1 W w0 w1 hT).mono fun e W' ⟨he, bel⟩ => ?_
  subst he
  exact ⟨_, rfl, _, _, _, [], _, [], hW', trodAll_mk1 (shut_bool Tryd.underlying4 _), (trodAll_cons_mk (Below.trod laidOut (by kernel_rfl) (of_decide_eq_true (by kernel_rfl)) k0 bel lt0) (trodAll_cons_mk (shut_string Tryd.underlying9 w1) trodAll_mk0)), rfl, bel.frame _, fun h => by cases h⟩

theorem over : Rows.bitmapTurnsRow.holds Tryd.pinned (OpenSpec.ofChange Rows.bitmapTurnsSpec) :=
  OpenClaim.holds_of_wide 4 Tryd.f4 rfl rfl rfl rfl rfl rfl rfl ⟨rfl, rfl, rfl, rfl, rfl⟩ rfl rfl rfl rfl rfl (by kernel_rfl) Tryd.func4 (by kernel_rfl)
    (of_decide_eq_true (by kernel_rfl)) (by unfold Func.isWrapper; first | (rw [if_pos (by decide +kernel)]; kernel_rfl) | (rw [if_neg (by decide +kernel)]; exact ⟨rfl, rfl⟩))
    (fun os started H enc _ => lifted os started H enc)

/-- The card: the row, its listed variable tied to the text of the program. -/
theorem proved : Rows.BitmapTurnsCardSaid :=
  Claim7.holds_tied_plain_at .later [] [.data] true (true, "d7fea8b7464b8eb0538f847a3aaee3a43cd24ee3633f5fd47a89fd9ba8ea7cde") false
    over (fun _ h => by cases h) (by kernel_rfl) (fun _ h => by cases h) bitmapTurns_row_tie rfl ⟨rfl, rfl⟩ (by kernel_rfl) rfl
    (fun f fn hf hfn => by
      obtain rfl : f = 4 := Option.some.inj ((show Tryd.prog.funcNamed "rillmeter/rillmeterlaw13.BitmapTurns" = some 4 by kernel_rfl).symm.trans hf) |>.symm
      obtain rfl : fn = Tryd.f4 := (Option.some.inj (Tryd.func4.symm.trans hfn)).symm
      exact ⟨by kernel_rfl, fun j t ht => by
        rw [Tryd.params4] at ht
        have hm : t ∈ [25, 9] := by simpa using Array.mem_of_getElem? ht
        have hall : ([25, 9].all fun u => !Tryd.prog.wantsStandIn u) = true := by kernel_rfl
        exact (show Tryd.prog.wantsStandIn t = false by simpa using List.all_eq_true.1 hall t hm)⟩)
    (by kernel_rfl)
end Go.Proofs.YtkfhofgmjhnknaaDoor.bitmapTurns
namespace Go.Proofs.YtkfhofgmjhnknaaDoor
theorem bitmapTurns_holds : Rows.BitmapTurnsCardSaid := bitmapTurns.proved
#print axioms bitmapTurns_holds
end Go.Proofs.YtkfhofgmjhnknaaDoor
