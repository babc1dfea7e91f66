
/-
  SignedTurns: what any sketch is with so many more of any key, and what it tells of it, are what the document says. No condition.
-/
import Derived.Test.YtpjpgcjlbfgkdaaRows
import Derived.Test.YtpjpgcjlbfgkdaaSgnAwake
import Derived.Test.YtpjpgcjlbfgkdaaSgnRAdd
import Derived.Test.YtpjpgcjlbfgkdaaRegKit
import Derived.WalkKit
import Derived.ProofKit
import Derived.OpenShut
import Derived.ShutString
import Derived.ChangeOld
import Derived.ChangeMaps5
import Derived.Below
import Derived.Carry
import Derived.Laws.StructEq
import Derived.BigQuiet
import Derived.Deep.Cut
import Derived.Deep.CutRange
import Derived.Deep.RegionHeld
namespace Go.Proofs.Ytpjpgcjlbfgkdaa.signedTurns
open Fm Bl Sg L2 Go.Deep
open Go.ChangeShapes Go.WideShapes Go.ChangeAt Go.RowKit Go.ChangeMaps
set_option linter.unusedVariables false

theorem own : ownKnob Try.prog.godebug = none := by kernel_rfl

set_option maxRecDepth 8000 in
set_option maxHeartbeats 20000000 in
theorem walk (v0 : Value) (F0 : Sgt) (s : ByteArray) (a2 : Int) (w : World) (h0 : SgIn w v0 F0) (ws : s.size ≤ 9223372036854775807) (w2 : (Lit.int .i64 a2).wf = true) :
    Calls Try.prog 4 #[v0, .string s, .int .i64 a2] w fun e w' => e = .returned (.bool true) ∧ Below w.heap.size w w' := by
  obtain ⟨S, R, L, Z⟩ := F0
  obtain ⟨hF, uS, hRm⟩ := h0
  simp only at hF uS hRm
  obtain ⟨v, rfl, hv⟩ := id hF
  obtain ⟨A, cap, bq, oq, rfl, hcap, q4⟩ := hv.read
  clear hv hcap
  have HF : Hid (SgAt w (.agg #[.int .u64 S, .slice A R cap]) S R L Z) := hF
  have RA : Hid (RowsCells w A R bq oq L Z) := q4
  clear hF q4
  have BEL0 : Hid (Below w.heap.size w w) := Below.refl _ _
  have BOX0 : Hid (Boxes w w []) := boxes_none w w
  have FA_a_0 : Hid (HeldX [] (fun uq => SgAt uq (.agg #[.int .u64 S, .slice A R cap]) S R L Z) w) := heldX_keep fun u k => HF.out.keep k
  go_enter Try.func4, Try.ntmps4
  have BEL1 := a_bel BEL0 (.cells #[.int .u64 S, .slice A R cap] 25)
  have BOX1 := a_box BOX0 BEL0 (.cells #[.int .u64 S, .slice A R cap] 25)
  have FA_a_1 := a_fact FA_a_0 (.cells #[.int .u64 S, .slice A R cap] 25)
  have KB_bx_1 := n_blk (u := w) 25 #[.int .u64 S, .slice A R cap]
  clear BEL0 BOX0 FA_a_0
  have CE_bx_0 : (w.alloc (.cells #[.int .u64 S, .slice A R cap] 25)).cell? ⟨w.heap.size, 0, none⟩ = some (.int .u64 S) := KB_bx_1.out.cell 0
  have CE_bx_1 : (w.alloc (.cells #[.int .u64 S, .slice A R cap] 25)).cell? ⟨w.heap.size, 1, none⟩ = some (.slice A R cap) := KB_bx_1.out.cell 1
  have CE_bx_lt : w.heap.size < (w.alloc (.cells #[.int .u64 S, .slice A R cap] 25)).heap.size := KB_bx_1.out.lt
  go_wp2_with fail
  refine (small_any _ _ R L _ (by obtain ⟨v2, e2, hv2⟩ := FA_a_1.out.at; cases e2; exact hv2) hRm).mono ?_
  rintro e ww1 ⟨B, rfl, hB, rfl⟩
  have HB : Hid (B = true ↔ SmallP R L) := hB
  clear hB
  cases B
  · clear CE_bx_0 CE_bx_1 CE_bx_lt
    go_wp2_with fail
    refine (gawake_any _).mono ?_
    rintro e ww99 ⟨rfl, b9⟩
    have BEL2 := h_bel BEL1 b9
    have BOX2 := h_box BOX1 b9
    have FA_a_2 := h_fact FA_a_1 b9
    have KB_bx_2 := h_blk KB_bx_1 b9
    clear BEL1 BOX1 FA_a_1 KB_bx_1
    clear b9
    go_wp2_with fail
    go_ret
    exact ⟨rfl, BEL2.out⟩
  obtain ⟨R1, L1⟩ := HB.out.1 rfl
  have LL : Hid (∀ i, i < R → L i ≤ 1000) := fun i hi => by have := L1 i hi; omega
  have R2 : R ≤ 1000 := by omega
  clear HB L1
  by_cases hs : s.size > 100
  · have hs2 : (s.size : Int) > 100 := by omega
    clear CE_bx_0 CE_bx_1 CE_bx_lt
    go_wp2_with fail
    refine (gawake_any _).mono ?_
    rintro e ww99 ⟨rfl, b9⟩
    have BEL2 := h_bel BEL1 b9
    have BOX2 := h_box BOX1 b9
    have FA_a_2 := h_fact FA_a_1 b9
    have KB_bx_2 := h_blk KB_bx_1 b9
    clear BEL1 BOX1 FA_a_1 KB_bx_1
    clear b9
    go_wp2_with fail
    go_ret
    exact ⟨rfl, BEL2.out⟩
  have hs2 : ¬ (s.size : Int) > 100 := by omega
  have hs3 : s.size ≤ 100 := by omega
  go_wp2_with fail
  refine (gref_any _ _ S R _ _ FA_a_1.out.at).mono ?_
  rintro e ww2 ⟨rfl, b1⟩
  clear CE_bx_0 CE_bx_1 CE_bx_lt
  have BEL2 := h_bel BEL1 b1
  have BOX2 := h_box BOX1 b1
  have FA_a_2 := h_fact FA_a_1 b1
  have KB_bx_2 := h_blk KB_bx_1 b1
  clear BEL1 BOX1 FA_a_1 KB_bx_1
  clear b1
  go_upto_region 4 with fail
  have BEL3 := a_bel BEL2 (.cells #[.int .u64 S, .slice A R cap] 30)
  have BOX3 := a_box BOX2 BEL2 (.cells #[.int .u64 S, .slice A R cap] 30)
  have FA_a_3 := a_fact FA_a_2 (.cells #[.int .u64 S, .slice A R cap] 30)
  have KB_bx_3 := a_blk KB_bx_2 (.cells #[.int .u64 S, .slice A R cap] 30)
  have NE_bx_x := n_ne KB_bx_2
  have KB_x_3 := n_blk (u := ww2) 30 #[.int .u64 S, .slice A R cap]
  clear BEL2 BOX2 FA_a_2 KB_bx_2
  generalize (ww2.alloc (.cells #[.int .u64 S, .slice A R cap] 30)) = u1 at BEL3 BOX3 FA_a_3 KB_bx_3 KB_x_3 ⊢
  generalize ww2.heap.size = gx at BOX3 FA_a_3 KB_x_3 NE_bx_x ⊢
  have CE_bx_0 : u1.cell? ⟨w.heap.size, 0, none⟩ = some (.int .u64 S) := KB_bx_3.out.cell 0
  have CE_bx_1 : u1.cell? ⟨w.heap.size, 1, none⟩ = some (.slice A R cap) := KB_bx_3.out.cell 1
  have CE_bx_lt : w.heap.size < u1.heap.size := KB_bx_3.out.lt
  by_cases rp : RightG R L Z
  rotate_left
  · have rp2 : ¬ (RightG R L Z ∧ FitsI a2) := fun h => rp h.1
    go_wp2_with fail
    refine (gadd_bad _ _ S R L Z s a2 FA_a_3.out.at R2 LL.out rp2).mono ?_
    rintro e ww3 ⟨rfl, b3⟩
    clear CE_bx_0 CE_bx_1 CE_bx_lt
    have BEL4 := h_bel BEL3 b3
    have BOX4 := h_box BOX3 b3
    have FA_a_4 := h_fact FA_a_3 b3
    have KB_bx_4 := h_blk KB_bx_3 b3
    have KB_x_4 := h_blk KB_x_3 b3
    clear BEL3 BOX3 FA_a_3 KB_bx_3 KB_x_3
    clear b3
    go_upto_region 5 with fail
    have BEL5 := a_bel BEL4 (.cells #[.int .u64 0, .slice none 0 0] 25)
    have BOX5 := a_box BOX4 BEL4 (.cells #[.int .u64 0, .slice none 0 0] 25)
    have FA_a_5 := a_fact FA_a_4 (.cells #[.int .u64 0, .slice none 0 0] 25)
    have KB_bx_5 := a_blk KB_bx_4 (.cells #[.int .u64 0, .slice none 0 0] 25)
    have NE_bx_g := n_ne KB_bx_4
    have KB_x_5 := a_blk KB_x_4 (.cells #[.int .u64 0, .slice none 0 0] 25)
    have NE_x_g := n_ne KB_x_4
    have KB_g_5 := n_blk (u := ww3) 25 #[.int .u64 0, .slice none 0 0]
    clear BEL4 BOX4 FA_a_4 KB_bx_4 KB_x_4
    generalize (ww3.alloc (.cells #[.int .u64 0, .slice none 0 0] 25)) = u2 at BEL5 BOX5 FA_a_5 KB_bx_5 KB_x_5 KB_g_5 ⊢
    generalize ww3.heap.size = gg at BOX5 FA_a_5 KB_g_5 NE_bx_g NE_x_g ⊢
    have CE_bx_0 : u2.cell? ⟨w.heap.size, 0, none⟩ = some (.int .u64 S) := KB_bx_5.out.cell 0
    have CE_bx_1 : u2.cell? ⟨w.heap.size, 1, none⟩ = some (.slice A R cap) := KB_bx_5.out.cell 1
    have CE_bx_lt : w.heap.size < u2.heap.size := KB_bx_5.out.lt
    go_wp2_with fail
    refine (gget_bad _ _ S R L Z s FA_a_5.out.at R2 LL.out rp).mono ?_
    rintro e ww4 ⟨rfl, b4⟩
    clear CE_bx_0 CE_bx_1 CE_bx_lt
    have BEL6 := h_bel BEL5 b4
    have BOX6 := h_box BOX5 b4
    have FA_a_6 := h_fact FA_a_5 b4
    have KB_bx_6 := h_blk KB_bx_5 b4
    have KB_x_6 := h_blk KB_x_5 b4
    have KB_g_6 := h_blk KB_g_5 b4
    clear BEL5 BOX5 FA_a_5 KB_bx_5 KB_x_5 KB_g_5
    clear b4
    have CE_x_0 : ww4.cell? ⟨gx, 0, none⟩ = some (.int .u64 S) := KB_x_6.out.cell 0
    have CE_x_1 : ww4.cell? ⟨gx, 1, none⟩ = some (.slice A R cap) := KB_x_6.out.cell 1
    have CE_x_lt : gx < ww4.heap.size := KB_x_6.out.lt
    go_wp2_with fail
    refine (hright_any _ _ S R _ _ FA_a_6.out.at LL.out).mono ?_
    intro e ww5 h5
    obtain ⟨rfl, b5⟩ := told h5 false ⟨fun h => (by cases h), fun h => absurd h rp⟩
    clear h5
    clear CE_x_0 CE_x_1 CE_x_lt
    have BEL7 := h_bel BEL6 b5
    have BOX7 := h_box BOX6 b5
    have FA_a_7 := h_fact FA_a_6 b5
    have KB_bx_7 := h_blk KB_bx_6 b5
    have KB_x_7 := h_blk KB_x_6 b5
    have KB_g_7 := h_blk KB_g_6 b5
    clear BEL6 BOX6 FA_a_6 KB_bx_6 KB_x_6 KB_g_6
    clear b5
    have CE_bx_0 : ww5.cell? ⟨w.heap.size, 0, none⟩ = some (.int .u64 S) := KB_bx_7.out.cell 0
    have CE_bx_1 : ww5.cell? ⟨w.heap.size, 1, none⟩ = some (.slice A R cap) := KB_bx_7.out.cell 1
    have CE_bx_lt : w.heap.size < ww5.heap.size := KB_bx_7.out.lt
    go_wp2_with fail
    refine (gright_no FA_a_7.out.at R2 LL.out rp).mono ?_
    rintro e ww6 ⟨rfl, b6⟩
    clear CE_bx_0 CE_bx_1 CE_bx_lt
    have BEL8 := h_bel BEL7 b6
    have BOX8 := h_box BOX7 b6
    have FA_a_8 := h_fact FA_a_7 b6
    have KB_bx_8 := h_blk KB_bx_7 b6
    have KB_x_8 := h_blk KB_x_7 b6
    have KB_g_8 := h_blk KB_g_7 b6
    clear BEL7 BOX7 FA_a_7 KB_bx_7 KB_x_7 KB_g_7
    clear b6
    have CE_bx_0 : ww6.cell? ⟨w.heap.size, 0, none⟩ = some (.int .u64 S) := KB_bx_8.out.cell 0
    have CE_bx_1 : ww6.cell? ⟨w.heap.size, 1, none⟩ = some (.slice A R cap) := KB_bx_8.out.cell 1
    have CE_bx_lt : w.heap.size < ww6.heap.size := KB_bx_8.out.lt
    have CE_g_0 : ww6.cell? ⟨gg, 0, none⟩ = some (.int .u64 0) := KB_g_8.out.cell 0
    have CE_g_1 : ww6.cell? ⟨gg, 1, none⟩ = some (.slice none 0 0) := KB_g_8.out.cell 1
    have CE_g_lt : gg < ww6.heap.size := KB_g_8.out.lt
    go_wp2_with fail
    refine (gat_bad _ _ S R L Z s 0 FA_a_8.out.at R2 LL.out rp).mono ?_
    rintro e ww7 ⟨rfl, b7⟩
    clear CE_bx_0 CE_bx_1 CE_bx_lt CE_g_0 CE_g_1 CE_g_lt
    have BEL9 := h_bel BEL8 b7
    have BOX9 := h_box BOX8 b7
    have FA_a_9 := h_fact FA_a_8 b7
    have KB_bx_9 := h_blk KB_bx_8 b7
    have KB_x_9 := h_blk KB_x_8 b7
    have KB_g_9 := h_blk KB_g_8 b7
    clear BEL8 BOX8 FA_a_8 KB_bx_8 KB_x_8 KB_g_8
    clear b7
    go_wp2_with fail
    refine (gawake_any _).mono ?_
    rintro e ww99 ⟨rfl, b9⟩
    have BEL10 := h_bel BEL9 b9
    have BOX10 := h_box BOX9 b9
    have FA_a_10 := h_fact FA_a_9 b9
    have KB_bx_10 := h_blk KB_bx_9 b9
    have KB_x_10 := h_blk KB_x_9 b9
    have KB_g_10 := h_blk KB_g_9 b9
    clear BEL9 BOX9 FA_a_9 KB_bx_9 KB_x_9 KB_g_9
    clear b9
    go_wp2_with fail
    go_ret
    exact ⟨rfl, BEL10.out⟩
  obtain ⟨n, hn⟩ : ∃ n, n = L 0 := ⟨_, rfl⟩
  have OK : Hid (OkG R n Z) := by rw [hn]; exact rp.ok
  have RP : Hid (RightG R (fun _ => n) Z) := OK.out.right
  have n2 : n ≤ 256 := OK.out.2.2.2.2.1
  have n1 : 1 ≤ n := OK.out.2.2.2.1
  have r7 : R ≤ 7 := OK.out.2.1
  have r1 : 1 ≤ R := OK.out.1
  have LK : Hid (∀ i, i < R → L i = n) := fun i hi => by rw [hn]; exact (rp.2.2.2.2.2 i hi).1
  clear rp hn
  have FN := FA_a_3.out.imp (Q := fun uq => SgAt uq (.agg #[.int .u64 S, .slice A R cap]) S R (fun _ => n) Z) (fun u h => h.congr LK.out (fun _ _ _ _ => rfl))
  clear FA_a_3
  have FA_a_3 : Hid (HeldX [gx, w.heap.size] (fun uq => SgAt uq (.agg #[.int .u64 S, .slice A R cap]) S R (fun _ => n) Z) u1) := FN
  clear FN
  by_cases hq : FitsI a2
  rotate_left
  · have rp2 : ¬ (RightG R (fun _ => n) Z ∧ FitsI a2) := fun h => hq h.2
    go_wp2_with fail
    refine (gadd_bad _ _ S R (fun _ => n) Z s a2 FA_a_3.out.at R2 (fun i hi => by show n ≤ 1000; omega) rp2).mono ?_
    rintro e ww3 ⟨rfl, b3⟩
    clear CE_bx_0 CE_bx_1 CE_bx_lt
    have BEL4 := h_bel BEL3 b3
    have BOX4 := h_box BOX3 b3
    have FA_a_4 := h_fact FA_a_3 b3
    have KB_bx_4 := h_blk KB_bx_3 b3
    have KB_x_4 := h_blk KB_x_3 b3
    clear BEL3 BOX3 FA_a_3 KB_bx_3 KB_x_3
    clear b3
    have HQ : Hid (¬ FitsI a2) := hq
    clear hq rp2
    go_upto_region 5 with fail
    have BEL5 := a_bel BEL4 (.cells #[.int .u64 0, .slice none 0 0] 25)
    have BOX5 := a_box BOX4 BEL4 (.cells #[.int .u64 0, .slice none 0 0] 25)
    have FA_a_5 := a_fact FA_a_4 (.cells #[.int .u64 0, .slice none 0 0] 25)
    have KB_bx_5 := a_blk KB_bx_4 (.cells #[.int .u64 0, .slice none 0 0] 25)
    have NE_bx_g := n_ne KB_bx_4
    have KB_x_5 := a_blk KB_x_4 (.cells #[.int .u64 0, .slice none 0 0] 25)
    have NE_x_g := n_ne KB_x_4
    have KB_g_5 := n_blk (u := ww3) 25 #[.int .u64 0, .slice none 0 0]
    clear BEL4 BOX4 FA_a_4 KB_bx_4 KB_x_4
    generalize (ww3.alloc (.cells #[.int .u64 0, .slice none 0 0] 25)) = u2 at BEL5 BOX5 FA_a_5 KB_bx_5 KB_x_5 KB_g_5 ⊢
    generalize ww3.heap.size = gg at BOX5 FA_a_5 KB_g_5 NE_bx_g NE_x_g ⊢
    have CE_bx_0 : u2.cell? ⟨w.heap.size, 0, none⟩ = some (.int .u64 S) := KB_bx_5.out.cell 0
    have CE_bx_1 : u2.cell? ⟨w.heap.size, 1, none⟩ = some (.slice A R cap) := KB_bx_5.out.cell 1
    have CE_bx_lt : w.heap.size < u2.heap.size := KB_bx_5.out.lt
    obtain ⟨G, hG⟩ : ∃ G, G = getG S R n Z s := ⟨_, rfl⟩
    go_wp2_with fail
    refine (gget_ok _ _ S R n Z s FA_a_5.out.at OK.out uS (by omega)).mono ?_
    rintro e ww4 ⟨rfl, b4⟩
    clear CE_bx_0 CE_bx_1 CE_bx_lt
    have BEL6 := h_bel BEL5 b4
    have BOX6 := h_box BOX5 b4
    have FA_a_6 := h_fact FA_a_5 b4
    have KB_bx_6 := h_blk KB_bx_5 b4
    have KB_x_6 := h_blk KB_x_5 b4
    have KB_g_6 := h_blk KB_g_5 b4
    clear BEL5 BOX5 FA_a_5 KB_bx_5 KB_x_5 KB_g_5
    clear b4
    rw [← hG]
    have HG : Hid (G = getG S R n Z s) := hG
    clear hG
    have CE_x_0 : ww4.cell? ⟨gx, 0, none⟩ = some (.int .u64 S) := KB_x_6.out.cell 0
    have CE_x_1 : ww4.cell? ⟨gx, 1, none⟩ = some (.slice A R cap) := KB_x_6.out.cell 1
    have CE_x_lt : gx < ww4.heap.size := KB_x_6.out.lt
    go_wp2_with fail
    refine (hright_any _ _ S R _ _ FA_a_6.out.at (fun i hi => by show n ≤ 1000; omega)).mono ?_
    intro e ww5 h5
    obtain ⟨rfl, b5⟩ := told h5 true ⟨fun _ => RP.out, fun _ => rfl⟩
    clear h5
    clear CE_x_0 CE_x_1 CE_x_lt
    have BEL7 := h_bel BEL6 b5
    have BOX7 := h_box BOX6 b5
    have FA_a_7 := h_fact FA_a_6 b5
    have KB_bx_7 := h_blk KB_bx_6 b5
    have KB_x_7 := h_blk KB_x_6 b5
    have KB_g_7 := h_blk KB_g_6 b5
    clear BEL6 BOX6 FA_a_6 KB_bx_6 KB_x_6 KB_g_6
    clear b5
    go_wp2_with fail
    go_loopg [11] 10 (fun gk i wr => ∃ c : Nat, (gk = 10 - c ∧ c ≤ 10 ∧ Below ww5.heap.size ww5 wr) ∧ i = .int .i64 ((c : Int) - 1))
    case atStart => exact ⟨0, ⟨rfl, by omega, Below.refl _ _⟩, rfl⟩
    case round =>
      obtain ⟨c, ⟨hg, hc, hb⟩, rfl⟩ := hrel
      have HK : Hid (gk = 10 - c ∧ Below ww5.heap.size ww5 wr) := ⟨hg, hb⟩
      have x0 : wr.cell? ⟨w.heap.size, 0, none⟩ = some (.int .u64 S) := (KB_bx_7.out.since hb).cell 0
      have x2 : wr.cell? ⟨w.heap.size, 1, none⟩ = some (.slice A R cap) := (KB_bx_7.out.since hb).cell 1
      by_cases hlt : c < 10
      · have bl : (c : Int) - 1 < 9 := by omega
        have CA : Hid (∀ w1, Below wr.heap.size wr w1 → Calls Try.prog 18 #[.agg #[.int .u64 S, .slice A R cap], .string s, .int .i64 ((c : Int) - 1)] w1 fun e w' => e = .returned (.int .i64 (atG S s R n ((c : Int) - 1))) ∧ Below w1.heap.size w1 w') := fun w1 b1 => gat_ok w1 _ S R n Z s _ (FA_a_7.out.since (bel_trans HK.out.2 b1)).at OK.out uS (by omega)
        clear hg hb
        by_cases c0 : c = 0
        · have neg : ¬ (c : Int) - 1 ≥ 0 := by omega
          have HE : Hid (atG S s R n ((c : Int) - 1) = 0) := atG_out (by omega)
          rw [HE.out] at CA
          clear c0
          go_wp2_with fail
          refine (CA.out _ (Below.refl _ _)).mono ?_
          rintro e w6 ⟨rfl, b6⟩
          have B6 : Hid (Below ww5.heap.size ww5 w6) := bel_trans HK.out.2 b6
          clear b6 x0 x2 CA
          go_wp2_with fail
          go_roundg (10 - (c + 1))
          case measure => have := HK.out.1; omega
          case rel => exact ⟨c + 1, ⟨rfl, by omega, B6.out⟩, by go_num⟩
        · by_cases c1 : (c : Int) - 1 < (R : Int)
          · obtain ⟨d, hd⟩ : ∃ d : Nat, c = d + 1 := ⟨c - 1, by omega⟩
            subst hd
            have ed : ((d + 1 : Nat) : Int) - 1 = (d : Int) := by omega
            rw [ed] at c1 bl CA ⊢
            have pos : (d : Int) ≥ 0 := by omega
            have hdl : d < R := by omega
            obtain ⟨P, hP⟩ : ∃ P, P = cellN S s n d := ⟨_, rfl⟩
            have HE : Hid (atG S s R n (d : Int) = (P : Int)) := by rw [hP]; exact atG_in hdl
            rw [HE.out] at CA
            obtain ⟨rfl, A', cap', b', o', ck0, _⟩ := RA.out d hdl
            rw [LK.out d hdl] at ck0
            have ck : wr.cell? ⟨bq, oq + d, none⟩ = some (.slice A' n cap') := keep_of_below (bel_trans BEL7.out HK.out.2) _ _ ck0
            have CR : Hid (∀ w1, Calls Try.prog 19 #[.int .u64 S, .string s, .int .i64 (d : Int), .int .i64 (n : Int)] w1 fun e w' => e = .returned (.int .i64 (P : Int)) ∧ Below w1.heap.size w1 w') := fun w1 => by rw [hP]; exact hcell_any S s d n w1 uS (by omega) (by omega) n1 (by omega)
            have CK0 : Hid (w.cell? ⟨bq, oq + d, none⟩ = some (.slice A' n cap')) := ck0
            have CB : Hid (∀ w1, Below ww5.heap.size ww5 w1 → Calls Try.prog 18 #[.agg #[.int .u64 S, .slice (some ⟨bq, oq, none⟩) R cap], .string s, .int .i64 (d : Int)] w1 fun e w' => e = .returned (.int .i64 (P : Int)) ∧ Below w1.heap.size w1 w') := fun w1 b1 => (gat_ok w1 _ S R n Z s _ (FA_a_7.out.since b1).at OK.out uS (by omega)).mono fun e w' h => ⟨by rw [← HE.out]; exact h.1, h.2⟩
            clear ck0 c0 hP CA
            go_wp2_with fail
            have BD : Hid (Below ww5.heap.size ww5 wr.drew) := HK.out.2.drew
            have KD : Hid (Blk wr.drew w.heap.size 25 #[.int .u64 S, .slice (some ⟨bq, oq, none⟩) R cap]) := KB_bx_7.out.since BD.out
            refine wp_region_noPanic ?_
            refine wp_region_held_drew (S := (fun w' => Below ww5.heap.size ww5 w' ∧ Blk w' w.heap.size 25 #[.int .u64 S, .slice (some ⟨bq, oq, none⟩) R cap])) (by kernel_rfl) ⟨BD.out, KD.out⟩ (fun hHeld => ?_)
            clear hHeld
            generalize wr.drew = v0 at BD KD ⊢
            refine wpAnyH_take (i := 0) (v := ?_) rfl (by kernel_rfl) (by kernel_rfl) (by kernel_rfl) (fun _ _ _ h => h) (Or.inl ⟨by rfl, ?_⟩) ⟨BD.out, KD.out⟩ ?_
            rotate_left
            · intro wq hSw; go_simp; first | done | with_reducible rfl
            simp only [List.getElem_toArray, List.getElem_cons_zero, Act.put, List.setIfInBounds_toArray, List.set_cons_zero, List.set_cons_succ]
            refine wpAnyH_take (i := 1) (v := ?_) rfl (by kernel_rfl) (by kernel_rfl) (by kernel_rfl) (fun _ _ _ h => h) (Or.inl ⟨by rfl, ?_⟩) ⟨BD.out, KD.out⟩ ?_
            rotate_left
            · intro wq hSw; have cl0 := hSw.2.cell 0; go_simp; first | done | with_reducible rfl
            simp only [List.getElem_toArray, List.getElem_cons_zero, List.getElem_cons_succ, Act.put, List.setIfInBounds_toArray, List.set_cons_zero, List.set_cons_succ]
            refine wpAnyH_take (i := 2) (v := ?_) rfl (by kernel_rfl) (by kernel_rfl) (by kernel_rfl) (fun _ _ _ h => h) (Or.inl ⟨by rfl, ?_⟩) ⟨BD.out, KD.out⟩ ?_
            rotate_left
            · intro wq hSw; go_simp; first | done | with_reducible rfl
            simp only [List.getElem_toArray, List.getElem_cons_zero, List.getElem_cons_succ, Act.put, List.setIfInBounds_toArray, List.set_cons_zero, List.set_cons_succ]
            refine wpAnyH_take (i := 3) (v := ?_) rfl (by kernel_rfl) (by kernel_rfl) (by kernel_rfl) (fun _ _ _ h => h) (Or.inl ⟨by rfl, ?_⟩) ⟨BD.out, KD.out⟩ ?_
            rotate_left
            · intro wq hSw; go_simp; first | done | with_reducible rfl
            simp only [List.getElem_toArray, List.getElem_cons_zero, List.getElem_cons_succ, Act.put, List.setIfInBounds_toArray, List.set_cons_zero, List.set_cons_succ]
            refine wpAnyH_take (i := 4) (v := ?_) rfl (by kernel_rfl) (by kernel_rfl) (by kernel_rfl) (fun _ _ _ h => h) (Or.inl ⟨by rfl, ?_⟩) ⟨BD.out, KD.out⟩ ?_
            rotate_left
            · intro wq hSw; go_simp; first | done | with_reducible rfl
            simp only [List.getElem_toArray, List.getElem_cons_zero, List.getElem_cons_succ, Act.put, List.setIfInBounds_toArray, List.set_cons_zero, List.set_cons_succ]
            refine wpAnyH_take (i := 5) (v := ?_) rfl (by kernel_rfl) (by kernel_rfl) (by kernel_rfl) (fun _ _ _ h => h) (Or.inl ⟨by rfl, ?_⟩) ⟨BD.out, KD.out⟩ ?_
            rotate_left
            · intro wq hSw; have cl0 := hSw.2.cell 1; go_simp; first | done | with_reducible rfl
            simp only [List.getElem_toArray, List.getElem_cons_zero, List.getElem_cons_succ, Act.put, List.setIfInBounds_toArray, List.set_cons_zero, List.set_cons_succ]
            refine wpAnyH_take (i := 6) (v := ?_) rfl (by kernel_rfl) (by kernel_rfl) (by kernel_rfl) (fun _ _ _ h => h) (Or.inl ⟨by rfl, ?_⟩) ⟨BD.out, KD.out⟩ ?_
            rotate_left
            · intro wq hSw; go_simp; first | done | with_reducible rfl
            simp only [List.getElem_toArray, List.getElem_cons_zero, List.getElem_cons_succ, Act.put, List.setIfInBounds_toArray, List.set_cons_zero, List.set_cons_succ]
            refine wpAnyH_take (i := 7) (v := ?_) rfl (by kernel_rfl) (by kernel_rfl) (by kernel_rfl) (fun _ _ _ h => h) (Or.inl ⟨by rfl, ?_⟩) ⟨BD.out, KD.out⟩ ?_
            rotate_left
            · intro wq hSw; go_simp; first | done | with_reducible rfl
            simp only [List.getElem_toArray, List.getElem_cons_zero, List.getElem_cons_succ, Act.put, List.setIfInBounds_toArray, List.set_cons_zero, List.set_cons_succ]
            refine wpAnyH_take (i := 8) (v := ?_) rfl (by kernel_rfl) (by kernel_rfl) (by kernel_rfl) (fun _ _ _ h => h) (Or.inl ⟨by rfl, ?_⟩) ⟨BD.out, KD.out⟩ ?_
            rotate_left
            · intro wq hSw; have cl0 := keep_of_below (bel_trans BEL7.out hSw.1) _ _ CK0.out; go_simp; first | done | with_reducible rfl
            simp only [List.getElem_toArray, List.getElem_cons_zero, List.getElem_cons_succ, Act.put, List.setIfInBounds_toArray, List.set_cons_zero, List.set_cons_succ]
            refine wpAnyH_take (i := 9) (v := ?_) rfl (by kernel_rfl) (by kernel_rfl) (by kernel_rfl) (fun _ _ _ h => h) (Or.inl ⟨by rfl, ?_⟩) ⟨BD.out, KD.out⟩ ?_
            rotate_left
            · intro wq hSw; go_simp; first | done | with_reducible rfl
            simp only [List.getElem_toArray, List.getElem_cons_zero, List.getElem_cons_succ, Act.put, List.setIfInBounds_toArray, List.set_cons_zero, List.set_cons_succ]
            refine wpAnyH_ready (rs := [10]) (by kernel_rfl) (by simp) ?_
            refine AllReadyH.cons rfl (fun K0 hK0 => ?_) ?_
            rotate_left
            · exact AllReadyH.nil
            refine step_func 19 #[.int .u64 S, .string s, .int .i64 (d : Int), .int .i64 (n : Int)] (by rfl) rfl (by simp [Act.eval]) (fun _ _ => by kernel_rfl) ?_
            refine (CR.out _).mono ?_
            rintro e v5 ⟨rfl, cb5⟩
            have B5 : Hid (Below ww5.heap.size ww5 v5) := bel_trans BD.out cb5
            have K5 : Hid (Blk v5 w.heap.size 25 #[.int .u64 S, .slice (some ⟨bq, oq, none⟩) R cap]) := KD.out.since cb5
            clear cb5
            refine ⟨_, rfl, ?_⟩
            refine hK0.out _ _ (by exact ⟨B5.out, K5.out⟩) (fun hHeld => ?_)
            clear hK0 K0 hHeld
            refine wpAnyH_take (i := 11) (v := ?_) rfl (by kernel_rfl) (by kernel_rfl) (by kernel_rfl) (fun _ _ _ h => h) (Or.inl ⟨by rfl, ?_⟩) ⟨B5.out, K5.out⟩ ?_
            rotate_left
            · intro wq hSw; go_simp; first | done | with_reducible rfl
            simp only [List.getElem_toArray, List.getElem_cons_zero, List.getElem_cons_succ, Act.put, List.setIfInBounds_toArray, List.set_cons_zero, List.set_cons_succ]
            refine wpAnyH_done (by kernel_rfl) ?_ _
            refine NoPanic.normal ?_
            have x0 : v5.cell? ⟨w.heap.size, 0, none⟩ = some (.int .u64 S) := K5.out.cell 0
            have x2 : v5.cell? ⟨w.heap.size, 1, none⟩ = some (.slice (some ⟨bq, oq, none⟩) R cap) := K5.out.cell 1
            clear ck
            go_wp2_with fail
            refine (CB.out _ B5.out).mono ?_
            rintro e w6 ⟨rfl, b6⟩
            have B6 : Hid (Below ww5.heap.size ww5 w6) := bel_trans B5.out b6
            clear b6 x0 x2 CR
            have ne0 : ((P : Int) != (P : Int)) = false := by simp
            go_wp2_with fail
            go_roundg (10 - (d + 1 + 1))
            case measure => have := HK.out.1; omega
            case rel => exact ⟨d + 1 + 1, ⟨rfl, by omega, B6.out⟩, by go_num⟩
          · have pos : (c : Int) - 1 ≥ 0 := by omega
            have HE : Hid (atG S s R n ((c : Int) - 1) = 0) := atG_out (by omega)
            rw [HE.out] at CA
            clear c0
            go_wp2_with fail
            refine (CA.out _ (Below.refl _ _)).mono ?_
            rintro e w6 ⟨rfl, b6⟩
            have B6 : Hid (Below ww5.heap.size ww5 w6) := bel_trans HK.out.2 b6
            clear b6 x0 x2 CA
            go_wp2_with fail
            go_roundg (10 - (c + 1))
            case measure => have := HK.out.1; omega
            case rel => exact ⟨c + 1, ⟨rfl, by omega, B6.out⟩, by go_num⟩
      · have bl : ¬ (c : Int) - 1 < 9 := by omega
        have CTM : c = 10 := by omega
        have BW : Hid (Below ww5.heap.size ww5 wr) := hb
        clear hg hb hlt HK CTM x0 x2
        have BEL8 := h_bel BEL7 BW.out
        have BOX8 := h_box BOX7 BW.out
        have FA_a_8 := h_fact FA_a_7 BW.out
        have KB_bx_8 := h_blk KB_bx_7 BW.out
        have KB_x_8 := h_blk KB_x_7 BW.out
        have KB_g_8 := h_blk KB_g_7 BW.out
        clear BEL7 BOX7 FA_a_7 KB_bx_7 KB_x_7 KB_g_7
        clear BW
        have CE_x_0 : wr.cell? ⟨gx, 0, none⟩ = some (.int .u64 S) := KB_x_8.out.cell 0
        have CE_x_1 : wr.cell? ⟨gx, 1, none⟩ = some (.slice A R cap) := KB_x_8.out.cell 1
        have CE_x_lt : gx < wr.heap.size := KB_x_8.out.lt
        go_wp2_with fail
        refine (hget_ok _ _ S R n Z s FA_a_8.out.at OK.out uS (by omega)).mono ?_
        rintro e ww6 ⟨rfl, b6⟩
        clear CE_x_0 CE_x_1 CE_x_lt
        have BEL9 := h_bel BEL8 b6
        have BOX9 := h_box BOX8 b6
        have FA_a_9 := h_fact FA_a_8 b6
        have KB_bx_9 := h_blk KB_bx_8 b6
        have KB_x_9 := h_blk KB_x_8 b6
        have KB_g_9 := h_blk KB_g_8 b6
        clear BEL8 BOX8 FA_a_8 KB_bx_8 KB_x_8 KB_g_8
        clear b6
        rw [← HG.out]
        have e1 : (G != G) = false := by simp
        have CE_bx_0 : ww6.cell? ⟨w.heap.size, 0, none⟩ = some (.int .u64 S) := KB_bx_9.out.cell 0
        have CE_bx_1 : ww6.cell? ⟨w.heap.size, 1, none⟩ = some (.slice A R cap) := KB_bx_9.out.cell 1
        have CE_bx_lt : w.heap.size < ww6.heap.size := KB_bx_9.out.lt
        go_wp2_with fail
        refine (gright_yes FA_a_9.out.at RP.out).mono ?_
        rintro e ww7 ⟨rfl, b7⟩
        clear CE_bx_0 CE_bx_1 CE_bx_lt
        have BEL10 := h_bel BEL9 b7
        have BOX10 := h_box BOX9 b7
        have FA_a_10 := h_fact FA_a_9 b7
        have KB_bx_10 := h_blk KB_bx_9 b7
        have KB_x_10 := h_blk KB_x_9 b7
        have KB_g_10 := h_blk KB_g_9 b7
        clear BEL9 BOX9 FA_a_9 KB_bx_9 KB_x_9 KB_g_9
        clear b7
        clear e1
        go_wp2_with fail
        refine (hfits_any _ _).mono ?_
        rintro e ww7 ⟨rfl, hw7⟩
        obtain rfl := hw7
        rw [fitsB1_no HQ.out]
        have CE_g_0 : ww7.cell? ⟨gg, 0, none⟩ = some (.int .u64 0) := KB_g_10.out.cell 0
        have CE_g_1 : ww7.cell? ⟨gg, 1, none⟩ = some (.slice none 0 0) := KB_g_10.out.cell 1
        have CE_g_lt : gg < ww7.heap.size := KB_g_10.out.lt
        go_wp2_with fail
        refine (gawake_any _).mono ?_
        rintro e ww99 ⟨rfl, b9⟩
        clear CE_g_0 CE_g_1 CE_g_lt
        have BEL11 := h_bel BEL10 b9
        have BOX11 := h_box BOX10 b9
        have FA_a_11 := h_fact FA_a_10 b9
        have KB_bx_11 := h_blk KB_bx_10 b9
        have KB_x_11 := h_blk KB_x_10 b9
        have KB_g_11 := h_blk KB_g_10 b9
        clear BEL10 BOX10 FA_a_10 KB_bx_10 KB_x_10 KB_g_10
        clear b9
        go_wp2_with fail
        go_ret
        exact ⟨rfl, BEL11.out⟩
  by_cases hok : OkG R n (addG S n Z s a2)
  rotate_left
  · go_wp2_with fail
    refine ((gadd_any _ _ S R n Z s a2 FA_a_3.out.at OK.out uS (by omega) hq).mono (fun _ _ h => h.2 hok)).mono ?_
    rintro e ww3 ⟨rfl, b3⟩
    clear CE_bx_0 CE_bx_1 CE_bx_lt
    have BEL4 := h_bel BEL3 b3
    have BOX4 := h_box BOX3 b3
    have FA_a_4 := h_fact FA_a_3 b3
    have KB_bx_4 := h_blk KB_bx_3 b3
    have KB_x_4 := h_blk KB_x_3 b3
    clear BEL3 BOX3 FA_a_3 KB_bx_3 KB_x_3
    clear b3
    have HQ : Hid (FitsI a2 ∧ ¬ OkG R n (addG S n Z s a2)) := ⟨hq, hok⟩
    clear hq hok
    go_upto_region 5 with fail
    have BEL5 := a_bel BEL4 (.cells #[.int .u64 0, .slice none 0 0] 25)
    have BOX5 := a_box BOX4 BEL4 (.cells #[.int .u64 0, .slice none 0 0] 25)
    have FA_a_5 := a_fact FA_a_4 (.cells #[.int .u64 0, .slice none 0 0] 25)
    have KB_bx_5 := a_blk KB_bx_4 (.cells #[.int .u64 0, .slice none 0 0] 25)
    have NE_bx_g := n_ne KB_bx_4
    have KB_x_5 := a_blk KB_x_4 (.cells #[.int .u64 0, .slice none 0 0] 25)
    have NE_x_g := n_ne KB_x_4
    have KB_g_5 := n_blk (u := ww3) 25 #[.int .u64 0, .slice none 0 0]
    clear BEL4 BOX4 FA_a_4 KB_bx_4 KB_x_4
    generalize (ww3.alloc (.cells #[.int .u64 0, .slice none 0 0] 25)) = u2 at BEL5 BOX5 FA_a_5 KB_bx_5 KB_x_5 KB_g_5 ⊢
    generalize ww3.heap.size = gg at BOX5 FA_a_5 KB_g_5 NE_bx_g NE_x_g ⊢
    have CE_bx_0 : u2.cell? ⟨w.heap.size, 0, none⟩ = some (.int .u64 S) := KB_bx_5.out.cell 0
    have CE_bx_1 : u2.cell? ⟨w.heap.size, 1, none⟩ = some (.slice A R cap) := KB_bx_5.out.cell 1
    have CE_bx_lt : w.heap.size < u2.heap.size := KB_bx_5.out.lt
    obtain ⟨G, hG⟩ : ∃ G, G = getG S R n Z s := ⟨_, rfl⟩
    go_wp2_with fail
    refine (gget_ok _ _ S R n Z s FA_a_5.out.at OK.out uS (by omega)).mono ?_
    rintro e ww4 ⟨rfl, b4⟩
    clear CE_bx_0 CE_bx_1 CE_bx_lt
    have BEL6 := h_bel BEL5 b4
    have BOX6 := h_box BOX5 b4
    have FA_a_6 := h_fact FA_a_5 b4
    have KB_bx_6 := h_blk KB_bx_5 b4
    have KB_x_6 := h_blk KB_x_5 b4
    have KB_g_6 := h_blk KB_g_5 b4
    clear BEL5 BOX5 FA_a_5 KB_bx_5 KB_x_5 KB_g_5
    clear b4
    rw [← hG]
    have HG : Hid (G = getG S R n Z s) := hG
    clear hG
    have CE_x_0 : ww4.cell? ⟨gx, 0, none⟩ = some (.int .u64 S) := KB_x_6.out.cell 0
    have CE_x_1 : ww4.cell? ⟨gx, 1, none⟩ = some (.slice A R cap) := KB_x_6.out.cell 1
    have CE_x_lt : gx < ww4.heap.size := KB_x_6.out.lt
    go_wp2_with fail
    refine (hright_any _ _ S R _ _ FA_a_6.out.at (fun i hi => by show n ≤ 1000; omega)).mono ?_
    intro e ww5 h5
    obtain ⟨rfl, b5⟩ := told h5 true ⟨fun _ => RP.out, fun _ => rfl⟩
    clear h5
    clear CE_x_0 CE_x_1 CE_x_lt
    have BEL7 := h_bel BEL6 b5
    have BOX7 := h_box BOX6 b5
    have FA_a_7 := h_fact FA_a_6 b5
    have KB_bx_7 := h_blk KB_bx_6 b5
    have KB_x_7 := h_blk KB_x_6 b5
    have KB_g_7 := h_blk KB_g_6 b5
    clear BEL6 BOX6 FA_a_6 KB_bx_6 KB_x_6 KB_g_6
    clear b5
    go_wp2_with fail
    go_loopg [11] 10 (fun gk i wr => ∃ c : Nat, (gk = 10 - c ∧ c ≤ 10 ∧ Below ww5.heap.size ww5 wr) ∧ i = .int .i64 ((c : Int) - 1))
    case atStart => exact ⟨0, ⟨rfl, by omega, Below.refl _ _⟩, rfl⟩
    case round =>
      obtain ⟨c, ⟨hg, hc, hb⟩, rfl⟩ := hrel
      have HK : Hid (gk = 10 - c ∧ Below ww5.heap.size ww5 wr) := ⟨hg, hb⟩
      have x0 : wr.cell? ⟨w.heap.size, 0, none⟩ = some (.int .u64 S) := (KB_bx_7.out.since hb).cell 0
      have x2 : wr.cell? ⟨w.heap.size, 1, none⟩ = some (.slice A R cap) := (KB_bx_7.out.since hb).cell 1
      by_cases hlt : c < 10
      · have bl : (c : Int) - 1 < 9 := by omega
        have CA : Hid (∀ w1, Below wr.heap.size wr w1 → Calls Try.prog 18 #[.agg #[.int .u64 S, .slice A R cap], .string s, .int .i64 ((c : Int) - 1)] w1 fun e w' => e = .returned (.int .i64 (atG S s R n ((c : Int) - 1))) ∧ Below w1.heap.size w1 w') := fun w1 b1 => gat_ok w1 _ S R n Z s _ (FA_a_7.out.since (bel_trans HK.out.2 b1)).at OK.out uS (by omega)
        clear hg hb
        by_cases c0 : c = 0
        · have neg : ¬ (c : Int) - 1 ≥ 0 := by omega
          have HE : Hid (atG S s R n ((c : Int) - 1) = 0) := atG_out (by omega)
          rw [HE.out] at CA
          clear c0
          go_wp2_with fail
          refine (CA.out _ (Below.refl _ _)).mono ?_
          rintro e w6 ⟨rfl, b6⟩
          have B6 : Hid (Below ww5.heap.size ww5 w6) := bel_trans HK.out.2 b6
          clear b6 x0 x2 CA
          go_wp2_with fail
          go_roundg (10 - (c + 1))
          case measure => have := HK.out.1; omega
          case rel => exact ⟨c + 1, ⟨rfl, by omega, B6.out⟩, by go_num⟩
        · by_cases c1 : (c : Int) - 1 < (R : Int)
          · obtain ⟨d, hd⟩ : ∃ d : Nat, c = d + 1 := ⟨c - 1, by omega⟩
            subst hd
            have ed : ((d + 1 : Nat) : Int) - 1 = (d : Int) := by omega
            rw [ed] at c1 bl CA ⊢
            have pos : (d : Int) ≥ 0 := by omega
            have hdl : d < R := by omega
            obtain ⟨P, hP⟩ : ∃ P, P = cellN S s n d := ⟨_, rfl⟩
            have HE : Hid (atG S s R n (d : Int) = (P : Int)) := by rw [hP]; exact atG_in hdl
            rw [HE.out] at CA
            obtain ⟨rfl, A', cap', b', o', ck0, _⟩ := RA.out d hdl
            rw [LK.out d hdl] at ck0
            have ck : wr.cell? ⟨bq, oq + d, none⟩ = some (.slice A' n cap') := keep_of_below (bel_trans BEL7.out HK.out.2) _ _ ck0
            have CR : Hid (∀ w1, Calls Try.prog 19 #[.int .u64 S, .string s, .int .i64 (d : Int), .int .i64 (n : Int)] w1 fun e w' => e = .returned (.int .i64 (P : Int)) ∧ Below w1.heap.size w1 w') := fun w1 => by rw [hP]; exact hcell_any S s d n w1 uS (by omega) (by omega) n1 (by omega)
            have CK0 : Hid (w.cell? ⟨bq, oq + d, none⟩ = some (.slice A' n cap')) := ck0
            have CB : Hid (∀ w1, Below ww5.heap.size ww5 w1 → Calls Try.prog 18 #[.agg #[.int .u64 S, .slice (some ⟨bq, oq, none⟩) R cap], .string s, .int .i64 (d : Int)] w1 fun e w' => e = .returned (.int .i64 (P : Int)) ∧ Below w1.heap.size w1 w') := fun w1 b1 => (gat_ok w1 _ S R n Z s _ (FA_a_7.out.since b1).at OK.out uS (by omega)).mono fun e w' h => ⟨by rw [← HE.out]; exact h.1, h.2⟩
            clear ck0 c0 hP CA
            go_wp2_with fail
            have BD : Hid (Below ww5.heap.size ww5 wr.drew) := HK.out.2.drew
            have KD : Hid (Blk wr.drew w.heap.size 25 #[.int .u64 S, .slice (some ⟨bq, oq, none⟩) R cap]) := KB_bx_7.out.since BD.out
            refine wp_region_noPanic ?_
            refine wp_region_held_drew (S := (fun w' => Below ww5.heap.size ww5 w' ∧ Blk w' w.heap.size 25 #[.int .u64 S, .slice (some ⟨bq, oq, none⟩) R cap])) (by kernel_rfl) ⟨BD.out, KD.out⟩ (fun hHeld => ?_)
            clear hHeld
            generalize wr.drew = v0 at BD KD ⊢
            refine wpAnyH_take (i := 0) (v := ?_) rfl (by kernel_rfl) (by kernel_rfl) (by kernel_rfl) (fun _ _ _ h => h) (Or.inl ⟨by rfl, ?_⟩) ⟨BD.out, KD.out⟩ ?_
            rotate_left
            · intro wq hSw; go_simp; first | done | with_reducible rfl
            simp only [List.getElem_toArray, List.getElem_cons_zero, Act.put, List.setIfInBounds_toArray, List.set_cons_zero, List.set_cons_succ]
            refine wpAnyH_take (i := 1) (v := ?_) rfl (by kernel_rfl) (by kernel_rfl) (by kernel_rfl) (fun _ _ _ h => h) (Or.inl ⟨by rfl, ?_⟩) ⟨BD.out, KD.out⟩ ?_
            rotate_left
            · intro wq hSw; have cl0 := hSw.2.cell 0; go_simp; first | done | with_reducible rfl
            simp only [List.getElem_toArray, List.getElem_cons_zero, List.getElem_cons_succ, Act.put, List.setIfInBounds_toArray, List.set_cons_zero, List.set_cons_succ]
            refine wpAnyH_take (i := 2) (v := ?_) rfl (by kernel_rfl) (by kernel_rfl) (by kernel_rfl) (fun _ _ _ h => h) (Or.inl ⟨by rfl, ?_⟩) ⟨BD.out, KD.out⟩ ?_
            rotate_left
            · intro wq hSw; go_simp; first | done | with_reducible rfl
            simp only [List.getElem_toArray, List.getElem_cons_zero, List.getElem_cons_succ, Act.put, List.setIfInBounds_toArray, List.set_cons_zero, List.set_cons_succ]
            refine wpAnyH_take (i := 3) (v := ?_) rfl (by kernel_rfl) (by kernel_rfl) (by kernel_rfl) (fun _ _ _ h => h) (Or.inl ⟨by rfl, ?_⟩) ⟨BD.out, KD.out⟩ ?_
            rotate_left
            · intro wq hSw; go_simp; first | done | with_reducible rfl
            simp only [List.getElem_toArray, List.getElem_cons_zero, List.getElem_cons_succ, Act.put, List.setIfInBounds_toArray, List.set_cons_zero, List.set_cons_succ]
            refine wpAnyH_take (i := 4) (v := ?_) rfl (by kernel_rfl) (by kernel_rfl) (by kernel_rfl) (fun _ _ _ h => h) (Or.inl ⟨by rfl, ?_⟩) ⟨BD.out, KD.out⟩ ?_
            rotate_left
            · intro wq hSw; go_simp; first | done | with_reducible rfl
            simp only [List.getElem_toArray, List.getElem_cons_zero, List.getElem_cons_succ, Act.put, List.setIfInBounds_toArray, List.set_cons_zero, List.set_cons_succ]
            refine wpAnyH_take (i := 5) (v := ?_) rfl (by kernel_rfl) (by kernel_rfl) (by kernel_rfl) (fun _ _ _ h => h) (Or.inl ⟨by rfl, ?_⟩) ⟨BD.out, KD.out⟩ ?_
            rotate_left
            · intro wq hSw; have cl0 := hSw.2.cell 1; go_simp; first | done | with_reducible rfl
            simp only [List.getElem_toArray, List.getElem_cons_zero, List.getElem_cons_succ, Act.put, List.setIfInBounds_toArray, List.set_cons_zero, List.set_cons_succ]
            refine wpAnyH_take (i := 6) (v := ?_) rfl (by kernel_rfl) (by kernel_rfl) (by kernel_rfl) (fun _ _ _ h => h) (Or.inl ⟨by rfl, ?_⟩) ⟨BD.out, KD.out⟩ ?_
            rotate_left
            · intro wq hSw; go_simp; first | done | with_reducible rfl
            simp only [List.getElem_toArray, List.getElem_cons_zero, List.getElem_cons_succ, Act.put, List.setIfInBounds_toArray, List.set_cons_zero, List.set_cons_succ]
            refine wpAnyH_take (i := 7) (v := ?_) rfl (by kernel_rfl) (by kernel_rfl) (by kernel_rfl) (fun _ _ _ h => h) (Or.inl ⟨by rfl, ?_⟩) ⟨BD.out, KD.out⟩ ?_
            rotate_left
            · intro wq hSw; go_simp; first | done | with_reducible rfl
            simp only [List.getElem_toArray, List.getElem_cons_zero, List.getElem_cons_succ, Act.put, List.setIfInBounds_toArray, List.set_cons_zero, List.set_cons_succ]
            refine wpAnyH_take (i := 8) (v := ?_) rfl (by kernel_rfl) (by kernel_rfl) (by kernel_rfl) (fun _ _ _ h => h) (Or.inl ⟨by rfl, ?_⟩) ⟨BD.out, KD.out⟩ ?_
            rotate_left
            · intro wq hSw; have cl0 := keep_of_below (bel_trans BEL7.out hSw.1) _ _ CK0.out; go_simp; first | done | with_reducible rfl
            simp only [List.getElem_toArray, List.getElem_cons_zero, List.getElem_cons_succ, Act.put, List.setIfInBounds_toArray, List.set_cons_zero, List.set_cons_succ]
            refine wpAnyH_take (i := 9) (v := ?_) rfl (by kernel_rfl) (by kernel_rfl) (by kernel_rfl) (fun _ _ _ h => h) (Or.inl ⟨by rfl, ?_⟩) ⟨BD.out, KD.out⟩ ?_
            rotate_left
            · intro wq hSw; go_simp; first | done | with_reducible rfl
            simp only [List.getElem_toArray, List.getElem_cons_zero, List.getElem_cons_succ, Act.put, List.setIfInBounds_toArray, List.set_cons_zero, List.set_cons_succ]
            refine wpAnyH_ready (rs := [10]) (by kernel_rfl) (by simp) ?_
            refine AllReadyH.cons rfl (fun K0 hK0 => ?_) ?_
            rotate_left
            · exact AllReadyH.nil
            refine step_func 19 #[.int .u64 S, .string s, .int .i64 (d : Int), .int .i64 (n : Int)] (by rfl) rfl (by simp [Act.eval]) (fun _ _ => by kernel_rfl) ?_
            refine (CR.out _).mono ?_
            rintro e v5 ⟨rfl, cb5⟩
            have B5 : Hid (Below ww5.heap.size ww5 v5) := bel_trans BD.out cb5
            have K5 : Hid (Blk v5 w.heap.size 25 #[.int .u64 S, .slice (some ⟨bq, oq, none⟩) R cap]) := KD.out.since cb5
            clear cb5
            refine ⟨_, rfl, ?_⟩
            refine hK0.out _ _ (by exact ⟨B5.out, K5.out⟩) (fun hHeld => ?_)
            clear hK0 K0 hHeld
            refine wpAnyH_take (i := 11) (v := ?_) rfl (by kernel_rfl) (by kernel_rfl) (by kernel_rfl) (fun _ _ _ h => h) (Or.inl ⟨by rfl, ?_⟩) ⟨B5.out, K5.out⟩ ?_
            rotate_left
            · intro wq hSw; go_simp; first | done | with_reducible rfl
            simp only [List.getElem_toArray, List.getElem_cons_zero, List.getElem_cons_succ, Act.put, List.setIfInBounds_toArray, List.set_cons_zero, List.set_cons_succ]
            refine wpAnyH_done (by kernel_rfl) ?_ _
            refine NoPanic.normal ?_
            have x0 : v5.cell? ⟨w.heap.size, 0, none⟩ = some (.int .u64 S) := K5.out.cell 0
            have x2 : v5.cell? ⟨w.heap.size, 1, none⟩ = some (.slice (some ⟨bq, oq, none⟩) R cap) := K5.out.cell 1
            clear ck
            go_wp2_with fail
            refine (CB.out _ B5.out).mono ?_
            rintro e w6 ⟨rfl, b6⟩
            have B6 : Hid (Below ww5.heap.size ww5 w6) := bel_trans B5.out b6
            clear b6 x0 x2 CR
            have ne0 : ((P : Int) != (P : Int)) = false := by simp
            go_wp2_with fail
            go_roundg (10 - (d + 1 + 1))
            case measure => have := HK.out.1; omega
            case rel => exact ⟨d + 1 + 1, ⟨rfl, by omega, B6.out⟩, by go_num⟩
          · have pos : (c : Int) - 1 ≥ 0 := by omega
            have HE : Hid (atG S s R n ((c : Int) - 1) = 0) := atG_out (by omega)
            rw [HE.out] at CA
            clear c0
            go_wp2_with fail
            refine (CA.out _ (Below.refl _ _)).mono ?_
            rintro e w6 ⟨rfl, b6⟩
            have B6 : Hid (Below ww5.heap.size ww5 w6) := bel_trans HK.out.2 b6
            clear b6 x0 x2 CA
            go_wp2_with fail
            go_roundg (10 - (c + 1))
            case measure => have := HK.out.1; omega
            case rel => exact ⟨c + 1, ⟨rfl, by omega, B6.out⟩, by go_num⟩
      · have bl : ¬ (c : Int) - 1 < 9 := by omega
        have CTM : c = 10 := by omega
        have BW : Hid (Below ww5.heap.size ww5 wr) := hb
        clear hg hb hlt HK CTM x0 x2
        have BEL8 := h_bel BEL7 BW.out
        have BOX8 := h_box BOX7 BW.out
        have FA_a_8 := h_fact FA_a_7 BW.out
        have KB_bx_8 := h_blk KB_bx_7 BW.out
        have KB_x_8 := h_blk KB_x_7 BW.out
        have KB_g_8 := h_blk KB_g_7 BW.out
        clear BEL7 BOX7 FA_a_7 KB_bx_7 KB_x_7 KB_g_7
        clear BW
        have CE_x_0 : wr.cell? ⟨gx, 0, none⟩ = some (.int .u64 S) := KB_x_8.out.cell 0
        have CE_x_1 : wr.cell? ⟨gx, 1, none⟩ = some (.slice A R cap) := KB_x_8.out.cell 1
        have CE_x_lt : gx < wr.heap.size := KB_x_8.out.lt
        go_wp2_with fail
        refine (hget_ok _ _ S R n Z s FA_a_8.out.at OK.out uS (by omega)).mono ?_
        rintro e ww6 ⟨rfl, b6⟩
        clear CE_x_0 CE_x_1 CE_x_lt
        have BEL9 := h_bel BEL8 b6
        have BOX9 := h_box BOX8 b6
        have FA_a_9 := h_fact FA_a_8 b6
        have KB_bx_9 := h_blk KB_bx_8 b6
        have KB_x_9 := h_blk KB_x_8 b6
        have KB_g_9 := h_blk KB_g_8 b6
        clear BEL8 BOX8 FA_a_8 KB_bx_8 KB_x_8 KB_g_8
        clear b6
        rw [← HG.out]
        have e1 : (G != G) = false := by simp
        have CE_bx_0 : ww6.cell? ⟨w.heap.size, 0, none⟩ = some (.int .u64 S) := KB_bx_9.out.cell 0
        have CE_bx_1 : ww6.cell? ⟨w.heap.size, 1, none⟩ = some (.slice A R cap) := KB_bx_9.out.cell 1
        have CE_bx_lt : w.heap.size < ww6.heap.size := KB_bx_9.out.lt
        go_wp2_with fail
        refine (gright_yes FA_a_9.out.at RP.out).mono ?_
        rintro e ww7 ⟨rfl, b7⟩
        clear CE_bx_0 CE_bx_1 CE_bx_lt
        have BEL10 := h_bel BEL9 b7
        have BOX10 := h_box BOX9 b7
        have FA_a_10 := h_fact FA_a_9 b7
        have KB_bx_10 := h_blk KB_bx_9 b7
        have KB_x_10 := h_blk KB_x_9 b7
        have KB_g_10 := h_blk KB_g_9 b7
        clear BEL9 BOX9 FA_a_9 KB_bx_9 KB_x_9 KB_g_9
        clear b7
        clear e1
        go_wp2_with fail
        refine (hfits_any _ _).mono ?_
        rintro e ww7 ⟨rfl, hw7⟩
        obtain rfl := hw7
        rw [fitsB1_yes HQ.out.1]
        have CE_x_0 : ww7.cell? ⟨gx, 0, none⟩ = some (.int .u64 S) := KB_x_10.out.cell 0
        have CE_x_1 : ww7.cell? ⟨gx, 1, none⟩ = some (.slice A R cap) := KB_x_10.out.cell 1
        have CE_x_lt : gx < ww7.heap.size := KB_x_10.out.lt
        go_wp2_with fail
        refine (hadd_any _ _ S R n Z s a2 FA_a_10.out.at OK.out uS (by omega) HQ.out.1).mono ?_
        rintro e ww8 ⟨xy, B, rfl, hy, hB, b8⟩
        have HY : Hid (HeldX [] (fun uq => SgAt uq xy S R (fun _ => n) (addG S n Z s a2)) ww8) := heldX_keep fun u k => hy.keep k
        obtain ⟨vy, rfl, hvy⟩ := hy
        obtain ⟨Ay, cy, by_, oy, rfl, hx1, hx2⟩ := hvy.read
        clear hx1 hx2 hvy
        obtain rfl : B = false := by
          cases B with
          | false => rfl
          | true => exact absurd (hB.1 rfl) HQ.out.2
        clear hB
        clear CE_x_0 CE_x_1 CE_x_lt
        have BEL11 := h_bel BEL10 b8
        have BOX11 := h_box BOX10 b8
        have FA_a_11 := h_fact FA_a_10 b8
        have KB_bx_11 := h_blk KB_bx_10 b8
        have KB_x_11 := h_blk KB_x_10 b8
        have KB_g_11 := h_blk KB_g_10 b8
        clear BEL10 BOX10 FA_a_10 KB_bx_10 KB_x_10 KB_g_10
        clear b8
        clear HY
        have BEL12 := a_bel BEL11 (.cells #[.int .u64 S, .slice Ay R cy] 30)
        have BOX12 := a_box BOX11 BEL11 (.cells #[.int .u64 S, .slice Ay R cy] 30)
        have FA_a_12 := a_fact FA_a_11 (.cells #[.int .u64 S, .slice Ay R cy] 30)
        have KB_bx_12 := a_blk KB_bx_11 (.cells #[.int .u64 S, .slice Ay R cy] 30)
        have NE_bx_y := n_ne KB_bx_11
        have KB_x_12 := a_blk KB_x_11 (.cells #[.int .u64 S, .slice Ay R cy] 30)
        have NE_x_y := n_ne KB_x_11
        have KB_g_12 := a_blk KB_g_11 (.cells #[.int .u64 S, .slice Ay R cy] 30)
        have NE_g_y := n_ne KB_g_11
        have KB_y_12 := n_blk (u := ww8) 30 #[.int .u64 S, .slice Ay R cy]
        clear BEL11 BOX11 FA_a_11 KB_bx_11 KB_x_11 KB_g_11
        have CE_g_0 : (ww8.alloc (.cells #[.int .u64 S, .slice Ay R cy] 30)).cell? ⟨gg, 0, none⟩ = some (.int .u64 0) := KB_g_12.out.cell 0
        have CE_g_1 : (ww8.alloc (.cells #[.int .u64 S, .slice Ay R cy] 30)).cell? ⟨gg, 1, none⟩ = some (.slice none 0 0) := KB_g_12.out.cell 1
        have CE_g_lt : gg < (ww8.alloc (.cells #[.int .u64 S, .slice Ay R cy] 30)).heap.size := KB_g_12.out.lt
        go_wp2_with fail
        refine (gawake_any _).mono ?_
        rintro e ww99 ⟨rfl, b9⟩
        clear CE_g_0 CE_g_1 CE_g_lt
        have BEL13 := h_bel BEL12 b9
        have BOX13 := h_box BOX12 b9
        have FA_a_13 := h_fact FA_a_12 b9
        have KB_bx_13 := h_blk KB_bx_12 b9
        have KB_x_13 := h_blk KB_x_12 b9
        have KB_g_13 := h_blk KB_g_12 b9
        have KB_y_13 := h_blk KB_y_12 b9
        clear BEL12 BOX12 FA_a_12 KB_bx_12 KB_x_12 KB_g_12 KB_y_12
        clear b9
        go_wp2_with fail
        go_ret
        exact ⟨rfl, BEL13.out⟩
  go_wp2_with fail
  refine ((gadd_any _ _ S R n Z s a2 FA_a_3.out.at OK.out uS (by omega) hq).mono (fun _ _ h => h.1 hok)).mono ?_
  rintro e ww3 ⟨xg, rfl, fg, b3⟩
  clear CE_bx_0 CE_bx_1 CE_bx_lt
  obtain ⟨vg, rfl, hvg⟩ := fg.at
  obtain ⟨Ag, cg, bbg, oog, rfl, hx1, hx2⟩ := hvg.read
  clear hx1 hx2 hvg
  have FA_g_4 : Hid (HeldX [gx, w.heap.size] (fun uq => SgAt uq (.agg #[.int .u64 S, .slice Ag R cg]) S R (fun _ => n) (addG S n Z s a2)) ww3) := Held.new fg BOX3.out
  have BEL4 := h_bel BEL3 b3
  have BOX4 := h_box BOX3 b3
  have FA_a_4 := h_fact FA_a_3 b3
  have KB_bx_4 := h_blk KB_bx_3 b3
  have KB_x_4 := h_blk KB_x_3 b3
  clear BEL3 BOX3 FA_a_3 KB_bx_3 KB_x_3
  clear b3 fg
  have HQ : Hid (FitsI a2 ∧ OkG R n (addG S n Z s a2)) := ⟨hq, hok⟩
  clear hq hok
  go_upto_region 5 with fail
  have BEL5 := a_bel BEL4 (.cells #[.int .u64 S, .slice Ag R cg] 25)
  have BOX5 := a_box BOX4 BEL4 (.cells #[.int .u64 S, .slice Ag R cg] 25)
  have FA_a_5 := a_fact FA_a_4 (.cells #[.int .u64 S, .slice Ag R cg] 25)
  have FA_g_5 := a_fact FA_g_4 (.cells #[.int .u64 S, .slice Ag R cg] 25)
  have KB_bx_5 := a_blk KB_bx_4 (.cells #[.int .u64 S, .slice Ag R cg] 25)
  have NE_bx_g := n_ne KB_bx_4
  have KB_x_5 := a_blk KB_x_4 (.cells #[.int .u64 S, .slice Ag R cg] 25)
  have NE_x_g := n_ne KB_x_4
  have KB_g_5 := n_blk (u := ww3) 25 #[.int .u64 S, .slice Ag R cg]
  clear BEL4 BOX4 FA_a_4 FA_g_4 KB_bx_4 KB_x_4
  generalize (ww3.alloc (.cells #[.int .u64 S, .slice Ag R cg] 25)) = u2 at BEL5 BOX5 FA_a_5 FA_g_5 KB_bx_5 KB_x_5 KB_g_5 ⊢
  generalize ww3.heap.size = gg at BOX5 FA_a_5 FA_g_5 KB_g_5 NE_bx_g NE_x_g ⊢
  have CE_bx_0 : u2.cell? ⟨w.heap.size, 0, none⟩ = some (.int .u64 S) := KB_bx_5.out.cell 0
  have CE_bx_1 : u2.cell? ⟨w.heap.size, 1, none⟩ = some (.slice A R cap) := KB_bx_5.out.cell 1
  have CE_bx_lt : w.heap.size < u2.heap.size := KB_bx_5.out.lt
  obtain ⟨G, hG⟩ : ∃ G, G = getG S R n Z s := ⟨_, rfl⟩
  go_wp2_with fail
  refine (gget_ok _ _ S R n Z s FA_a_5.out.at OK.out uS (by omega)).mono ?_
  rintro e ww4 ⟨rfl, b4⟩
  clear CE_bx_0 CE_bx_1 CE_bx_lt
  have BEL6 := h_bel BEL5 b4
  have BOX6 := h_box BOX5 b4
  have FA_a_6 := h_fact FA_a_5 b4
  have FA_g_6 := h_fact FA_g_5 b4
  have KB_bx_6 := h_blk KB_bx_5 b4
  have KB_x_6 := h_blk KB_x_5 b4
  have KB_g_6 := h_blk KB_g_5 b4
  clear BEL5 BOX5 FA_a_5 FA_g_5 KB_bx_5 KB_x_5 KB_g_5
  clear b4
  rw [← hG]
  have HG : Hid (G = getG S R n Z s) := hG
  clear hG
  have CE_x_0 : ww4.cell? ⟨gx, 0, none⟩ = some (.int .u64 S) := KB_x_6.out.cell 0
  have CE_x_1 : ww4.cell? ⟨gx, 1, none⟩ = some (.slice A R cap) := KB_x_6.out.cell 1
  have CE_x_lt : gx < ww4.heap.size := KB_x_6.out.lt
  go_wp2_with fail
  refine (hright_any _ _ S R _ _ FA_a_6.out.at (fun i hi => by show n ≤ 1000; omega)).mono ?_
  intro e ww5 h5
  obtain ⟨rfl, b5⟩ := told h5 true ⟨fun _ => RP.out, fun _ => rfl⟩
  clear h5
  clear CE_x_0 CE_x_1 CE_x_lt
  have BEL7 := h_bel BEL6 b5
  have BOX7 := h_box BOX6 b5
  have FA_a_7 := h_fact FA_a_6 b5
  have FA_g_7 := h_fact FA_g_6 b5
  have KB_bx_7 := h_blk KB_bx_6 b5
  have KB_x_7 := h_blk KB_x_6 b5
  have KB_g_7 := h_blk KB_g_6 b5
  clear BEL6 BOX6 FA_a_6 FA_g_6 KB_bx_6 KB_x_6 KB_g_6
  clear b5
  go_wp2_with fail
  go_loopg [11] 10 (fun gk i wr => ∃ c : Nat, (gk = 10 - c ∧ c ≤ 10 ∧ Below ww5.heap.size ww5 wr) ∧ i = .int .i64 ((c : Int) - 1))
  case atStart => exact ⟨0, ⟨rfl, by omega, Below.refl _ _⟩, rfl⟩
  case round =>
    obtain ⟨c, ⟨hg, hc, hb⟩, rfl⟩ := hrel
    have HK : Hid (gk = 10 - c ∧ Below ww5.heap.size ww5 wr) := ⟨hg, hb⟩
    have x0 : wr.cell? ⟨w.heap.size, 0, none⟩ = some (.int .u64 S) := (KB_bx_7.out.since hb).cell 0
    have x2 : wr.cell? ⟨w.heap.size, 1, none⟩ = some (.slice A R cap) := (KB_bx_7.out.since hb).cell 1
    by_cases hlt : c < 10
    · have bl : (c : Int) - 1 < 9 := by omega
      have CA : Hid (∀ w1, Below wr.heap.size wr w1 → Calls Try.prog 18 #[.agg #[.int .u64 S, .slice A R cap], .string s, .int .i64 ((c : Int) - 1)] w1 fun e w' => e = .returned (.int .i64 (atG S s R n ((c : Int) - 1))) ∧ Below w1.heap.size w1 w') := fun w1 b1 => gat_ok w1 _ S R n Z s _ (FA_a_7.out.since (bel_trans HK.out.2 b1)).at OK.out uS (by omega)
      clear hg hb
      by_cases c0 : c = 0
      · have neg : ¬ (c : Int) - 1 ≥ 0 := by omega
        have HE : Hid (atG S s R n ((c : Int) - 1) = 0) := atG_out (by omega)
        rw [HE.out] at CA
        clear c0
        go_wp2_with fail
        refine (CA.out _ (Below.refl _ _)).mono ?_
        rintro e w6 ⟨rfl, b6⟩
        have B6 : Hid (Below ww5.heap.size ww5 w6) := bel_trans HK.out.2 b6
        clear b6 x0 x2 CA
        go_wp2_with fail
        go_roundg (10 - (c + 1))
        case measure => have := HK.out.1; omega
        case rel => exact ⟨c + 1, ⟨rfl, by omega, B6.out⟩, by go_num⟩
      · by_cases c1 : (c : Int) - 1 < (R : Int)
        · obtain ⟨d, hd⟩ : ∃ d : Nat, c = d + 1 := ⟨c - 1, by omega⟩
          subst hd
          have ed : ((d + 1 : Nat) : Int) - 1 = (d : Int) := by omega
          rw [ed] at c1 bl CA ⊢
          have pos : (d : Int) ≥ 0 := by omega
          have hdl : d < R := by omega
          obtain ⟨P, hP⟩ : ∃ P, P = cellN S s n d := ⟨_, rfl⟩
          have HE : Hid (atG S s R n (d : Int) = (P : Int)) := by rw [hP]; exact atG_in hdl
          rw [HE.out] at CA
          obtain ⟨rfl, A', cap', b', o', ck0, _⟩ := RA.out d hdl
          rw [LK.out d hdl] at ck0
          have ck : wr.cell? ⟨bq, oq + d, none⟩ = some (.slice A' n cap') := keep_of_below (bel_trans BEL7.out HK.out.2) _ _ ck0
          have CR : Hid (∀ w1, Calls Try.prog 19 #[.int .u64 S, .string s, .int .i64 (d : Int), .int .i64 (n : Int)] w1 fun e w' => e = .returned (.int .i64 (P : Int)) ∧ Below w1.heap.size w1 w') := fun w1 => by rw [hP]; exact hcell_any S s d n w1 uS (by omega) (by omega) n1 (by omega)
          have CK0 : Hid (w.cell? ⟨bq, oq + d, none⟩ = some (.slice A' n cap')) := ck0
          have CB : Hid (∀ w1, Below ww5.heap.size ww5 w1 → Calls Try.prog 18 #[.agg #[.int .u64 S, .slice (some ⟨bq, oq, none⟩) R cap], .string s, .int .i64 (d : Int)] w1 fun e w' => e = .returned (.int .i64 (P : Int)) ∧ Below w1.heap.size w1 w') := fun w1 b1 => (gat_ok w1 _ S R n Z s _ (FA_a_7.out.since b1).at OK.out uS (by omega)).mono fun e w' h => ⟨by rw [← HE.out]; exact h.1, h.2⟩
          clear ck0 c0 hP CA
          go_wp2_with fail
          have BD : Hid (Below ww5.heap.size ww5 wr.drew) := HK.out.2.drew
          have KD : Hid (Blk wr.drew w.heap.size 25 #[.int .u64 S, .slice (some ⟨bq, oq, none⟩) R cap]) := KB_bx_7.out.since BD.out
          refine wp_region_noPanic ?_
          refine wp_region_held_drew (S := (fun w' => Below ww5.heap.size ww5 w' ∧ Blk w' w.heap.size 25 #[.int .u64 S, .slice (some ⟨bq, oq, none⟩) R cap])) (by kernel_rfl) ⟨BD.out, KD.out⟩ (fun hHeld => ?_)
          clear hHeld
          generalize wr.drew = v0 at BD KD ⊢
          refine wpAnyH_take (i := 0) (v := ?_) rfl (by kernel_rfl) (by kernel_rfl) (by kernel_rfl) (fun _ _ _ h => h) (Or.inl ⟨by rfl, ?_⟩) ⟨BD.out, KD.out⟩ ?_
          rotate_left
          · intro wq hSw; go_simp; first | done | with_reducible rfl
          simp only [List.getElem_toArray, List.getElem_cons_zero, Act.put, List.setIfInBounds_toArray, List.set_cons_zero, List.set_cons_succ]
          refine wpAnyH_take (i := 1) (v := ?_) rfl (by kernel_rfl) (by kernel_rfl) (by kernel_rfl) (fun _ _ _ h => h) (Or.inl ⟨by rfl, ?_⟩) ⟨BD.out, KD.out⟩ ?_
          rotate_left
          · intro wq hSw; have cl0 := hSw.2.cell 0; go_simp; first | done | with_reducible rfl
          simp only [List.getElem_toArray, List.getElem_cons_zero, List.getElem_cons_succ, Act.put, List.setIfInBounds_toArray, List.set_cons_zero, List.set_cons_succ]
          refine wpAnyH_take (i := 2) (v := ?_) rfl (by kernel_rfl) (by kernel_rfl) (by kernel_rfl) (fun _ _ _ h => h) (Or.inl ⟨by rfl, ?_⟩) ⟨BD.out, KD.out⟩ ?_
          rotate_left
          · intro wq hSw; go_simp; first | done | with_reducible rfl
          simp only [List.getElem_toArray, List.getElem_cons_zero, List.getElem_cons_succ, Act.put, List.setIfInBounds_toArray, List.set_cons_zero, List.set_cons_succ]
          refine wpAnyH_take (i := 3) (v := ?_) rfl (by kernel_rfl) (by kernel_rfl) (by kernel_rfl) (fun _ _ _ h => h) (Or.inl ⟨by rfl, ?_⟩) ⟨BD.out, KD.out⟩ ?_
          rotate_left
          · intro wq hSw; go_simp; first | done | with_reducible rfl
          simp only [List.getElem_toArray, List.getElem_cons_zero, List.getElem_cons_succ, Act.put, List.setIfInBounds_toArray, List.set_cons_zero, List.set_cons_succ]
          refine wpAnyH_take (i := 4) (v := ?_) rfl (by kernel_rfl) (by kernel_rfl) (by kernel_rfl) (fun _ _ _ h => h) (Or.inl ⟨by rfl, ?_⟩) ⟨BD.out, KD.out⟩ ?_
          rotate_left
          · intro wq hSw; go_simp; first | done | with_reducible rfl
          simp only [List.getElem_toArray, List.getElem_cons_zero, List.getElem_cons_succ, Act.put, List.setIfInBounds_toArray, List.set_cons_zero, List.set_cons_succ]
          refine wpAnyH_take (i := 5) (v := ?_) rfl (by kernel_rfl) (by kernel_rfl) (by kernel_rfl) (fun _ _ _ h => h) (Or.inl ⟨by rfl, ?_⟩) ⟨BD.out, KD.out⟩ ?_
          rotate_left
          · intro wq hSw; have cl0 := hSw.2.cell 1; go_simp; first | done | with_reducible rfl
          simp only [List.getElem_toArray, List.getElem_cons_zero, List.getElem_cons_succ, Act.put, List.setIfInBounds_toArray, List.set_cons_zero, List.set_cons_succ]
          refine wpAnyH_take (i := 6) (v := ?_) rfl (by kernel_rfl) (by kernel_rfl) (by kernel_rfl) (fun _ _ _ h => h) (Or.inl ⟨by rfl, ?_⟩) ⟨BD.out, KD.out⟩ ?_
          rotate_left
          · intro wq hSw; go_simp; first | done | with_reducible rfl
          simp only [List.getElem_toArray, List.getElem_cons_zero, List.getElem_cons_succ, Act.put, List.setIfInBounds_toArray, List.set_cons_zero, List.set_cons_succ]
          refine wpAnyH_take (i := 7) (v := ?_) rfl (by kernel_rfl) (by kernel_rfl) (by kernel_rfl) (fun _ _ _ h => h) (Or.inl ⟨by rfl, ?_⟩) ⟨BD.out, KD.out⟩ ?_
          rotate_left
          · intro wq hSw; go_simp; first | done | with_reducible rfl
          simp only [List.getElem_toArray, List.getElem_cons_zero, List.getElem_cons_succ, Act.put, List.setIfInBounds_toArray, List.set_cons_zero, List.set_cons_succ]
          refine wpAnyH_take (i := 8) (v := ?_) rfl (by kernel_rfl) (by kernel_rfl) (by kernel_rfl) (fun _ _ _ h => h) (Or.inl ⟨by rfl, ?_⟩) ⟨BD.out, KD.out⟩ ?_
          rotate_left
          · intro wq hSw; have cl0 := keep_of_below (bel_trans BEL7.out hSw.1) _ _ CK0.out; go_simp; first | done | with_reducible rfl
          simp only [List.getElem_toArray, List.getElem_cons_zero, List.getElem_cons_succ, Act.put, List.setIfInBounds_toArray, List.set_cons_zero, List.set_cons_succ]
          refine wpAnyH_take (i := 9) (v := ?_) rfl (by kernel_rfl) (by kernel_rfl) (by kernel_rfl) (fun _ _ _ h => h) (Or.inl ⟨by rfl, ?_⟩) ⟨BD.out, KD.out⟩ ?_
          rotate_left
          · intro wq hSw; go_simp; first | done | with_reducible rfl
          simp only [List.getElem_toArray, List.getElem_cons_zero, List.getElem_cons_succ, Act.put, List.setIfInBounds_toArray, List.set_cons_zero, List.set_cons_succ]
          refine wpAnyH_ready (rs := [10]) (by kernel_rfl) (by simp) ?_
          refine AllReadyH.cons rfl (fun K0 hK0 => ?_) ?_
          rotate_left
          · exact AllReadyH.nil
          refine step_func 19 #[.int .u64 S, .string s, .int .i64 (d : Int), .int .i64 (n : Int)] (by rfl) rfl (by simp [Act.eval]) (fun _ _ => by kernel_rfl) ?_
          refine (CR.out _).mono ?_
          rintro e v5 ⟨rfl, cb5⟩
          have B5 : Hid (Below ww5.heap.size ww5 v5) := bel_trans BD.out cb5
          have K5 : Hid (Blk v5 w.heap.size 25 #[.int .u64 S, .slice (some ⟨bq, oq, none⟩) R cap]) := KD.out.since cb5
          clear cb5
          refine ⟨_, rfl, ?_⟩
          refine hK0.out _ _ (by exact ⟨B5.out, K5.out⟩) (fun hHeld => ?_)
          clear hK0 K0 hHeld
          refine wpAnyH_take (i := 11) (v := ?_) rfl (by kernel_rfl) (by kernel_rfl) (by kernel_rfl) (fun _ _ _ h => h) (Or.inl ⟨by rfl, ?_⟩) ⟨B5.out, K5.out⟩ ?_
          rotate_left
          · intro wq hSw; go_simp; first | done | with_reducible rfl
          simp only [List.getElem_toArray, List.getElem_cons_zero, List.getElem_cons_succ, Act.put, List.setIfInBounds_toArray, List.set_cons_zero, List.set_cons_succ]
          refine wpAnyH_done (by kernel_rfl) ?_ _
          refine NoPanic.normal ?_
          have x0 : v5.cell? ⟨w.heap.size, 0, none⟩ = some (.int .u64 S) := K5.out.cell 0
          have x2 : v5.cell? ⟨w.heap.size, 1, none⟩ = some (.slice (some ⟨bq, oq, none⟩) R cap) := K5.out.cell 1
          clear ck
          go_wp2_with fail
          refine (CB.out _ B5.out).mono ?_
          rintro e w6 ⟨rfl, b6⟩
          have B6 : Hid (Below ww5.heap.size ww5 w6) := bel_trans B5.out b6
          clear b6 x0 x2 CR
          have ne0 : ((P : Int) != (P : Int)) = false := by simp
          go_wp2_with fail
          go_roundg (10 - (d + 1 + 1))
          case measure => have := HK.out.1; omega
          case rel => exact ⟨d + 1 + 1, ⟨rfl, by omega, B6.out⟩, by go_num⟩
        · have pos : (c : Int) - 1 ≥ 0 := by omega
          have HE : Hid (atG S s R n ((c : Int) - 1) = 0) := atG_out (by omega)
          rw [HE.out] at CA
          clear c0
          go_wp2_with fail
          refine (CA.out _ (Below.refl _ _)).mono ?_
          rintro e w6 ⟨rfl, b6⟩
          have B6 : Hid (Below ww5.heap.size ww5 w6) := bel_trans HK.out.2 b6
          clear b6 x0 x2 CA
          go_wp2_with fail
          go_roundg (10 - (c + 1))
          case measure => have := HK.out.1; omega
          case rel => exact ⟨c + 1, ⟨rfl, by omega, B6.out⟩, by go_num⟩
    · have bl : ¬ (c : Int) - 1 < 9 := by omega
      have CTM : c = 10 := by omega
      have BW : Hid (Below ww5.heap.size ww5 wr) := hb
      clear hg hb hlt HK CTM x0 x2
      have BEL8 := h_bel BEL7 BW.out
      have BOX8 := h_box BOX7 BW.out
      have FA_a_8 := h_fact FA_a_7 BW.out
      have FA_g_8 := h_fact FA_g_7 BW.out
      have KB_bx_8 := h_blk KB_bx_7 BW.out
      have KB_x_8 := h_blk KB_x_7 BW.out
      have KB_g_8 := h_blk KB_g_7 BW.out
      clear BEL7 BOX7 FA_a_7 FA_g_7 KB_bx_7 KB_x_7 KB_g_7
      clear BW
      have CE_x_0 : wr.cell? ⟨gx, 0, none⟩ = some (.int .u64 S) := KB_x_8.out.cell 0
      have CE_x_1 : wr.cell? ⟨gx, 1, none⟩ = some (.slice A R cap) := KB_x_8.out.cell 1
      have CE_x_lt : gx < wr.heap.size := KB_x_8.out.lt
      go_wp2_with fail
      refine (hget_ok _ _ S R n Z s FA_a_8.out.at OK.out uS (by omega)).mono ?_
      rintro e ww6 ⟨rfl, b6⟩
      clear CE_x_0 CE_x_1 CE_x_lt
      have BEL9 := h_bel BEL8 b6
      have BOX9 := h_box BOX8 b6
      have FA_a_9 := h_fact FA_a_8 b6
      have FA_g_9 := h_fact FA_g_8 b6
      have KB_bx_9 := h_blk KB_bx_8 b6
      have KB_x_9 := h_blk KB_x_8 b6
      have KB_g_9 := h_blk KB_g_8 b6
      clear BEL8 BOX8 FA_a_8 FA_g_8 KB_bx_8 KB_x_8 KB_g_8
      clear b6
      rw [← HG.out]
      have e1 : (G != G) = false := by simp
      have CE_bx_0 : ww6.cell? ⟨w.heap.size, 0, none⟩ = some (.int .u64 S) := KB_bx_9.out.cell 0
      have CE_bx_1 : ww6.cell? ⟨w.heap.size, 1, none⟩ = some (.slice A R cap) := KB_bx_9.out.cell 1
      have CE_bx_lt : w.heap.size < ww6.heap.size := KB_bx_9.out.lt
      go_wp2_with fail
      refine (gright_yes FA_a_9.out.at RP.out).mono ?_
      rintro e ww7 ⟨rfl, b7⟩
      clear CE_bx_0 CE_bx_1 CE_bx_lt
      have BEL10 := h_bel BEL9 b7
      have BOX10 := h_box BOX9 b7
      have FA_a_10 := h_fact FA_a_9 b7
      have FA_g_10 := h_fact FA_g_9 b7
      have KB_bx_10 := h_blk KB_bx_9 b7
      have KB_x_10 := h_blk KB_x_9 b7
      have KB_g_10 := h_blk KB_g_9 b7
      clear BEL9 BOX9 FA_a_9 FA_g_9 KB_bx_9 KB_x_9 KB_g_9
      clear b7
      clear e1
      go_wp2_with fail
      refine (hfits_any _ _).mono ?_
      rintro e ww7 ⟨rfl, hw7⟩
      obtain rfl := hw7
      rw [fitsB1_yes HQ.out.1]
      have CE_x_0 : ww7.cell? ⟨gx, 0, none⟩ = some (.int .u64 S) := KB_x_10.out.cell 0
      have CE_x_1 : ww7.cell? ⟨gx, 1, none⟩ = some (.slice A R cap) := KB_x_10.out.cell 1
      have CE_x_lt : gx < ww7.heap.size := KB_x_10.out.lt
      go_wp2_with fail
      refine (hadd_any _ _ S R n Z s a2 FA_a_10.out.at OK.out uS (by omega) HQ.out.1).mono ?_
      rintro e ww8 ⟨xy, B, rfl, hy, hB, b8⟩
      have HY : Hid (HeldX [] (fun uq => SgAt uq xy S R (fun _ => n) (addG S n Z s a2)) ww8) := heldX_keep fun u k => hy.keep k
      obtain ⟨vy, rfl, hvy⟩ := hy
      obtain ⟨Ay, cy, by_, oy, rfl, hx1, hx2⟩ := hvy.read
      clear hx1 hx2 hvy
      obtain rfl : B = true := hB.2 HQ.out.2
      clear hB
      clear CE_x_0 CE_x_1 CE_x_lt
      have BEL11 := h_bel BEL10 b8
      have BOX11 := h_box BOX10 b8
      have FA_a_11 := h_fact FA_a_10 b8
      have FA_g_11 := h_fact FA_g_10 b8
      have KB_bx_11 := h_blk KB_bx_10 b8
      have KB_x_11 := h_blk KB_x_10 b8
      have KB_g_11 := h_blk KB_g_10 b8
      clear BEL10 BOX10 FA_a_10 FA_g_10 KB_bx_10 KB_x_10 KB_g_10
      clear b8
      go_upto_region 21 with fail
      have FY : Hid (SgAt (ww8.alloc (.cells #[.int .u64 S, .slice Ay R cy] 30)) (.agg #[.int .u64 S, .slice Ay R cy]) S R (fun _ => n) (addG S n Z s a2)) := HY.out.at.keep (keep_of_below (bel_alloc _ _))
      clear HY
      have BEL12 := a_bel BEL11 (.cells #[.int .u64 S, .slice Ay R cy] 30)
      have BOX12 := a_box BOX11 BEL11 (.cells #[.int .u64 S, .slice Ay R cy] 30)
      have FA_a_12 := a_fact FA_a_11 (.cells #[.int .u64 S, .slice Ay R cy] 30)
      have FA_g_12 := a_fact FA_g_11 (.cells #[.int .u64 S, .slice Ay R cy] 30)
      have KB_bx_12 := a_blk KB_bx_11 (.cells #[.int .u64 S, .slice Ay R cy] 30)
      have NE_bx_y := n_ne KB_bx_11
      have KB_x_12 := a_blk KB_x_11 (.cells #[.int .u64 S, .slice Ay R cy] 30)
      have NE_x_y := n_ne KB_x_11
      have KB_g_12 := a_blk KB_g_11 (.cells #[.int .u64 S, .slice Ay R cy] 30)
      have NE_g_y := n_ne KB_g_11
      have KB_y_12 := n_blk (u := ww8) 30 #[.int .u64 S, .slice Ay R cy]
      clear BEL11 BOX11 FA_a_11 FA_g_11 KB_bx_11 KB_x_11 KB_g_11
      generalize (ww8.alloc (.cells #[.int .u64 S, .slice Ay R cy] 30)) = v9 at BEL12 BOX12 FA_a_12 FA_g_12 KB_bx_12 KB_x_12 KB_g_12 KB_y_12 FY ⊢
      generalize ww8.heap.size = gy at BOX12 FA_a_12 FA_g_12 KB_y_12 NE_bx_y NE_x_y NE_g_y ⊢
      have RG : Hid (∀ w1, Below v9.heap.size v9 w1 → Calls Try.prog 11 #[.agg #[.int .u64 S, .slice Ag R cg]] w1 fun e w' => e = .returned (.agg #[.int .u64 S, .slice Ag R cg]) ∧ Below v9.heap.size v9 w') := fun w1 b1 => (gref_any w1 _ S R _ _ (FA_g_12.out.since b1).at).mono fun e w' h => ⟨h.1, bel_trans b1 h.2⟩
      have E1 : Hid (∀ w1, Below v9.heap.size v9 w1 → Calls Try.prog 10 #[.agg #[.int .u64 S, .slice Ag R cg], .agg #[.int .u64 S, .slice Ay R cy]] w1 fun e w' => e = .returned (.bool true) ∧ Below v9.heap.size v9 w') := fun w1 b1 => (hequal_any w1 _ _ S S R R _ _ _ _ (FA_g_12.out.since b1).at (FY.out.keep (keep_of_below b1)) R2 (fun i hi => by show n ≤ 1000; omega)).mono fun e w' h => ⟨(told h true ⟨fun _ => ⟨rfl, rfl, fun i hi => ⟨rfl, fun j hj => rfl⟩⟩, fun _ => rfl⟩).1, bel_trans b1 (told h true ⟨fun _ => ⟨rfl, rfl, fun i hi => ⟨rfl, fun j hj => rfl⟩⟩, fun _ => rfl⟩).2⟩
      have WA : Hid (∀ w1, Below v9.heap.size v9 w1 → Calls Try.prog 12 #[] w1 fun e w' => e = .returned (.bool true) ∧ Below v9.heap.size v9 w') := fun w1 b1 => (gawake_any w1).mono fun e w' h => ⟨h.1, bel_trans b1 h.2⟩
      have KS : Hid (∀ w' : World, Below v9.heap.size v9 w' → (w'.cell? ⟨gg, 0, none⟩ = some (.int .u64 S) ∧ w'.cell? ⟨gg, 1, none⟩ = some (.slice Ag R cg) ∧ w'.cell? ⟨gy, 0, none⟩ = some (.int .u64 S) ∧ w'.cell? ⟨gy, 1, none⟩ = some (.slice Ay R cy))) := fun w' b1 => ⟨(KB_g_12.out.since b1).cell 0, (KB_g_12.out.since b1).cell 1, (KB_y_12.out.since b1).cell 0, (KB_y_12.out.since b1).cell 1⟩
      have Z0 : Hid (Below v9.heap.size v9 v9.drew) := (Below.refl _ _).drew
      have CE_g_0 : v9.cell? ⟨gg, 0, none⟩ = some (.int .u64 S) := KB_g_12.out.cell 0
      have CE_g_1 : v9.cell? ⟨gg, 1, none⟩ = some (.slice Ag R cg) := KB_g_12.out.cell 1
      have CE_g_lt : gg < v9.heap.size := KB_g_12.out.lt
      have CE_y_0 : v9.cell? ⟨gy, 0, none⟩ = some (.int .u64 S) := KB_y_12.out.cell 0
      have CE_y_1 : v9.cell? ⟨gy, 1, none⟩ = some (.slice Ay R cy) := KB_y_12.out.cell 1
      have CE_y_lt : gy < v9.heap.size := KB_y_12.out.lt
      clear FA_a_12 FA_g_12 FY
      go_wp2_with fail
      go_region_held3 (fun w' => w'.cell? ⟨gg, 0, none⟩ = some (.int .u64 S) ∧ w'.cell? ⟨gg, 1, none⟩ = some (.slice Ag R cg) ∧ w'.cell? ⟨gy, 0, none⟩ = some (.int .u64 S) ∧ w'.cell? ⟨gy, 1, none⟩ = some (.slice Ay R cy)) (first | exact KS.out _ Z3.out | exact KS.out _ Z2.out | exact KS.out _ Z1.out | exact KS.out _ Z0.out | go_keep) (first
        | (have fl := Z2; clear fl; go_simp; go_at_call 12; refine (WA.out _ Z2.out).mono ?_; rintro e q3 ⟨rfl, cc⟩; have Z3 : Hid (Below v9.heap.size v9 q3) := cc; clear cc)
        | (have fl := Z1; clear fl; go_simp; go_at_call 10; refine (E1.out _ Z1.out).mono ?_; rintro e q2 ⟨rfl, cc⟩; have Z2 : Hid (Below v9.heap.size v9 q2) := cc; clear cc)
        | (have fl := Z0; clear fl; go_simp; go_at_call 11; refine (RG.out _ Z0.out).mono ?_; rintro e q1 ⟨rfl, cc⟩; have Z1 : Hid (Below v9.heap.size v9 q1) := cc; clear cc))
      all_goals go_wp2_with fail
      all_goals go_ret
      all_goals exact ⟨rfl, bel_trans BEL12.out Z3.out⟩

/-! ### The row -/
theorem laidOut : laidOutB Try.prog = true := by kernel_rfl
set_option maxRecDepth 100000 in
theorem lifted (os : Os) (started : os.Started) (H : Type) (enc : TypeId × Value → H) :
    ReturnsInHanded {} Try.checked os 4 .any (Rows.signedTurnsSpec.pre6 enc Try.prog Try.f4 Rows.signedTurnsRow.domain false) (Rows.signedTurnsSpec.post enc Try.prog Try.f4 false true false false) := by
  refine returnsInHanded_of_change (C := Try.checked) own started (by kernel_rfl) Try.func4
    (ChangeSpec.witness6 (enc := enc) (C := Try.checked) false ⟨#[], #[.agg #[.int .u64 0, .slice none 0 0], .string ⟨#[]⟩, .int .i64 0], []⟩ 8 (by kernel_rfl) (by kernel_rfl) (by kernel_rfl) (by kernel_rfl)) ?_
  intro W base args ds gs before hval0 hW hcnd _
  have hval : ∀ (j : Nat) t v, Try.f4.params[j]? = some t → args[j]? = some v → Value.okWide Try.prog W .any base t v := hval0
  have hW' := hW
  obtain ⟨p, q, hA0, hV, rfl, hfz, hnd⟩ := hW
  have hA : DataW.TrodAll enc Try.prog W 0 (fun _ => true) true Try.f4.params.toList args.toList ds p := hA0
  rw [Try.params4] at hA hval
  obtain ⟨v0, vs0, d0, ds0, p0, q0, hargs, rfl, rfl, h0, r0⟩ := trodAll_cons hA
  obtain ⟨v1, vs1, d1, ds1, p1, q1, rfl, rfl, rfl, h1, r1⟩ := trodAll_cons r0
  obtain ⟨v2, vs2, d2, ds2, p2, q2, rfl, rfl, rfl, h2, r2⟩ := trodAll_cons r1
  obtain ⟨rfl, rfl, rfl⟩ := trodAll_nil r2
  obtain rfl : args = #[v0, v1, v2] := by cases args; simp_all
  obtain ⟨rfl, rfl⟩ := trodVars_none hV
  have k0 := h0
  have lt0 : ∀ x ∈ p0, x.block < W.heap.size := by obtain ⟨m, hm⟩ := k0; exact DataW.trod_lt m _ _ _ hm
  obtain ⟨F0, w0⟩ := open_sg (hval 0 25 v0 rfl rfl) h0
  obtain ⟨a1, rfl, rfl, rfl, w1⟩ := open_string Try.underlying9 (hval 1 9 v1 rfl rfl) h1
  obtain ⟨a2, rfl, rfl, rfl, w2⟩ := open_int Try.underlying3 (hval 2 3 v2 rfl rfl) h2
  clear hA0 hval0
  refine (walk v0 F0 a1 a2 W w0 w1 w2).mono fun e W' ⟨he, bel⟩ => ?_
  subst he
  exact ⟨_, rfl, _, _, _, [], _, [], hW', trodAll_mk1 (shut_bool Try.underlying4 _), (trodAll_cons_mk (Below.trod laidOut (by kernel_rfl) (of_decide_eq_true (by kernel_rfl)) k0 bel lt0) (trodAll_cons_mk (shut_string Try.underlying9 w1) (trodAll_cons_mk (shut_int Try.underlying3 w2) trodAll_mk0))), rfl, bel.frame _, fun h => by cases h⟩

theorem over : Rows.signedTurnsRow.holds Try.pinned (OpenSpec.ofChange Rows.signedTurnsSpec) :=
  OpenClaim.holds_of_wide 4 Try.f4 rfl rfl rfl rfl rfl rfl rfl ⟨rfl, rfl, rfl, rfl, rfl⟩ rfl rfl rfl rfl rfl (by kernel_rfl) Try.func4 (by kernel_rfl)
    (of_decide_eq_true (by kernel_rfl)) (by unfold Func.isWrapper; first | (rw [if_pos (by decide +kernel)]; kernel_rfl) | (rw [if_neg (by decide +kernel)]; exact ⟨rfl, rfl⟩))
    (fun os started H enc _ => lifted os started H enc)

theorem proved : Rows.SignedTurnsSaid := over
end Go.Proofs.Ytpjpgcjlbfgkdaa.signedTurns
namespace Go.Proofs.Ytpjpgcjlbfgkdaa
theorem signedTurns_holds : Rows.SignedTurnsSaid := signedTurns.proved
#print axioms signedTurns_holds
end Go.Proofs.Ytpjpgcjlbfgkdaa
