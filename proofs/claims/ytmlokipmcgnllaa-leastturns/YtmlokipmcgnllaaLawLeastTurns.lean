
/-
  LeastTurns: what any sketch is with so many more of any key, and what it tells of it, are what the document says. No condition.
-/
import Derived.Test.YtmlokipmcgnllaaRows
import Derived.Test.YtmlokipmcgnllaaLstAwake
import Derived.Test.YtmlokipmcgnllaaLstRGrow
import Derived.Test.YtmlokipmcgnllaaRegKit
import Derived.WalkKit
import Derived.ProofKit
import Derived.OpenShut
import Derived.ShutString
import Derived.ChangeOld
import Derived.ChangeMaps5
import Derived.Below
import Derived.Carry
import Derived.Laws.StructEq
import Derived.BigQuiet
import Derived.Deep.Cut
import Derived.Deep.CutRange
import Derived.Deep.RegionHeld
namespace Go.Proofs.Ytmlokipmcgnllaa.leastTurns
open Fm Bl Lt L2 Go.Deep
open Go.ChangeShapes Go.WideShapes Go.ChangeAt Go.RowKit Go.ChangeMaps
set_option linter.unusedVariables false

theorem own : ownKnob Try.prog.godebug = none := by kernel_rfl

set_option maxRecDepth 8000 in
set_option maxHeartbeats 6400000 in
theorem walk (v0 : Value) (F0 : Skt) (s : ByteArray) (a2 : Int) (w : World) (h0 : SketchIn w v0 F0) (ws : s.size ≤ 9223372036854775807) (w2 : (Lit.int .i64 a2).wf = true) :
    Calls Try.prog 4 #[v0, .string s, .int .i64 a2] w fun e w' => e = .returned (.bool true) ∧ Below w.heap.size w w' := by
  obtain ⟨S, M, R, L, Z⟩ := F0
  obtain ⟨hF, uS, iM, hRm⟩ := h0
  simp only at hF uS iM hRm
  obtain ⟨v, rfl, hv⟩ := id hF
  obtain ⟨A, cap, bq, oq, rfl, hcap, q4⟩ := hv.read
  clear hv hcap q4
  have HF : Hid (SkAt w (.agg #[.int .u64 S, .int .i64 M, .slice A R cap]) S M R L Z) := hF
  clear hF
  have BEL0 : Hid (Below w.heap.size w w) := Below.refl _ _
  have BOX0 : Hid (Boxes w w []) := boxes_none w w
  have FA_a_0 : Hid (HeldX [] (fun q => SkAt q (.agg #[.int .u64 S, .int .i64 M, .slice A R cap]) S M R L Z) w) := heldX_keep fun u k => HF.out.keep k
  go_enter Try.func4, Try.ntmps4
  have BEL1 := a_bel BEL0 (.cells #[.int .u64 S, .int .i64 M, .slice A R cap] 25)
  have BOX1 := a_box BOX0 BEL0 (.cells #[.int .u64 S, .int .i64 M, .slice A R cap] 25)
  have FA_a_1 := a_fact FA_a_0 (.cells #[.int .u64 S, .int .i64 M, .slice A R cap] 25)
  have KB_bx_1 := n_blk (u := w) 25 #[.int .u64 S, .int .i64 M, .slice A R cap]
  clear BEL0 BOX0 FA_a_0
  have CE_bx_0 : (w.alloc (.cells #[.int .u64 S, .int .i64 M, .slice A R cap] 25)).cell? ⟨w.heap.size, 0, none⟩ = some (.int .u64 S) := KB_bx_1.out.cell 0
  have CE_bx_1 : (w.alloc (.cells #[.int .u64 S, .int .i64 M, .slice A R cap] 25)).cell? ⟨w.heap.size, 1, none⟩ = some (.int .i64 M) := KB_bx_1.out.cell 1
  have CE_bx_2 : (w.alloc (.cells #[.int .u64 S, .int .i64 M, .slice A R cap] 25)).cell? ⟨w.heap.size, 2, none⟩ = some (.slice A R cap) := KB_bx_1.out.cell 2
  have CE_bx_lt : w.heap.size < (w.alloc (.cells #[.int .u64 S, .int .i64 M, .slice A R cap] 25)).heap.size := KB_bx_1.out.lt
  go_wp2_with fail
  refine (small_any _ _ R L Z (by obtain ⟨v2, e2, hv2⟩ := FA_a_1.out.at; cases e2; exact hv2) hRm).mono ?_
  rintro e ww1 ⟨B, rfl, hB, rfl⟩
  have HB : Hid (B = true ↔ SmallP R L) := hB
  clear hB
  cases B
  · clear CE_bx_0 CE_bx_1 CE_bx_2 CE_bx_lt
    go_wp2_with fail
    refine (awake_any _).mono ?_
    rintro e ww99 ⟨rfl, b9⟩
    have BEL2 := h_bel BEL1 b9
    have BOX2 := h_box BOX1 b9
    have FA_a_2 := h_fact FA_a_1 b9
    have KB_bx_2 := h_blk KB_bx_1 b9
    clear BEL1 BOX1 FA_a_1 KB_bx_1
    clear b9
    go_wp2_with fail
    go_ret
    exact ⟨rfl, BEL2.out⟩
  obtain ⟨R1, L1⟩ := HB.out.1 rfl
  have LL : Hid (∀ i, i < R → L i ≤ 1000) := fun i hi => by have := L1 i hi; omega
  have R2 : R ≤ 1000 := by omega
  clear HB L1
  by_cases hs : s.size > 100
  · have hs2 : (s.size : Int) > 100 := by omega
    clear CE_bx_0 CE_bx_1 CE_bx_2 CE_bx_lt
    go_wp2_with fail
    refine (awake_any _).mono ?_
    rintro e ww99 ⟨rfl, b9⟩
    have BEL2 := h_bel BEL1 b9
    have BOX2 := h_box BOX1 b9
    have FA_a_2 := h_fact FA_a_1 b9
    have KB_bx_2 := h_blk KB_bx_1 b9
    clear BEL1 BOX1 FA_a_1 KB_bx_1
    clear b9
    go_wp2_with fail
    go_ret
    exact ⟨rfl, BEL2.out⟩
  have hs2 : ¬ (s.size : Int) > 100 := by omega
  have hs3 : s.size ≤ 100 := by omega
  go_wp2_with fail
  refine (ref_any _ _ S M R _ _ FA_a_1.out.at).mono ?_
  rintro e ww2 ⟨rfl, b1⟩
  clear CE_bx_0 CE_bx_1 CE_bx_2 CE_bx_lt
  have BEL2 := h_bel BEL1 b1
  have BOX2 := h_box BOX1 b1
  have FA_a_2 := h_fact FA_a_1 b1
  have KB_bx_2 := h_blk KB_bx_1 b1
  clear BEL1 BOX1 FA_a_1 KB_bx_1
  clear b1
  go_upto_region 4 with fail
  have BEL3 := a_bel BEL2 (.cells #[.int .u64 S, .int .i64 M, .slice A R cap] 30)
  have BOX3 := a_box BOX2 BEL2 (.cells #[.int .u64 S, .int .i64 M, .slice A R cap] 30)
  have FA_a_3 := a_fact FA_a_2 (.cells #[.int .u64 S, .int .i64 M, .slice A R cap] 30)
  have KB_bx_3 := a_blk KB_bx_2 (.cells #[.int .u64 S, .int .i64 M, .slice A R cap] 30)
  have NE_bx_x := n_ne KB_bx_2
  have KB_x_3 := n_blk (u := ww2) 30 #[.int .u64 S, .int .i64 M, .slice A R cap]
  clear BEL2 BOX2 FA_a_2 KB_bx_2
  generalize (ww2.alloc (.cells #[.int .u64 S, .int .i64 M, .slice A R cap] 30)) = u1 at BEL3 BOX3 FA_a_3 KB_bx_3 KB_x_3 ⊢
  generalize ww2.heap.size = gx at BOX3 FA_a_3 KB_x_3 NE_bx_x ⊢
  have CE_bx_0 : u1.cell? ⟨w.heap.size, 0, none⟩ = some (.int .u64 S) := KB_bx_3.out.cell 0
  have CE_bx_1 : u1.cell? ⟨w.heap.size, 1, none⟩ = some (.int .i64 M) := KB_bx_3.out.cell 1
  have CE_bx_2 : u1.cell? ⟨w.heap.size, 2, none⟩ = some (.slice A R cap) := KB_bx_3.out.cell 2
  have CE_bx_lt : w.heap.size < u1.heap.size := KB_bx_3.out.lt
  by_cases rp : RightP M R L Z
  rotate_left
  · have rp2 : ¬ (RightP M R L Z ∧ 0 ≤ a2 ∧ a2 ≤ 1099511627776) := fun h => rp h.1
    go_wp2_with fail
    refine (add_bad _ _ S M R L Z s a2 FA_a_3.out.at R2 LL.out rp2).mono ?_
    rintro e ww3 ⟨rfl, b3⟩
    clear CE_bx_0 CE_bx_1 CE_bx_2 CE_bx_lt
    have BEL4 := h_bel BEL3 b3
    have BOX4 := h_box BOX3 b3
    have FA_a_4 := h_fact FA_a_3 b3
    have KB_bx_4 := h_blk KB_bx_3 b3
    have KB_x_4 := h_blk KB_x_3 b3
    clear BEL3 BOX3 FA_a_3 KB_bx_3 KB_x_3
    clear b3
    go_upto_region 5 with fail
    have BEL5 := a_bel BEL4 (.cells #[.int .u64 0, .int .i64 0, .slice none 0 0] 25)
    have BOX5 := a_box BOX4 BEL4 (.cells #[.int .u64 0, .int .i64 0, .slice none 0 0] 25)
    have FA_a_5 := a_fact FA_a_4 (.cells #[.int .u64 0, .int .i64 0, .slice none 0 0] 25)
    have KB_bx_5 := a_blk KB_bx_4 (.cells #[.int .u64 0, .int .i64 0, .slice none 0 0] 25)
    have NE_bx_g := n_ne KB_bx_4
    have KB_x_5 := a_blk KB_x_4 (.cells #[.int .u64 0, .int .i64 0, .slice none 0 0] 25)
    have NE_x_g := n_ne KB_x_4
    have KB_g_5 := n_blk (u := ww3) 25 #[.int .u64 0, .int .i64 0, .slice none 0 0]
    clear BEL4 BOX4 FA_a_4 KB_bx_4 KB_x_4
    generalize (ww3.alloc (.cells #[.int .u64 0, .int .i64 0, .slice none 0 0] 25)) = u2 at BEL5 BOX5 FA_a_5 KB_bx_5 KB_x_5 KB_g_5 ⊢
    generalize ww3.heap.size = gg at BOX5 FA_a_5 KB_g_5 NE_bx_g NE_x_g ⊢
    have CE_bx_0 : u2.cell? ⟨w.heap.size, 0, none⟩ = some (.int .u64 S) := KB_bx_5.out.cell 0
    have CE_bx_1 : u2.cell? ⟨w.heap.size, 1, none⟩ = some (.int .i64 M) := KB_bx_5.out.cell 1
    have CE_bx_2 : u2.cell? ⟨w.heap.size, 2, none⟩ = some (.slice A R cap) := KB_bx_5.out.cell 2
    have CE_bx_lt : w.heap.size < u2.heap.size := KB_bx_5.out.lt
    go_wp2_with fail
    refine (get_bad _ _ S M R L Z s FA_a_5.out.at R2 LL.out rp).mono ?_
    rintro e ww4 ⟨rfl, b4⟩
    clear CE_bx_0 CE_bx_1 CE_bx_2 CE_bx_lt
    have BEL6 := h_bel BEL5 b4
    have BOX6 := h_box BOX5 b4
    have FA_a_6 := h_fact FA_a_5 b4
    have KB_bx_6 := h_blk KB_bx_5 b4
    have KB_x_6 := h_blk KB_x_5 b4
    have KB_g_6 := h_blk KB_g_5 b4
    clear BEL5 BOX5 FA_a_5 KB_bx_5 KB_x_5 KB_g_5
    clear b4
    have CE_x_0 : ww4.cell? ⟨gx, 0, none⟩ = some (.int .u64 S) := KB_x_6.out.cell 0
    have CE_x_1 : ww4.cell? ⟨gx, 1, none⟩ = some (.int .i64 M) := KB_x_6.out.cell 1
    have CE_x_2 : ww4.cell? ⟨gx, 2, none⟩ = some (.slice A R cap) := KB_x_6.out.cell 2
    have CE_x_lt : gx < ww4.heap.size := KB_x_6.out.lt
    go_wp2_with fail
    refine (rright_any _ _ S M R _ _ FA_a_6.out.at R2 LL.out).mono ?_
    intro e ww5 h5
    obtain ⟨rfl, b5⟩ := told h5 false ⟨fun h => (by cases h), fun h => absurd h rp⟩
    clear h5
    clear CE_x_0 CE_x_1 CE_x_2 CE_x_lt
    have BEL7 := h_bel BEL6 b5
    have BOX7 := h_box BOX6 b5
    have FA_a_7 := h_fact FA_a_6 b5
    have KB_bx_7 := h_blk KB_bx_6 b5
    have KB_x_7 := h_blk KB_x_6 b5
    have KB_g_7 := h_blk KB_g_6 b5
    clear BEL6 BOX6 FA_a_6 KB_bx_6 KB_x_6 KB_g_6
    clear b5
    have CE_bx_0 : ww5.cell? ⟨w.heap.size, 0, none⟩ = some (.int .u64 S) := KB_bx_7.out.cell 0
    have CE_bx_1 : ww5.cell? ⟨w.heap.size, 1, none⟩ = some (.int .i64 M) := KB_bx_7.out.cell 1
    have CE_bx_2 : ww5.cell? ⟨w.heap.size, 2, none⟩ = some (.slice A R cap) := KB_bx_7.out.cell 2
    have CE_bx_lt : w.heap.size < ww5.heap.size := KB_bx_7.out.lt
    go_wp2_with fail
    refine (right_no FA_a_7.out.at R2 LL.out rp).mono ?_
    rintro e ww6 ⟨rfl, b6⟩
    clear CE_bx_0 CE_bx_1 CE_bx_2 CE_bx_lt
    have BEL8 := h_bel BEL7 b6
    have BOX8 := h_box BOX7 b6
    have FA_a_8 := h_fact FA_a_7 b6
    have KB_bx_8 := h_blk KB_bx_7 b6
    have KB_x_8 := h_blk KB_x_7 b6
    have KB_g_8 := h_blk KB_g_7 b6
    clear BEL7 BOX7 FA_a_7 KB_bx_7 KB_x_7 KB_g_7
    clear b6
    have CE_g_0 : ww6.cell? ⟨gg, 0, none⟩ = some (.int .u64 0) := KB_g_8.out.cell 0
    have CE_g_1 : ww6.cell? ⟨gg, 1, none⟩ = some (.int .i64 0) := KB_g_8.out.cell 1
    have CE_g_2 : ww6.cell? ⟨gg, 2, none⟩ = some (.slice none 0 0) := KB_g_8.out.cell 2
    have CE_g_lt : gg < ww6.heap.size := KB_g_8.out.lt
    go_wp2_with fail
    refine (awake_any _).mono ?_
    rintro e ww99 ⟨rfl, b9⟩
    clear CE_g_0 CE_g_1 CE_g_2 CE_g_lt
    have BEL9 := h_bel BEL8 b9
    have BOX9 := h_box BOX8 b9
    have FA_a_9 := h_fact FA_a_8 b9
    have KB_bx_9 := h_blk KB_bx_8 b9
    have KB_x_9 := h_blk KB_x_8 b9
    have KB_g_9 := h_blk KB_g_8 b9
    clear BEL8 BOX8 FA_a_8 KB_bx_8 KB_x_8 KB_g_8
    clear b9
    go_wp2_with fail
    go_ret
    exact ⟨rfl, BEL9.out⟩
  obtain ⟨n, hn⟩ : ∃ n, n = L 0 := ⟨_, rfl⟩
  have OK : Hid (OkP M R n Z) := by rw [hn]; exact rp.ok
  have RP : Hid (RightP M R (fun _ => n) Z) := OK.out.right
  have n2 : n ≤ 256 := OK.out.2.2.2.2.2.1
  have n1 : 1 ≤ n := OK.out.2.2.2.2.1
  have LK : Hid (∀ i, i < R → L i = n) := fun i hi => by rw [hn]; exact (rp.2.2.2.2.2.2 i hi).1
  clear rp hn
  have FN := FA_a_3.out.imp (Q := fun q => SkAt q (.agg #[.int .u64 S, .int .i64 M, .slice A R cap]) S M R (fun _ => n) Z) (fun u h => h.congr LK.out (fun _ _ _ _ => rfl))
  clear FA_a_3
  have FA_a_3 : Hid (HeldX [gx, w.heap.size] (fun q => SkAt q (.agg #[.int .u64 S, .int .i64 M, .slice A R cap]) S M R (fun _ => n) Z) u1) := FN
  clear FN
  by_cases hq : 0 ≤ a2 ∧ a2 ≤ 1099511627776
  rotate_left
  · have rp2 : ¬ (RightP M R (fun _ => n) Z ∧ 0 ≤ a2 ∧ a2 ≤ 1099511627776) := fun h => hq ⟨h.2.1, h.2.2⟩
    go_wp2_with fail
    refine (add_bad _ _ S M R (fun _ => n) Z s a2 FA_a_3.out.at R2 (fun i hi => by show n ≤ 1000; omega) rp2).mono ?_
    rintro e ww3 ⟨rfl, b3⟩
    clear CE_bx_0 CE_bx_1 CE_bx_2 CE_bx_lt
    have BEL4 := h_bel BEL3 b3
    have BOX4 := h_box BOX3 b3
    have FA_a_4 := h_fact FA_a_3 b3
    have KB_bx_4 := h_blk KB_bx_3 b3
    have KB_x_4 := h_blk KB_x_3 b3
    clear BEL3 BOX3 FA_a_3 KB_bx_3 KB_x_3
    clear b3
    go_upto_region 5 with fail
    have BEL5 := a_bel BEL4 (.cells #[.int .u64 0, .int .i64 0, .slice none 0 0] 25)
    have BOX5 := a_box BOX4 BEL4 (.cells #[.int .u64 0, .int .i64 0, .slice none 0 0] 25)
    have FA_a_5 := a_fact FA_a_4 (.cells #[.int .u64 0, .int .i64 0, .slice none 0 0] 25)
    have KB_bx_5 := a_blk KB_bx_4 (.cells #[.int .u64 0, .int .i64 0, .slice none 0 0] 25)
    have NE_bx_g := n_ne KB_bx_4
    have KB_x_5 := a_blk KB_x_4 (.cells #[.int .u64 0, .int .i64 0, .slice none 0 0] 25)
    have NE_x_g := n_ne KB_x_4
    have KB_g_5 := n_blk (u := ww3) 25 #[.int .u64 0, .int .i64 0, .slice none 0 0]
    clear BEL4 BOX4 FA_a_4 KB_bx_4 KB_x_4
    generalize (ww3.alloc (.cells #[.int .u64 0, .int .i64 0, .slice none 0 0] 25)) = u2 at BEL5 BOX5 FA_a_5 KB_bx_5 KB_x_5 KB_g_5 ⊢
    generalize ww3.heap.size = gg at BOX5 FA_a_5 KB_g_5 NE_bx_g NE_x_g ⊢
    have CE_bx_0 : u2.cell? ⟨w.heap.size, 0, none⟩ = some (.int .u64 S) := KB_bx_5.out.cell 0
    have CE_bx_1 : u2.cell? ⟨w.heap.size, 1, none⟩ = some (.int .i64 M) := KB_bx_5.out.cell 1
    have CE_bx_2 : u2.cell? ⟨w.heap.size, 2, none⟩ = some (.slice A R cap) := KB_bx_5.out.cell 2
    have CE_bx_lt : w.heap.size < u2.heap.size := KB_bx_5.out.lt
    obtain ⟨G, hG⟩ : ∃ G, G = getF M Z (placeN S s n) R := ⟨_, rfl⟩
    go_wp2_with fail
    refine (get_ok _ _ S M R n Z s FA_a_5.out.at OK.out uS (by omega)).mono ?_
    rintro e ww4 ⟨rfl, b4⟩
    clear CE_bx_0 CE_bx_1 CE_bx_2 CE_bx_lt
    have BEL6 := h_bel BEL5 b4
    have BOX6 := h_box BOX5 b4
    have FA_a_6 := h_fact FA_a_5 b4
    have KB_bx_6 := h_blk KB_bx_5 b4
    have KB_x_6 := h_blk KB_x_5 b4
    have KB_g_6 := h_blk KB_g_5 b4
    clear BEL5 BOX5 FA_a_5 KB_bx_5 KB_x_5 KB_g_5
    clear b4
    rw [← hG]
    have CE_x_0 : ww4.cell? ⟨gx, 0, none⟩ = some (.int .u64 S) := KB_x_6.out.cell 0
    have CE_x_1 : ww4.cell? ⟨gx, 1, none⟩ = some (.int .i64 M) := KB_x_6.out.cell 1
    have CE_x_2 : ww4.cell? ⟨gx, 2, none⟩ = some (.slice A R cap) := KB_x_6.out.cell 2
    have CE_x_lt : gx < ww4.heap.size := KB_x_6.out.lt
    go_wp2_with fail
    refine (rright_any _ _ S M R _ _ FA_a_6.out.at R2 (fun i hi => by show n ≤ 1000; omega)).mono ?_
    intro e ww5 h5
    obtain ⟨rfl, b5⟩ := told h5 true ⟨fun _ => RP.out, fun _ => rfl⟩
    clear h5
    clear CE_x_0 CE_x_1 CE_x_2 CE_x_lt
    have BEL7 := h_bel BEL6 b5
    have BOX7 := h_box BOX6 b5
    have FA_a_7 := h_fact FA_a_6 b5
    have KB_bx_7 := h_blk KB_bx_6 b5
    have KB_x_7 := h_blk KB_x_6 b5
    have KB_g_7 := h_blk KB_g_6 b5
    clear BEL6 BOX6 FA_a_6 KB_bx_6 KB_x_6 KB_g_6
    clear b5
    have CE_bx_0 : ww5.cell? ⟨w.heap.size, 0, none⟩ = some (.int .u64 S) := KB_bx_7.out.cell 0
    have CE_bx_1 : ww5.cell? ⟨w.heap.size, 1, none⟩ = some (.int .i64 M) := KB_bx_7.out.cell 1
    have CE_bx_2 : ww5.cell? ⟨w.heap.size, 2, none⟩ = some (.slice A R cap) := KB_bx_7.out.cell 2
    have CE_bx_lt : w.heap.size < ww5.heap.size := KB_bx_7.out.lt
    have CE_x_0 : ww5.cell? ⟨gx, 0, none⟩ = some (.int .u64 S) := KB_x_7.out.cell 0
    have CE_x_1 : ww5.cell? ⟨gx, 1, none⟩ = some (.int .i64 M) := KB_x_7.out.cell 1
    have CE_x_2 : ww5.cell? ⟨gx, 2, none⟩ = some (.slice A R cap) := KB_x_7.out.cell 2
    have CE_x_lt : gx < ww5.heap.size := KB_x_7.out.lt
    go_wp2_with fail
    refine (rget_ok _ _ S M R n Z s FA_a_7.out.at OK.out uS (by omega)).mono ?_
    rintro e ww6 ⟨rfl, b6⟩
    clear CE_bx_0 CE_bx_1 CE_bx_2 CE_bx_lt CE_x_0 CE_x_1 CE_x_2 CE_x_lt
    have BEL8 := h_bel BEL7 b6
    have BOX8 := h_box BOX7 b6
    have FA_a_8 := h_fact FA_a_7 b6
    have KB_bx_8 := h_blk KB_bx_7 b6
    have KB_x_8 := h_blk KB_x_7 b6
    have KB_g_8 := h_blk KB_g_7 b6
    clear BEL7 BOX7 FA_a_7 KB_bx_7 KB_x_7 KB_g_7
    clear b6
    rw [← hG]
    clear hG
    obtain ⟨B, hB⟩ : ∃ B, B = decide (G < M) := ⟨_, rfl⟩
    rw [← hB]
    have CE_bx_0 : ww6.cell? ⟨w.heap.size, 0, none⟩ = some (.int .u64 S) := KB_bx_8.out.cell 0
    have CE_bx_1 : ww6.cell? ⟨w.heap.size, 1, none⟩ = some (.int .i64 M) := KB_bx_8.out.cell 1
    have CE_bx_2 : ww6.cell? ⟨w.heap.size, 2, none⟩ = some (.slice A R cap) := KB_bx_8.out.cell 2
    have CE_bx_lt : w.heap.size < ww6.heap.size := KB_bx_8.out.lt
    have e1 : (G != G) = false := by simp
    have e2 : (B != decide (G < M)) = false := by rw [← hB]; simp
    go_wp2_with fail
    refine (right_yes FA_a_8.out.at RP.out).mono ?_
    rintro e ww7 ⟨rfl, b7⟩
    clear CE_bx_0 CE_bx_1 CE_bx_2 CE_bx_lt
    have BEL9 := h_bel BEL8 b7
    have BOX9 := h_box BOX8 b7
    have FA_a_9 := h_fact FA_a_8 b7
    have KB_bx_9 := h_blk KB_bx_8 b7
    have KB_x_9 := h_blk KB_x_8 b7
    have KB_g_9 := h_blk KB_g_8 b7
    clear BEL8 BOX8 FA_a_8 KB_bx_8 KB_x_8 KB_g_8
    clear b7
    clear e1 e2
    have CE_g_0 : ww7.cell? ⟨gg, 0, none⟩ = some (.int .u64 0) := KB_g_9.out.cell 0
    have CE_g_1 : ww7.cell? ⟨gg, 1, none⟩ = some (.int .i64 0) := KB_g_9.out.cell 1
    have CE_g_2 : ww7.cell? ⟨gg, 2, none⟩ = some (.slice none 0 0) := KB_g_9.out.cell 2
    have CE_g_lt : gg < ww7.heap.size := KB_g_9.out.lt
    by_cases q0 : a2 < 0
    · go_wp2_with fail
      refine (awake_any _).mono ?_
      rintro e ww99 ⟨rfl, b9⟩
      clear CE_g_0 CE_g_1 CE_g_2 CE_g_lt
      have BEL10 := h_bel BEL9 b9
      have BOX10 := h_box BOX9 b9
      have FA_a_10 := h_fact FA_a_9 b9
      have KB_bx_10 := h_blk KB_bx_9 b9
      have KB_x_10 := h_blk KB_x_9 b9
      have KB_g_10 := h_blk KB_g_9 b9
      clear BEL9 BOX9 FA_a_9 KB_bx_9 KB_x_9 KB_g_9
      clear b9
      go_wp2_with fail
      go_ret
      exact ⟨rfl, BEL10.out⟩
    have q1 : a2 > 1099511627776 := by
      by_cases h : a2 > 1099511627776
      · exact h
      · exact absurd ⟨by omega, by omega⟩ hq
    go_wp2_with fail
    refine (awake_any _).mono ?_
    rintro e ww99 ⟨rfl, b9⟩
    clear CE_g_0 CE_g_1 CE_g_2 CE_g_lt
    have BEL10 := h_bel BEL9 b9
    have BOX10 := h_box BOX9 b9
    have FA_a_10 := h_fact FA_a_9 b9
    have KB_bx_10 := h_blk KB_bx_9 b9
    have KB_x_10 := h_blk KB_x_9 b9
    have KB_g_10 := h_blk KB_g_9 b9
    clear BEL9 BOX9 FA_a_9 KB_bx_9 KB_x_9 KB_g_9
    clear b9
    go_wp2_with fail
    go_ret
    exact ⟨rfl, BEL10.out⟩
  have q0 : ¬ a2 < 0 := by omega
  have q1 : ¬ a2 > 1099511627776 := by omega
  go_wp2_with fail
  refine (add_ok _ _ S M R n Z s a2 FA_a_3.out.at OK.out uS (by omega) (by omega) (by omega)).mono ?_
  rintro e ww3 ⟨xg, rfl, fg, b3⟩
  clear CE_bx_0 CE_bx_1 CE_bx_2 CE_bx_lt
  obtain ⟨vg, rfl, hvg⟩ := fg.at
  obtain ⟨Ag, cg, bbg, oog, rfl, hx1, hx2⟩ := hvg.read
  clear hx1 hx2 hvg
  have FA_g_4 : Hid (HeldX [gx, w.heap.size] (fun q => SkAt q (.agg #[.int .u64 S, .int .i64 M, .slice Ag R cg]) S M R (fun _ => n) (addZ S M n Z s a2)) ww3) := Held.new fg BOX3.out
  have BEL4 := h_bel BEL3 b3
  have BOX4 := h_box BOX3 b3
  have FA_a_4 := h_fact FA_a_3 b3
  have KB_bx_4 := h_blk KB_bx_3 b3
  have KB_x_4 := h_blk KB_x_3 b3
  clear BEL3 BOX3 FA_a_3 KB_bx_3 KB_x_3
  clear b3 fg
  go_upto_region 5 with fail
  have BEL5 := a_bel BEL4 (.cells #[.int .u64 S, .int .i64 M, .slice Ag R cg] 25)
  have BOX5 := a_box BOX4 BEL4 (.cells #[.int .u64 S, .int .i64 M, .slice Ag R cg] 25)
  have FA_a_5 := a_fact FA_a_4 (.cells #[.int .u64 S, .int .i64 M, .slice Ag R cg] 25)
  have FA_g_5 := a_fact FA_g_4 (.cells #[.int .u64 S, .int .i64 M, .slice Ag R cg] 25)
  have KB_bx_5 := a_blk KB_bx_4 (.cells #[.int .u64 S, .int .i64 M, .slice Ag R cg] 25)
  have NE_bx_g := n_ne KB_bx_4
  have KB_x_5 := a_blk KB_x_4 (.cells #[.int .u64 S, .int .i64 M, .slice Ag R cg] 25)
  have NE_x_g := n_ne KB_x_4
  have KB_g_5 := n_blk (u := ww3) 25 #[.int .u64 S, .int .i64 M, .slice Ag R cg]
  clear BEL4 BOX4 FA_a_4 FA_g_4 KB_bx_4 KB_x_4
  generalize (ww3.alloc (.cells #[.int .u64 S, .int .i64 M, .slice Ag R cg] 25)) = u2 at BEL5 BOX5 FA_a_5 FA_g_5 KB_bx_5 KB_x_5 KB_g_5 ⊢
  generalize ww3.heap.size = gg at BOX5 FA_a_5 FA_g_5 KB_g_5 NE_bx_g NE_x_g ⊢
  have CE_bx_0 : u2.cell? ⟨w.heap.size, 0, none⟩ = some (.int .u64 S) := KB_bx_5.out.cell 0
  have CE_bx_1 : u2.cell? ⟨w.heap.size, 1, none⟩ = some (.int .i64 M) := KB_bx_5.out.cell 1
  have CE_bx_2 : u2.cell? ⟨w.heap.size, 2, none⟩ = some (.slice A R cap) := KB_bx_5.out.cell 2
  have CE_bx_lt : w.heap.size < u2.heap.size := KB_bx_5.out.lt
  obtain ⟨G, hG⟩ : ∃ G, G = getF M Z (placeN S s n) R := ⟨_, rfl⟩
  go_wp2_with fail
  refine (get_ok _ _ S M R n Z s FA_a_5.out.at OK.out uS (by omega)).mono ?_
  rintro e ww4 ⟨rfl, b4⟩
  clear CE_bx_0 CE_bx_1 CE_bx_2 CE_bx_lt
  have BEL6 := h_bel BEL5 b4
  have BOX6 := h_box BOX5 b4
  have FA_a_6 := h_fact FA_a_5 b4
  have FA_g_6 := h_fact FA_g_5 b4
  have KB_bx_6 := h_blk KB_bx_5 b4
  have KB_x_6 := h_blk KB_x_5 b4
  have KB_g_6 := h_blk KB_g_5 b4
  clear BEL5 BOX5 FA_a_5 FA_g_5 KB_bx_5 KB_x_5 KB_g_5
  clear b4
  rw [← hG]
  have CE_x_0 : ww4.cell? ⟨gx, 0, none⟩ = some (.int .u64 S) := KB_x_6.out.cell 0
  have CE_x_1 : ww4.cell? ⟨gx, 1, none⟩ = some (.int .i64 M) := KB_x_6.out.cell 1
  have CE_x_2 : ww4.cell? ⟨gx, 2, none⟩ = some (.slice A R cap) := KB_x_6.out.cell 2
  have CE_x_lt : gx < ww4.heap.size := KB_x_6.out.lt
  go_wp2_with fail
  refine (rright_any _ _ S M R _ _ FA_a_6.out.at R2 (fun i hi => by show n ≤ 1000; omega)).mono ?_
  intro e ww5 h5
  obtain ⟨rfl, b5⟩ := told h5 true ⟨fun _ => RP.out, fun _ => rfl⟩
  clear h5
  clear CE_x_0 CE_x_1 CE_x_2 CE_x_lt
  have BEL7 := h_bel BEL6 b5
  have BOX7 := h_box BOX6 b5
  have FA_a_7 := h_fact FA_a_6 b5
  have FA_g_7 := h_fact FA_g_6 b5
  have KB_bx_7 := h_blk KB_bx_6 b5
  have KB_x_7 := h_blk KB_x_6 b5
  have KB_g_7 := h_blk KB_g_6 b5
  clear BEL6 BOX6 FA_a_6 FA_g_6 KB_bx_6 KB_x_6 KB_g_6
  clear b5
  have CE_bx_0 : ww5.cell? ⟨w.heap.size, 0, none⟩ = some (.int .u64 S) := KB_bx_7.out.cell 0
  have CE_bx_1 : ww5.cell? ⟨w.heap.size, 1, none⟩ = some (.int .i64 M) := KB_bx_7.out.cell 1
  have CE_bx_2 : ww5.cell? ⟨w.heap.size, 2, none⟩ = some (.slice A R cap) := KB_bx_7.out.cell 2
  have CE_bx_lt : w.heap.size < ww5.heap.size := KB_bx_7.out.lt
  have CE_x_0 : ww5.cell? ⟨gx, 0, none⟩ = some (.int .u64 S) := KB_x_7.out.cell 0
  have CE_x_1 : ww5.cell? ⟨gx, 1, none⟩ = some (.int .i64 M) := KB_x_7.out.cell 1
  have CE_x_2 : ww5.cell? ⟨gx, 2, none⟩ = some (.slice A R cap) := KB_x_7.out.cell 2
  have CE_x_lt : gx < ww5.heap.size := KB_x_7.out.lt
  go_wp2_with fail
  refine (rget_ok _ _ S M R n Z s FA_a_7.out.at OK.out uS (by omega)).mono ?_
  rintro e ww6 ⟨rfl, b6⟩
  clear CE_bx_0 CE_bx_1 CE_bx_2 CE_bx_lt CE_x_0 CE_x_1 CE_x_2 CE_x_lt
  have BEL8 := h_bel BEL7 b6
  have BOX8 := h_box BOX7 b6
  have FA_a_8 := h_fact FA_a_7 b6
  have FA_g_8 := h_fact FA_g_7 b6
  have KB_bx_8 := h_blk KB_bx_7 b6
  have KB_x_8 := h_blk KB_x_7 b6
  have KB_g_8 := h_blk KB_g_7 b6
  clear BEL7 BOX7 FA_a_7 FA_g_7 KB_bx_7 KB_x_7 KB_g_7
  clear b6
  rw [← hG]
  clear hG
  obtain ⟨B, hB⟩ : ∃ B, B = decide (G < M) := ⟨_, rfl⟩
  rw [← hB]
  have CE_bx_0 : ww6.cell? ⟨w.heap.size, 0, none⟩ = some (.int .u64 S) := KB_bx_8.out.cell 0
  have CE_bx_1 : ww6.cell? ⟨w.heap.size, 1, none⟩ = some (.int .i64 M) := KB_bx_8.out.cell 1
  have CE_bx_2 : ww6.cell? ⟨w.heap.size, 2, none⟩ = some (.slice A R cap) := KB_bx_8.out.cell 2
  have CE_bx_lt : w.heap.size < ww6.heap.size := KB_bx_8.out.lt
  have e1 : (G != G) = false := by simp
  have e2 : (B != decide (G < M)) = false := by rw [← hB]; simp
  go_wp2_with fail
  refine (right_yes FA_a_8.out.at RP.out).mono ?_
  rintro e ww7 ⟨rfl, b7⟩
  clear CE_bx_0 CE_bx_1 CE_bx_2 CE_bx_lt
  have BEL9 := h_bel BEL8 b7
  have BOX9 := h_box BOX8 b7
  have FA_a_9 := h_fact FA_a_8 b7
  have FA_g_9 := h_fact FA_g_8 b7
  have KB_bx_9 := h_blk KB_bx_8 b7
  have KB_x_9 := h_blk KB_x_8 b7
  have KB_g_9 := h_blk KB_g_8 b7
  clear BEL8 BOX8 FA_a_8 FA_g_8 KB_bx_8 KB_x_8 KB_g_8
  clear b7
  clear e1 e2
  have RG : Hid (∀ w1, Below ww7.heap.size ww7 w1 → Calls Try.prog 11 #[.agg #[.int .u64 S, .int .i64 M, .slice Ag R cg]] w1 fun e w' => e = .returned (.agg #[.int .u64 S, .int .i64 M, .slice Ag R cg]) ∧ Below ww7.heap.size ww7 w') := fun w1 b1 => (ref_any w1 _ S M R _ _ (FA_g_9.out.since b1).at).mono fun e w' h => ⟨h.1, bel_trans b1 h.2⟩
  have RA : Hid (∀ w1, Below ww7.heap.size ww7 w1 → Calls Try.prog 19 #[.agg #[.int .u64 S, .int .i64 M, .slice A R cap], .string s, .int .i64 a2] w1 fun e w' => ∃ yv, e = .returned yv ∧ SkAt w' yv S M R (fun _ => n) (addZ S M n Z s a2) ∧ Below ww7.heap.size ww7 w') := fun w1 b1 => (radd_ok w1 _ S M R n Z s a2 (FA_a_9.out.since b1).at OK.out uS (by omega) (by omega) (by omega)).mono fun e w' ⟨yv, h1, h2, h3⟩ => ⟨yv, h1, h2, bel_trans b1 h3⟩
  have E1 : Hid (∀ w1 yv, Below ww7.heap.size ww7 w1 → SkAt w1 yv S M R (fun _ => n) (addZ S M n Z s a2) → Calls Try.prog 10 #[.agg #[.int .u64 S, .int .i64 M, .slice Ag R cg], yv] w1 fun e w' => e = .returned (.bool true) ∧ Below ww7.heap.size ww7 w') := fun w1 yv b1 hy => (requal_any w1 _ _ S M S M R R _ _ _ _ (FA_g_9.out.since b1).at hy R2 (fun i hi => by show n ≤ 1000; omega)).mono fun e w' h => ⟨(told h true ⟨fun _ => ⟨rfl, rfl, rfl, fun i hi => ⟨rfl, fun j hj => rfl⟩⟩, fun _ => rfl⟩).1, bel_trans b1 (told h true ⟨fun _ => ⟨rfl, rfl, rfl, fun i hi => ⟨rfl, fun j hj => rfl⟩⟩, fun _ => rfl⟩).2⟩
  have WA : Hid (∀ w1, Below ww7.heap.size ww7 w1 → Calls Try.prog 12 #[] w1 fun e w' => e = .returned (.bool true) ∧ Below ww7.heap.size ww7 w') := fun w1 b1 => (awake_any w1).mono fun e w' h => ⟨h.1, bel_trans b1 h.2⟩
  have KS : Hid (∀ w' : World, Below ww7.heap.size ww7 w' → (w'.cell? ⟨gg, 0, none⟩ = some (.int .u64 S) ∧ w'.cell? ⟨gg, 1, none⟩ = some (.int .i64 M) ∧ w'.cell? ⟨gg, 2, none⟩ = some (.slice Ag R cg) ∧ w'.cell? ⟨gx, 0, none⟩ = some (.int .u64 S) ∧ w'.cell? ⟨gx, 1, none⟩ = some (.int .i64 M) ∧ w'.cell? ⟨gx, 2, none⟩ = some (.slice A R cap))) := fun w' b1 => ⟨(KB_g_9.out.since b1).cell 0, (KB_g_9.out.since b1).cell 1, (KB_g_9.out.since b1).cell 2, (KB_x_9.out.since b1).cell 0, (KB_x_9.out.since b1).cell 1, (KB_x_9.out.since b1).cell 2⟩
  have Z0 : Hid (Below ww7.heap.size ww7 ww7.drew) := (Below.refl _ _).drew
  have CE_x_0 : ww7.cell? ⟨gx, 0, none⟩ = some (.int .u64 S) := KB_x_9.out.cell 0
  have CE_x_1 : ww7.cell? ⟨gx, 1, none⟩ = some (.int .i64 M) := KB_x_9.out.cell 1
  have CE_x_2 : ww7.cell? ⟨gx, 2, none⟩ = some (.slice A R cap) := KB_x_9.out.cell 2
  have CE_x_lt : gx < ww7.heap.size := KB_x_9.out.lt
  have CE_g_0 : ww7.cell? ⟨gg, 0, none⟩ = some (.int .u64 S) := KB_g_9.out.cell 0
  have CE_g_1 : ww7.cell? ⟨gg, 1, none⟩ = some (.int .i64 M) := KB_g_9.out.cell 1
  have CE_g_2 : ww7.cell? ⟨gg, 2, none⟩ = some (.slice Ag R cg) := KB_g_9.out.cell 2
  have CE_g_lt : gg < ww7.heap.size := KB_g_9.out.lt
  clear FA_a_9 FA_g_9
  go_wp2_with fail
  go_region_held3 (fun w' => w'.cell? ⟨gg, 0, none⟩ = some (.int .u64 S) ∧ w'.cell? ⟨gg, 1, none⟩ = some (.int .i64 M) ∧ w'.cell? ⟨gg, 2, none⟩ = some (.slice Ag R cg) ∧ w'.cell? ⟨gx, 0, none⟩ = some (.int .u64 S) ∧ w'.cell? ⟨gx, 1, none⟩ = some (.int .i64 M) ∧ w'.cell? ⟨gx, 2, none⟩ = some (.slice A R cap)) (first | go_keep | exact KS.out _ Z4.out | exact KS.out _ Z3.out | exact KS.out _ Z2.out | exact KS.out _ Z1.out) (first
    | (have fl := Z3; clear fl; go_simp; go_at_call 12; refine (WA.out _ Z3.out).mono ?_; rintro e q4 ⟨rfl, cc⟩; have Z4 : Hid (Below ww7.heap.size ww7 q4) := cc; clear cc)
    | (have fl := Z2; clear fl; go_simp; go_at_call 10; refine (E1.out _ _ Z2.out FY.out).mono ?_; rintro e q3 ⟨rfl, cc⟩; have Z3 : Hid (Below ww7.heap.size ww7 q3) := cc; clear cc)
    | (have fl := Z1; clear fl; go_simp; go_at_call 19; refine (RA.out _ Z1.out).mono ?_; rintro e q2 ⟨yv, rfl, fy, cc⟩; have Z2 : Hid (Below ww7.heap.size ww7 q2) := cc; have FY : Hid (SkAt q2 yv S M R (fun _ => n) (addZ S M n Z s a2)) := fy; clear fy; clear cc)
    | (have fl := Z0; clear fl; go_simp; go_at_call 11; refine (RG.out _ Z0.out).mono ?_; rintro e q1 ⟨rfl, cc⟩; have Z1 : Hid (Below ww7.heap.size ww7 q1) := cc; clear cc))
  all_goals go_wp2_with fail
  all_goals go_ret
  all_goals exact ⟨by simp, bel_trans BEL9.out Z4.out⟩

/-! ### The row -/
theorem laidOut : laidOutB Try.prog = true := by kernel_rfl
set_option maxRecDepth 100000 in
theorem lifted (os : Os) (started : os.Started) (H : Type) (enc : TypeId × Value → H) :
    ReturnsInHanded {} Try.checked os 4 .any (Rows.leastTurnsSpec.pre6 enc Try.prog Try.f4 Rows.leastTurnsRow.domain false) (Rows.leastTurnsSpec.post enc Try.prog Try.f4 false true false false) := by
  refine returnsInHanded_of_change (C := Try.checked) own started (by kernel_rfl) Try.func4
    (ChangeSpec.witness6 (enc := enc) (C := Try.checked) false ⟨#[], #[.agg #[.int .u64 0, .int .i64 0, .slice none 0 0], .string ⟨#[]⟩, .int .i64 0], []⟩ 8 (by kernel_rfl) (by kernel_rfl) (by kernel_rfl) (by kernel_rfl)) ?_
  intro W base args ds gs before hval0 hW hcnd _
  have hval : ∀ (j : Nat) t v, Try.f4.params[j]? = some t → args[j]? = some v → Value.okWide Try.prog W .any base t v := hval0
  have hW' := hW
  obtain ⟨p, q, hA0, hV, rfl, hfz, hnd⟩ := hW
  have hA : DataW.TrodAll enc Try.prog W 0 (fun _ => true) true Try.f4.params.toList args.toList ds p := hA0
  rw [Try.params4] at hA hval
  obtain ⟨v0, vs0, d0, ds0, p0, q0, hargs, rfl, rfl, h0, r0⟩ := trodAll_cons hA
  obtain ⟨v1, vs1, d1, ds1, p1, q1, rfl, rfl, rfl, h1, r1⟩ := trodAll_cons r0
  obtain ⟨v2, vs2, d2, ds2, p2, q2, rfl, rfl, rfl, h2, r2⟩ := trodAll_cons r1
  obtain ⟨rfl, rfl, rfl⟩ := trodAll_nil r2
  obtain rfl : args = #[v0, v1, v2] := by cases args; simp_all
  obtain ⟨rfl, rfl⟩ := trodVars_none hV
  have k0 := h0
  have lt0 : ∀ x ∈ p0, x.block < W.heap.size := by obtain ⟨m, hm⟩ := k0; exact DataW.trod_lt m _ _ _ hm
  obtain ⟨F0, w0⟩ := open_sketch (hval 0 25 v0 rfl rfl) h0
  obtain ⟨a1, rfl, rfl, rfl, w1⟩ := open_string Try.underlying9 (hval 1 9 v1 rfl rfl) h1
  obtain ⟨a2, rfl, rfl, rfl, w2⟩ := open_int Try.underlying3 (hval 2 3 v2 rfl rfl) h2
  clear hA0 hval0
  refine (walk v0 F0 a1 a2 W w0 w1 w2).mono fun e W' ⟨he, bel⟩ => ?_
  subst he
  exact ⟨_, rfl, _, _, _, [], _, [], hW', trodAll_mk1 (shut_bool Try.underlying4 _), (trodAll_cons_mk (Below.trod laidOut (by kernel_rfl) (of_decide_eq_true (by kernel_rfl)) k0 bel lt0) (trodAll_cons_mk (shut_string Try.underlying9 w1) (trodAll_cons_mk (shut_int Try.underlying3 w2) trodAll_mk0))), rfl, bel.frame _, fun h => by cases h⟩

theorem over : Rows.leastTurnsRow.holds Try.pinned (OpenSpec.ofChange Rows.leastTurnsSpec) :=
  OpenClaim.holds_of_wide 4 Try.f4 rfl rfl rfl rfl rfl rfl rfl ⟨rfl, rfl, rfl, rfl, rfl⟩ rfl rfl rfl rfl rfl (by kernel_rfl) Try.func4 (by kernel_rfl)
    (of_decide_eq_true (by kernel_rfl)) (by unfold Func.isWrapper; first | (rw [if_pos (by decide +kernel)]; kernel_rfl) | (rw [if_neg (by decide +kernel)]; exact ⟨rfl, rfl⟩))
    (fun os started H enc _ => lifted os started H enc)

theorem proved : Rows.LeastTurnsSaid := over
end Go.Proofs.Ytmlokipmcgnllaa.leastTurns
namespace Go.Proofs.Ytmlokipmcgnllaa
theorem leastTurns_holds : Rows.LeastTurnsSaid := leastTurns.proved
#print axioms leastTurns_holds
end Go.Proofs.Ytmlokipmcgnllaa
