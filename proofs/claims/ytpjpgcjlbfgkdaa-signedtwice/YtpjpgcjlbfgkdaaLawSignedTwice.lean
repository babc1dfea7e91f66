
/-
  SignedTwice: so many of a key, and so many more, are both at once. No condition.
-/
import Derived.Test.YtpjpgcjlbfgkdaaRows
import Derived.Test.YtpjpgcjlbfgkdaaSgnAwake
import Derived.Test.YtpjpgcjlbfgkdaaSgnRef
import Derived.Test.YtpjpgcjlbfgkdaaRegKit
import Derived.WalkKit
import Derived.ProofKit
import Derived.OpenShut
import Derived.ShutString
import Derived.ChangeOld
import Derived.ChangeMaps5
import Derived.Below
import Derived.Carry
import Derived.Laws.StructEq
import Derived.BigQuiet
import Derived.Deep.Cut
import Derived.Deep.CutRange
import Derived.Deep.RegionHeld
namespace Go.Proofs.Ytpjpgcjlbfgkdaa.signedTwice
open Fm Bl Sg L2 Go.Deep
open Go.ChangeShapes Go.WideShapes Go.ChangeAt Go.RowKit Go.ChangeMaps
set_option linter.unusedVariables false

theorem own : ownKnob Try.prog.godebug = none := by kernel_rfl

set_option maxRecDepth 8000 in
set_option maxHeartbeats 20000000 in
theorem walk (v0 : Value) (F0 : Sgt) (s : ByteArray) (a2 a3 : Int) (w : World) (h0 : SgIn w v0 F0) (ws : s.size ≤ 9223372036854775807) (w2 : (Lit.int .i32 a2).wf = true) (w3 : (Lit.int .i32 a3).wf = true) :
    Calls Try.prog 8 #[v0, .string s, .int .i32 a2, .int .i32 a3] w fun e w' => e = .returned (.bool true) ∧ Below w.heap.size w w' := by
  obtain ⟨S, R, L, Z⟩ := F0
  obtain ⟨hF, uS, hRm⟩ := h0
  simp only at hF uS hRm
  obtain ⟨v, rfl, hv⟩ := id hF
  obtain ⟨A, cap, bq, oq, rfl, hcap, q4⟩ := hv.read
  clear hv hcap
  have HF : Hid (SgAt w (.agg #[.int .u64 S, .slice A R cap]) S R L Z) := hF
  have RA : Hid (RowsCells w A R bq oq L Z) := q4
  clear hF q4
  have a0b := bounds_i32 w2
  have b0b := bounds_i32 w3
  obtain ⟨a0, a1⟩ := a0b
  obtain ⟨b0, b1⟩ := b0b
  have fA : FitsI a2 := ⟨by omega, by omega⟩
  have fB : FitsI a3 := ⟨by omega, by omega⟩
  have fC : FitsI (a2 + a3) := ⟨by omega, by omega⟩
  have HFIT : Hid (FitsI a2 ∧ FitsI a3 ∧ FitsI (a2 + a3)) := ⟨fA, fB, fC⟩
  have wa : IntKind.i64.wrap a2 = a2 := by rw [IntKind.wrap_i64]; omega
  have wb : IntKind.i64.wrap a3 = a3 := by rw [IntKind.wrap_i64]; omega
  have wc : IntKind.i64.wrap (a2 + a3) = a2 + a3 := by rw [IntKind.wrap_i64]; omega
  clear fA fB fC
  have BEL0 : Hid (Below w.heap.size w w) := Below.refl _ _
  have BOX0 : Hid (Boxes w w []) := boxes_none w w
  have FA_a_0 : Hid (HeldX [] (fun uq => SgAt uq (.agg #[.int .u64 S, .slice A R cap]) S R L Z) w) := heldX_keep fun u k => HF.out.keep k
  go_enter Try.func8, Try.ntmps8
  have BEL1 := a_bel BEL0 (.cells #[.int .u64 S, .slice A R cap] 25)
  have BOX1 := a_box BOX0 BEL0 (.cells #[.int .u64 S, .slice A R cap] 25)
  have FA_a_1 := a_fact FA_a_0 (.cells #[.int .u64 S, .slice A R cap] 25)
  have KB_bx_1 := n_blk (u := w) 25 #[.int .u64 S, .slice A R cap]
  clear BEL0 BOX0 FA_a_0
  have CE_bx_0 : (w.alloc (.cells #[.int .u64 S, .slice A R cap] 25)).cell? ⟨w.heap.size, 0, none⟩ = some (.int .u64 S) := KB_bx_1.out.cell 0
  have CE_bx_1 : (w.alloc (.cells #[.int .u64 S, .slice A R cap] 25)).cell? ⟨w.heap.size, 1, none⟩ = some (.slice A R cap) := KB_bx_1.out.cell 1
  have CE_bx_lt : w.heap.size < (w.alloc (.cells #[.int .u64 S, .slice A R cap] 25)).heap.size := KB_bx_1.out.lt
  go_wp2_with fail
  refine (small_any _ _ R L _ (by obtain ⟨v2, e2, hv2⟩ := FA_a_1.out.at; cases e2; exact hv2) hRm).mono ?_
  rintro e ww1 ⟨B, rfl, hB, rfl⟩
  have HB : Hid (B = true ↔ SmallP R L) := hB
  clear hB
  cases B
  · clear CE_bx_0 CE_bx_1 CE_bx_lt
    go_wp2_with fail
    refine (gawake_any _).mono ?_
    rintro e ww99 ⟨rfl, b9⟩
    have BEL2 := h_bel BEL1 b9
    have BOX2 := h_box BOX1 b9
    have FA_a_2 := h_fact FA_a_1 b9
    have KB_bx_2 := h_blk KB_bx_1 b9
    clear BEL1 BOX1 FA_a_1 KB_bx_1
    clear b9
    go_wp2_with fail
    go_ret
    exact ⟨rfl, BEL2.out⟩
  obtain ⟨R1, L1⟩ := HB.out.1 rfl
  have LL : Hid (∀ i, i < R → L i ≤ 1000) := fun i hi => by have := L1 i hi; omega
  have R2 : R ≤ 1000 := by omega
  clear HB L1
  by_cases hs : s.size > 100
  · have hs2 : (s.size : Int) > 100 := by omega
    clear CE_bx_0 CE_bx_1 CE_bx_lt
    go_wp2_with fail
    refine (gawake_any _).mono ?_
    rintro e ww99 ⟨rfl, b9⟩
    have BEL2 := h_bel BEL1 b9
    have BOX2 := h_box BOX1 b9
    have FA_a_2 := h_fact FA_a_1 b9
    have KB_bx_2 := h_blk KB_bx_1 b9
    clear BEL1 BOX1 FA_a_1 KB_bx_1
    clear b9
    go_wp2_with fail
    go_ret
    exact ⟨rfl, BEL2.out⟩
  have hs2 : ¬ (s.size : Int) > 100 := by omega
  have hs3 : s.size ≤ 100 := by omega
  by_cases rp : RightG R L Z
  rotate_left
  · have NR : ∀ x, ¬ (RightG R L Z ∧ FitsI x) := fun x h => rp h.1
    have NZ : ∀ x, ¬ (RightG 0 (fun _ => 0) (fun _ _ => 0) ∧ FitsI x) := fun x h => by have := h.1.1; omega
    have NR : Hid (∀ x, ¬ (RightG R L Z ∧ FitsI x)) := NR
    have NZ : Hid (∀ x, ¬ (RightG 0 (fun _ => 0) (fun _ _ => 0) ∧ FitsI x)) := NZ
    clear rp
    go_wp2_with fail
    refine (gadd_bad _ _ S R L Z s a2 FA_a_1.out.at R2 LL.out (NR.out _)).mono ?_
    rintro e ww2 ⟨rfl, b1⟩
    clear CE_bx_0 CE_bx_1 CE_bx_lt
    have BEL2 := h_bel BEL1 b1
    have BOX2 := h_box BOX1 b1
    have FA_a_2 := h_fact FA_a_1 b1
    have KB_bx_2 := h_blk KB_bx_1 b1
    clear BEL1 BOX1 FA_a_1 KB_bx_1
    clear b1
    go_upto_region 4 with fail
    have BEL3 := a_bel BEL2 (.cells #[.int .u64 0, .slice none 0 0] 25)
    have BOX3 := a_box BOX2 BEL2 (.cells #[.int .u64 0, .slice none 0 0] 25)
    have FA_a_3 := a_fact FA_a_2 (.cells #[.int .u64 0, .slice none 0 0] 25)
    have KB_bx_3 := a_blk KB_bx_2 (.cells #[.int .u64 0, .slice none 0 0] 25)
    have NE_bx_x := n_ne KB_bx_2
    have KB_x_3 := n_blk (u := ww2) 25 #[.int .u64 0, .slice none 0 0]
    clear BEL2 BOX2 FA_a_2 KB_bx_2
    generalize (ww2.alloc (.cells #[.int .u64 0, .slice none 0 0] 25)) = u1 at BEL3 BOX3 FA_a_3 KB_bx_3 KB_x_3 ⊢
    generalize ww2.heap.size = gx at BOX3 FA_a_3 KB_x_3 NE_bx_x ⊢
    have CE_x_0 : u1.cell? ⟨gx, 0, none⟩ = some (.int .u64 0) := KB_x_3.out.cell 0
    have CF_x_0 : u1.frozen? ⟨gx, 0, none⟩ = false := KB_x_3.out.frozen 0
    have CE_x_1 : u1.cell? ⟨gx, 1, none⟩ = some (.slice none 0 0) := KB_x_3.out.cell 1
    have CF_x_1 : u1.frozen? ⟨gx, 1, none⟩ = false := KB_x_3.out.frozen 1
    have CE_x_lt : gx < u1.heap.size := KB_x_3.out.lt
    go_wp2_with fail
    refine (gadd_bad _ _ 0 0 (fun _ => 0) (fun _ _ => 0) s a3 (sgAt_none _ _ _) (by omega) (fun i h => by omega) (NZ.out _)).mono ?_
    rintro e ww3 ⟨rfl, b2⟩
    clear CE_x_0 CF_x_0 CE_x_1 CF_x_1 CE_x_lt
    have BEL4 := h_bel BEL3 b2
    have BOX4 := h_box BOX3 b2
    have FA_a_4 := h_fact FA_a_3 b2
    have KB_bx_4 := h_blk KB_bx_3 b2
    have KB_x_4 := h_blk KB_x_3 b2
    clear BEL3 BOX3 FA_a_3 KB_bx_3 KB_x_3
    clear b2
    have CE_x_0 : ww3.cell? ⟨gx, 0, none⟩ = some (.int .u64 0) := KB_x_4.out.cell 0
    have CF_x_0 : ww3.frozen? ⟨gx, 0, none⟩ = false := KB_x_4.out.frozen 0
    have CE_x_1 : ww3.cell? ⟨gx, 1, none⟩ = some (.slice none 0 0) := KB_x_4.out.cell 1
    have CF_x_1 : ww3.frozen? ⟨gx, 1, none⟩ = false := KB_x_4.out.frozen 1
    have CE_x_lt : gx < ww3.heap.size := KB_x_4.out.lt
    go_upto_region 5 with fail
    clear CE_x_0 CF_x_0 CE_x_1 CF_x_1 CE_x_lt
    obtain ⟨u2, hv⟩ : ∃ q, q = ((ww3.setCell ⟨gx, 0, none⟩ (.int .u64 0)).setCell ⟨gx, 1, none⟩ (.slice none 0 0)) := ⟨_, rfl⟩
    rw [← hv]
    have pe : u2 = putCells ww3 gx 0 [.int .u64 0, .slice none 0 0] := hv
    clear hv
    have BEL5 := p_bel pe BEL4 BOX4 List.mem_cons_self
    have BOX5 := p_box pe BOX4
    have FA_a_5 := p_fact pe FA_a_4 List.mem_cons_self
    have KB_bx_5 := p_oth pe KB_bx_4 NE_bx_x
    have KB_x_5 : Hid (Blk u2 gx 25 #[.int .u64 0, .slice none 0 0]) := p_blk pe KB_x_4 rfl
    clear pe BEL4 BOX4 FA_a_4 KB_bx_4 KB_x_4
    have CE_bx_0 : u2.cell? ⟨w.heap.size, 0, none⟩ = some (.int .u64 S) := KB_bx_5.out.cell 0
    have CE_bx_1 : u2.cell? ⟨w.heap.size, 1, none⟩ = some (.slice A R cap) := KB_bx_5.out.cell 1
    have CE_bx_lt : w.heap.size < u2.heap.size := KB_bx_5.out.lt
    go_wp2_with fail
    refine (gadd_bad _ _ S R L Z s (a2 + a3) FA_a_5.out.at R2 LL.out (NR.out _)).mono ?_
    rintro e ww4 ⟨rfl, b3⟩
    clear CE_bx_0 CE_bx_1 CE_bx_lt
    have BEL6 := h_bel BEL5 b3
    have BOX6 := h_box BOX5 b3
    have FA_a_6 := h_fact FA_a_5 b3
    have KB_bx_6 := h_blk KB_bx_5 b3
    have KB_x_6 := h_blk KB_x_5 b3
    clear BEL5 BOX5 FA_a_5 KB_bx_5 KB_x_5
    clear b3
    go_upto_region 6 with fail
    have BEL7 := a_bel BEL6 (.cells #[.int .u64 0, .slice none 0 0] 25)
    have BOX7 := a_box BOX6 BEL6 (.cells #[.int .u64 0, .slice none 0 0] 25)
    have FA_a_7 := a_fact FA_a_6 (.cells #[.int .u64 0, .slice none 0 0] 25)
    have KB_bx_7 := a_blk KB_bx_6 (.cells #[.int .u64 0, .slice none 0 0] 25)
    have NE_bx_y := n_ne KB_bx_6
    have KB_x_7 := a_blk KB_x_6 (.cells #[.int .u64 0, .slice none 0 0] 25)
    have NE_x_y := n_ne KB_x_6
    have KB_y_7 := n_blk (u := ww4) 25 #[.int .u64 0, .slice none 0 0]
    clear BEL6 BOX6 FA_a_6 KB_bx_6 KB_x_6
    generalize (ww4.alloc (.cells #[.int .u64 0, .slice none 0 0] 25)) = u3 at BEL7 BOX7 FA_a_7 KB_bx_7 KB_x_7 KB_y_7 ⊢
    generalize ww4.heap.size = gy at BOX7 FA_a_7 KB_y_7 NE_bx_y NE_x_y ⊢
    go_wp2_with fail
    refine (gawake_any _).mono ?_
    rintro e ww99 ⟨rfl, b9⟩
    have BEL8 := h_bel BEL7 b9
    have BOX8 := h_box BOX7 b9
    have FA_a_8 := h_fact FA_a_7 b9
    have KB_bx_8 := h_blk KB_bx_7 b9
    have KB_x_8 := h_blk KB_x_7 b9
    have KB_y_8 := h_blk KB_y_7 b9
    clear BEL7 BOX7 FA_a_7 KB_bx_7 KB_x_7 KB_y_7
    clear b9
    go_wp2_with fail
    go_ret
    exact ⟨rfl, BEL8.out⟩
  obtain ⟨n, hn⟩ : ∃ n, n = L 0 := ⟨_, rfl⟩
  have OK : Hid (OkG R n Z) := by rw [hn]; exact rp.ok
  have RP : Hid (RightG R (fun _ => n) Z) := OK.out.right
  have n2 : n ≤ 256 := OK.out.2.2.2.2.1
  have n1 : 1 ≤ n := OK.out.2.2.2.1
  have r7 : R ≤ 7 := OK.out.2.1
  have r1 : 1 ≤ R := OK.out.1
  have LK : Hid (∀ i, i < R → L i = n) := fun i hi => by rw [hn]; exact (rp.2.2.2.2.2 i hi).1
  clear rp hn
  have FN := FA_a_1.out.imp (Q := fun uq => SgAt uq (.agg #[.int .u64 S, .slice A R cap]) S R (fun _ => n) Z) (fun u h => h.congr LK.out (fun _ _ _ _ => rfl))
  clear FA_a_1
  have FA_a_1 : Hid (HeldX [w.heap.size] (fun uq => SgAt uq (.agg #[.int .u64 S, .slice A R cap]) S R (fun _ => n) Z) (w.alloc (.cells #[.int .u64 S, .slice A R cap] 25))) := FN
  clear FN
  have SM : Hid (OkG R n (addG S n (addG S n Z s a2) s a3) ↔ OkG R n (addG S n Z s (a2 + a3))) := ⟨fun h => h.congr fun i j _ _ => addG_twice S n Z s a2 a3 i j, fun h => h.congr fun i j _ _ => (addG_twice S n Z s a2 a3 i j).symm⟩
  by_cases o1 : OkG R n (addG S n Z s a2)
  rotate_left
  · have O1 : Hid (¬ OkG R n (addG S n Z s a2)) := o1
    clear o1
    by_cases o3 : OkG R n (addG S n Z s (a2 + a3))
    rotate_left
    · have O3 : Hid (¬ OkG R n (addG S n Z s (a2 + a3))) := o3
      clear o3
      go_wp2_with fail
      refine ((gadd_any _ _ S R n Z s a2 FA_a_1.out.at OK.out uS (by omega) HFIT.out.1).mono (fun _ _ h => h.2 O1.out)).mono ?_
      rintro e ww2 ⟨rfl, b1⟩
      clear CE_bx_0 CE_bx_1 CE_bx_lt
      have BEL2 := h_bel BEL1 b1
      have BOX2 := h_box BOX1 b1
      have FA_a_2 := h_fact FA_a_1 b1
      have KB_bx_2 := h_blk KB_bx_1 b1
      clear BEL1 BOX1 FA_a_1 KB_bx_1
      clear b1
      go_upto_region 4 with fail
      have BEL3 := a_bel BEL2 (.cells #[.int .u64 0, .slice none 0 0] 25)
      have BOX3 := a_box BOX2 BEL2 (.cells #[.int .u64 0, .slice none 0 0] 25)
      have FA_a_3 := a_fact FA_a_2 (.cells #[.int .u64 0, .slice none 0 0] 25)
      have KB_bx_3 := a_blk KB_bx_2 (.cells #[.int .u64 0, .slice none 0 0] 25)
      have NE_bx_x := n_ne KB_bx_2
      have KB_x_3 := n_blk (u := ww2) 25 #[.int .u64 0, .slice none 0 0]
      clear BEL2 BOX2 FA_a_2 KB_bx_2
      generalize (ww2.alloc (.cells #[.int .u64 0, .slice none 0 0] 25)) = u1 at BEL3 BOX3 FA_a_3 KB_bx_3 KB_x_3 ⊢
      generalize ww2.heap.size = gx at BOX3 FA_a_3 KB_x_3 NE_bx_x ⊢
      have CE_x_0 : u1.cell? ⟨gx, 0, none⟩ = some (.int .u64 0) := KB_x_3.out.cell 0
      have CF_x_0 : u1.frozen? ⟨gx, 0, none⟩ = false := KB_x_3.out.frozen 0
      have CE_x_1 : u1.cell? ⟨gx, 1, none⟩ = some (.slice none 0 0) := KB_x_3.out.cell 1
      have CF_x_1 : u1.frozen? ⟨gx, 1, none⟩ = false := KB_x_3.out.frozen 1
      have CE_x_lt : gx < u1.heap.size := KB_x_3.out.lt
      have NZ : ¬ (RightG 0 (fun _ => 0) (fun _ _ => 0) ∧ FitsI a3) := fun h => by have := h.1.1; omega
      go_wp2_with fail
      refine (gadd_bad _ _ 0 0 (fun _ => 0) (fun _ _ => 0) s a3 (sgAt_none _ _ _) (by omega) (fun i h => by omega) NZ).mono ?_
      rintro e ww3 ⟨rfl, b2⟩
      clear CE_x_0 CF_x_0 CE_x_1 CF_x_1 CE_x_lt
      have BEL4 := h_bel BEL3 b2
      have BOX4 := h_box BOX3 b2
      have FA_a_4 := h_fact FA_a_3 b2
      have KB_bx_4 := h_blk KB_bx_3 b2
      have KB_x_4 := h_blk KB_x_3 b2
      clear BEL3 BOX3 FA_a_3 KB_bx_3 KB_x_3
      clear b2
      clear NZ
      have CE_x_0 : ww3.cell? ⟨gx, 0, none⟩ = some (.int .u64 0) := KB_x_4.out.cell 0
      have CF_x_0 : ww3.frozen? ⟨gx, 0, none⟩ = false := KB_x_4.out.frozen 0
      have CE_x_1 : ww3.cell? ⟨gx, 1, none⟩ = some (.slice none 0 0) := KB_x_4.out.cell 1
      have CF_x_1 : ww3.frozen? ⟨gx, 1, none⟩ = false := KB_x_4.out.frozen 1
      have CE_x_lt : gx < ww3.heap.size := KB_x_4.out.lt
      go_upto_region 5 with fail
      clear CE_x_0 CF_x_0 CE_x_1 CF_x_1 CE_x_lt
      obtain ⟨u2, hv⟩ : ∃ q, q = ((ww3.setCell ⟨gx, 0, none⟩ (.int .u64 0)).setCell ⟨gx, 1, none⟩ (.slice none 0 0)) := ⟨_, rfl⟩
      rw [← hv]
      have pe : u2 = putCells ww3 gx 0 [.int .u64 0, .slice none 0 0] := hv
      clear hv
      have BEL5 := p_bel pe BEL4 BOX4 List.mem_cons_self
      have BOX5 := p_box pe BOX4
      have FA_a_5 := p_fact pe FA_a_4 List.mem_cons_self
      have KB_bx_5 := p_oth pe KB_bx_4 NE_bx_x
      have KB_x_5 : Hid (Blk u2 gx 25 #[.int .u64 0, .slice none 0 0]) := p_blk pe KB_x_4 rfl
      clear pe BEL4 BOX4 FA_a_4 KB_bx_4 KB_x_4
      have CE_bx_0 : u2.cell? ⟨w.heap.size, 0, none⟩ = some (.int .u64 S) := KB_bx_5.out.cell 0
      have CE_bx_1 : u2.cell? ⟨w.heap.size, 1, none⟩ = some (.slice A R cap) := KB_bx_5.out.cell 1
      have CE_bx_lt : w.heap.size < u2.heap.size := KB_bx_5.out.lt
      go_wp2_with fail
      refine ((gadd_any _ _ S R n Z s (a2 + a3) FA_a_5.out.at OK.out uS (by omega) HFIT.out.2.2).mono (fun _ _ h => h.2 O3.out)).mono ?_
      rintro e ww4 ⟨rfl, b3⟩
      clear CE_bx_0 CE_bx_1 CE_bx_lt
      have BEL6 := h_bel BEL5 b3
      have BOX6 := h_box BOX5 b3
      have FA_a_6 := h_fact FA_a_5 b3
      have KB_bx_6 := h_blk KB_bx_5 b3
      have KB_x_6 := h_blk KB_x_5 b3
      clear BEL5 BOX5 FA_a_5 KB_bx_5 KB_x_5
      clear b3
      go_upto_region 6 with fail
      have BEL7 := a_bel BEL6 (.cells #[.int .u64 0, .slice none 0 0] 25)
      have BOX7 := a_box BOX6 BEL6 (.cells #[.int .u64 0, .slice none 0 0] 25)
      have FA_a_7 := a_fact FA_a_6 (.cells #[.int .u64 0, .slice none 0 0] 25)
      have KB_bx_7 := a_blk KB_bx_6 (.cells #[.int .u64 0, .slice none 0 0] 25)
      have NE_bx_y := n_ne KB_bx_6
      have KB_x_7 := a_blk KB_x_6 (.cells #[.int .u64 0, .slice none 0 0] 25)
      have NE_x_y := n_ne KB_x_6
      have KB_y_7 := n_blk (u := ww4) 25 #[.int .u64 0, .slice none 0 0]
      clear BEL6 BOX6 FA_a_6 KB_bx_6 KB_x_6
      generalize (ww4.alloc (.cells #[.int .u64 0, .slice none 0 0] 25)) = u3 at BEL7 BOX7 FA_a_7 KB_bx_7 KB_x_7 KB_y_7 ⊢
      generalize ww4.heap.size = gy at BOX7 FA_a_7 KB_y_7 NE_bx_y NE_x_y ⊢
      go_wp2_with fail
      refine (gawake_any _).mono ?_
      rintro e ww99 ⟨rfl, b9⟩
      have BEL8 := h_bel BEL7 b9
      have BOX8 := h_box BOX7 b9
      have FA_a_8 := h_fact FA_a_7 b9
      have KB_bx_8 := h_blk KB_bx_7 b9
      have KB_x_8 := h_blk KB_x_7 b9
      have KB_y_8 := h_blk KB_y_7 b9
      clear BEL7 BOX7 FA_a_7 KB_bx_7 KB_x_7 KB_y_7
      clear b9
      go_wp2_with fail
      go_ret
      exact ⟨rfl, BEL8.out⟩
    have O3 : Hid (OkG R n (addG S n Z s (a2 + a3))) := o3
    clear o3
    go_wp2_with fail
    refine ((gadd_any _ _ S R n Z s a2 FA_a_1.out.at OK.out uS (by omega) HFIT.out.1).mono (fun _ _ h => h.2 O1.out)).mono ?_
    rintro e ww2 ⟨rfl, b1⟩
    clear CE_bx_0 CE_bx_1 CE_bx_lt
    have BEL2 := h_bel BEL1 b1
    have BOX2 := h_box BOX1 b1
    have FA_a_2 := h_fact FA_a_1 b1
    have KB_bx_2 := h_blk KB_bx_1 b1
    clear BEL1 BOX1 FA_a_1 KB_bx_1
    clear b1
    go_upto_region 4 with fail
    have BEL3 := a_bel BEL2 (.cells #[.int .u64 0, .slice none 0 0] 25)
    have BOX3 := a_box BOX2 BEL2 (.cells #[.int .u64 0, .slice none 0 0] 25)
    have FA_a_3 := a_fact FA_a_2 (.cells #[.int .u64 0, .slice none 0 0] 25)
    have KB_bx_3 := a_blk KB_bx_2 (.cells #[.int .u64 0, .slice none 0 0] 25)
    have NE_bx_x := n_ne KB_bx_2
    have KB_x_3 := n_blk (u := ww2) 25 #[.int .u64 0, .slice none 0 0]
    clear BEL2 BOX2 FA_a_2 KB_bx_2
    generalize (ww2.alloc (.cells #[.int .u64 0, .slice none 0 0] 25)) = u1 at BEL3 BOX3 FA_a_3 KB_bx_3 KB_x_3 ⊢
    generalize ww2.heap.size = gx at BOX3 FA_a_3 KB_x_3 NE_bx_x ⊢
    have CE_x_0 : u1.cell? ⟨gx, 0, none⟩ = some (.int .u64 0) := KB_x_3.out.cell 0
    have CF_x_0 : u1.frozen? ⟨gx, 0, none⟩ = false := KB_x_3.out.frozen 0
    have CE_x_1 : u1.cell? ⟨gx, 1, none⟩ = some (.slice none 0 0) := KB_x_3.out.cell 1
    have CF_x_1 : u1.frozen? ⟨gx, 1, none⟩ = false := KB_x_3.out.frozen 1
    have CE_x_lt : gx < u1.heap.size := KB_x_3.out.lt
    have NZ : ¬ (RightG 0 (fun _ => 0) (fun _ _ => 0) ∧ FitsI a3) := fun h => by have := h.1.1; omega
    go_wp2_with fail
    refine (gadd_bad _ _ 0 0 (fun _ => 0) (fun _ _ => 0) s a3 (sgAt_none _ _ _) (by omega) (fun i h => by omega) NZ).mono ?_
    rintro e ww3 ⟨rfl, b2⟩
    clear CE_x_0 CF_x_0 CE_x_1 CF_x_1 CE_x_lt
    have BEL4 := h_bel BEL3 b2
    have BOX4 := h_box BOX3 b2
    have FA_a_4 := h_fact FA_a_3 b2
    have KB_bx_4 := h_blk KB_bx_3 b2
    have KB_x_4 := h_blk KB_x_3 b2
    clear BEL3 BOX3 FA_a_3 KB_bx_3 KB_x_3
    clear b2
    clear NZ
    have CE_x_0 : ww3.cell? ⟨gx, 0, none⟩ = some (.int .u64 0) := KB_x_4.out.cell 0
    have CF_x_0 : ww3.frozen? ⟨gx, 0, none⟩ = false := KB_x_4.out.frozen 0
    have CE_x_1 : ww3.cell? ⟨gx, 1, none⟩ = some (.slice none 0 0) := KB_x_4.out.cell 1
    have CF_x_1 : ww3.frozen? ⟨gx, 1, none⟩ = false := KB_x_4.out.frozen 1
    have CE_x_lt : gx < ww3.heap.size := KB_x_4.out.lt
    go_upto_region 5 with fail
    clear CE_x_0 CF_x_0 CE_x_1 CF_x_1 CE_x_lt
    obtain ⟨u2, hv⟩ : ∃ q, q = ((ww3.setCell ⟨gx, 0, none⟩ (.int .u64 0)).setCell ⟨gx, 1, none⟩ (.slice none 0 0)) := ⟨_, rfl⟩
    rw [← hv]
    have pe : u2 = putCells ww3 gx 0 [.int .u64 0, .slice none 0 0] := hv
    clear hv
    have BEL5 := p_bel pe BEL4 BOX4 List.mem_cons_self
    have BOX5 := p_box pe BOX4
    have FA_a_5 := p_fact pe FA_a_4 List.mem_cons_self
    have KB_bx_5 := p_oth pe KB_bx_4 NE_bx_x
    have KB_x_5 : Hid (Blk u2 gx 25 #[.int .u64 0, .slice none 0 0]) := p_blk pe KB_x_4 rfl
    clear pe BEL4 BOX4 FA_a_4 KB_bx_4 KB_x_4
    have CE_bx_0 : u2.cell? ⟨w.heap.size, 0, none⟩ = some (.int .u64 S) := KB_bx_5.out.cell 0
    have CE_bx_1 : u2.cell? ⟨w.heap.size, 1, none⟩ = some (.slice A R cap) := KB_bx_5.out.cell 1
    have CE_bx_lt : w.heap.size < u2.heap.size := KB_bx_5.out.lt
    go_wp2_with fail
    refine ((gadd_any _ _ S R n Z s (a2 + a3) FA_a_5.out.at OK.out uS (by omega) HFIT.out.2.2).mono (fun _ _ h => h.1 O3.out)).mono ?_
    rintro e ww4 ⟨xy, rfl, fy, b3⟩
    clear CE_bx_0 CE_bx_1 CE_bx_lt
    obtain ⟨vy, rfl, hvy⟩ := fy.at
    obtain ⟨Ay, cy, bby, ooy, rfl, hx1, hx2⟩ := hvy.read
    clear hx1 hx2 hvy
    have FA_y_6 : Hid (HeldX [gx, w.heap.size] (fun uq => SgAt uq (.agg #[.int .u64 S, .slice Ay R cy]) S R (fun _ => n) (addG S n Z s (a2 + a3))) ww4) := Held.new fy BOX5.out
    have BEL6 := h_bel BEL5 b3
    have BOX6 := h_box BOX5 b3
    have FA_a_6 := h_fact FA_a_5 b3
    have KB_bx_6 := h_blk KB_bx_5 b3
    have KB_x_6 := h_blk KB_x_5 b3
    clear BEL5 BOX5 FA_a_5 KB_bx_5 KB_x_5
    clear b3 fy
    go_upto_region 6 with fail
    have BEL7 := a_bel BEL6 (.cells #[.int .u64 S, .slice Ay R cy] 25)
    have BOX7 := a_box BOX6 BEL6 (.cells #[.int .u64 S, .slice Ay R cy] 25)
    have FA_a_7 := a_fact FA_a_6 (.cells #[.int .u64 S, .slice Ay R cy] 25)
    have FA_y_7 := a_fact FA_y_6 (.cells #[.int .u64 S, .slice Ay R cy] 25)
    have KB_bx_7 := a_blk KB_bx_6 (.cells #[.int .u64 S, .slice Ay R cy] 25)
    have NE_bx_y := n_ne KB_bx_6
    have KB_x_7 := a_blk KB_x_6 (.cells #[.int .u64 S, .slice Ay R cy] 25)
    have NE_x_y := n_ne KB_x_6
    have KB_y_7 := n_blk (u := ww4) 25 #[.int .u64 S, .slice Ay R cy]
    clear BEL6 BOX6 FA_a_6 FA_y_6 KB_bx_6 KB_x_6
    generalize (ww4.alloc (.cells #[.int .u64 S, .slice Ay R cy] 25)) = u3 at BEL7 BOX7 FA_a_7 FA_y_7 KB_bx_7 KB_x_7 KB_y_7 ⊢
    generalize ww4.heap.size = gy at BOX7 FA_a_7 FA_y_7 KB_y_7 NE_bx_y NE_x_y ⊢
    go_wp2_with fail
    refine (gawake_any _).mono ?_
    rintro e ww99 ⟨rfl, b9⟩
    have BEL8 := h_bel BEL7 b9
    have BOX8 := h_box BOX7 b9
    have FA_a_8 := h_fact FA_a_7 b9
    have FA_y_8 := h_fact FA_y_7 b9
    have KB_bx_8 := h_blk KB_bx_7 b9
    have KB_x_8 := h_blk KB_x_7 b9
    have KB_y_8 := h_blk KB_y_7 b9
    clear BEL7 BOX7 FA_a_7 FA_y_7 KB_bx_7 KB_x_7 KB_y_7
    clear b9
    go_wp2_with fail
    go_ret
    exact ⟨rfl, BEL8.out⟩
  have O1 : Hid (OkG R n (addG S n Z s a2)) := o1
  clear o1
  by_cases o2 : OkG R n (addG S n (addG S n Z s a2) s a3)
  rotate_left
  · have O2 : Hid (¬ OkG R n (addG S n (addG S n Z s a2) s a3)) := o2
    have O3 : Hid (¬ OkG R n (addG S n Z s (a2 + a3))) := fun h => o2 (SM.out.2 h)
    clear o2
    go_wp2_with fail
    refine ((gadd_any _ _ S R n Z s a2 FA_a_1.out.at OK.out uS (by omega) HFIT.out.1).mono (fun _ _ h => h.1 O1.out)).mono ?_
    rintro e ww2 ⟨xx, rfl, fx, b1⟩
    clear CE_bx_0 CE_bx_1 CE_bx_lt
    obtain ⟨vx, rfl, hvx⟩ := fx.at
    obtain ⟨Ax, cx, bbx, oox, rfl, hx1, hx2⟩ := hvx.read
    clear hx1 hx2 hvx
    have FA_x_2 : Hid (HeldX [w.heap.size] (fun uq => SgAt uq (.agg #[.int .u64 S, .slice Ax R cx]) S R (fun _ => n) (addG S n Z s a2)) ww2) := Held.new fx BOX1.out
    have BEL2 := h_bel BEL1 b1
    have BOX2 := h_box BOX1 b1
    have FA_a_2 := h_fact FA_a_1 b1
    have KB_bx_2 := h_blk KB_bx_1 b1
    clear BEL1 BOX1 FA_a_1 KB_bx_1
    clear b1 fx
    go_upto_region 4 with fail
    have BEL3 := a_bel BEL2 (.cells #[.int .u64 S, .slice Ax R cx] 25)
    have BOX3 := a_box BOX2 BEL2 (.cells #[.int .u64 S, .slice Ax R cx] 25)
    have FA_a_3 := a_fact FA_a_2 (.cells #[.int .u64 S, .slice Ax R cx] 25)
    have FA_x_3 := a_fact FA_x_2 (.cells #[.int .u64 S, .slice Ax R cx] 25)
    have KB_bx_3 := a_blk KB_bx_2 (.cells #[.int .u64 S, .slice Ax R cx] 25)
    have NE_bx_x := n_ne KB_bx_2
    have KB_x_3 := n_blk (u := ww2) 25 #[.int .u64 S, .slice Ax R cx]
    clear BEL2 BOX2 FA_a_2 FA_x_2 KB_bx_2
    generalize (ww2.alloc (.cells #[.int .u64 S, .slice Ax R cx] 25)) = u1 at BEL3 BOX3 FA_a_3 FA_x_3 KB_bx_3 KB_x_3 ⊢
    generalize ww2.heap.size = gx at BOX3 FA_a_3 FA_x_3 KB_x_3 NE_bx_x ⊢
    have CE_x_0 : u1.cell? ⟨gx, 0, none⟩ = some (.int .u64 S) := KB_x_3.out.cell 0
    have CF_x_0 : u1.frozen? ⟨gx, 0, none⟩ = false := KB_x_3.out.frozen 0
    have CE_x_1 : u1.cell? ⟨gx, 1, none⟩ = some (.slice Ax R cx) := KB_x_3.out.cell 1
    have CF_x_1 : u1.frozen? ⟨gx, 1, none⟩ = false := KB_x_3.out.frozen 1
    have CE_x_lt : gx < u1.heap.size := KB_x_3.out.lt
    go_wp2_with fail
    refine ((gadd_any _ _ S R n (addG S n Z s a2) s a3 FA_x_3.out.at O1.out uS (by omega) HFIT.out.2.1).mono (fun _ _ h => h.2 O2.out)).mono ?_
    rintro e ww3 ⟨rfl, b2⟩
    clear CE_x_0 CF_x_0 CE_x_1 CF_x_1 CE_x_lt
    have BEL4 := h_bel BEL3 b2
    have BOX4 := h_box BOX3 b2
    have FA_a_4 := h_fact FA_a_3 b2
    have FA_x_4 := h_fact FA_x_3 b2
    have KB_bx_4 := h_blk KB_bx_3 b2
    have KB_x_4 := h_blk KB_x_3 b2
    clear BEL3 BOX3 FA_a_3 FA_x_3 KB_bx_3 KB_x_3
    clear b2
    clear FA_x_4
    have CE_x_0 : ww3.cell? ⟨gx, 0, none⟩ = some (.int .u64 S) := KB_x_4.out.cell 0
    have CF_x_0 : ww3.frozen? ⟨gx, 0, none⟩ = false := KB_x_4.out.frozen 0
    have CE_x_1 : ww3.cell? ⟨gx, 1, none⟩ = some (.slice Ax R cx) := KB_x_4.out.cell 1
    have CF_x_1 : ww3.frozen? ⟨gx, 1, none⟩ = false := KB_x_4.out.frozen 1
    have CE_x_lt : gx < ww3.heap.size := KB_x_4.out.lt
    go_upto_region 5 with fail
    clear CE_x_0 CF_x_0 CE_x_1 CF_x_1 CE_x_lt
    obtain ⟨u2, hv⟩ : ∃ q, q = ((ww3.setCell ⟨gx, 0, none⟩ (.int .u64 0)).setCell ⟨gx, 1, none⟩ (.slice none 0 0)) := ⟨_, rfl⟩
    rw [← hv]
    have pe : u2 = putCells ww3 gx 0 [.int .u64 0, .slice none 0 0] := hv
    clear hv
    have BEL5 := p_bel pe BEL4 BOX4 List.mem_cons_self
    have BOX5 := p_box pe BOX4
    have FA_a_5 := p_fact pe FA_a_4 List.mem_cons_self
    have KB_bx_5 := p_oth pe KB_bx_4 NE_bx_x
    have KB_x_5 : Hid (Blk u2 gx 25 #[.int .u64 0, .slice none 0 0]) := p_blk pe KB_x_4 rfl
    clear pe BEL4 BOX4 FA_a_4 KB_bx_4 KB_x_4
    have CE_bx_0 : u2.cell? ⟨w.heap.size, 0, none⟩ = some (.int .u64 S) := KB_bx_5.out.cell 0
    have CE_bx_1 : u2.cell? ⟨w.heap.size, 1, none⟩ = some (.slice A R cap) := KB_bx_5.out.cell 1
    have CE_bx_lt : w.heap.size < u2.heap.size := KB_bx_5.out.lt
    go_wp2_with fail
    refine ((gadd_any _ _ S R n Z s (a2 + a3) FA_a_5.out.at OK.out uS (by omega) HFIT.out.2.2).mono (fun _ _ h => h.2 O3.out)).mono ?_
    rintro e ww4 ⟨rfl, b3⟩
    clear CE_bx_0 CE_bx_1 CE_bx_lt
    have BEL6 := h_bel BEL5 b3
    have BOX6 := h_box BOX5 b3
    have FA_a_6 := h_fact FA_a_5 b3
    have KB_bx_6 := h_blk KB_bx_5 b3
    have KB_x_6 := h_blk KB_x_5 b3
    clear BEL5 BOX5 FA_a_5 KB_bx_5 KB_x_5
    clear b3
    go_upto_region 6 with fail
    have BEL7 := a_bel BEL6 (.cells #[.int .u64 0, .slice none 0 0] 25)
    have BOX7 := a_box BOX6 BEL6 (.cells #[.int .u64 0, .slice none 0 0] 25)
    have FA_a_7 := a_fact FA_a_6 (.cells #[.int .u64 0, .slice none 0 0] 25)
    have KB_bx_7 := a_blk KB_bx_6 (.cells #[.int .u64 0, .slice none 0 0] 25)
    have NE_bx_y := n_ne KB_bx_6
    have KB_x_7 := a_blk KB_x_6 (.cells #[.int .u64 0, .slice none 0 0] 25)
    have NE_x_y := n_ne KB_x_6
    have KB_y_7 := n_blk (u := ww4) 25 #[.int .u64 0, .slice none 0 0]
    clear BEL6 BOX6 FA_a_6 KB_bx_6 KB_x_6
    generalize (ww4.alloc (.cells #[.int .u64 0, .slice none 0 0] 25)) = u3 at BEL7 BOX7 FA_a_7 KB_bx_7 KB_x_7 KB_y_7 ⊢
    generalize ww4.heap.size = gy at BOX7 FA_a_7 KB_y_7 NE_bx_y NE_x_y ⊢
    go_wp2_with fail
    refine (gawake_any _).mono ?_
    rintro e ww99 ⟨rfl, b9⟩
    have BEL8 := h_bel BEL7 b9
    have BOX8 := h_box BOX7 b9
    have FA_a_8 := h_fact FA_a_7 b9
    have KB_bx_8 := h_blk KB_bx_7 b9
    have KB_x_8 := h_blk KB_x_7 b9
    have KB_y_8 := h_blk KB_y_7 b9
    clear BEL7 BOX7 FA_a_7 KB_bx_7 KB_x_7 KB_y_7
    clear b9
    go_wp2_with fail
    go_ret
    exact ⟨rfl, BEL8.out⟩
  have O2 : Hid (OkG R n (addG S n (addG S n Z s a2) s a3)) := o2
  have O3 : Hid (OkG R n (addG S n Z s (a2 + a3))) := SM.out.1 o2
  clear o2
  go_wp2_with fail
  refine ((gadd_any _ _ S R n Z s a2 FA_a_1.out.at OK.out uS (by omega) HFIT.out.1).mono (fun _ _ h => h.1 O1.out)).mono ?_
  rintro e ww2 ⟨xx, rfl, fx, b1⟩
  clear CE_bx_0 CE_bx_1 CE_bx_lt
  obtain ⟨vx, rfl, hvx⟩ := fx.at
  obtain ⟨Ax, cx, bbx, oox, rfl, hx1, hx2⟩ := hvx.read
  clear hx1 hx2 hvx
  have FA_x_2 : Hid (HeldX [w.heap.size] (fun uq => SgAt uq (.agg #[.int .u64 S, .slice Ax R cx]) S R (fun _ => n) (addG S n Z s a2)) ww2) := Held.new fx BOX1.out
  have BEL2 := h_bel BEL1 b1
  have BOX2 := h_box BOX1 b1
  have FA_a_2 := h_fact FA_a_1 b1
  have KB_bx_2 := h_blk KB_bx_1 b1
  clear BEL1 BOX1 FA_a_1 KB_bx_1
  clear b1 fx
  go_upto_region 4 with fail
  have BEL3 := a_bel BEL2 (.cells #[.int .u64 S, .slice Ax R cx] 25)
  have BOX3 := a_box BOX2 BEL2 (.cells #[.int .u64 S, .slice Ax R cx] 25)
  have FA_a_3 := a_fact FA_a_2 (.cells #[.int .u64 S, .slice Ax R cx] 25)
  have FA_x_3 := a_fact FA_x_2 (.cells #[.int .u64 S, .slice Ax R cx] 25)
  have KB_bx_3 := a_blk KB_bx_2 (.cells #[.int .u64 S, .slice Ax R cx] 25)
  have NE_bx_x := n_ne KB_bx_2
  have KB_x_3 := n_blk (u := ww2) 25 #[.int .u64 S, .slice Ax R cx]
  clear BEL2 BOX2 FA_a_2 FA_x_2 KB_bx_2
  generalize (ww2.alloc (.cells #[.int .u64 S, .slice Ax R cx] 25)) = u1 at BEL3 BOX3 FA_a_3 FA_x_3 KB_bx_3 KB_x_3 ⊢
  generalize ww2.heap.size = gx at BOX3 FA_a_3 FA_x_3 KB_x_3 NE_bx_x ⊢
  have CE_x_0 : u1.cell? ⟨gx, 0, none⟩ = some (.int .u64 S) := KB_x_3.out.cell 0
  have CF_x_0 : u1.frozen? ⟨gx, 0, none⟩ = false := KB_x_3.out.frozen 0
  have CE_x_1 : u1.cell? ⟨gx, 1, none⟩ = some (.slice Ax R cx) := KB_x_3.out.cell 1
  have CF_x_1 : u1.frozen? ⟨gx, 1, none⟩ = false := KB_x_3.out.frozen 1
  have CE_x_lt : gx < u1.heap.size := KB_x_3.out.lt
  go_wp2_with fail
  refine ((gadd_any _ _ S R n (addG S n Z s a2) s a3 FA_x_3.out.at O1.out uS (by omega) HFIT.out.2.1).mono (fun _ _ h => h.1 O2.out)).mono ?_
  rintro e ww3 ⟨xv, rfl, fv, b2⟩
  clear CE_x_0 CF_x_0 CE_x_1 CF_x_1 CE_x_lt
  obtain ⟨vv, rfl, hvv⟩ := fv.at
  obtain ⟨Av, cv, bbv, oov, rfl, hx1, hx2⟩ := hvv.read
  clear hx1 hx2 hvv
  have FA_v_4 : Hid (HeldX [gx, w.heap.size] (fun uq => SgAt uq (.agg #[.int .u64 S, .slice Av R cv]) S R (fun _ => n) (addG S n (addG S n Z s a2) s a3)) ww3) := Held.new fv BOX3.out
  have BEL4 := h_bel BEL3 b2
  have BOX4 := h_box BOX3 b2
  have FA_a_4 := h_fact FA_a_3 b2
  have FA_x_4 := h_fact FA_x_3 b2
  have KB_bx_4 := h_blk KB_bx_3 b2
  have KB_x_4 := h_blk KB_x_3 b2
  clear BEL3 BOX3 FA_a_3 FA_x_3 KB_bx_3 KB_x_3
  clear b2 fv
  clear FA_x_4
  have CE_x_0 : ww3.cell? ⟨gx, 0, none⟩ = some (.int .u64 S) := KB_x_4.out.cell 0
  have CF_x_0 : ww3.frozen? ⟨gx, 0, none⟩ = false := KB_x_4.out.frozen 0
  have CE_x_1 : ww3.cell? ⟨gx, 1, none⟩ = some (.slice Ax R cx) := KB_x_4.out.cell 1
  have CF_x_1 : ww3.frozen? ⟨gx, 1, none⟩ = false := KB_x_4.out.frozen 1
  have CE_x_lt : gx < ww3.heap.size := KB_x_4.out.lt
  go_upto_region 5 with fail
  clear CE_x_0 CF_x_0 CE_x_1 CF_x_1 CE_x_lt
  obtain ⟨u2, hv⟩ : ∃ q, q = ((ww3.setCell ⟨gx, 0, none⟩ (.int .u64 S)).setCell ⟨gx, 1, none⟩ (.slice Av R cv)) := ⟨_, rfl⟩
  rw [← hv]
  have pe : u2 = putCells ww3 gx 0 [.int .u64 S, .slice Av R cv] := hv
  clear hv
  have BEL5 := p_bel pe BEL4 BOX4 List.mem_cons_self
  have BOX5 := p_box pe BOX4
  have FA_a_5 := p_fact pe FA_a_4 List.mem_cons_self
  have FA_v_5 := p_fact pe FA_v_4 List.mem_cons_self
  have KB_bx_5 := p_oth pe KB_bx_4 NE_bx_x
  have KB_x_5 : Hid (Blk u2 gx 25 #[.int .u64 S, .slice Av R cv]) := p_blk pe KB_x_4 rfl
  clear pe BEL4 BOX4 FA_a_4 FA_v_4 KB_bx_4 KB_x_4
  have CE_bx_0 : u2.cell? ⟨w.heap.size, 0, none⟩ = some (.int .u64 S) := KB_bx_5.out.cell 0
  have CE_bx_1 : u2.cell? ⟨w.heap.size, 1, none⟩ = some (.slice A R cap) := KB_bx_5.out.cell 1
  have CE_bx_lt : w.heap.size < u2.heap.size := KB_bx_5.out.lt
  go_wp2_with fail
  refine ((gadd_any _ _ S R n Z s (a2 + a3) FA_a_5.out.at OK.out uS (by omega) HFIT.out.2.2).mono (fun _ _ h => h.1 O3.out)).mono ?_
  rintro e ww4 ⟨xy, rfl, fy, b3⟩
  clear CE_bx_0 CE_bx_1 CE_bx_lt
  obtain ⟨vy, rfl, hvy⟩ := fy.at
  obtain ⟨Ay, cy, bby, ooy, rfl, hx1, hx2⟩ := hvy.read
  clear hx1 hx2 hvy
  have FA_y_6 : Hid (HeldX [gx, w.heap.size] (fun uq => SgAt uq (.agg #[.int .u64 S, .slice Ay R cy]) S R (fun _ => n) (addG S n Z s (a2 + a3))) ww4) := Held.new fy BOX5.out
  have BEL6 := h_bel BEL5 b3
  have BOX6 := h_box BOX5 b3
  have FA_a_6 := h_fact FA_a_5 b3
  have FA_v_6 := h_fact FA_v_5 b3
  have KB_bx_6 := h_blk KB_bx_5 b3
  have KB_x_6 := h_blk KB_x_5 b3
  clear BEL5 BOX5 FA_a_5 FA_v_5 KB_bx_5 KB_x_5
  clear b3 fy
  go_upto_region 6 with fail
  have BEL7 := a_bel BEL6 (.cells #[.int .u64 S, .slice Ay R cy] 25)
  have BOX7 := a_box BOX6 BEL6 (.cells #[.int .u64 S, .slice Ay R cy] 25)
  have FA_a_7 := a_fact FA_a_6 (.cells #[.int .u64 S, .slice Ay R cy] 25)
  have FA_v_7 := a_fact FA_v_6 (.cells #[.int .u64 S, .slice Ay R cy] 25)
  have FA_y_7 := a_fact FA_y_6 (.cells #[.int .u64 S, .slice Ay R cy] 25)
  have KB_bx_7 := a_blk KB_bx_6 (.cells #[.int .u64 S, .slice Ay R cy] 25)
  have NE_bx_y := n_ne KB_bx_6
  have KB_x_7 := a_blk KB_x_6 (.cells #[.int .u64 S, .slice Ay R cy] 25)
  have NE_x_y := n_ne KB_x_6
  have KB_y_7 := n_blk (u := ww4) 25 #[.int .u64 S, .slice Ay R cy]
  clear BEL6 BOX6 FA_a_6 FA_v_6 FA_y_6 KB_bx_6 KB_x_6
  generalize (ww4.alloc (.cells #[.int .u64 S, .slice Ay R cy] 25)) = u3 at BEL7 BOX7 FA_a_7 FA_v_7 FA_y_7 KB_bx_7 KB_x_7 KB_y_7 ⊢
  generalize ww4.heap.size = gy at BOX7 FA_a_7 FA_v_7 FA_y_7 KB_y_7 NE_bx_y NE_x_y ⊢
  obtain ⟨G, hG⟩ : ∃ G, G = getG S R n Z s := ⟨_, rfl⟩
  obtain ⟨g0, g1⟩ := getG_fits OK.out s
  rw [← hG] at g0 g1
  have GV : Hid (getG S R n (addG S n (addG S n Z s a2) s a3) s = G + a2 + a3) := by rw [getG_add O1.out, getG_add OK.out, hG]; exact rfl
  have HG : Hid (G = getG S R n Z s) := hG
  clear hG
  have wd : IntKind.i64.wrap (G + a2) = G + a2 := by rw [IntKind.wrap_i64]; omega
  have we : IntKind.i64.wrap (G + a2 + a3) = G + a2 + a3 := by rw [IntKind.wrap_i64]; omega
  have ee : ((G + a2 + a3) == (G + a2 + a3)) = true := by simp
  have RX : Hid (∀ w1, Below u3.heap.size u3 w1 → Calls Try.prog 11 #[.agg #[.int .u64 S, .slice Av R cv]] w1 fun e w' => e = .returned (.agg #[.int .u64 S, .slice Av R cv]) ∧ Below u3.heap.size u3 w') := fun w1 b1 => (gref_any w1 _ S R _ _ (FA_v_7.out.since b1).at).mono fun e w' h => ⟨h.1, bel_trans b1 h.2⟩
  have RY : Hid (∀ w1, Below u3.heap.size u3 w1 → Calls Try.prog 11 #[.agg #[.int .u64 S, .slice Ay R cy]] w1 fun e w' => e = .returned (.agg #[.int .u64 S, .slice Ay R cy]) ∧ Below u3.heap.size u3 w') := fun w1 b1 => (gref_any w1 _ S R _ _ (FA_y_7.out.since b1).at).mono fun e w' h => ⟨h.1, bel_trans b1 h.2⟩
  have E1 : Hid (∀ w1, Below u3.heap.size u3 w1 → Calls Try.prog 10 #[.agg #[.int .u64 S, .slice Av R cv], .agg #[.int .u64 S, .slice Ay R cy]] w1 fun e w' => e = .returned (.bool true) ∧ Below u3.heap.size u3 w') := fun w1 b1 => (hequal_any w1 _ _ S S R R _ _ _ _ (FA_v_7.out.since b1).at (FA_y_7.out.since b1).at R2 (fun i hi => by show n ≤ 1000; omega)).mono fun e w' h => ⟨(told h true ⟨fun _ => ⟨rfl, rfl, fun i hi => ⟨rfl, fun j hj => addG_twice S n Z s a2 a3 i j⟩⟩, fun _ => rfl⟩).1, bel_trans b1 (told h true ⟨fun _ => ⟨rfl, rfl, fun i hi => ⟨rfl, fun j hj => addG_twice S n Z s a2 a3 i j⟩⟩, fun _ => rfl⟩).2⟩
  have GX : Hid (∀ w1, Below u3.heap.size u3 w1 → Calls Try.prog 16 #[.agg #[.int .u64 S, .slice Av R cv], .string s] w1 fun e w' => e = .returned (.int .i64 (G + a2 + a3)) ∧ Below u3.heap.size u3 w') := fun w1 b1 => (gget_ok w1 _ S R n (addG S n (addG S n Z s a2) s a3) s (FA_v_7.out.since b1).at O2.out uS (by omega)).mono fun e w' h => ⟨(by rw [← GV.out]; exact h.1), bel_trans b1 h.2⟩
  have GS : Hid (∀ w1, Below u3.heap.size u3 w1 → Calls Try.prog 16 #[.agg #[.int .u64 S, .slice A R cap], .string s] w1 fun e w' => e = .returned (.int .i64 G) ∧ Below u3.heap.size u3 w') := fun w1 b1 => (gget_ok w1 _ S R n Z s (FA_a_7.out.since b1).at OK.out uS (by omega)).mono fun e w' h => ⟨(by rw [HG.out]; exact h.1), bel_trans b1 h.2⟩
  have WA : Hid (∀ w1, Below u3.heap.size u3 w1 → Calls Try.prog 12 #[] w1 fun e w' => e = .returned (.bool true) ∧ Below u3.heap.size u3 w') := fun w1 b1 => (gawake_any w1).mono fun e w' h => ⟨h.1, bel_trans b1 h.2⟩
  have KS : Hid (∀ w' : World, Below u3.heap.size u3 w' → (w'.cell? ⟨gx, 0, none⟩ = some (.int .u64 S) ∧ w'.cell? ⟨gx, 1, none⟩ = some (.slice Av R cv) ∧ w'.cell? ⟨gy, 0, none⟩ = some (.int .u64 S) ∧ w'.cell? ⟨gy, 1, none⟩ = some (.slice Ay R cy) ∧ w'.cell? ⟨w.heap.size, 0, none⟩ = some (.int .u64 S) ∧ w'.cell? ⟨w.heap.size, 1, none⟩ = some (.slice A R cap))) := fun w' b1 => ⟨(KB_x_7.out.since b1).cell 0, (KB_x_7.out.since b1).cell 1, (KB_y_7.out.since b1).cell 0, (KB_y_7.out.since b1).cell 1, (KB_bx_7.out.since b1).cell 0, (KB_bx_7.out.since b1).cell 1⟩
  have Z0 : Hid (Below u3.heap.size u3 u3.drew) := (Below.refl _ _).drew
  have CE_bx_0 : u3.cell? ⟨w.heap.size, 0, none⟩ = some (.int .u64 S) := KB_bx_7.out.cell 0
  have CE_bx_1 : u3.cell? ⟨w.heap.size, 1, none⟩ = some (.slice A R cap) := KB_bx_7.out.cell 1
  have CE_bx_lt : w.heap.size < u3.heap.size := KB_bx_7.out.lt
  have CE_x_0 : u3.cell? ⟨gx, 0, none⟩ = some (.int .u64 S) := KB_x_7.out.cell 0
  have CE_x_1 : u3.cell? ⟨gx, 1, none⟩ = some (.slice Av R cv) := KB_x_7.out.cell 1
  have CE_x_lt : gx < u3.heap.size := KB_x_7.out.lt
  have CE_y_0 : u3.cell? ⟨gy, 0, none⟩ = some (.int .u64 S) := KB_y_7.out.cell 0
  have CE_y_1 : u3.cell? ⟨gy, 1, none⟩ = some (.slice Ay R cy) := KB_y_7.out.cell 1
  have CE_y_lt : gy < u3.heap.size := KB_y_7.out.lt
  clear FA_a_7 FA_v_7 FA_y_7
  go_wp2_with fail
  go_region_held3 (fun w' => w'.cell? ⟨gx, 0, none⟩ = some (.int .u64 S) ∧ w'.cell? ⟨gx, 1, none⟩ = some (.slice Av R cv) ∧ w'.cell? ⟨gy, 0, none⟩ = some (.int .u64 S) ∧ w'.cell? ⟨gy, 1, none⟩ = some (.slice Ay R cy) ∧ w'.cell? ⟨w.heap.size, 0, none⟩ = some (.int .u64 S) ∧ w'.cell? ⟨w.heap.size, 1, none⟩ = some (.slice A R cap)) (first | exact KS.out _ Z6.out | exact KS.out _ Z5.out | exact KS.out _ Z4.out | exact KS.out _ Z3.out | exact KS.out _ Z2.out | exact KS.out _ Z1.out | exact KS.out _ Z0.out | go_keep) (first
    | (have fl := Z5; clear fl; go_simp; go_at_call 12; refine (WA.out _ Z5.out).mono ?_; rintro e q6 ⟨rfl, cc⟩; have Z6 : Hid (Below u3.heap.size u3 q6) := cc; clear cc)
    | (have fl := Z4; clear fl; go_simp; go_at_call 16; refine (GS.out _ Z4.out).mono ?_; rintro e q5 ⟨rfl, cc⟩; have Z5 : Hid (Below u3.heap.size u3 q5) := cc; clear cc)
    | (have fl := Z3; clear fl; go_simp; go_at_call 16; refine (GX.out _ Z3.out).mono ?_; rintro e q4 ⟨rfl, cc⟩; have Z4 : Hid (Below u3.heap.size u3 q4) := cc; clear cc)
    | (have fl := Z2; clear fl; go_simp; go_at_call 10; refine (E1.out _ Z2.out).mono ?_; rintro e q3 ⟨rfl, cc⟩; have Z3 : Hid (Below u3.heap.size u3 q3) := cc; clear cc)
    | (have fl := Z1; clear fl; go_simp; go_at_call 11; refine (RY.out _ Z1.out).mono ?_; rintro e q2 ⟨rfl, cc⟩; have Z2 : Hid (Below u3.heap.size u3 q2) := cc; clear cc)
    | (have fl := Z0; clear fl; go_simp; go_at_call 11; refine (RX.out _ Z0.out).mono ?_; rintro e q1 ⟨rfl, cc⟩; have Z1 : Hid (Below u3.heap.size u3 q1) := cc; clear cc))
  all_goals go_wp2_with fail
  all_goals go_ret
  all_goals exact ⟨by first | rfl | simp, bel_trans BEL7.out Z6.out⟩

/-! ### The row -/
theorem laidOut : laidOutB Try.prog = true := by kernel_rfl
set_option maxRecDepth 100000 in
theorem lifted (os : Os) (started : os.Started) (H : Type) (enc : TypeId × Value → H) :
    ReturnsInHanded {} Try.checked os 8 .any (Rows.signedTwiceSpec.pre6 enc Try.prog Try.f8 Rows.signedTwiceRow.domain false) (Rows.signedTwiceSpec.post enc Try.prog Try.f8 false true false false) := by
  refine returnsInHanded_of_change (C := Try.checked) own started (by kernel_rfl) Try.func8
    (ChangeSpec.witness6 (enc := enc) (C := Try.checked) false ⟨#[], #[.agg #[.int .u64 0, .slice none 0 0], .string ⟨#[]⟩, .int .i32 0, .int .i32 0], []⟩ 8 (by kernel_rfl) (by kernel_rfl) (by kernel_rfl) (by kernel_rfl)) ?_
  intro W base args ds gs before hval0 hW hcnd _
  have hval : ∀ (j : Nat) t v, Try.f8.params[j]? = some t → args[j]? = some v → Value.okWide Try.prog W .any base t v := hval0
  have hW' := hW
  obtain ⟨p, q, hA0, hV, rfl, hfz, hnd⟩ := hW
  have hA : DataW.TrodAll enc Try.prog W 0 (fun _ => true) true Try.f8.params.toList args.toList ds p := hA0
  rw [Try.params8] at hA hval
  obtain ⟨v0, vs0, d0, ds0, p0, q0, hargs, rfl, rfl, h0, r0⟩ := trodAll_cons hA
  obtain ⟨v1, vs1, d1, ds1, p1, q1, rfl, rfl, rfl, h1, r1⟩ := trodAll_cons r0
  obtain ⟨v2, vs2, d2, ds2, p2, q2, rfl, rfl, rfl, h2, r2⟩ := trodAll_cons r1
  obtain ⟨v3, vs3, d3, ds3, p3, q3, rfl, rfl, rfl, h3, r3⟩ := trodAll_cons r2
  obtain ⟨rfl, rfl, rfl⟩ := trodAll_nil r3
  obtain rfl : args = #[v0, v1, v2, v3] := by cases args; simp_all
  obtain ⟨rfl, rfl⟩ := trodVars_none hV
  have k0 := h0
  have lt0 : ∀ x ∈ p0, x.block < W.heap.size := by obtain ⟨m, hm⟩ := k0; exact DataW.trod_lt m _ _ _ hm
  obtain ⟨F0, w0⟩ := open_sg (hval 0 25 v0 rfl rfl) h0
  obtain ⟨a1, rfl, rfl, rfl, w1⟩ := open_string Try.underlying9 (hval 1 9 v1 rfl rfl) h1
  obtain ⟨a2, rfl, rfl, rfl, w2⟩ := open_int Try.underlying21 (hval 2 21 v2 rfl rfl) h2
  obtain ⟨a3, rfl, rfl, rfl, w3⟩ := open_int Try.underlying21 (hval 3 21 v3 rfl rfl) h3
  clear hA0 hval0
  refine (walk v0 F0 a1 a2 a3 W w0 w1 w2 w3).mono fun e W' ⟨he, bel⟩ => ?_
  subst he
  exact ⟨_, rfl, _, _, _, [], _, [], hW', trodAll_mk1 (shut_bool Try.underlying4 _), (trodAll_cons_mk (Below.trod laidOut (by kernel_rfl) (of_decide_eq_true (by kernel_rfl)) k0 bel lt0) (trodAll_cons_mk (shut_string Try.underlying9 w1) (trodAll_cons_mk (shut_int Try.underlying21 w2) (trodAll_cons_mk (shut_int Try.underlying21 w3) trodAll_mk0)))), rfl, bel.frame _, fun h => by cases h⟩

theorem over : Rows.signedTwiceRow.holds Try.pinned (OpenSpec.ofChange Rows.signedTwiceSpec) :=
  OpenClaim.holds_of_wide 8 Try.f8 rfl rfl rfl rfl rfl rfl rfl ⟨rfl, rfl, rfl, rfl, rfl⟩ rfl rfl rfl rfl rfl (by kernel_rfl) Try.func8 (by kernel_rfl)
    (of_decide_eq_true (by kernel_rfl)) (by unfold Func.isWrapper; first | (rw [if_pos (by decide +kernel)]; kernel_rfl) | (rw [if_neg (by decide +kernel)]; exact ⟨rfl, rfl⟩))
    (fun os started H enc _ => lifted os started H enc)

theorem proved : Rows.SignedTwiceSaid := over
end Go.Proofs.Ytpjpgcjlbfgkdaa.signedTwice
namespace Go.Proofs.Ytpjpgcjlbfgkdaa
theorem signedTwice_holds : Rows.SignedTwiceSaid := signedTwice.proved
#print axioms signedTwice_holds
end Go.Proofs.Ytpjpgcjlbfgkdaa
