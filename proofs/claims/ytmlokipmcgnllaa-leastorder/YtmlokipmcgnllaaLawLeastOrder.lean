
/-
  LeastOrder: the order of items does not matter, and two sketches merged are one to which all was added. No condition.
-/
import Derived.Test.YtmlokipmcgnllaaRows
import Derived.Test.YtmlokipmcgnllaaLstAwake
import Derived.Test.YtmlokipmcgnllaaLstMerge
import Derived.Test.YtmlokipmcgnllaaLstRef
import Derived.Test.YtmlokipmcgnllaaRegKit
import Derived.WalkKit
import Derived.ProofKit
import Derived.OpenShut
import Derived.ShutString
import Derived.ChangeOld
import Derived.ChangeMaps5
import Derived.Below
import Derived.Carry
import Derived.Laws.StructEq
import Derived.BigQuiet
import Derived.Deep.Cut
import Derived.Deep.CutRange
import Derived.Deep.RegionHeld
namespace Go.Proofs.Ytmlokipmcgnllaa.leastOrder
open Fm Bl Lt L2 Go.Deep
open Go.ChangeShapes Go.WideShapes Go.ChangeAt Go.RowKit Go.ChangeMaps
set_option linter.unusedVariables false

theorem own : ownKnob Try.prog.godebug = none := by kernel_rfl

set_option maxRecDepth 8000 in
set_option maxHeartbeats 40000000 in
theorem walk (a0 a1 a2 a3 : Int) (v4 : Value) (F4 : Its) (v5 : Value) (F5 : Its) (w : World) (w0 : (Lit.int .u64 a0).wf = true) (w1 : (Lit.int .i64 a1).wf = true) (w2 : (Lit.int .i64 a2).wf = true) (w3 : (Lit.int .i64 a3).wf = true) (h4 : ItemsIn w v4 F4) (h5 : ItemsIn w v5 F5) :
    Calls Try.prog 7 #[.int .u64 a0, .int .i64 a1, .int .i64 a2, .int .i64 a3, v4, v5] w fun e w' => e = .returned (.bool true) ∧ Below w.heap.size w w' := by
  have uS : U a0 := bounds_u64 w0
  obtain ⟨m, K, q⟩ := F4
  obtain ⟨hL, hm, hk⟩ := h4
  obtain ⟨p, J, r⟩ := F5
  obtain ⟨hM, hp, hj⟩ := h5
  simp only at hL hm hk hM hp hj
  obtain ⟨Al, capl, bl, ol, rfl, _, _, _⟩ := id hL
  obtain ⟨Ak, capk, bk, ok, rfl, _, _, _⟩ := id hM
  have LA : Hid (ItAt w (.slice Al m capl) m K q) := hL
  have LB : Hid (ItAt w (.slice Ak p capk) p J r) := hM
  clear hL hM
  by_cases hf : fitsL a1 a2 a3 = true
  rotate_left
  · have BEL0 : Hid (Below w.heap.size w w) := Below.refl _ _
    have BOX0 : Hid (Boxes w w []) := boxes_none w w
    have hff : fitsL a1 a2 a3 = false := by simpa using hf
    clear hf
    go_enter Try.func7, Try.ntmps7
    go_wp2_with fail
    refine (new_bad a0 a1 a2 a3 _ hff).mono ?_
    rintro e ww1 ⟨rfl, b1⟩
    have BEL1 := h_bel BEL0 b1
    have BOX1 := h_box BOX0 b1
    clear BEL0 BOX0
    clear b1
    have BEL2 := a_bel BEL1 (.cells #[.int .u64 0, .int .i64 0, .slice none 0 0] 25)
    have BOX2 := a_box BOX1 BEL1 (.cells #[.int .u64 0, .int .i64 0, .slice none 0 0] 25)
    have KB_f_2 := n_blk (u := ww1) 25 #[.int .u64 0, .int .i64 0, .slice none 0 0]
    clear BEL1 BOX1
    go_wp2_with fail
    refine (awake_any _).mono ?_
    rintro e ww99 ⟨rfl, b9⟩
    have BEL3 := h_bel BEL2 b9
    have BOX3 := h_box BOX2 b9
    have KB_f_3 := h_blk KB_f_2 b9
    clear BEL2 BOX2 KB_f_2
    clear b9
    go_wp2_with fail
    go_ret
    exact ⟨rfl, BEL3.out⟩
  have BEL0 : Hid (Below w.heap.size w w) := Below.refl _ _
  have BOX0 : Hid (Boxes w w []) := boxes_none w w
  have hR := (fitsL_iff _ _ _).1 hf
  obtain ⟨R, rfl⟩ : ∃ R : Nat, a1 = R := ⟨a1.toNat, by omega⟩
  obtain ⟨n, rfl⟩ : ∃ n : Nat, a2 = n := ⟨a2.toNat, by omega⟩
  have r1 : 1 ≤ R := by omega
  have r2 : R ≤ 7 := by omega
  have n1 : 1 ≤ n := by omega
  have n2 : n ≤ 256 := by omega
  have m1 : 1 ≤ a3 := by omega
  have m2 : a3 ≤ 1099511627776 := by omega
  have HF : Hid (fitsL R n a3 = true) := hf
  have OK : Hid (OkP a3 R n (fun _ _ => 0)) := ok_none (S := 1) hf
  clear hR hf
  go_enter Try.func7, Try.ntmps7
  go_wp2_with fail
  refine (new_ok a0 a3 R n _ HF.out).mono ?_
  rintro e ww1 ⟨x1, rfl, f1, b1⟩
  obtain ⟨vf, rfl, hvf⟩ := f1.at
  obtain ⟨Af, cf, bbf, oof, rfl, hx1, hx2⟩ := hvf.read
  clear hx1 hx2 hvf
  have FA_f_1 : Hid (HeldX [] (fun uq => SkAt uq (.agg #[.int .u64 a0, .int .i64 a3, .slice Af R cf]) a0 a3 R (fun _ => n) (fun _ _ => 0)) ww1) := Held.new f1 BOX0.out
  have BEL1 := h_bel BEL0 b1
  have BOX1 := h_box BOX0 b1
  clear BEL0 BOX0
  clear b1 f1
  have BEL2 := a_bel BEL1 (.cells #[.int .u64 a0, .int .i64 a3, .slice Af R cf] 25)
  have BOX2 := a_box BOX1 BEL1 (.cells #[.int .u64 a0, .int .i64 a3, .slice Af R cf] 25)
  have FA_f_2 := a_fact FA_f_1 (.cells #[.int .u64 a0, .int .i64 a3, .slice Af R cf] 25)
  have KB_f_2 := n_blk (u := ww1) 25 #[.int .u64 a0, .int .i64 a3, .slice Af R cf]
  clear BEL1 BOX1 FA_f_1
  go_wp2_with fail
  refine (few_any _ _ m K q (LA.out.keep (keep_of_below BEL2.out)) hm (fun i hi => (hk i hi).1)).mono ?_
  rintro e ww2 ⟨B, rfl, hB, hw⟩
  obtain rfl := hw
  have HB : Hid (B = true ↔ FewP m K q) := hB
  clear hB
  cases B
  · go_wp2_with fail
    refine (awake_any _).mono ?_
    rintro e ww99 ⟨rfl, b9⟩
    have BEL3 := h_bel BEL2 b9
    have BOX3 := h_box BOX2 b9
    have FA_f_3 := h_fact FA_f_2 b9
    have KB_f_3 := h_blk KB_f_2 b9
    clear BEL2 BOX2 FA_f_2 KB_f_2
    clear b9
    go_wp2_with fail
    go_ret
    exact ⟨rfl, BEL3.out⟩
  obtain ⟨m40, hk2⟩ := HB.out.1 rfl
  have HK : Hid (∀ i, i < m → (K i).size ≤ 100 ∧ 0 ≤ q i ∧ q i ≤ 1073741824) := hk2
  clear HB hk hk2
  go_wp2_with fail
  refine (few_any _ _ p J r (LB.out.keep (keep_of_below BEL2.out)) hp (fun i hi => (hj i hi).1)).mono ?_
  rintro e ww2 ⟨B, rfl, hB, hw⟩
  obtain rfl := hw
  have HC : Hid (B = true ↔ FewP p J r) := hB
  clear hB
  cases B
  · go_wp2_with fail
    refine (awake_any _).mono ?_
    rintro e ww99 ⟨rfl, b9⟩
    have BEL3 := h_bel BEL2 b9
    have BOX3 := h_box BOX2 b9
    have FA_f_3 := h_fact FA_f_2 b9
    have KB_f_3 := h_blk KB_f_2 b9
    clear BEL2 BOX2 FA_f_2 KB_f_2
    clear b9
    go_wp2_with fail
    go_ret
    exact ⟨rfl, BEL3.out⟩
  obtain ⟨p40, hk2⟩ := HC.out.1 rfl
  have HJ : Hid (∀ i, i < p → (J i).size ≤ 100 ∧ 0 ≤ r i ∧ r i ≤ 1073741824) := hk2
  clear HC hj hk2
  have OKX : Hid (OkP a3 R n (addsZ a0 a3 n (fun _ _ => 0) K q m)) := OkP.adds OK.out K (fun t ht => (HK.out t ht).2.1)
  have OKY : Hid (OkP a3 R n (addsZ a0 a3 n (fun _ _ => 0) J r p)) := OkP.adds OK.out J (fun t ht => (HJ.out t ht).2.1)
  have NQ : Hid (∀ t, t < m → 0 ≤ q t) := fun t ht => (HK.out t ht).2.1
  have NR : Hid (∀ t, t < p → 0 ≤ r t) := fun t ht => (HJ.out t ht).2.1
  go_upto_region 4 with fail
  generalize (ww1.alloc (.cells #[.int .u64 a0, .int .i64 a3, .slice Af R cf] 25)) = u1 at BEL2 BOX2 FA_f_2 KB_f_2 ⊢
  generalize ww1.heap.size = gf at BOX2 FA_f_2 KB_f_2 ⊢
  refine letterQ ?_
  intro QQ hQQ
  have BEL3 := h_bel BEL2 ((Below.refl _ _).drew)
  have BOX3 := h_box BOX2 ((Below.refl _ _).drew)
  have FA_f_3 := h_fact FA_f_2 ((Below.refl _ _).drew)
  have KB_f_3 := h_blk KB_f_2 ((Below.refl _ _).drew)
  clear BEL2 BOX2 FA_f_2 KB_f_2
  refine wp_region_held_drew (S := (fun w' => Blk w' gf 25 #[.int .u64 a0, .int .i64 a3, .slice Af R cf])) (by kernel_rfl) KB_f_3.out (fun hHeld => ?_)
  clear hHeld
  generalize u1.drew = v1 at BEL3 BOX3 FA_f_3 KB_f_3 ⊢
  refine wpAnyH_take (i := 0) (v := ?_) rfl (by kernel_rfl) (by kernel_rfl) (by kernel_rfl) (fun _ _ _ h => h) (Or.inl ⟨by rfl, ?_⟩) KB_f_3.out ?_
  rotate_left
  · intro wq hSw; have cl0 := hSw.cell 0; have cl1 := hSw.cell 1; have cl2 := hSw.cell 2; go_simp; first | done | with_reducible rfl
  simp only [List.getElem_toArray, List.getElem_cons_zero, Act.put, List.setIfInBounds_toArray, List.set_cons_zero, List.set_cons_succ]
  refine wpAnyH_take (i := 1) (v := ?_) rfl (by kernel_rfl) (by kernel_rfl) (by kernel_rfl) (fun _ _ _ h => h) (Or.inl ⟨by rfl, ?_⟩) KB_f_3.out ?_
  rotate_left
  · intro wq hSw; go_simp; first | done | with_reducible rfl
  simp only [List.getElem_toArray, List.getElem_cons_zero, List.getElem_cons_succ, Act.put, List.setIfInBounds_toArray, List.set_cons_zero, List.set_cons_succ]
  refine wpAnyH_take (i := 3) (v := ?_) rfl (by kernel_rfl) (by kernel_rfl) (by kernel_rfl) (fun _ _ _ h => h) (Or.inl ⟨by rfl, ?_⟩) KB_f_3.out ?_
  rotate_left
  · intro wq hSw; go_simp; first | done | with_reducible rfl
  simp only [List.getElem_toArray, List.getElem_cons_zero, List.getElem_cons_succ, Act.put, List.setIfInBounds_toArray, List.set_cons_zero, List.set_cons_succ]
  refine wpAnyH_take (i := 5) (v := ?_) rfl (by kernel_rfl) (by kernel_rfl) (by kernel_rfl) (fun _ _ _ h => h) (Or.inl ⟨by rfl, ?_⟩) KB_f_3.out ?_
  rotate_left
  · intro wq hSw; have cl0 := hSw.cell 0; have cl1 := hSw.cell 1; have cl2 := hSw.cell 2; go_simp; first | done | with_reducible rfl
  simp only [List.getElem_toArray, List.getElem_cons_zero, List.getElem_cons_succ, Act.put, List.setIfInBounds_toArray, List.set_cons_zero, List.set_cons_succ]
  refine wpAnyH_take (i := 6) (v := ?_) rfl (by kernel_rfl) (by kernel_rfl) (by kernel_rfl) (fun _ _ _ h => h) (Or.inl ⟨by rfl, ?_⟩) KB_f_3.out ?_
  rotate_left
  · intro wq hSw; go_simp; first | done | with_reducible rfl
  simp only [List.getElem_toArray, List.getElem_cons_zero, List.getElem_cons_succ, Act.put, List.setIfInBounds_toArray, List.set_cons_zero, List.set_cons_succ]
  refine wpAnyH_take (i := 8) (v := ?_) rfl (by kernel_rfl) (by kernel_rfl) (by kernel_rfl) (fun _ _ _ h => h) (Or.inl ⟨by rfl, ?_⟩) KB_f_3.out ?_
  rotate_left
  · intro wq hSw; go_simp; first | done | with_reducible rfl
  simp only [List.getElem_toArray, List.getElem_cons_zero, List.getElem_cons_succ, Act.put, List.setIfInBounds_toArray, List.set_cons_zero, List.set_cons_succ]
  refine letterT (T := wpAnyH _ _ _ _ _) ?_
  intro TT hTU hUT
  refine letterA ?_
  intro act0 hact
  have ND_4_xy : Hid (∀ (v : World) (Ax : Option Addr) (cx : Nat) (AP : Option Addr) (cP : Nat) (Ay : Option Addr) (cy : Nat) (AQ : Option Addr) (cQ : Nat) (gx : Nat) (gy : Nat) (ll : Array Bool) (aa : Act), ll = #[true, true, true, true, true, true, true, true, true, true, true, true, false, false] → aa = ((((((act0.put (some 42) (.agg #[.int .u64 a0, .int .i64 a3, .slice Ax R cx])).put (some 44) (.agg #[.int .u64 a0, .int .i64 a3, .slice AP R cP])).put (some 47) (.agg #[.int .u64 a0, .int .i64 a3, .slice Ay R cy])).put (some 49) (.agg #[.int .u64 a0, .int .i64 a3, .slice AQ R cQ])).put (some 15) (.pointer (some ⟨gx, 0, none⟩))).put (some 16) (.pointer (some ⟨gy, 0, none⟩))) → Hid (Below w.heap.size w v) → Hid (Boxes w v [gy, gx, gf]) → Hid (HeldX [gy, gx, gf] (fun uq => SkAt uq (.agg #[.int .u64 a0, .int .i64 a3, .slice Af R cf]) a0 a3 R (fun _ => n) (fun _ _ => 0)) v) → Hid (HeldX [gy, gx, gf] (fun uq => SkAt uq (.agg #[.int .u64 a0, .int .i64 a3, .slice AP R cP]) a0 a3 R (fun _ => n) (addsZ a0 a3 n (addsZ a0 a3 n (fun _ _ => 0) K q m) J r p)) v) → Hid (HeldX [gy, gx, gf] (fun uq => SkAt uq (.agg #[.int .u64 a0, .int .i64 a3, .slice AQ R cQ]) a0 a3 R (fun _ => n) (addsZ a0 a3 n (addsZ a0 a3 n (fun _ _ => 0) J r p) K q m)) v) → Hid (Blk v gf 25 #[.int .u64 a0, .int .i64 a3, .slice Af R cf]) → Hid (Blk v gx 25 #[.int .u64 0, .int .i64 0, .slice none 0 0]) → Hid (Blk v gy 25 #[.int .u64 0, .int .i64 0, .slice none 0 0]) → Hid (gf ≠ gx) → Hid (gf ≠ gy) → Hid (gx ≠ gy) → TT 2 ll aa v) := by
    intro v Ax cx AP cP Ay cy AQ cQ gx gy ll aa hl hA BEL103 BOX103 FA_f_103 FA_P_103 FA_Q_103 KB_f_103 KB_x_103 KB_y_103 NE_f_x NE_f_y NE_x_y
    rw [hact.out] at hA
    try simp only [Act.put, List.setIfInBounds_toArray, List.set_cons_zero, List.set_cons_succ] at hA
    subst hl hA
    refine hUT.out _ _ _ _ ?_
    refine wpAnyH_ready (rs := [12]) (by kernel_rfl) (by simp) ?_
    refine AllReadyH.cons rfl (fun K0 hK0 => ?_) ?_
    rotate_left
    · exact AllReadyH.nil
    have CE_x_0 : v.cell? ⟨gx, 0, none⟩ = some (.int .u64 0) := KB_x_103.out.cell 0
    have CF_x_0 : v.frozen? ⟨gx, 0, none⟩ = false := KB_x_103.out.frozen 0
    have CE_x_1 : v.cell? ⟨gx, 1, none⟩ = some (.int .i64 0) := KB_x_103.out.cell 1
    have CF_x_1 : v.frozen? ⟨gx, 1, none⟩ = false := KB_x_103.out.frozen 1
    have CE_x_2 : v.cell? ⟨gx, 2, none⟩ = some (.slice none 0 0) := KB_x_103.out.cell 2
    have CF_x_2 : v.frozen? ⟨gx, 2, none⟩ = false := KB_x_103.out.frozen 2
    have CE_x_lt : gx < v.heap.size := KB_x_103.out.lt
    go_simp
    clear CE_x_0 CF_x_0 CE_x_1 CF_x_1 CE_x_2 CF_x_2 CE_x_lt
    obtain ⟨vs1, hv⟩ : ∃ q, q = (((v.setCell ⟨gx, 0, none⟩ (.int .u64 a0)).setCell ⟨gx, 1, none⟩ (.int .i64 a3)).setCell ⟨gx, 2, none⟩ (.slice AP R cP)) := ⟨_, rfl⟩
    rw [← hv]
    have pe : vs1 = putCells v gx 0 [.int .u64 a0, .int .i64 a3, .slice AP R cP] := hv
    clear hv
    have BEL104 := p_bel pe BEL103 BOX103 (List.mem_cons_of_mem _ List.mem_cons_self)
    have BOX104 := p_box pe BOX103
    have FA_f_104 := p_fact pe FA_f_103 (List.mem_cons_of_mem _ List.mem_cons_self)
    have FA_P_104 := p_fact pe FA_P_103 (List.mem_cons_of_mem _ List.mem_cons_self)
    have FA_Q_104 := p_fact pe FA_Q_103 (List.mem_cons_of_mem _ List.mem_cons_self)
    have KB_f_104 := p_oth pe KB_f_103 NE_f_x
    have KB_x_104 : Hid (Blk vs1 gx 25 #[.int .u64 a0, .int .i64 a3, .slice AP R cP]) := p_blk pe KB_x_103 rfl
    have KB_y_104 := p_oth pe KB_y_103 (n_sym NE_x_y)
    clear pe BEL103 BOX103 FA_f_103 FA_P_103 FA_Q_103 KB_f_103 KB_x_103 KB_y_103
    refine hK0.out _ _ (by exact KB_f_104.out) (fun hHeld => ?_)
    clear hK0 K0 hHeld
    refine wpAnyH_ready (rs := [13]) (by kernel_rfl) (by simp) ?_
    refine AllReadyH.cons rfl (fun K0 hK0 => ?_) ?_
    rotate_left
    · exact AllReadyH.nil
    have CE_y_0 : vs1.cell? ⟨gy, 0, none⟩ = some (.int .u64 0) := KB_y_104.out.cell 0
    have CF_y_0 : vs1.frozen? ⟨gy, 0, none⟩ = false := KB_y_104.out.frozen 0
    have CE_y_1 : vs1.cell? ⟨gy, 1, none⟩ = some (.int .i64 0) := KB_y_104.out.cell 1
    have CF_y_1 : vs1.frozen? ⟨gy, 1, none⟩ = false := KB_y_104.out.frozen 1
    have CE_y_2 : vs1.cell? ⟨gy, 2, none⟩ = some (.slice none 0 0) := KB_y_104.out.cell 2
    have CF_y_2 : vs1.frozen? ⟨gy, 2, none⟩ = false := KB_y_104.out.frozen 2
    have CE_y_lt : gy < vs1.heap.size := KB_y_104.out.lt
    go_simp
    clear CE_y_0 CF_y_0 CE_y_1 CF_y_1 CE_y_2 CF_y_2 CE_y_lt
    obtain ⟨vs2, hv⟩ : ∃ q, q = (((vs1.setCell ⟨gy, 0, none⟩ (.int .u64 a0)).setCell ⟨gy, 1, none⟩ (.int .i64 a3)).setCell ⟨gy, 2, none⟩ (.slice AQ R cQ)) := ⟨_, rfl⟩
    rw [← hv]
    have pe : vs2 = putCells vs1 gy 0 [.int .u64 a0, .int .i64 a3, .slice AQ R cQ] := hv
    clear hv
    have BEL105 := p_bel pe BEL104 BOX104 List.mem_cons_self
    have BOX105 := p_box pe BOX104
    have FA_f_105 := p_fact pe FA_f_104 List.mem_cons_self
    have FA_P_105 := p_fact pe FA_P_104 List.mem_cons_self
    have FA_Q_105 := p_fact pe FA_Q_104 List.mem_cons_self
    have KB_f_105 := p_oth pe KB_f_104 NE_f_y
    have KB_x_105 := p_oth pe KB_x_104 NE_x_y
    have KB_y_105 : Hid (Blk vs2 gy 25 #[.int .u64 a0, .int .i64 a3, .slice AQ R cQ]) := p_blk pe KB_y_104 rfl
    clear pe BEL104 BOX104 FA_f_104 FA_P_104 FA_Q_104 KB_f_104 KB_x_104 KB_y_104
    refine hK0.out _ _ (by exact KB_f_105.out) (fun hHeld => ?_)
    clear hK0 K0 hHeld
    refine wpAnyH_done (by kernel_rfl) ?_ _
    refine NoPanic.normal ?_
    refine hQQ.out _ _ ?_
    clear hTU hUT hact hQQ
    generalize vs2 = v5 at BEL105 BOX105 FA_f_105 FA_P_105 FA_Q_105 KB_f_105 KB_x_105 KB_y_105 ⊢
    go_wp2_with fail
    refine letterQ ?_
    intro QQ hQQ
    have BEL106 := h_bel BEL105 ((Below.refl _ _).drew)
    have BOX106 := h_box BOX105 ((Below.refl _ _).drew)
    have FA_f_106 := h_fact FA_f_105 ((Below.refl _ _).drew)
    have FA_P_106 := h_fact FA_P_105 ((Below.refl _ _).drew)
    have FA_Q_106 := h_fact FA_Q_105 ((Below.refl _ _).drew)
    have KB_f_106 := h_blk KB_f_105 ((Below.refl _ _).drew)
    have KB_x_106 := h_blk KB_x_105 ((Below.refl _ _).drew)
    have KB_y_106 := h_blk KB_y_105 ((Below.refl _ _).drew)
    clear BEL105 BOX105 FA_f_105 FA_P_105 FA_Q_105 KB_f_105 KB_x_105 KB_y_105
    refine wp_region_held_drew (S := (fun w' => Blk w' gf 25 #[.int .u64 a0, .int .i64 a3, .slice Af R cf])) (by kernel_rfl) KB_f_106.out (fun hHeld => ?_)
    clear hHeld
    generalize v5.drew = v6 at BEL106 BOX106 FA_f_106 FA_P_106 FA_Q_106 KB_f_106 KB_x_106 KB_y_106 ⊢
    refine wpAnyH_take (i := 0) (v := ?_) rfl (by kernel_rfl) (by kernel_rfl) (by kernel_rfl) (fun _ _ _ h => h) (Or.inl ⟨by rfl, ?_⟩) KB_f_106.out ?_
    rotate_left
    · intro wq hSw; have cl0 := hSw.cell 0; have cl1 := hSw.cell 1; have cl2 := hSw.cell 2; go_simp; first | done | with_reducible rfl
    simp only [List.getElem_toArray, List.getElem_cons_zero, Act.put, List.setIfInBounds_toArray, List.set_cons_zero, List.set_cons_succ]
    refine wpAnyH_take (i := 1) (v := ?_) rfl (by kernel_rfl) (by kernel_rfl) (by kernel_rfl) (fun _ _ _ h => h) (Or.inl ⟨by rfl, ?_⟩) KB_f_106.out ?_
    rotate_left
    · intro wq hSw; go_simp; first | done | with_reducible rfl
    simp only [List.getElem_toArray, List.getElem_cons_zero, List.getElem_cons_succ, Act.put, List.setIfInBounds_toArray, List.set_cons_zero, List.set_cons_succ]
    refine wpAnyH_take (i := 3) (v := ?_) rfl (by kernel_rfl) (by kernel_rfl) (by kernel_rfl) (fun _ _ _ h => h) (Or.inl ⟨by rfl, ?_⟩) KB_f_106.out ?_
    rotate_left
    · intro wq hSw; have cl0 := hSw.cell 0; have cl1 := hSw.cell 1; have cl2 := hSw.cell 2; go_simp; first | done | with_reducible rfl
    simp only [List.getElem_toArray, List.getElem_cons_zero, List.getElem_cons_succ, Act.put, List.setIfInBounds_toArray, List.set_cons_zero, List.set_cons_succ]
    refine wpAnyH_take (i := 4) (v := ?_) rfl (by kernel_rfl) (by kernel_rfl) (by kernel_rfl) (fun _ _ _ h => h) (Or.inl ⟨by rfl, ?_⟩) KB_f_106.out ?_
    rotate_left
    · intro wq hSw; go_simp; first | done | with_reducible rfl
    simp only [List.getElem_toArray, List.getElem_cons_zero, List.getElem_cons_succ, Act.put, List.setIfInBounds_toArray, List.set_cons_zero, List.set_cons_succ]
    refine letterT (T := wpAnyH _ _ _ _ _) ?_
    intro TT hTU hUT
    refine letterA ?_
    intro act0 hact
    have ND_3_m : Hid (∀ (v : World) (Ax2 : Option Addr) (cx2 : Nat) (Ay2 : Option Addr) (cy2 : Nat) (Am : Option Addr) (cm : Nat) (gm : Nat) (ll : Array Bool) (aa : Act), ll = #[true, true, true, true, true, true, true, true, true, true, true, false, false] → aa = (((((((act0.put (some 53) (.agg #[.int .u64 a0, .int .i64 a3, .slice Ax2 R cx2])).put (some 56) (.agg #[.int .u64 a0, .int .i64 a3, .slice Ay2 R cy2])).put (some 57) (.tuple #[.agg #[.int .u64 a0, .int .i64 a3, .slice Am R cm], .int .i64 0])).put (some 50) (.tuple #[.agg #[.int .u64 a0, .int .i64 a3, .slice Am R cm], .int .i64 0])).put (some 58) (.agg #[.int .u64 a0, .int .i64 a3, .slice Am R cm])).put (some 59) (.int .i64 0)).put (some 17) (.pointer (some ⟨gm, 0, none⟩))) → Hid (Below w.heap.size w v) → Hid (Boxes w v [gm, gy, gx, gf]) → Hid (HeldX [gm, gy, gx, gf] (fun uq => SkAt uq (.agg #[.int .u64 a0, .int .i64 a3, .slice Af R cf]) a0 a3 R (fun _ => n) (fun _ _ => 0)) v) → Hid (HeldX [gm, gy, gx, gf] (fun uq => SkAt uq (.agg #[.int .u64 a0, .int .i64 a3, .slice AP R cP]) a0 a3 R (fun _ => n) (addsZ a0 a3 n (addsZ a0 a3 n (fun _ _ => 0) K q m) J r p)) v) → Hid (HeldX [gm, gy, gx, gf] (fun uq => SkAt uq (.agg #[.int .u64 a0, .int .i64 a3, .slice AQ R cQ]) a0 a3 R (fun _ => n) (addsZ a0 a3 n (addsZ a0 a3 n (fun _ _ => 0) J r p) K q m)) v) → Hid (HeldX [gm, gy, gx, gf] (fun uq => SkAt uq (.agg #[.int .u64 a0, .int .i64 a3, .slice Am R cm]) a0 a3 R (fun _ => n) (mergeZ a3 (addsZ a0 a3 n (fun _ _ => 0) K q m) (addsZ a0 a3 n (fun _ _ => 0) J r p))) v) → Hid (Blk v gf 25 #[.int .u64 a0, .int .i64 a3, .slice Af R cf]) → Hid (Blk v gx 25 #[.int .u64 a0, .int .i64 a3, .slice AP R cP]) → Hid (Blk v gy 25 #[.int .u64 a0, .int .i64 a3, .slice AQ R cQ]) → Hid (Blk v gm 25 #[.int .u64 0, .int .i64 0, .slice none 0 0]) → Hid (gf ≠ gx) → Hid (gf ≠ gy) → Hid (gx ≠ gy) → Hid (gf ≠ gm) → Hid (gx ≠ gm) → Hid (gy ≠ gm) → TT 2 ll aa v) := by
      intro v Ax2 cx2 Ay2 cy2 Am cm gm ll aa hl hA BEL206 BOX206 FA_f_206 FA_P_206 FA_Q_206 FA_m_206 KB_f_206 KB_x_206 KB_y_206 KB_m_206 NE_f_x NE_f_y NE_x_y NE_f_m NE_x_m NE_y_m
      rw [hact.out] at hA
      try simp only [Act.put, List.setIfInBounds_toArray, List.set_cons_zero, List.set_cons_succ] at hA
      subst hl hA
      refine hUT.out _ _ _ _ ?_
      refine wpAnyH_ready (rs := [11]) (by kernel_rfl) (by simp) ?_
      refine AllReadyH.cons rfl (fun K0 hK0 => ?_) ?_
      rotate_left
      · exact AllReadyH.nil
      have CE_m_0 : v.cell? ⟨gm, 0, none⟩ = some (.int .u64 0) := KB_m_206.out.cell 0
      have CF_m_0 : v.frozen? ⟨gm, 0, none⟩ = false := KB_m_206.out.frozen 0
      have CE_m_1 : v.cell? ⟨gm, 1, none⟩ = some (.int .i64 0) := KB_m_206.out.cell 1
      have CF_m_1 : v.frozen? ⟨gm, 1, none⟩ = false := KB_m_206.out.frozen 1
      have CE_m_2 : v.cell? ⟨gm, 2, none⟩ = some (.slice none 0 0) := KB_m_206.out.cell 2
      have CF_m_2 : v.frozen? ⟨gm, 2, none⟩ = false := KB_m_206.out.frozen 2
      have CE_m_lt : gm < v.heap.size := KB_m_206.out.lt
      go_simp
      clear CE_m_0 CF_m_0 CE_m_1 CF_m_1 CE_m_2 CF_m_2 CE_m_lt
      obtain ⟨vs1, hv⟩ : ∃ q, q = (((v.setCell ⟨gm, 0, none⟩ (.int .u64 a0)).setCell ⟨gm, 1, none⟩ (.int .i64 a3)).setCell ⟨gm, 2, none⟩ (.slice Am R cm)) := ⟨_, rfl⟩
      rw [← hv]
      have pe : vs1 = putCells v gm 0 [.int .u64 a0, .int .i64 a3, .slice Am R cm] := hv
      clear hv
      have BEL207 := p_bel pe BEL206 BOX206 List.mem_cons_self
      have BOX207 := p_box pe BOX206
      have FA_f_207 := p_fact pe FA_f_206 List.mem_cons_self
      have FA_P_207 := p_fact pe FA_P_206 List.mem_cons_self
      have FA_Q_207 := p_fact pe FA_Q_206 List.mem_cons_self
      have FA_m_207 := p_fact pe FA_m_206 List.mem_cons_self
      have KB_f_207 := p_oth pe KB_f_206 NE_f_m
      have KB_x_207 := p_oth pe KB_x_206 NE_x_m
      have KB_y_207 := p_oth pe KB_y_206 NE_y_m
      have KB_m_207 : Hid (Blk vs1 gm 25 #[.int .u64 a0, .int .i64 a3, .slice Am R cm]) := p_blk pe KB_m_206 rfl
      clear pe BEL206 BOX206 FA_f_206 FA_P_206 FA_Q_206 FA_m_206 KB_f_206 KB_x_206 KB_y_206 KB_m_206
      refine hK0.out _ _ (by exact KB_f_207.out) (fun hHeld => ?_)
      clear hK0 K0 hHeld
      refine wpAnyH_take (i := 12) (v := ?_) rfl (by kernel_rfl) (by kernel_rfl) (by kernel_rfl) (fun _ _ _ h => h) (Or.inl ⟨by rfl, ?_⟩) KB_f_207.out ?_
      rotate_left
      · intro wq hSw; go_simp; first | done | with_reducible rfl
      simp only [List.getElem_toArray, List.getElem_cons_zero, List.getElem_cons_succ, Act.put, List.setIfInBounds_toArray, List.set_cons_zero, List.set_cons_succ]
      refine wpAnyH_done (by kernel_rfl) ?_ _
      refine NoPanic.normal ?_
      refine hQQ.out _ _ ?_
      clear hTU hUT hact hQQ
      generalize vs1 = v9 at BEL207 BOX207 FA_f_207 FA_P_207 FA_Q_207 FA_m_207 KB_f_207 KB_x_207 KB_y_207 KB_m_207 ⊢
      have RP : Hid (∀ w1, Below v9.heap.size v9 w1 → Calls Try.prog 11 #[.agg #[.int .u64 a0, .int .i64 a3, .slice AP R cP]] w1 fun e w' => e = .returned (.agg #[.int .u64 a0, .int .i64 a3, .slice AP R cP]) ∧ Below v9.heap.size v9 w') := fun w1 b1 => (ref_any w1 _ a0 a3 R _ _ (FA_P_207.out.since b1).at).mono fun e w' h => ⟨h.1, bel_trans b1 h.2⟩
      have RQ : Hid (∀ w1, Below v9.heap.size v9 w1 → Calls Try.prog 11 #[.agg #[.int .u64 a0, .int .i64 a3, .slice AQ R cQ]] w1 fun e w' => e = .returned (.agg #[.int .u64 a0, .int .i64 a3, .slice AQ R cQ]) ∧ Below v9.heap.size v9 w') := fun w1 b1 => (ref_any w1 _ a0 a3 R _ _ (FA_Q_207.out.since b1).at).mono fun e w' h => ⟨h.1, bel_trans b1 h.2⟩
      have RM : Hid (∀ w1, Below v9.heap.size v9 w1 → Calls Try.prog 11 #[.agg #[.int .u64 a0, .int .i64 a3, .slice Am R cm]] w1 fun e w' => e = .returned (.agg #[.int .u64 a0, .int .i64 a3, .slice Am R cm]) ∧ Below v9.heap.size v9 w') := fun w1 b1 => (ref_any w1 _ a0 a3 R _ _ (FA_m_207.out.since b1).at).mono fun e w' h => ⟨h.1, bel_trans b1 h.2⟩
      have E1 : Hid (∀ w1, Below v9.heap.size v9 w1 → Calls Try.prog 10 #[.agg #[.int .u64 a0, .int .i64 a3, .slice AP R cP], .agg #[.int .u64 a0, .int .i64 a3, .slice AQ R cQ]] w1 fun e w' => e = .returned (.bool true) ∧ Below v9.heap.size v9 w') := fun w1 b1 => (requal_any w1 _ _ a0 a3 a0 a3 R R _ _ _ _ (FA_P_207.out.since b1).at (FA_Q_207.out.since b1).at (by omega) (fun i hi => by show n ≤ 1000; omega)).mono fun e w' h => ⟨(told h true ⟨fun _ => ⟨rfl, rfl, rfl, fun i hi => ⟨rfl, fun j hj => adds_turn OK.out K J NQ.out NR.out hi hj⟩⟩, fun _ => rfl⟩).1, bel_trans b1 (told h true ⟨fun _ => ⟨rfl, rfl, rfl, fun i hi => ⟨rfl, fun j hj => adds_turn OK.out K J NQ.out NR.out hi hj⟩⟩, fun _ => rfl⟩).2⟩
      have E2 : Hid (∀ w1, Below v9.heap.size v9 w1 → Calls Try.prog 10 #[.agg #[.int .u64 a0, .int .i64 a3, .slice AP R cP], .agg #[.int .u64 a0, .int .i64 a3, .slice Am R cm]] w1 fun e w' => e = .returned (.bool true) ∧ Below v9.heap.size v9 w') := fun w1 b1 => (requal_any w1 _ _ a0 a3 a0 a3 R R _ _ _ _ (FA_P_207.out.since b1).at (FA_m_207.out.since b1).at (by omega) (fun i hi => by show n ≤ 1000; omega)).mono fun e w' h => ⟨(told h true ⟨fun _ => ⟨rfl, rfl, rfl, fun i hi => ⟨rfl, fun j hj => adds_merge K J m1 NQ.out NR.out⟩⟩, fun _ => rfl⟩).1, bel_trans b1 (told h true ⟨fun _ => ⟨rfl, rfl, rfl, fun i hi => ⟨rfl, fun j hj => adds_merge K J m1 NQ.out NR.out⟩⟩, fun _ => rfl⟩).2⟩
      have WA : Hid (∀ w1, Below v9.heap.size v9 w1 → Calls Try.prog 12 #[] w1 fun e w' => e = .returned (.bool true) ∧ Below v9.heap.size v9 w') := fun w1 b1 => (awake_any w1).mono fun e w' h => ⟨h.1, bel_trans b1 h.2⟩
      have KS : Hid (∀ w' : World, Below v9.heap.size v9 w' → (w'.cell? ⟨gx, 0, none⟩ = some (.int .u64 a0) ∧ w'.cell? ⟨gx, 1, none⟩ = some (.int .i64 a3) ∧ w'.cell? ⟨gx, 2, none⟩ = some (.slice AP R cP) ∧ w'.cell? ⟨gy, 0, none⟩ = some (.int .u64 a0) ∧ w'.cell? ⟨gy, 1, none⟩ = some (.int .i64 a3) ∧ w'.cell? ⟨gy, 2, none⟩ = some (.slice AQ R cQ) ∧ w'.cell? ⟨gm, 0, none⟩ = some (.int .u64 a0) ∧ w'.cell? ⟨gm, 1, none⟩ = some (.int .i64 a3) ∧ w'.cell? ⟨gm, 2, none⟩ = some (.slice Am R cm))) := fun w' b1 => ⟨(KB_x_207.out.since b1).cell 0, (KB_x_207.out.since b1).cell 1, (KB_x_207.out.since b1).cell 2, (KB_y_207.out.since b1).cell 0, (KB_y_207.out.since b1).cell 1, (KB_y_207.out.since b1).cell 2, (KB_m_207.out.since b1).cell 0, (KB_m_207.out.since b1).cell 1, (KB_m_207.out.since b1).cell 2⟩
      have Z0 : Hid (Below v9.heap.size v9 v9.drew) := (Below.refl _ _).drew
      have CE_x_0 : v9.cell? ⟨gx, 0, none⟩ = some (.int .u64 a0) := KB_x_207.out.cell 0
      have CE_x_1 : v9.cell? ⟨gx, 1, none⟩ = some (.int .i64 a3) := KB_x_207.out.cell 1
      have CE_x_2 : v9.cell? ⟨gx, 2, none⟩ = some (.slice AP R cP) := KB_x_207.out.cell 2
      have CE_x_lt : gx < v9.heap.size := KB_x_207.out.lt
      have CE_y_0 : v9.cell? ⟨gy, 0, none⟩ = some (.int .u64 a0) := KB_y_207.out.cell 0
      have CE_y_1 : v9.cell? ⟨gy, 1, none⟩ = some (.int .i64 a3) := KB_y_207.out.cell 1
      have CE_y_2 : v9.cell? ⟨gy, 2, none⟩ = some (.slice AQ R cQ) := KB_y_207.out.cell 2
      have CE_y_lt : gy < v9.heap.size := KB_y_207.out.lt
      have CE_m_0 : v9.cell? ⟨gm, 0, none⟩ = some (.int .u64 a0) := KB_m_207.out.cell 0
      have CE_m_1 : v9.cell? ⟨gm, 1, none⟩ = some (.int .i64 a3) := KB_m_207.out.cell 1
      have CE_m_2 : v9.cell? ⟨gm, 2, none⟩ = some (.slice Am R cm) := KB_m_207.out.cell 2
      have CE_m_lt : gm < v9.heap.size := KB_m_207.out.lt
      clear FA_f_207 FA_P_207 FA_Q_207 FA_m_207
      go_wp2_with fail
      go_region_held3 (fun w' => w'.cell? ⟨gx, 0, none⟩ = some (.int .u64 a0) ∧ w'.cell? ⟨gx, 1, none⟩ = some (.int .i64 a3) ∧ w'.cell? ⟨gx, 2, none⟩ = some (.slice AP R cP) ∧ w'.cell? ⟨gy, 0, none⟩ = some (.int .u64 a0) ∧ w'.cell? ⟨gy, 1, none⟩ = some (.int .i64 a3) ∧ w'.cell? ⟨gy, 2, none⟩ = some (.slice AQ R cQ) ∧ w'.cell? ⟨gm, 0, none⟩ = some (.int .u64 a0) ∧ w'.cell? ⟨gm, 1, none⟩ = some (.int .i64 a3) ∧ w'.cell? ⟨gm, 2, none⟩ = some (.slice Am R cm)) (first | exact KS.out _ Z7.out | exact KS.out _ Z6.out | exact KS.out _ Z5.out | exact KS.out _ Z4.out | exact KS.out _ Z3.out | exact KS.out _ Z2.out | exact KS.out _ Z1.out | exact KS.out _ Z0.out | go_keep) (first
        | (have fl := Z6; clear fl; go_simp; go_at_call 12; refine (WA.out _ Z6.out).mono ?_; rintro e q7 ⟨rfl, cc⟩; have Z7 : Hid (Below v9.heap.size v9 q7) := cc; clear cc)
        | (have fl := Z5; clear fl; go_simp; go_at_call 10; refine (E2.out _ Z5.out).mono ?_; rintro e q6 ⟨rfl, cc⟩; have Z6 : Hid (Below v9.heap.size v9 q6) := cc; clear cc)
        | (have fl := Z4; clear fl; go_simp; go_at_call 11; refine (RM.out _ Z4.out).mono ?_; rintro e q5 ⟨rfl, cc⟩; have Z5 : Hid (Below v9.heap.size v9 q5) := cc; clear cc)
        | (have fl := Z3; clear fl; go_simp; go_at_call 11; refine (RP.out _ Z3.out).mono ?_; rintro e q4 ⟨rfl, cc⟩; have Z4 : Hid (Below v9.heap.size v9 q4) := cc; clear cc)
        | (have fl := Z2; clear fl; go_simp; go_at_call 10; refine (E1.out _ Z2.out).mono ?_; rintro e q3 ⟨rfl, cc⟩; have Z3 : Hid (Below v9.heap.size v9 q3) := cc; clear cc)
        | (have fl := Z1; clear fl; go_simp; go_at_call 11; refine (RQ.out _ Z1.out).mono ?_; rintro e q2 ⟨rfl, cc⟩; have Z2 : Hid (Below v9.heap.size v9 q2) := cc; clear cc)
        | (have fl := Z0; clear fl; go_simp; go_at_call 11; refine (RP.out _ Z0.out).mono ?_; rintro e q1 ⟨rfl, cc⟩; have Z1 : Hid (Below v9.heap.size v9 q1) := cc; clear cc))
      all_goals go_wp2_with fail
      all_goals go_ret
      all_goals exact ⟨rfl, bel_trans BEL207.out Z7.out⟩
    have ND_3_ : Hid (∀ (v : World) (Ax2 : Option Addr) (cx2 : Nat) (Ay2 : Option Addr) (cy2 : Nat) (Am : Option Addr) (cm : Nat) (ll : Array Bool) (aa : Act), ll = #[true, true, true, true, true, true, true, true, true, true, false, false, false] → aa = ((((((act0.put (some 53) (.agg #[.int .u64 a0, .int .i64 a3, .slice Ax2 R cx2])).put (some 56) (.agg #[.int .u64 a0, .int .i64 a3, .slice Ay2 R cy2])).put (some 57) (.tuple #[.agg #[.int .u64 a0, .int .i64 a3, .slice Am R cm], .int .i64 0])).put (some 50) (.tuple #[.agg #[.int .u64 a0, .int .i64 a3, .slice Am R cm], .int .i64 0])).put (some 58) (.agg #[.int .u64 a0, .int .i64 a3, .slice Am R cm])).put (some 59) (.int .i64 0)) → Hid (Below w.heap.size w v) → Hid (Boxes w v [gy, gx, gf]) → Hid (HeldX [gy, gx, gf] (fun uq => SkAt uq (.agg #[.int .u64 a0, .int .i64 a3, .slice Af R cf]) a0 a3 R (fun _ => n) (fun _ _ => 0)) v) → Hid (HeldX [gy, gx, gf] (fun uq => SkAt uq (.agg #[.int .u64 a0, .int .i64 a3, .slice AP R cP]) a0 a3 R (fun _ => n) (addsZ a0 a3 n (addsZ a0 a3 n (fun _ _ => 0) K q m) J r p)) v) → Hid (HeldX [gy, gx, gf] (fun uq => SkAt uq (.agg #[.int .u64 a0, .int .i64 a3, .slice AQ R cQ]) a0 a3 R (fun _ => n) (addsZ a0 a3 n (addsZ a0 a3 n (fun _ _ => 0) J r p) K q m)) v) → Hid (HeldX [gy, gx, gf] (fun uq => SkAt uq (.agg #[.int .u64 a0, .int .i64 a3, .slice Am R cm]) a0 a3 R (fun _ => n) (mergeZ a3 (addsZ a0 a3 n (fun _ _ => 0) K q m) (addsZ a0 a3 n (fun _ _ => 0) J r p))) v) → Hid (Blk v gf 25 #[.int .u64 a0, .int .i64 a3, .slice Af R cf]) → Hid (Blk v gx 25 #[.int .u64 a0, .int .i64 a3, .slice AP R cP]) → Hid (Blk v gy 25 #[.int .u64 a0, .int .i64 a3, .slice AQ R cQ]) → Hid (gf ≠ gx) → Hid (gf ≠ gy) → Hid (gx ≠ gy) → TT 3 ll aa v) := by
      intro v Ax2 cx2 Ay2 cy2 Am cm ll aa hl hA BEL206 BOX206 FA_f_206 FA_P_206 FA_Q_206 FA_m_206 KB_f_206 KB_x_206 KB_y_206 NE_f_x NE_f_y NE_x_y
      rw [hact.out] at hA
      try simp only [Act.put, List.setIfInBounds_toArray, List.set_cons_zero, List.set_cons_succ] at hA
      subst hl hA
      refine hUT.out _ _ _ _ ?_
      refine wpAnyH_ready (rs := [10]) (by kernel_rfl) (by simp) ?_
      refine AllReadyH.cons rfl (fun K0 hK0 => ?_) ?_
      · have BEL207 := a_bel BEL206 (.cells #[.int .u64 0, .int .i64 0, .slice none 0 0] 25)
        have BOX207 := a_box BOX206 BEL206 (.cells #[.int .u64 0, .int .i64 0, .slice none 0 0] 25)
        have FA_f_207 := a_fact FA_f_206 (.cells #[.int .u64 0, .int .i64 0, .slice none 0 0] 25)
        have FA_P_207 := a_fact FA_P_206 (.cells #[.int .u64 0, .int .i64 0, .slice none 0 0] 25)
        have FA_Q_207 := a_fact FA_Q_206 (.cells #[.int .u64 0, .int .i64 0, .slice none 0 0] 25)
        have FA_m_207 := a_fact FA_m_206 (.cells #[.int .u64 0, .int .i64 0, .slice none 0 0] 25)
        have KB_f_207 := a_blk KB_f_206 (.cells #[.int .u64 0, .int .i64 0, .slice none 0 0] 25)
        have NE_f_m := n_ne KB_f_206
        have KB_x_207 := a_blk KB_x_206 (.cells #[.int .u64 0, .int .i64 0, .slice none 0 0] 25)
        have NE_x_m := n_ne KB_x_206
        have KB_y_207 := a_blk KB_y_206 (.cells #[.int .u64 0, .int .i64 0, .slice none 0 0] 25)
        have NE_y_m := n_ne KB_y_206
        have KB_m_207 := n_blk (u := v) 25 #[.int .u64 0, .int .i64 0, .slice none 0 0]
        clear BEL206 BOX206 FA_f_206 FA_P_206 FA_Q_206 FA_m_206 KB_f_206 KB_x_206 KB_y_206
        go_simp
        generalize (v.alloc (.cells #[.int .u64 0, .int .i64 0, .slice none 0 0] 25)) = v2 at BEL207 BOX207 FA_f_207 FA_P_207 FA_Q_207 FA_m_207 KB_f_207 KB_x_207 KB_y_207 KB_m_207 ⊢
        generalize v.heap.size = gm at BOX207 FA_f_207 FA_P_207 FA_Q_207 FA_m_207 KB_m_207 NE_f_m NE_x_m NE_y_m ⊢
        refine hK0.out _ _ (by exact KB_f_207.out) (fun hHeld => ?_)
        clear hK0 K0 hHeld
        refine hTU.out _ _ _ _ ?_
        refine ND_3_m.out _ Ax2 cx2 Ay2 cy2 Am cm gm _ _ ?_ ?_ BEL207 BOX207 FA_f_207 FA_P_207 FA_Q_207 FA_m_207 KB_f_207 KB_x_207 KB_y_207 KB_m_207 NE_f_x NE_f_y NE_x_y NE_f_m NE_x_m NE_y_m
        · first | rfl | kernel_rfl
        · rw [hact.out]; rfl
      exact AllReadyH.nil
    have ND_2_m : Hid (∀ (v : World) (Ax2 : Option Addr) (cx2 : Nat) (Ay2 : Option Addr) (cy2 : Nat) (gm : Nat) (ll : Array Bool) (aa : Act), ll = #[true, true, true, true, true, true, false, false, false, false, true, false, false] → aa = (((act0.put (some 53) (.agg #[.int .u64 a0, .int .i64 a3, .slice Ax2 R cx2])).put (some 56) (.agg #[.int .u64 a0, .int .i64 a3, .slice Ay2 R cy2])).put (some 17) (.pointer (some ⟨gm, 0, none⟩))) → Hid (Below w.heap.size w v) → Hid (Boxes w v [gm, gy, gx, gf]) → Hid (HeldX [gm, gy, gx, gf] (fun uq => SkAt uq (.agg #[.int .u64 a0, .int .i64 a3, .slice Af R cf]) a0 a3 R (fun _ => n) (fun _ _ => 0)) v) → Hid (HeldX [gm, gy, gx, gf] (fun uq => SkAt uq (.agg #[.int .u64 a0, .int .i64 a3, .slice AP R cP]) a0 a3 R (fun _ => n) (addsZ a0 a3 n (addsZ a0 a3 n (fun _ _ => 0) K q m) J r p)) v) → Hid (HeldX [gm, gy, gx, gf] (fun uq => SkAt uq (.agg #[.int .u64 a0, .int .i64 a3, .slice AQ R cQ]) a0 a3 R (fun _ => n) (addsZ a0 a3 n (addsZ a0 a3 n (fun _ _ => 0) J r p) K q m)) v) → Hid (HeldX [gm, gy, gx, gf] (fun uq => SkAt uq (.agg #[.int .u64 a0, .int .i64 a3, .slice Ax2 R cx2]) a0 a3 R (fun _ => n) (addsZ a0 a3 n (fun _ _ => 0) K q m)) v) → Hid (HeldX [gm, gy, gx, gf] (fun uq => SkAt uq (.agg #[.int .u64 a0, .int .i64 a3, .slice Ay2 R cy2]) a0 a3 R (fun _ => n) (addsZ a0 a3 n (fun _ _ => 0) J r p)) v) → Hid (Blk v gf 25 #[.int .u64 a0, .int .i64 a3, .slice Af R cf]) → Hid (Blk v gx 25 #[.int .u64 a0, .int .i64 a3, .slice AP R cP]) → Hid (Blk v gy 25 #[.int .u64 a0, .int .i64 a3, .slice AQ R cQ]) → Hid (Blk v gm 25 #[.int .u64 0, .int .i64 0, .slice none 0 0]) → Hid (gf ≠ gx) → Hid (gf ≠ gy) → Hid (gx ≠ gy) → Hid (gf ≠ gm) → Hid (gx ≠ gm) → Hid (gy ≠ gm) → TT 6 ll aa v) := by
      intro v Ax2 cx2 Ay2 cy2 gm ll aa hl hA BEL206 BOX206 FA_f_206 FA_P_206 FA_Q_206 FA_x2_206 FA_y2_206 KB_f_206 KB_x_206 KB_y_206 KB_m_206 NE_f_x NE_f_y NE_x_y NE_f_m NE_x_m NE_y_m
      rw [hact.out] at hA
      try simp only [Act.put, List.setIfInBounds_toArray, List.set_cons_zero, List.set_cons_succ] at hA
      subst hl hA
      refine hUT.out _ _ _ _ ?_
      refine wpAnyH_ready (rs := [6]) (by kernel_rfl) (by simp) ?_
      refine AllReadyH.cons rfl (fun K0 hK0 => ?_) ?_
      · refine step_func 20 #[.agg #[.int .u64 a0, .int .i64 a3, .slice Ax2 R cx2], .agg #[.int .u64 a0, .int .i64 a3, .slice Ay2 R cy2]] (by rfl) rfl (by simp [Act.eval]) (fun _ _ => by kernel_rfl) ?_
        refine (merge_ok _ _ _ a0 a3 R n _ _ FA_x2_206.out.at FA_y2_206.out.at OKX.out OKY.out).mono ?_
        rintro e wm ⟨xm, rfl, fm, bb⟩
        obtain ⟨vm, rfl, hvm⟩ := fm.at
        obtain ⟨Am, cm, bbm, oom, rfl, hx1, hx2⟩ := hvm.read
        clear hx1 hx2 hvm
        have FA_m_207 : Hid (HeldX [gm, gy, gx, gf] (fun uq => SkAt uq (.agg #[.int .u64 a0, .int .i64 a3, .slice Am R cm]) a0 a3 R (fun _ => n) (mergeZ a3 (addsZ a0 a3 n (fun _ _ => 0) K q m) (addsZ a0 a3 n (fun _ _ => 0) J r p))) wm) := Held.new fm BOX206.out
        have BEL207 := h_bel BEL206 bb
        have BOX207 := h_box BOX206 bb
        have FA_f_207 := h_fact FA_f_206 bb
        have FA_P_207 := h_fact FA_P_206 bb
        have FA_Q_207 := h_fact FA_Q_206 bb
        have FA_x2_207 := h_fact FA_x2_206 bb
        have FA_y2_207 := h_fact FA_y2_206 bb
        have KB_f_207 := h_blk KB_f_206 bb
        have KB_x_207 := h_blk KB_x_206 bb
        have KB_y_207 := h_blk KB_y_206 bb
        have KB_m_207 := h_blk KB_m_206 bb
        clear BEL206 BOX206 FA_f_206 FA_P_206 FA_Q_206 FA_x2_206 FA_y2_206 KB_f_206 KB_x_206 KB_y_206 KB_m_206
        clear bb fm
        clear FA_x2_207
        clear FA_y2_207
        refine ⟨_, rfl, ?_⟩
        refine hK0.out _ _ (by exact KB_f_207.out) (fun hHeld => ?_)
        clear hK0 K0 hHeld
        refine wpAnyH_take (i := 7) (v := ?_) rfl (by kernel_rfl) (by kernel_rfl) (by kernel_rfl) (fun _ _ _ h => h) (Or.inl ⟨by rfl, ?_⟩) KB_f_207.out ?_
        rotate_left
        · intro wq hSw; go_simp; first | done | with_reducible rfl
        simp only [List.getElem_toArray, List.getElem_cons_zero, List.getElem_cons_succ, Act.put, List.setIfInBounds_toArray, List.set_cons_zero, List.set_cons_succ]
        refine wpAnyH_take (i := 8) (v := ?_) rfl (by kernel_rfl) (by kernel_rfl) (by kernel_rfl) (fun _ _ _ h => h) (Or.inl ⟨by rfl, ?_⟩) KB_f_207.out ?_
        rotate_left
        · intro wq hSw; go_simp; first | done | with_reducible rfl
        simp only [List.getElem_toArray, List.getElem_cons_zero, List.getElem_cons_succ, Act.put, List.setIfInBounds_toArray, List.set_cons_zero, List.set_cons_succ]
        refine wpAnyH_take (i := 9) (v := ?_) rfl (by kernel_rfl) (by kernel_rfl) (by kernel_rfl) (fun _ _ _ h => h) (Or.inl ⟨by rfl, ?_⟩) KB_f_207.out ?_
        rotate_left
        · intro wq hSw; go_simp; first | done | with_reducible rfl
        simp only [List.getElem_toArray, List.getElem_cons_zero, List.getElem_cons_succ, Act.put, List.setIfInBounds_toArray, List.set_cons_zero, List.set_cons_succ]
        refine hTU.out _ _ _ _ ?_
        refine ND_3_m.out _ Ax2 cx2 Ay2 cy2 Am cm gm _ _ ?_ ?_ BEL207 BOX207 FA_f_207 FA_P_207 FA_Q_207 FA_m_207 KB_f_207 KB_x_207 KB_y_207 KB_m_207 NE_f_x NE_f_y NE_x_y NE_f_m NE_x_m NE_y_m
        · first | rfl | kernel_rfl
        · rw [hact.out]; rfl
      exact AllReadyH.nil
    have ND_2_ : Hid (∀ (v : World) (Ax2 : Option Addr) (cx2 : Nat) (Ay2 : Option Addr) (cy2 : Nat) (ll : Array Bool) (aa : Act), ll = #[true, true, true, true, true, true, false, false, false, false, false, false, false] → aa = ((act0.put (some 53) (.agg #[.int .u64 a0, .int .i64 a3, .slice Ax2 R cx2])).put (some 56) (.agg #[.int .u64 a0, .int .i64 a3, .slice Ay2 R cy2])) → Hid (Below w.heap.size w v) → Hid (Boxes w v [gy, gx, gf]) → Hid (HeldX [gy, gx, gf] (fun uq => SkAt uq (.agg #[.int .u64 a0, .int .i64 a3, .slice Af R cf]) a0 a3 R (fun _ => n) (fun _ _ => 0)) v) → Hid (HeldX [gy, gx, gf] (fun uq => SkAt uq (.agg #[.int .u64 a0, .int .i64 a3, .slice AP R cP]) a0 a3 R (fun _ => n) (addsZ a0 a3 n (addsZ a0 a3 n (fun _ _ => 0) K q m) J r p)) v) → Hid (HeldX [gy, gx, gf] (fun uq => SkAt uq (.agg #[.int .u64 a0, .int .i64 a3, .slice AQ R cQ]) a0 a3 R (fun _ => n) (addsZ a0 a3 n (addsZ a0 a3 n (fun _ _ => 0) J r p) K q m)) v) → Hid (HeldX [gy, gx, gf] (fun uq => SkAt uq (.agg #[.int .u64 a0, .int .i64 a3, .slice Ax2 R cx2]) a0 a3 R (fun _ => n) (addsZ a0 a3 n (fun _ _ => 0) K q m)) v) → Hid (HeldX [gy, gx, gf] (fun uq => SkAt uq (.agg #[.int .u64 a0, .int .i64 a3, .slice Ay2 R cy2]) a0 a3 R (fun _ => n) (addsZ a0 a3 n (fun _ _ => 0) J r p)) v) → Hid (Blk v gf 25 #[.int .u64 a0, .int .i64 a3, .slice Af R cf]) → Hid (Blk v gx 25 #[.int .u64 a0, .int .i64 a3, .slice AP R cP]) → Hid (Blk v gy 25 #[.int .u64 a0, .int .i64 a3, .slice AQ R cQ]) → Hid (gf ≠ gx) → Hid (gf ≠ gy) → Hid (gx ≠ gy) → TT 7 ll aa v) := by
      intro v Ax2 cx2 Ay2 cy2 ll aa hl hA BEL206 BOX206 FA_f_206 FA_P_206 FA_Q_206 FA_x2_206 FA_y2_206 KB_f_206 KB_x_206 KB_y_206 NE_f_x NE_f_y NE_x_y
      rw [hact.out] at hA
      try simp only [Act.put, List.setIfInBounds_toArray, List.set_cons_zero, List.set_cons_succ] at hA
      subst hl hA
      refine hUT.out _ _ _ _ ?_
      refine wpAnyH_ready (rs := [6, 10]) (by kernel_rfl) (by simp) ?_
      refine AllReadyH.cons rfl (fun K0 hK0 => ?_) ?_
      · refine step_func 20 #[.agg #[.int .u64 a0, .int .i64 a3, .slice Ax2 R cx2], .agg #[.int .u64 a0, .int .i64 a3, .slice Ay2 R cy2]] (by rfl) rfl (by simp [Act.eval]) (fun _ _ => by kernel_rfl) ?_
        refine (merge_ok _ _ _ a0 a3 R n _ _ FA_x2_206.out.at FA_y2_206.out.at OKX.out OKY.out).mono ?_
        rintro e wm ⟨xm, rfl, fm, bb⟩
        obtain ⟨vm, rfl, hvm⟩ := fm.at
        obtain ⟨Am, cm, bbm, oom, rfl, hx1, hx2⟩ := hvm.read
        clear hx1 hx2 hvm
        have FA_m_207 : Hid (HeldX [gy, gx, gf] (fun uq => SkAt uq (.agg #[.int .u64 a0, .int .i64 a3, .slice Am R cm]) a0 a3 R (fun _ => n) (mergeZ a3 (addsZ a0 a3 n (fun _ _ => 0) K q m) (addsZ a0 a3 n (fun _ _ => 0) J r p))) wm) := Held.new fm BOX206.out
        have BEL207 := h_bel BEL206 bb
        have BOX207 := h_box BOX206 bb
        have FA_f_207 := h_fact FA_f_206 bb
        have FA_P_207 := h_fact FA_P_206 bb
        have FA_Q_207 := h_fact FA_Q_206 bb
        have FA_x2_207 := h_fact FA_x2_206 bb
        have FA_y2_207 := h_fact FA_y2_206 bb
        have KB_f_207 := h_blk KB_f_206 bb
        have KB_x_207 := h_blk KB_x_206 bb
        have KB_y_207 := h_blk KB_y_206 bb
        clear BEL206 BOX206 FA_f_206 FA_P_206 FA_Q_206 FA_x2_206 FA_y2_206 KB_f_206 KB_x_206 KB_y_206
        clear bb fm
        clear FA_x2_207
        clear FA_y2_207
        refine ⟨_, rfl, ?_⟩
        refine hK0.out _ _ (by exact KB_f_207.out) (fun hHeld => ?_)
        clear hK0 K0 hHeld
        refine wpAnyH_take (i := 7) (v := ?_) rfl (by kernel_rfl) (by kernel_rfl) (by kernel_rfl) (fun _ _ _ h => h) (Or.inl ⟨by rfl, ?_⟩) KB_f_207.out ?_
        rotate_left
        · intro wq hSw; go_simp; first | done | with_reducible rfl
        simp only [List.getElem_toArray, List.getElem_cons_zero, List.getElem_cons_succ, Act.put, List.setIfInBounds_toArray, List.set_cons_zero, List.set_cons_succ]
        refine wpAnyH_take (i := 8) (v := ?_) rfl (by kernel_rfl) (by kernel_rfl) (by kernel_rfl) (fun _ _ _ h => h) (Or.inl ⟨by rfl, ?_⟩) KB_f_207.out ?_
        rotate_left
        · intro wq hSw; go_simp; first | done | with_reducible rfl
        simp only [List.getElem_toArray, List.getElem_cons_zero, List.getElem_cons_succ, Act.put, List.setIfInBounds_toArray, List.set_cons_zero, List.set_cons_succ]
        refine wpAnyH_take (i := 9) (v := ?_) rfl (by kernel_rfl) (by kernel_rfl) (by kernel_rfl) (fun _ _ _ h => h) (Or.inl ⟨by rfl, ?_⟩) KB_f_207.out ?_
        rotate_left
        · intro wq hSw; go_simp; first | done | with_reducible rfl
        simp only [List.getElem_toArray, List.getElem_cons_zero, List.getElem_cons_succ, Act.put, List.setIfInBounds_toArray, List.set_cons_zero, List.set_cons_succ]
        refine hTU.out _ _ _ _ ?_
        refine ND_3_.out _ Ax2 cx2 Ay2 cy2 Am cm _ _ ?_ ?_ BEL207 BOX207 FA_f_207 FA_P_207 FA_Q_207 FA_m_207 KB_f_207 KB_x_207 KB_y_207 NE_f_x NE_f_y NE_x_y
        · first | rfl | kernel_rfl
        · rw [hact.out]; rfl
      refine AllReadyH.cons rfl (fun K0 hK0 => ?_) ?_
      · have BEL207 := a_bel BEL206 (.cells #[.int .u64 0, .int .i64 0, .slice none 0 0] 25)
        have BOX207 := a_box BOX206 BEL206 (.cells #[.int .u64 0, .int .i64 0, .slice none 0 0] 25)
        have FA_f_207 := a_fact FA_f_206 (.cells #[.int .u64 0, .int .i64 0, .slice none 0 0] 25)
        have FA_P_207 := a_fact FA_P_206 (.cells #[.int .u64 0, .int .i64 0, .slice none 0 0] 25)
        have FA_Q_207 := a_fact FA_Q_206 (.cells #[.int .u64 0, .int .i64 0, .slice none 0 0] 25)
        have FA_x2_207 := a_fact FA_x2_206 (.cells #[.int .u64 0, .int .i64 0, .slice none 0 0] 25)
        have FA_y2_207 := a_fact FA_y2_206 (.cells #[.int .u64 0, .int .i64 0, .slice none 0 0] 25)
        have KB_f_207 := a_blk KB_f_206 (.cells #[.int .u64 0, .int .i64 0, .slice none 0 0] 25)
        have NE_f_m := n_ne KB_f_206
        have KB_x_207 := a_blk KB_x_206 (.cells #[.int .u64 0, .int .i64 0, .slice none 0 0] 25)
        have NE_x_m := n_ne KB_x_206
        have KB_y_207 := a_blk KB_y_206 (.cells #[.int .u64 0, .int .i64 0, .slice none 0 0] 25)
        have NE_y_m := n_ne KB_y_206
        have KB_m_207 := n_blk (u := v) 25 #[.int .u64 0, .int .i64 0, .slice none 0 0]
        clear BEL206 BOX206 FA_f_206 FA_P_206 FA_Q_206 FA_x2_206 FA_y2_206 KB_f_206 KB_x_206 KB_y_206
        go_simp
        generalize (v.alloc (.cells #[.int .u64 0, .int .i64 0, .slice none 0 0] 25)) = v2 at BEL207 BOX207 FA_f_207 FA_P_207 FA_Q_207 FA_x2_207 FA_y2_207 KB_f_207 KB_x_207 KB_y_207 KB_m_207 ⊢
        generalize v.heap.size = gm at BOX207 FA_f_207 FA_P_207 FA_Q_207 FA_x2_207 FA_y2_207 KB_m_207 NE_f_m NE_x_m NE_y_m ⊢
        refine hK0.out _ _ (by exact KB_f_207.out) (fun hHeld => ?_)
        clear hK0 K0 hHeld
        refine hTU.out _ _ _ _ ?_
        refine ND_2_m.out _ Ax2 cx2 Ay2 cy2 gm _ _ ?_ ?_ BEL207 BOX207 FA_f_207 FA_P_207 FA_Q_207 FA_x2_207 FA_y2_207 KB_f_207 KB_x_207 KB_y_207 KB_m_207 NE_f_x NE_f_y NE_x_y NE_f_m NE_x_m NE_y_m
        · first | rfl | kernel_rfl
        · rw [hact.out]; rfl
      exact AllReadyH.nil
    have ND_1_m : Hid (∀ (v : World) (Ax2 : Option Addr) (cx2 : Nat) (gm : Nat) (ll : Array Bool) (aa : Act), ll = #[true, true, true, true, true, false, false, false, false, false, true, false, false] → aa = ((act0.put (some 53) (.agg #[.int .u64 a0, .int .i64 a3, .slice Ax2 R cx2])).put (some 17) (.pointer (some ⟨gm, 0, none⟩))) → Hid (Below w.heap.size w v) → Hid (Boxes w v [gm, gy, gx, gf]) → Hid (HeldX [gm, gy, gx, gf] (fun uq => SkAt uq (.agg #[.int .u64 a0, .int .i64 a3, .slice Af R cf]) a0 a3 R (fun _ => n) (fun _ _ => 0)) v) → Hid (HeldX [gm, gy, gx, gf] (fun uq => SkAt uq (.agg #[.int .u64 a0, .int .i64 a3, .slice AP R cP]) a0 a3 R (fun _ => n) (addsZ a0 a3 n (addsZ a0 a3 n (fun _ _ => 0) K q m) J r p)) v) → Hid (HeldX [gm, gy, gx, gf] (fun uq => SkAt uq (.agg #[.int .u64 a0, .int .i64 a3, .slice AQ R cQ]) a0 a3 R (fun _ => n) (addsZ a0 a3 n (addsZ a0 a3 n (fun _ _ => 0) J r p) K q m)) v) → Hid (HeldX [gm, gy, gx, gf] (fun uq => SkAt uq (.agg #[.int .u64 a0, .int .i64 a3, .slice Ax2 R cx2]) a0 a3 R (fun _ => n) (addsZ a0 a3 n (fun _ _ => 0) K q m)) v) → Hid (Blk v gf 25 #[.int .u64 a0, .int .i64 a3, .slice Af R cf]) → Hid (Blk v gx 25 #[.int .u64 a0, .int .i64 a3, .slice AP R cP]) → Hid (Blk v gy 25 #[.int .u64 a0, .int .i64 a3, .slice AQ R cQ]) → Hid (Blk v gm 25 #[.int .u64 0, .int .i64 0, .slice none 0 0]) → Hid (gf ≠ gx) → Hid (gf ≠ gy) → Hid (gx ≠ gy) → Hid (gf ≠ gm) → Hid (gx ≠ gm) → Hid (gy ≠ gm) → TT 7 ll aa v) := by
      intro v Ax2 cx2 gm ll aa hl hA BEL206 BOX206 FA_f_206 FA_P_206 FA_Q_206 FA_x2_206 KB_f_206 KB_x_206 KB_y_206 KB_m_206 NE_f_x NE_f_y NE_x_y NE_f_m NE_x_m NE_y_m
      rw [hact.out] at hA
      try simp only [Act.put, List.setIfInBounds_toArray, List.set_cons_zero, List.set_cons_succ] at hA
      subst hl hA
      refine hUT.out _ _ _ _ ?_
      refine wpAnyH_ready (rs := [5]) (by kernel_rfl) (by simp) ?_
      refine AllReadyH.cons rfl (fun K0 hK0 => ?_) ?_
      · refine step_func 23 #[.agg #[.int .u64 a0, .int .i64 a3, .slice Af R cf], .slice Ak p capk] (by rfl) rfl (by simp [Act.eval]) (fun _ _ => by kernel_rfl) ?_
        refine (adds_any _ _ _ [gm, gy, gx, gf] a0 a3 R n p _ J r FA_f_206.out (fun g hg => (BOX206.out g hg).2) (LB.out.keep (keep_of_below BEL206.out)) OK.out uS (by omega) HJ.out).mono ?_
        rintro e wy2 ⟨Ay2, cy2, rfl, fy2, bb⟩
        have BEL207 := h_bel BEL206 bb
        have BOX207 := h_box BOX206 bb
        have FA_f_207 := h_fact FA_f_206 bb
        have FA_P_207 := h_fact FA_P_206 bb
        have FA_Q_207 := h_fact FA_Q_206 bb
        have FA_x2_207 := h_fact FA_x2_206 bb
        have KB_f_207 := h_blk KB_f_206 bb
        have KB_x_207 := h_blk KB_x_206 bb
        have KB_y_207 := h_blk KB_y_206 bb
        have KB_m_207 := h_blk KB_m_206 bb
        clear BEL206 BOX206 FA_f_206 FA_P_206 FA_Q_206 FA_x2_206 KB_f_206 KB_x_206 KB_y_206 KB_m_206
        have FA_y2_207 : Hid (HeldX [gm, gy, gx, gf] (fun uq => SkAt uq (.agg #[.int .u64 a0, .int .i64 a3, .slice Ay2 R cy2]) a0 a3 R (fun _ => n) (addsZ a0 a3 n (fun _ _ => 0) J r p)) wy2) := fy2
        clear bb fy2
        refine ⟨_, rfl, ?_⟩
        refine hK0.out _ _ (by exact KB_f_207.out) (fun hHeld => ?_)
        clear hK0 K0 hHeld
        refine hTU.out _ _ _ _ ?_
        refine ND_2_m.out _ Ax2 cx2 Ay2 cy2 gm _ _ ?_ ?_ BEL207 BOX207 FA_f_207 FA_P_207 FA_Q_207 FA_x2_207 FA_y2_207 KB_f_207 KB_x_207 KB_y_207 KB_m_207 NE_f_x NE_f_y NE_x_y NE_f_m NE_x_m NE_y_m
        · first | rfl | kernel_rfl
        · rw [hact.out]; rfl
      exact AllReadyH.nil
    have ND_1_ : Hid (∀ (v : World) (Ax2 : Option Addr) (cx2 : Nat) (ll : Array Bool) (aa : Act), ll = #[true, true, true, true, true, false, false, false, false, false, false, false, false] → aa = (act0.put (some 53) (.agg #[.int .u64 a0, .int .i64 a3, .slice Ax2 R cx2])) → Hid (Below w.heap.size w v) → Hid (Boxes w v [gy, gx, gf]) → Hid (HeldX [gy, gx, gf] (fun uq => SkAt uq (.agg #[.int .u64 a0, .int .i64 a3, .slice Af R cf]) a0 a3 R (fun _ => n) (fun _ _ => 0)) v) → Hid (HeldX [gy, gx, gf] (fun uq => SkAt uq (.agg #[.int .u64 a0, .int .i64 a3, .slice AP R cP]) a0 a3 R (fun _ => n) (addsZ a0 a3 n (addsZ a0 a3 n (fun _ _ => 0) K q m) J r p)) v) → Hid (HeldX [gy, gx, gf] (fun uq => SkAt uq (.agg #[.int .u64 a0, .int .i64 a3, .slice AQ R cQ]) a0 a3 R (fun _ => n) (addsZ a0 a3 n (addsZ a0 a3 n (fun _ _ => 0) J r p) K q m)) v) → Hid (HeldX [gy, gx, gf] (fun uq => SkAt uq (.agg #[.int .u64 a0, .int .i64 a3, .slice Ax2 R cx2]) a0 a3 R (fun _ => n) (addsZ a0 a3 n (fun _ _ => 0) K q m)) v) → Hid (Blk v gf 25 #[.int .u64 a0, .int .i64 a3, .slice Af R cf]) → Hid (Blk v gx 25 #[.int .u64 a0, .int .i64 a3, .slice AP R cP]) → Hid (Blk v gy 25 #[.int .u64 a0, .int .i64 a3, .slice AQ R cQ]) → Hid (gf ≠ gx) → Hid (gf ≠ gy) → Hid (gx ≠ gy) → TT 8 ll aa v) := by
      intro v Ax2 cx2 ll aa hl hA BEL206 BOX206 FA_f_206 FA_P_206 FA_Q_206 FA_x2_206 KB_f_206 KB_x_206 KB_y_206 NE_f_x NE_f_y NE_x_y
      rw [hact.out] at hA
      try simp only [Act.put, List.setIfInBounds_toArray, List.set_cons_zero, List.set_cons_succ] at hA
      subst hl hA
      refine hUT.out _ _ _ _ ?_
      refine wpAnyH_ready (rs := [5, 10]) (by kernel_rfl) (by simp) ?_
      refine AllReadyH.cons rfl (fun K0 hK0 => ?_) ?_
      · refine step_func 23 #[.agg #[.int .u64 a0, .int .i64 a3, .slice Af R cf], .slice Ak p capk] (by rfl) rfl (by simp [Act.eval]) (fun _ _ => by kernel_rfl) ?_
        refine (adds_any _ _ _ [gy, gx, gf] a0 a3 R n p _ J r FA_f_206.out (fun g hg => (BOX206.out g hg).2) (LB.out.keep (keep_of_below BEL206.out)) OK.out uS (by omega) HJ.out).mono ?_
        rintro e wy2 ⟨Ay2, cy2, rfl, fy2, bb⟩
        have BEL207 := h_bel BEL206 bb
        have BOX207 := h_box BOX206 bb
        have FA_f_207 := h_fact FA_f_206 bb
        have FA_P_207 := h_fact FA_P_206 bb
        have FA_Q_207 := h_fact FA_Q_206 bb
        have FA_x2_207 := h_fact FA_x2_206 bb
        have KB_f_207 := h_blk KB_f_206 bb
        have KB_x_207 := h_blk KB_x_206 bb
        have KB_y_207 := h_blk KB_y_206 bb
        clear BEL206 BOX206 FA_f_206 FA_P_206 FA_Q_206 FA_x2_206 KB_f_206 KB_x_206 KB_y_206
        have FA_y2_207 : Hid (HeldX [gy, gx, gf] (fun uq => SkAt uq (.agg #[.int .u64 a0, .int .i64 a3, .slice Ay2 R cy2]) a0 a3 R (fun _ => n) (addsZ a0 a3 n (fun _ _ => 0) J r p)) wy2) := fy2
        clear bb fy2
        refine ⟨_, rfl, ?_⟩
        refine hK0.out _ _ (by exact KB_f_207.out) (fun hHeld => ?_)
        clear hK0 K0 hHeld
        refine hTU.out _ _ _ _ ?_
        refine ND_2_.out _ Ax2 cx2 Ay2 cy2 _ _ ?_ ?_ BEL207 BOX207 FA_f_207 FA_P_207 FA_Q_207 FA_x2_207 FA_y2_207 KB_f_207 KB_x_207 KB_y_207 NE_f_x NE_f_y NE_x_y
        · first | rfl | kernel_rfl
        · rw [hact.out]; rfl
      refine AllReadyH.cons rfl (fun K0 hK0 => ?_) ?_
      · have BEL207 := a_bel BEL206 (.cells #[.int .u64 0, .int .i64 0, .slice none 0 0] 25)
        have BOX207 := a_box BOX206 BEL206 (.cells #[.int .u64 0, .int .i64 0, .slice none 0 0] 25)
        have FA_f_207 := a_fact FA_f_206 (.cells #[.int .u64 0, .int .i64 0, .slice none 0 0] 25)
        have FA_P_207 := a_fact FA_P_206 (.cells #[.int .u64 0, .int .i64 0, .slice none 0 0] 25)
        have FA_Q_207 := a_fact FA_Q_206 (.cells #[.int .u64 0, .int .i64 0, .slice none 0 0] 25)
        have FA_x2_207 := a_fact FA_x2_206 (.cells #[.int .u64 0, .int .i64 0, .slice none 0 0] 25)
        have KB_f_207 := a_blk KB_f_206 (.cells #[.int .u64 0, .int .i64 0, .slice none 0 0] 25)
        have NE_f_m := n_ne KB_f_206
        have KB_x_207 := a_blk KB_x_206 (.cells #[.int .u64 0, .int .i64 0, .slice none 0 0] 25)
        have NE_x_m := n_ne KB_x_206
        have KB_y_207 := a_blk KB_y_206 (.cells #[.int .u64 0, .int .i64 0, .slice none 0 0] 25)
        have NE_y_m := n_ne KB_y_206
        have KB_m_207 := n_blk (u := v) 25 #[.int .u64 0, .int .i64 0, .slice none 0 0]
        clear BEL206 BOX206 FA_f_206 FA_P_206 FA_Q_206 FA_x2_206 KB_f_206 KB_x_206 KB_y_206
        go_simp
        generalize (v.alloc (.cells #[.int .u64 0, .int .i64 0, .slice none 0 0] 25)) = v2 at BEL207 BOX207 FA_f_207 FA_P_207 FA_Q_207 FA_x2_207 KB_f_207 KB_x_207 KB_y_207 KB_m_207 ⊢
        generalize v.heap.size = gm at BOX207 FA_f_207 FA_P_207 FA_Q_207 FA_x2_207 KB_m_207 NE_f_m NE_x_m NE_y_m ⊢
        refine hK0.out _ _ (by exact KB_f_207.out) (fun hHeld => ?_)
        clear hK0 K0 hHeld
        refine hTU.out _ _ _ _ ?_
        refine ND_1_m.out _ Ax2 cx2 gm _ _ ?_ ?_ BEL207 BOX207 FA_f_207 FA_P_207 FA_Q_207 FA_x2_207 KB_f_207 KB_x_207 KB_y_207 KB_m_207 NE_f_x NE_f_y NE_x_y NE_f_m NE_x_m NE_y_m
        · first | rfl | kernel_rfl
        · rw [hact.out]; rfl
      exact AllReadyH.nil
    have ND_0_m : Hid (∀ (v : World) (gm : Nat) (ll : Array Bool) (aa : Act), ll = #[true, true, false, true, true, false, false, false, false, false, true, false, false] → aa = (act0.put (some 17) (.pointer (some ⟨gm, 0, none⟩))) → Hid (Below w.heap.size w v) → Hid (Boxes w v [gm, gy, gx, gf]) → Hid (HeldX [gm, gy, gx, gf] (fun uq => SkAt uq (.agg #[.int .u64 a0, .int .i64 a3, .slice Af R cf]) a0 a3 R (fun _ => n) (fun _ _ => 0)) v) → Hid (HeldX [gm, gy, gx, gf] (fun uq => SkAt uq (.agg #[.int .u64 a0, .int .i64 a3, .slice AP R cP]) a0 a3 R (fun _ => n) (addsZ a0 a3 n (addsZ a0 a3 n (fun _ _ => 0) K q m) J r p)) v) → Hid (HeldX [gm, gy, gx, gf] (fun uq => SkAt uq (.agg #[.int .u64 a0, .int .i64 a3, .slice AQ R cQ]) a0 a3 R (fun _ => n) (addsZ a0 a3 n (addsZ a0 a3 n (fun _ _ => 0) J r p) K q m)) v) → Hid (Blk v gf 25 #[.int .u64 a0, .int .i64 a3, .slice Af R cf]) → Hid (Blk v gx 25 #[.int .u64 a0, .int .i64 a3, .slice AP R cP]) → Hid (Blk v gy 25 #[.int .u64 a0, .int .i64 a3, .slice AQ R cQ]) → Hid (Blk v gm 25 #[.int .u64 0, .int .i64 0, .slice none 0 0]) → Hid (gf ≠ gx) → Hid (gf ≠ gy) → Hid (gx ≠ gy) → Hid (gf ≠ gm) → Hid (gx ≠ gm) → Hid (gy ≠ gm) → TT 8 ll aa v) := by
      intro v gm ll aa hl hA BEL206 BOX206 FA_f_206 FA_P_206 FA_Q_206 KB_f_206 KB_x_206 KB_y_206 KB_m_206 NE_f_x NE_f_y NE_x_y NE_f_m NE_x_m NE_y_m
      rw [hact.out] at hA
      try simp only [Act.put, List.setIfInBounds_toArray, List.set_cons_zero, List.set_cons_succ] at hA
      subst hl hA
      refine hUT.out _ _ _ _ ?_
      refine wpAnyH_ready (rs := [2]) (by kernel_rfl) (by simp) ?_
      refine AllReadyH.cons rfl (fun K0 hK0 => ?_) ?_
      · refine step_func 23 #[.agg #[.int .u64 a0, .int .i64 a3, .slice Af R cf], .slice Al m capl] (by rfl) rfl (by simp [Act.eval]) (fun _ _ => by kernel_rfl) ?_
        refine (adds_any _ _ _ [gm, gy, gx, gf] a0 a3 R n m _ K q FA_f_206.out (fun g hg => (BOX206.out g hg).2) (LA.out.keep (keep_of_below BEL206.out)) OK.out uS (by omega) HK.out).mono ?_
        rintro e wx2 ⟨Ax2, cx2, rfl, fx2, bb⟩
        have BEL207 := h_bel BEL206 bb
        have BOX207 := h_box BOX206 bb
        have FA_f_207 := h_fact FA_f_206 bb
        have FA_P_207 := h_fact FA_P_206 bb
        have FA_Q_207 := h_fact FA_Q_206 bb
        have KB_f_207 := h_blk KB_f_206 bb
        have KB_x_207 := h_blk KB_x_206 bb
        have KB_y_207 := h_blk KB_y_206 bb
        have KB_m_207 := h_blk KB_m_206 bb
        clear BEL206 BOX206 FA_f_206 FA_P_206 FA_Q_206 KB_f_206 KB_x_206 KB_y_206 KB_m_206
        have FA_x2_207 : Hid (HeldX [gm, gy, gx, gf] (fun uq => SkAt uq (.agg #[.int .u64 a0, .int .i64 a3, .slice Ax2 R cx2]) a0 a3 R (fun _ => n) (addsZ a0 a3 n (fun _ _ => 0) K q m)) wx2) := fx2
        clear bb fx2
        refine ⟨_, rfl, ?_⟩
        refine hK0.out _ _ (by exact KB_f_207.out) (fun hHeld => ?_)
        clear hK0 K0 hHeld
        refine hTU.out _ _ _ _ ?_
        refine ND_1_m.out _ Ax2 cx2 gm _ _ ?_ ?_ BEL207 BOX207 FA_f_207 FA_P_207 FA_Q_207 FA_x2_207 KB_f_207 KB_x_207 KB_y_207 KB_m_207 NE_f_x NE_f_y NE_x_y NE_f_m NE_x_m NE_y_m
        · first | rfl | kernel_rfl
        · rw [hact.out]; rfl
      exact AllReadyH.nil
    have ND_0_ : Hid (∀ (v : World)  (ll : Array Bool) (aa : Act), ll = #[true, true, false, true, true, false, false, false, false, false, false, false, false] → aa = act0 → Hid (Below w.heap.size w v) → Hid (Boxes w v [gy, gx, gf]) → Hid (HeldX [gy, gx, gf] (fun uq => SkAt uq (.agg #[.int .u64 a0, .int .i64 a3, .slice Af R cf]) a0 a3 R (fun _ => n) (fun _ _ => 0)) v) → Hid (HeldX [gy, gx, gf] (fun uq => SkAt uq (.agg #[.int .u64 a0, .int .i64 a3, .slice AP R cP]) a0 a3 R (fun _ => n) (addsZ a0 a3 n (addsZ a0 a3 n (fun _ _ => 0) K q m) J r p)) v) → Hid (HeldX [gy, gx, gf] (fun uq => SkAt uq (.agg #[.int .u64 a0, .int .i64 a3, .slice AQ R cQ]) a0 a3 R (fun _ => n) (addsZ a0 a3 n (addsZ a0 a3 n (fun _ _ => 0) J r p) K q m)) v) → Hid (Blk v gf 25 #[.int .u64 a0, .int .i64 a3, .slice Af R cf]) → Hid (Blk v gx 25 #[.int .u64 a0, .int .i64 a3, .slice AP R cP]) → Hid (Blk v gy 25 #[.int .u64 a0, .int .i64 a3, .slice AQ R cQ]) → Hid (gf ≠ gx) → Hid (gf ≠ gy) → Hid (gx ≠ gy) → TT 9 ll aa v) := by
      intro v  ll aa hl hA BEL206 BOX206 FA_f_206 FA_P_206 FA_Q_206 KB_f_206 KB_x_206 KB_y_206 NE_f_x NE_f_y NE_x_y
      rw [hact.out] at hA
      try simp only [Act.put, List.setIfInBounds_toArray, List.set_cons_zero, List.set_cons_succ] at hA
      subst hl hA
      refine hUT.out _ _ _ _ ?_
      refine wpAnyH_ready (rs := [2, 10]) (by kernel_rfl) (by simp) ?_
      refine AllReadyH.cons rfl (fun K0 hK0 => ?_) ?_
      · refine step_func 23 #[.agg #[.int .u64 a0, .int .i64 a3, .slice Af R cf], .slice Al m capl] (by rfl) rfl (by simp [Act.eval]) (fun _ _ => by kernel_rfl) ?_
        refine (adds_any _ _ _ [gy, gx, gf] a0 a3 R n m _ K q FA_f_206.out (fun g hg => (BOX206.out g hg).2) (LA.out.keep (keep_of_below BEL206.out)) OK.out uS (by omega) HK.out).mono ?_
        rintro e wx2 ⟨Ax2, cx2, rfl, fx2, bb⟩
        have BEL207 := h_bel BEL206 bb
        have BOX207 := h_box BOX206 bb
        have FA_f_207 := h_fact FA_f_206 bb
        have FA_P_207 := h_fact FA_P_206 bb
        have FA_Q_207 := h_fact FA_Q_206 bb
        have KB_f_207 := h_blk KB_f_206 bb
        have KB_x_207 := h_blk KB_x_206 bb
        have KB_y_207 := h_blk KB_y_206 bb
        clear BEL206 BOX206 FA_f_206 FA_P_206 FA_Q_206 KB_f_206 KB_x_206 KB_y_206
        have FA_x2_207 : Hid (HeldX [gy, gx, gf] (fun uq => SkAt uq (.agg #[.int .u64 a0, .int .i64 a3, .slice Ax2 R cx2]) a0 a3 R (fun _ => n) (addsZ a0 a3 n (fun _ _ => 0) K q m)) wx2) := fx2
        clear bb fx2
        refine ⟨_, rfl, ?_⟩
        refine hK0.out _ _ (by exact KB_f_207.out) (fun hHeld => ?_)
        clear hK0 K0 hHeld
        refine hTU.out _ _ _ _ ?_
        refine ND_1_.out _ Ax2 cx2 _ _ ?_ ?_ BEL207 BOX207 FA_f_207 FA_P_207 FA_Q_207 FA_x2_207 KB_f_207 KB_x_207 KB_y_207 NE_f_x NE_f_y NE_x_y
        · first | rfl | kernel_rfl
        · rw [hact.out]; rfl
      refine AllReadyH.cons rfl (fun K0 hK0 => ?_) ?_
      · have BEL207 := a_bel BEL206 (.cells #[.int .u64 0, .int .i64 0, .slice none 0 0] 25)
        have BOX207 := a_box BOX206 BEL206 (.cells #[.int .u64 0, .int .i64 0, .slice none 0 0] 25)
        have FA_f_207 := a_fact FA_f_206 (.cells #[.int .u64 0, .int .i64 0, .slice none 0 0] 25)
        have FA_P_207 := a_fact FA_P_206 (.cells #[.int .u64 0, .int .i64 0, .slice none 0 0] 25)
        have FA_Q_207 := a_fact FA_Q_206 (.cells #[.int .u64 0, .int .i64 0, .slice none 0 0] 25)
        have KB_f_207 := a_blk KB_f_206 (.cells #[.int .u64 0, .int .i64 0, .slice none 0 0] 25)
        have NE_f_m := n_ne KB_f_206
        have KB_x_207 := a_blk KB_x_206 (.cells #[.int .u64 0, .int .i64 0, .slice none 0 0] 25)
        have NE_x_m := n_ne KB_x_206
        have KB_y_207 := a_blk KB_y_206 (.cells #[.int .u64 0, .int .i64 0, .slice none 0 0] 25)
        have NE_y_m := n_ne KB_y_206
        have KB_m_207 := n_blk (u := v) 25 #[.int .u64 0, .int .i64 0, .slice none 0 0]
        clear BEL206 BOX206 FA_f_206 FA_P_206 FA_Q_206 KB_f_206 KB_x_206 KB_y_206
        go_simp
        generalize (v.alloc (.cells #[.int .u64 0, .int .i64 0, .slice none 0 0] 25)) = v2 at BEL207 BOX207 FA_f_207 FA_P_207 FA_Q_207 KB_f_207 KB_x_207 KB_y_207 KB_m_207 ⊢
        generalize v.heap.size = gm at BOX207 FA_f_207 FA_P_207 FA_Q_207 KB_m_207 NE_f_m NE_x_m NE_y_m ⊢
        refine hK0.out _ _ (by exact KB_f_207.out) (fun hHeld => ?_)
        clear hK0 K0 hHeld
        refine hTU.out _ _ _ _ ?_
        refine ND_0_m.out _ gm _ _ ?_ ?_ BEL207 BOX207 FA_f_207 FA_P_207 FA_Q_207 KB_f_207 KB_x_207 KB_y_207 KB_m_207 NE_f_x NE_f_y NE_x_y NE_f_m NE_x_m NE_y_m
        · first | rfl | kernel_rfl
        · rw [hact.out]; rfl
      exact AllReadyH.nil
    refine ND_0_.out _  _ _ ?_ ?_ BEL106 BOX106 FA_f_106 FA_P_106 FA_Q_106 KB_f_106 KB_x_106 KB_y_106 NE_f_x NE_f_y NE_x_y
    · first | rfl | kernel_rfl
    · rfl
  have ND_4_x : Hid (∀ (v : World) (Ax : Option Addr) (cx : Nat) (AP : Option Addr) (cP : Nat) (Ay : Option Addr) (cy : Nat) (AQ : Option Addr) (cQ : Nat) (gx : Nat) (ll : Array Bool) (aa : Act), ll = #[true, true, true, true, true, true, true, true, true, true, true, false, false, false] → aa = (((((act0.put (some 42) (.agg #[.int .u64 a0, .int .i64 a3, .slice Ax R cx])).put (some 44) (.agg #[.int .u64 a0, .int .i64 a3, .slice AP R cP])).put (some 47) (.agg #[.int .u64 a0, .int .i64 a3, .slice Ay R cy])).put (some 49) (.agg #[.int .u64 a0, .int .i64 a3, .slice AQ R cQ])).put (some 15) (.pointer (some ⟨gx, 0, none⟩))) → Hid (Below w.heap.size w v) → Hid (Boxes w v [gx, gf]) → Hid (HeldX [gx, gf] (fun uq => SkAt uq (.agg #[.int .u64 a0, .int .i64 a3, .slice Af R cf]) a0 a3 R (fun _ => n) (fun _ _ => 0)) v) → Hid (HeldX [gx, gf] (fun uq => SkAt uq (.agg #[.int .u64 a0, .int .i64 a3, .slice AP R cP]) a0 a3 R (fun _ => n) (addsZ a0 a3 n (addsZ a0 a3 n (fun _ _ => 0) K q m) J r p)) v) → Hid (HeldX [gx, gf] (fun uq => SkAt uq (.agg #[.int .u64 a0, .int .i64 a3, .slice AQ R cQ]) a0 a3 R (fun _ => n) (addsZ a0 a3 n (addsZ a0 a3 n (fun _ _ => 0) J r p) K q m)) v) → Hid (Blk v gf 25 #[.int .u64 a0, .int .i64 a3, .slice Af R cf]) → Hid (Blk v gx 25 #[.int .u64 0, .int .i64 0, .slice none 0 0]) → Hid (gf ≠ gx) → TT 3 ll aa v) := by
    intro v Ax cx AP cP Ay cy AQ cQ gx ll aa hl hA BEL103 BOX103 FA_f_103 FA_P_103 FA_Q_103 KB_f_103 KB_x_103 NE_f_x
    rw [hact.out] at hA
    try simp only [Act.put, List.setIfInBounds_toArray, List.set_cons_zero, List.set_cons_succ] at hA
    subst hl hA
    refine hUT.out _ _ _ _ ?_
    refine wpAnyH_ready (rs := [11]) (by kernel_rfl) (by simp) ?_
    refine AllReadyH.cons rfl (fun K0 hK0 => ?_) ?_
    · have BEL104 := a_bel BEL103 (.cells #[.int .u64 0, .int .i64 0, .slice none 0 0] 25)
      have BOX104 := a_box BOX103 BEL103 (.cells #[.int .u64 0, .int .i64 0, .slice none 0 0] 25)
      have FA_f_104 := a_fact FA_f_103 (.cells #[.int .u64 0, .int .i64 0, .slice none 0 0] 25)
      have FA_P_104 := a_fact FA_P_103 (.cells #[.int .u64 0, .int .i64 0, .slice none 0 0] 25)
      have FA_Q_104 := a_fact FA_Q_103 (.cells #[.int .u64 0, .int .i64 0, .slice none 0 0] 25)
      have KB_f_104 := a_blk KB_f_103 (.cells #[.int .u64 0, .int .i64 0, .slice none 0 0] 25)
      have NE_f_y := n_ne KB_f_103
      have KB_x_104 := a_blk KB_x_103 (.cells #[.int .u64 0, .int .i64 0, .slice none 0 0] 25)
      have NE_x_y := n_ne KB_x_103
      have KB_y_104 := n_blk (u := v) 25 #[.int .u64 0, .int .i64 0, .slice none 0 0]
      clear BEL103 BOX103 FA_f_103 FA_P_103 FA_Q_103 KB_f_103 KB_x_103
      go_simp
      generalize (v.alloc (.cells #[.int .u64 0, .int .i64 0, .slice none 0 0] 25)) = v2 at BEL104 BOX104 FA_f_104 FA_P_104 FA_Q_104 KB_f_104 KB_x_104 KB_y_104 ⊢
      generalize v.heap.size = gy at BOX104 FA_f_104 FA_P_104 FA_Q_104 KB_y_104 NE_f_y NE_x_y ⊢
      refine hK0.out _ _ (by exact KB_f_104.out) (fun hHeld => ?_)
      clear hK0 K0 hHeld
      refine hTU.out _ _ _ _ ?_
      refine ND_4_xy.out _ Ax cx AP cP Ay cy AQ cQ gx gy _ _ ?_ ?_ BEL104 BOX104 FA_f_104 FA_P_104 FA_Q_104 KB_f_104 KB_x_104 KB_y_104 NE_f_x NE_f_y NE_x_y
      · first | rfl | kernel_rfl
      · rw [hact.out]; rfl
    exact AllReadyH.nil
  have ND_4_y : Hid (∀ (v : World) (Ax : Option Addr) (cx : Nat) (AP : Option Addr) (cP : Nat) (Ay : Option Addr) (cy : Nat) (AQ : Option Addr) (cQ : Nat) (gy : Nat) (ll : Array Bool) (aa : Act), ll = #[true, true, true, true, true, true, true, true, true, true, false, true, false, false] → aa = (((((act0.put (some 42) (.agg #[.int .u64 a0, .int .i64 a3, .slice Ax R cx])).put (some 44) (.agg #[.int .u64 a0, .int .i64 a3, .slice AP R cP])).put (some 47) (.agg #[.int .u64 a0, .int .i64 a3, .slice Ay R cy])).put (some 49) (.agg #[.int .u64 a0, .int .i64 a3, .slice AQ R cQ])).put (some 16) (.pointer (some ⟨gy, 0, none⟩))) → Hid (Below w.heap.size w v) → Hid (Boxes w v [gy, gf]) → Hid (HeldX [gy, gf] (fun uq => SkAt uq (.agg #[.int .u64 a0, .int .i64 a3, .slice Af R cf]) a0 a3 R (fun _ => n) (fun _ _ => 0)) v) → Hid (HeldX [gy, gf] (fun uq => SkAt uq (.agg #[.int .u64 a0, .int .i64 a3, .slice AP R cP]) a0 a3 R (fun _ => n) (addsZ a0 a3 n (addsZ a0 a3 n (fun _ _ => 0) K q m) J r p)) v) → Hid (HeldX [gy, gf] (fun uq => SkAt uq (.agg #[.int .u64 a0, .int .i64 a3, .slice AQ R cQ]) a0 a3 R (fun _ => n) (addsZ a0 a3 n (addsZ a0 a3 n (fun _ _ => 0) J r p) K q m)) v) → Hid (Blk v gf 25 #[.int .u64 a0, .int .i64 a3, .slice Af R cf]) → Hid (Blk v gy 25 #[.int .u64 0, .int .i64 0, .slice none 0 0]) → Hid (gf ≠ gy) → TT 3 ll aa v) := by
    intro v Ax cx AP cP Ay cy AQ cQ gy ll aa hl hA BEL103 BOX103 FA_f_103 FA_P_103 FA_Q_103 KB_f_103 KB_y_103 NE_f_y
    rw [hact.out] at hA
    try simp only [Act.put, List.setIfInBounds_toArray, List.set_cons_zero, List.set_cons_succ] at hA
    subst hl hA
    refine hUT.out _ _ _ _ ?_
    refine wpAnyH_ready (rs := [10]) (by kernel_rfl) (by simp) ?_
    refine AllReadyH.cons rfl (fun K0 hK0 => ?_) ?_
    · have BEL104 := a_bel BEL103 (.cells #[.int .u64 0, .int .i64 0, .slice none 0 0] 25)
      have BOX104 := a_box BOX103 BEL103 (.cells #[.int .u64 0, .int .i64 0, .slice none 0 0] 25)
      have FA_f_104 := a_fact FA_f_103 (.cells #[.int .u64 0, .int .i64 0, .slice none 0 0] 25)
      have FA_P_104 := a_fact FA_P_103 (.cells #[.int .u64 0, .int .i64 0, .slice none 0 0] 25)
      have FA_Q_104 := a_fact FA_Q_103 (.cells #[.int .u64 0, .int .i64 0, .slice none 0 0] 25)
      have KB_f_104 := a_blk KB_f_103 (.cells #[.int .u64 0, .int .i64 0, .slice none 0 0] 25)
      have NE_f_x := n_ne KB_f_103
      have KB_y_104 := a_blk KB_y_103 (.cells #[.int .u64 0, .int .i64 0, .slice none 0 0] 25)
      have NE_y_x := n_ne KB_y_103
      have KB_x_104 := n_blk (u := v) 25 #[.int .u64 0, .int .i64 0, .slice none 0 0]
      clear BEL103 BOX103 FA_f_103 FA_P_103 FA_Q_103 KB_f_103 KB_y_103
      go_simp
      generalize (v.alloc (.cells #[.int .u64 0, .int .i64 0, .slice none 0 0] 25)) = v2 at BEL104 BOX104 FA_f_104 FA_P_104 FA_Q_104 KB_f_104 KB_y_104 KB_x_104 ⊢
      generalize v.heap.size = gx at BOX104 FA_f_104 FA_P_104 FA_Q_104 KB_x_104 NE_f_x NE_y_x ⊢
      refine hK0.out _ _ (by exact KB_f_104.out) (fun hHeld => ?_)
      clear hK0 K0 hHeld
      refine hTU.out _ _ _ _ ?_
      refine ND_4_xy.out _ Ax cx AP cP Ay cy AQ cQ gx gy _ _ ?_ ?_ BEL104 (b_perm BOX104 (by intro p m; simp only [List.mem_cons, List.not_mem_nil, or_false] at m ⊢; omega)) (h_perm FA_f_104 (by intro p m; simp only [List.mem_cons, List.not_mem_nil, or_false] at m ⊢; omega)) (h_perm FA_P_104 (by intro p m; simp only [List.mem_cons, List.not_mem_nil, or_false] at m ⊢; omega)) (h_perm FA_Q_104 (by intro p m; simp only [List.mem_cons, List.not_mem_nil, or_false] at m ⊢; omega)) KB_f_104 KB_x_104 KB_y_104 NE_f_x NE_f_y (n_sym NE_y_x)
      · first | rfl | kernel_rfl
      · rw [hact.out]; rfl
    exact AllReadyH.nil
  have ND_4_ : Hid (∀ (v : World) (Ax : Option Addr) (cx : Nat) (AP : Option Addr) (cP : Nat) (Ay : Option Addr) (cy : Nat) (AQ : Option Addr) (cQ : Nat) (ll : Array Bool) (aa : Act), ll = #[true, true, true, true, true, true, true, true, true, true, false, false, false, false] → aa = ((((act0.put (some 42) (.agg #[.int .u64 a0, .int .i64 a3, .slice Ax R cx])).put (some 44) (.agg #[.int .u64 a0, .int .i64 a3, .slice AP R cP])).put (some 47) (.agg #[.int .u64 a0, .int .i64 a3, .slice Ay R cy])).put (some 49) (.agg #[.int .u64 a0, .int .i64 a3, .slice AQ R cQ])) → Hid (Below w.heap.size w v) → Hid (Boxes w v [gf]) → Hid (HeldX [gf] (fun uq => SkAt uq (.agg #[.int .u64 a0, .int .i64 a3, .slice Af R cf]) a0 a3 R (fun _ => n) (fun _ _ => 0)) v) → Hid (HeldX [gf] (fun uq => SkAt uq (.agg #[.int .u64 a0, .int .i64 a3, .slice AP R cP]) a0 a3 R (fun _ => n) (addsZ a0 a3 n (addsZ a0 a3 n (fun _ _ => 0) K q m) J r p)) v) → Hid (HeldX [gf] (fun uq => SkAt uq (.agg #[.int .u64 a0, .int .i64 a3, .slice AQ R cQ]) a0 a3 R (fun _ => n) (addsZ a0 a3 n (addsZ a0 a3 n (fun _ _ => 0) J r p) K q m)) v) → Hid (Blk v gf 25 #[.int .u64 a0, .int .i64 a3, .slice Af R cf]) → TT 4 ll aa v) := by
    intro v Ax cx AP cP Ay cy AQ cQ ll aa hl hA BEL103 BOX103 FA_f_103 FA_P_103 FA_Q_103 KB_f_103
    rw [hact.out] at hA
    try simp only [Act.put, List.setIfInBounds_toArray, List.set_cons_zero, List.set_cons_succ] at hA
    subst hl hA
    refine hUT.out _ _ _ _ ?_
    refine wpAnyH_ready (rs := [10, 11]) (by kernel_rfl) (by simp) ?_
    refine AllReadyH.cons rfl (fun K0 hK0 => ?_) ?_
    · have BEL104 := a_bel BEL103 (.cells #[.int .u64 0, .int .i64 0, .slice none 0 0] 25)
      have BOX104 := a_box BOX103 BEL103 (.cells #[.int .u64 0, .int .i64 0, .slice none 0 0] 25)
      have FA_f_104 := a_fact FA_f_103 (.cells #[.int .u64 0, .int .i64 0, .slice none 0 0] 25)
      have FA_P_104 := a_fact FA_P_103 (.cells #[.int .u64 0, .int .i64 0, .slice none 0 0] 25)
      have FA_Q_104 := a_fact FA_Q_103 (.cells #[.int .u64 0, .int .i64 0, .slice none 0 0] 25)
      have KB_f_104 := a_blk KB_f_103 (.cells #[.int .u64 0, .int .i64 0, .slice none 0 0] 25)
      have NE_f_x := n_ne KB_f_103
      have KB_x_104 := n_blk (u := v) 25 #[.int .u64 0, .int .i64 0, .slice none 0 0]
      clear BEL103 BOX103 FA_f_103 FA_P_103 FA_Q_103 KB_f_103
      go_simp
      generalize (v.alloc (.cells #[.int .u64 0, .int .i64 0, .slice none 0 0] 25)) = v2 at BEL104 BOX104 FA_f_104 FA_P_104 FA_Q_104 KB_f_104 KB_x_104 ⊢
      generalize v.heap.size = gx at BOX104 FA_f_104 FA_P_104 FA_Q_104 KB_x_104 NE_f_x ⊢
      refine hK0.out _ _ (by exact KB_f_104.out) (fun hHeld => ?_)
      clear hK0 K0 hHeld
      refine hTU.out _ _ _ _ ?_
      refine ND_4_x.out _ Ax cx AP cP Ay cy AQ cQ gx _ _ ?_ ?_ BEL104 BOX104 FA_f_104 FA_P_104 FA_Q_104 KB_f_104 KB_x_104 NE_f_x
      · first | rfl | kernel_rfl
      · rw [hact.out]; rfl
    refine AllReadyH.cons rfl (fun K0 hK0 => ?_) ?_
    · have BEL104 := a_bel BEL103 (.cells #[.int .u64 0, .int .i64 0, .slice none 0 0] 25)
      have BOX104 := a_box BOX103 BEL103 (.cells #[.int .u64 0, .int .i64 0, .slice none 0 0] 25)
      have FA_f_104 := a_fact FA_f_103 (.cells #[.int .u64 0, .int .i64 0, .slice none 0 0] 25)
      have FA_P_104 := a_fact FA_P_103 (.cells #[.int .u64 0, .int .i64 0, .slice none 0 0] 25)
      have FA_Q_104 := a_fact FA_Q_103 (.cells #[.int .u64 0, .int .i64 0, .slice none 0 0] 25)
      have KB_f_104 := a_blk KB_f_103 (.cells #[.int .u64 0, .int .i64 0, .slice none 0 0] 25)
      have NE_f_y := n_ne KB_f_103
      have KB_y_104 := n_blk (u := v) 25 #[.int .u64 0, .int .i64 0, .slice none 0 0]
      clear BEL103 BOX103 FA_f_103 FA_P_103 FA_Q_103 KB_f_103
      go_simp
      generalize (v.alloc (.cells #[.int .u64 0, .int .i64 0, .slice none 0 0] 25)) = v2 at BEL104 BOX104 FA_f_104 FA_P_104 FA_Q_104 KB_f_104 KB_y_104 ⊢
      generalize v.heap.size = gy at BOX104 FA_f_104 FA_P_104 FA_Q_104 KB_y_104 NE_f_y ⊢
      refine hK0.out _ _ (by exact KB_f_104.out) (fun hHeld => ?_)
      clear hK0 K0 hHeld
      refine hTU.out _ _ _ _ ?_
      refine ND_4_y.out _ Ax cx AP cP Ay cy AQ cQ gy _ _ ?_ ?_ BEL104 BOX104 FA_f_104 FA_P_104 FA_Q_104 KB_f_104 KB_y_104 NE_f_y
      · first | rfl | kernel_rfl
      · rw [hact.out]; rfl
    exact AllReadyH.nil
  have ND_3_xy : Hid (∀ (v : World) (Ax : Option Addr) (cx : Nat) (AP : Option Addr) (cP : Nat) (Ay : Option Addr) (cy : Nat) (gx : Nat) (gy : Nat) (ll : Array Bool) (aa : Act), ll = #[true, true, true, true, true, true, true, true, true, false, true, true, false, false] → aa = (((((act0.put (some 42) (.agg #[.int .u64 a0, .int .i64 a3, .slice Ax R cx])).put (some 44) (.agg #[.int .u64 a0, .int .i64 a3, .slice AP R cP])).put (some 47) (.agg #[.int .u64 a0, .int .i64 a3, .slice Ay R cy])).put (some 15) (.pointer (some ⟨gx, 0, none⟩))).put (some 16) (.pointer (some ⟨gy, 0, none⟩))) → Hid (Below w.heap.size w v) → Hid (Boxes w v [gy, gx, gf]) → Hid (HeldX [gy, gx, gf] (fun uq => SkAt uq (.agg #[.int .u64 a0, .int .i64 a3, .slice Af R cf]) a0 a3 R (fun _ => n) (fun _ _ => 0)) v) → Hid (HeldX [gy, gx, gf] (fun uq => SkAt uq (.agg #[.int .u64 a0, .int .i64 a3, .slice AP R cP]) a0 a3 R (fun _ => n) (addsZ a0 a3 n (addsZ a0 a3 n (fun _ _ => 0) K q m) J r p)) v) → Hid (HeldX [gy, gx, gf] (fun uq => SkAt uq (.agg #[.int .u64 a0, .int .i64 a3, .slice Ay R cy]) a0 a3 R (fun _ => n) (addsZ a0 a3 n (fun _ _ => 0) J r p)) v) → Hid (Blk v gf 25 #[.int .u64 a0, .int .i64 a3, .slice Af R cf]) → Hid (Blk v gx 25 #[.int .u64 0, .int .i64 0, .slice none 0 0]) → Hid (Blk v gy 25 #[.int .u64 0, .int .i64 0, .slice none 0 0]) → Hid (gf ≠ gx) → Hid (gf ≠ gy) → Hid (gx ≠ gy) → TT 3 ll aa v) := by
    intro v Ax cx AP cP Ay cy gx gy ll aa hl hA BEL103 BOX103 FA_f_103 FA_P_103 FA_y_103 KB_f_103 KB_x_103 KB_y_103 NE_f_x NE_f_y NE_x_y
    rw [hact.out] at hA
    try simp only [Act.put, List.setIfInBounds_toArray, List.set_cons_zero, List.set_cons_succ] at hA
    subst hl hA
    refine hUT.out _ _ _ _ ?_
    refine wpAnyH_ready (rs := [9]) (by kernel_rfl) (by simp) ?_
    refine AllReadyH.cons rfl (fun K0 hK0 => ?_) ?_
    · refine step_func 23 #[.agg #[.int .u64 a0, .int .i64 a3, .slice Ay R cy], .slice Al m capl] (by rfl) rfl (by simp [Act.eval]) (fun _ _ => by kernel_rfl) ?_
      refine (adds_any _ _ _ [gy, gx, gf] a0 a3 R n m _ K q FA_y_103.out (fun g hg => (BOX103.out g hg).2) (LA.out.keep (keep_of_below BEL103.out)) OKY.out uS (by omega) HK.out).mono ?_
      rintro e wQ ⟨AQ, cQ, rfl, fQ, bb⟩
      have BEL104 := h_bel BEL103 bb
      have BOX104 := h_box BOX103 bb
      have FA_f_104 := h_fact FA_f_103 bb
      have FA_P_104 := h_fact FA_P_103 bb
      have FA_y_104 := h_fact FA_y_103 bb
      have KB_f_104 := h_blk KB_f_103 bb
      have KB_x_104 := h_blk KB_x_103 bb
      have KB_y_104 := h_blk KB_y_103 bb
      clear BEL103 BOX103 FA_f_103 FA_P_103 FA_y_103 KB_f_103 KB_x_103 KB_y_103
      have FA_Q_104 : Hid (HeldX [gy, gx, gf] (fun uq => SkAt uq (.agg #[.int .u64 a0, .int .i64 a3, .slice AQ R cQ]) a0 a3 R (fun _ => n) (addsZ a0 a3 n (addsZ a0 a3 n (fun _ _ => 0) J r p) K q m)) wQ) := fQ
      clear bb fQ
      clear FA_y_104
      refine ⟨_, rfl, ?_⟩
      refine hK0.out _ _ (by exact KB_f_104.out) (fun hHeld => ?_)
      clear hK0 K0 hHeld
      refine hTU.out _ _ _ _ ?_
      refine ND_4_xy.out _ Ax cx AP cP Ay cy AQ cQ gx gy _ _ ?_ ?_ BEL104 BOX104 FA_f_104 FA_P_104 FA_Q_104 KB_f_104 KB_x_104 KB_y_104 NE_f_x NE_f_y NE_x_y
      · first | rfl | kernel_rfl
      · rw [hact.out]; rfl
    exact AllReadyH.nil
  have ND_3_x : Hid (∀ (v : World) (Ax : Option Addr) (cx : Nat) (AP : Option Addr) (cP : Nat) (Ay : Option Addr) (cy : Nat) (gx : Nat) (ll : Array Bool) (aa : Act), ll = #[true, true, true, true, true, true, true, true, true, false, true, false, false, false] → aa = ((((act0.put (some 42) (.agg #[.int .u64 a0, .int .i64 a3, .slice Ax R cx])).put (some 44) (.agg #[.int .u64 a0, .int .i64 a3, .slice AP R cP])).put (some 47) (.agg #[.int .u64 a0, .int .i64 a3, .slice Ay R cy])).put (some 15) (.pointer (some ⟨gx, 0, none⟩))) → Hid (Below w.heap.size w v) → Hid (Boxes w v [gx, gf]) → Hid (HeldX [gx, gf] (fun uq => SkAt uq (.agg #[.int .u64 a0, .int .i64 a3, .slice Af R cf]) a0 a3 R (fun _ => n) (fun _ _ => 0)) v) → Hid (HeldX [gx, gf] (fun uq => SkAt uq (.agg #[.int .u64 a0, .int .i64 a3, .slice AP R cP]) a0 a3 R (fun _ => n) (addsZ a0 a3 n (addsZ a0 a3 n (fun _ _ => 0) K q m) J r p)) v) → Hid (HeldX [gx, gf] (fun uq => SkAt uq (.agg #[.int .u64 a0, .int .i64 a3, .slice Ay R cy]) a0 a3 R (fun _ => n) (addsZ a0 a3 n (fun _ _ => 0) J r p)) v) → Hid (Blk v gf 25 #[.int .u64 a0, .int .i64 a3, .slice Af R cf]) → Hid (Blk v gx 25 #[.int .u64 0, .int .i64 0, .slice none 0 0]) → Hid (gf ≠ gx) → TT 4 ll aa v) := by
    intro v Ax cx AP cP Ay cy gx ll aa hl hA BEL103 BOX103 FA_f_103 FA_P_103 FA_y_103 KB_f_103 KB_x_103 NE_f_x
    rw [hact.out] at hA
    try simp only [Act.put, List.setIfInBounds_toArray, List.set_cons_zero, List.set_cons_succ] at hA
    subst hl hA
    refine hUT.out _ _ _ _ ?_
    refine wpAnyH_ready (rs := [9, 11]) (by kernel_rfl) (by simp) ?_
    refine AllReadyH.cons rfl (fun K0 hK0 => ?_) ?_
    · refine step_func 23 #[.agg #[.int .u64 a0, .int .i64 a3, .slice Ay R cy], .slice Al m capl] (by rfl) rfl (by simp [Act.eval]) (fun _ _ => by kernel_rfl) ?_
      refine (adds_any _ _ _ [gx, gf] a0 a3 R n m _ K q FA_y_103.out (fun g hg => (BOX103.out g hg).2) (LA.out.keep (keep_of_below BEL103.out)) OKY.out uS (by omega) HK.out).mono ?_
      rintro e wQ ⟨AQ, cQ, rfl, fQ, bb⟩
      have BEL104 := h_bel BEL103 bb
      have BOX104 := h_box BOX103 bb
      have FA_f_104 := h_fact FA_f_103 bb
      have FA_P_104 := h_fact FA_P_103 bb
      have FA_y_104 := h_fact FA_y_103 bb
      have KB_f_104 := h_blk KB_f_103 bb
      have KB_x_104 := h_blk KB_x_103 bb
      clear BEL103 BOX103 FA_f_103 FA_P_103 FA_y_103 KB_f_103 KB_x_103
      have FA_Q_104 : Hid (HeldX [gx, gf] (fun uq => SkAt uq (.agg #[.int .u64 a0, .int .i64 a3, .slice AQ R cQ]) a0 a3 R (fun _ => n) (addsZ a0 a3 n (addsZ a0 a3 n (fun _ _ => 0) J r p) K q m)) wQ) := fQ
      clear bb fQ
      clear FA_y_104
      refine ⟨_, rfl, ?_⟩
      refine hK0.out _ _ (by exact KB_f_104.out) (fun hHeld => ?_)
      clear hK0 K0 hHeld
      refine hTU.out _ _ _ _ ?_
      refine ND_4_x.out _ Ax cx AP cP Ay cy AQ cQ gx _ _ ?_ ?_ BEL104 BOX104 FA_f_104 FA_P_104 FA_Q_104 KB_f_104 KB_x_104 NE_f_x
      · first | rfl | kernel_rfl
      · rw [hact.out]; rfl
    refine AllReadyH.cons rfl (fun K0 hK0 => ?_) ?_
    · have BEL104 := a_bel BEL103 (.cells #[.int .u64 0, .int .i64 0, .slice none 0 0] 25)
      have BOX104 := a_box BOX103 BEL103 (.cells #[.int .u64 0, .int .i64 0, .slice none 0 0] 25)
      have FA_f_104 := a_fact FA_f_103 (.cells #[.int .u64 0, .int .i64 0, .slice none 0 0] 25)
      have FA_P_104 := a_fact FA_P_103 (.cells #[.int .u64 0, .int .i64 0, .slice none 0 0] 25)
      have FA_y_104 := a_fact FA_y_103 (.cells #[.int .u64 0, .int .i64 0, .slice none 0 0] 25)
      have KB_f_104 := a_blk KB_f_103 (.cells #[.int .u64 0, .int .i64 0, .slice none 0 0] 25)
      have NE_f_y := n_ne KB_f_103
      have KB_x_104 := a_blk KB_x_103 (.cells #[.int .u64 0, .int .i64 0, .slice none 0 0] 25)
      have NE_x_y := n_ne KB_x_103
      have KB_y_104 := n_blk (u := v) 25 #[.int .u64 0, .int .i64 0, .slice none 0 0]
      clear BEL103 BOX103 FA_f_103 FA_P_103 FA_y_103 KB_f_103 KB_x_103
      go_simp
      generalize (v.alloc (.cells #[.int .u64 0, .int .i64 0, .slice none 0 0] 25)) = v2 at BEL104 BOX104 FA_f_104 FA_P_104 FA_y_104 KB_f_104 KB_x_104 KB_y_104 ⊢
      generalize v.heap.size = gy at BOX104 FA_f_104 FA_P_104 FA_y_104 KB_y_104 NE_f_y NE_x_y ⊢
      refine hK0.out _ _ (by exact KB_f_104.out) (fun hHeld => ?_)
      clear hK0 K0 hHeld
      refine hTU.out _ _ _ _ ?_
      refine ND_3_xy.out _ Ax cx AP cP Ay cy gx gy _ _ ?_ ?_ BEL104 BOX104 FA_f_104 FA_P_104 FA_y_104 KB_f_104 KB_x_104 KB_y_104 NE_f_x NE_f_y NE_x_y
      · first | rfl | kernel_rfl
      · rw [hact.out]; rfl
    exact AllReadyH.nil
  have ND_3_y : Hid (∀ (v : World) (Ax : Option Addr) (cx : Nat) (AP : Option Addr) (cP : Nat) (Ay : Option Addr) (cy : Nat) (gy : Nat) (ll : Array Bool) (aa : Act), ll = #[true, true, true, true, true, true, true, true, true, false, false, true, false, false] → aa = ((((act0.put (some 42) (.agg #[.int .u64 a0, .int .i64 a3, .slice Ax R cx])).put (some 44) (.agg #[.int .u64 a0, .int .i64 a3, .slice AP R cP])).put (some 47) (.agg #[.int .u64 a0, .int .i64 a3, .slice Ay R cy])).put (some 16) (.pointer (some ⟨gy, 0, none⟩))) → Hid (Below w.heap.size w v) → Hid (Boxes w v [gy, gf]) → Hid (HeldX [gy, gf] (fun uq => SkAt uq (.agg #[.int .u64 a0, .int .i64 a3, .slice Af R cf]) a0 a3 R (fun _ => n) (fun _ _ => 0)) v) → Hid (HeldX [gy, gf] (fun uq => SkAt uq (.agg #[.int .u64 a0, .int .i64 a3, .slice AP R cP]) a0 a3 R (fun _ => n) (addsZ a0 a3 n (addsZ a0 a3 n (fun _ _ => 0) K q m) J r p)) v) → Hid (HeldX [gy, gf] (fun uq => SkAt uq (.agg #[.int .u64 a0, .int .i64 a3, .slice Ay R cy]) a0 a3 R (fun _ => n) (addsZ a0 a3 n (fun _ _ => 0) J r p)) v) → Hid (Blk v gf 25 #[.int .u64 a0, .int .i64 a3, .slice Af R cf]) → Hid (Blk v gy 25 #[.int .u64 0, .int .i64 0, .slice none 0 0]) → Hid (gf ≠ gy) → TT 4 ll aa v) := by
    intro v Ax cx AP cP Ay cy gy ll aa hl hA BEL103 BOX103 FA_f_103 FA_P_103 FA_y_103 KB_f_103 KB_y_103 NE_f_y
    rw [hact.out] at hA
    try simp only [Act.put, List.setIfInBounds_toArray, List.set_cons_zero, List.set_cons_succ] at hA
    subst hl hA
    refine hUT.out _ _ _ _ ?_
    refine wpAnyH_ready (rs := [9, 10]) (by kernel_rfl) (by simp) ?_
    refine AllReadyH.cons rfl (fun K0 hK0 => ?_) ?_
    · refine step_func 23 #[.agg #[.int .u64 a0, .int .i64 a3, .slice Ay R cy], .slice Al m capl] (by rfl) rfl (by simp [Act.eval]) (fun _ _ => by kernel_rfl) ?_
      refine (adds_any _ _ _ [gy, gf] a0 a3 R n m _ K q FA_y_103.out (fun g hg => (BOX103.out g hg).2) (LA.out.keep (keep_of_below BEL103.out)) OKY.out uS (by omega) HK.out).mono ?_
      rintro e wQ ⟨AQ, cQ, rfl, fQ, bb⟩
      have BEL104 := h_bel BEL103 bb
      have BOX104 := h_box BOX103 bb
      have FA_f_104 := h_fact FA_f_103 bb
      have FA_P_104 := h_fact FA_P_103 bb
      have FA_y_104 := h_fact FA_y_103 bb
      have KB_f_104 := h_blk KB_f_103 bb
      have KB_y_104 := h_blk KB_y_103 bb
      clear BEL103 BOX103 FA_f_103 FA_P_103 FA_y_103 KB_f_103 KB_y_103
      have FA_Q_104 : Hid (HeldX [gy, gf] (fun uq => SkAt uq (.agg #[.int .u64 a0, .int .i64 a3, .slice AQ R cQ]) a0 a3 R (fun _ => n) (addsZ a0 a3 n (addsZ a0 a3 n (fun _ _ => 0) J r p) K q m)) wQ) := fQ
      clear bb fQ
      clear FA_y_104
      refine ⟨_, rfl, ?_⟩
      refine hK0.out _ _ (by exact KB_f_104.out) (fun hHeld => ?_)
      clear hK0 K0 hHeld
      refine hTU.out _ _ _ _ ?_
      refine ND_4_y.out _ Ax cx AP cP Ay cy AQ cQ gy _ _ ?_ ?_ BEL104 BOX104 FA_f_104 FA_P_104 FA_Q_104 KB_f_104 KB_y_104 NE_f_y
      · first | rfl | kernel_rfl
      · rw [hact.out]; rfl
    refine AllReadyH.cons rfl (fun K0 hK0 => ?_) ?_
    · have BEL104 := a_bel BEL103 (.cells #[.int .u64 0, .int .i64 0, .slice none 0 0] 25)
      have BOX104 := a_box BOX103 BEL103 (.cells #[.int .u64 0, .int .i64 0, .slice none 0 0] 25)
      have FA_f_104 := a_fact FA_f_103 (.cells #[.int .u64 0, .int .i64 0, .slice none 0 0] 25)
      have FA_P_104 := a_fact FA_P_103 (.cells #[.int .u64 0, .int .i64 0, .slice none 0 0] 25)
      have FA_y_104 := a_fact FA_y_103 (.cells #[.int .u64 0, .int .i64 0, .slice none 0 0] 25)
      have KB_f_104 := a_blk KB_f_103 (.cells #[.int .u64 0, .int .i64 0, .slice none 0 0] 25)
      have NE_f_x := n_ne KB_f_103
      have KB_y_104 := a_blk KB_y_103 (.cells #[.int .u64 0, .int .i64 0, .slice none 0 0] 25)
      have NE_y_x := n_ne KB_y_103
      have KB_x_104 := n_blk (u := v) 25 #[.int .u64 0, .int .i64 0, .slice none 0 0]
      clear BEL103 BOX103 FA_f_103 FA_P_103 FA_y_103 KB_f_103 KB_y_103
      go_simp
      generalize (v.alloc (.cells #[.int .u64 0, .int .i64 0, .slice none 0 0] 25)) = v2 at BEL104 BOX104 FA_f_104 FA_P_104 FA_y_104 KB_f_104 KB_y_104 KB_x_104 ⊢
      generalize v.heap.size = gx at BOX104 FA_f_104 FA_P_104 FA_y_104 KB_x_104 NE_f_x NE_y_x ⊢
      refine hK0.out _ _ (by exact KB_f_104.out) (fun hHeld => ?_)
      clear hK0 K0 hHeld
      refine hTU.out _ _ _ _ ?_
      refine ND_3_xy.out _ Ax cx AP cP Ay cy gx gy _ _ ?_ ?_ BEL104 (b_perm BOX104 (by intro p m; simp only [List.mem_cons, List.not_mem_nil, or_false] at m ⊢; omega)) (h_perm FA_f_104 (by intro p m; simp only [List.mem_cons, List.not_mem_nil, or_false] at m ⊢; omega)) (h_perm FA_P_104 (by intro p m; simp only [List.mem_cons, List.not_mem_nil, or_false] at m ⊢; omega)) (h_perm FA_y_104 (by intro p m; simp only [List.mem_cons, List.not_mem_nil, or_false] at m ⊢; omega)) KB_f_104 KB_x_104 KB_y_104 NE_f_x NE_f_y (n_sym NE_y_x)
      · first | rfl | kernel_rfl
      · rw [hact.out]; rfl
    exact AllReadyH.nil
  have ND_3_ : Hid (∀ (v : World) (Ax : Option Addr) (cx : Nat) (AP : Option Addr) (cP : Nat) (Ay : Option Addr) (cy : Nat) (ll : Array Bool) (aa : Act), ll = #[true, true, true, true, true, true, true, true, true, false, false, false, false, false] → aa = (((act0.put (some 42) (.agg #[.int .u64 a0, .int .i64 a3, .slice Ax R cx])).put (some 44) (.agg #[.int .u64 a0, .int .i64 a3, .slice AP R cP])).put (some 47) (.agg #[.int .u64 a0, .int .i64 a3, .slice Ay R cy])) → Hid (Below w.heap.size w v) → Hid (Boxes w v [gf]) → Hid (HeldX [gf] (fun uq => SkAt uq (.agg #[.int .u64 a0, .int .i64 a3, .slice Af R cf]) a0 a3 R (fun _ => n) (fun _ _ => 0)) v) → Hid (HeldX [gf] (fun uq => SkAt uq (.agg #[.int .u64 a0, .int .i64 a3, .slice AP R cP]) a0 a3 R (fun _ => n) (addsZ a0 a3 n (addsZ a0 a3 n (fun _ _ => 0) K q m) J r p)) v) → Hid (HeldX [gf] (fun uq => SkAt uq (.agg #[.int .u64 a0, .int .i64 a3, .slice Ay R cy]) a0 a3 R (fun _ => n) (addsZ a0 a3 n (fun _ _ => 0) J r p)) v) → Hid (Blk v gf 25 #[.int .u64 a0, .int .i64 a3, .slice Af R cf]) → TT 5 ll aa v) := by
    intro v Ax cx AP cP Ay cy ll aa hl hA BEL103 BOX103 FA_f_103 FA_P_103 FA_y_103 KB_f_103
    rw [hact.out] at hA
    try simp only [Act.put, List.setIfInBounds_toArray, List.set_cons_zero, List.set_cons_succ] at hA
    subst hl hA
    refine hUT.out _ _ _ _ ?_
    refine wpAnyH_ready (rs := [9, 10, 11]) (by kernel_rfl) (by simp) ?_
    refine AllReadyH.cons rfl (fun K0 hK0 => ?_) ?_
    · refine step_func 23 #[.agg #[.int .u64 a0, .int .i64 a3, .slice Ay R cy], .slice Al m capl] (by rfl) rfl (by simp [Act.eval]) (fun _ _ => by kernel_rfl) ?_
      refine (adds_any _ _ _ [gf] a0 a3 R n m _ K q FA_y_103.out (fun g hg => (BOX103.out g hg).2) (LA.out.keep (keep_of_below BEL103.out)) OKY.out uS (by omega) HK.out).mono ?_
      rintro e wQ ⟨AQ, cQ, rfl, fQ, bb⟩
      have BEL104 := h_bel BEL103 bb
      have BOX104 := h_box BOX103 bb
      have FA_f_104 := h_fact FA_f_103 bb
      have FA_P_104 := h_fact FA_P_103 bb
      have FA_y_104 := h_fact FA_y_103 bb
      have KB_f_104 := h_blk KB_f_103 bb
      clear BEL103 BOX103 FA_f_103 FA_P_103 FA_y_103 KB_f_103
      have FA_Q_104 : Hid (HeldX [gf] (fun uq => SkAt uq (.agg #[.int .u64 a0, .int .i64 a3, .slice AQ R cQ]) a0 a3 R (fun _ => n) (addsZ a0 a3 n (addsZ a0 a3 n (fun _ _ => 0) J r p) K q m)) wQ) := fQ
      clear bb fQ
      clear FA_y_104
      refine ⟨_, rfl, ?_⟩
      refine hK0.out _ _ (by exact KB_f_104.out) (fun hHeld => ?_)
      clear hK0 K0 hHeld
      refine hTU.out _ _ _ _ ?_
      refine ND_4_.out _ Ax cx AP cP Ay cy AQ cQ _ _ ?_ ?_ BEL104 BOX104 FA_f_104 FA_P_104 FA_Q_104 KB_f_104
      · first | rfl | kernel_rfl
      · rw [hact.out]; rfl
    refine AllReadyH.cons rfl (fun K0 hK0 => ?_) ?_
    · have BEL104 := a_bel BEL103 (.cells #[.int .u64 0, .int .i64 0, .slice none 0 0] 25)
      have BOX104 := a_box BOX103 BEL103 (.cells #[.int .u64 0, .int .i64 0, .slice none 0 0] 25)
      have FA_f_104 := a_fact FA_f_103 (.cells #[.int .u64 0, .int .i64 0, .slice none 0 0] 25)
      have FA_P_104 := a_fact FA_P_103 (.cells #[.int .u64 0, .int .i64 0, .slice none 0 0] 25)
      have FA_y_104 := a_fact FA_y_103 (.cells #[.int .u64 0, .int .i64 0, .slice none 0 0] 25)
      have KB_f_104 := a_blk KB_f_103 (.cells #[.int .u64 0, .int .i64 0, .slice none 0 0] 25)
      have NE_f_x := n_ne KB_f_103
      have KB_x_104 := n_blk (u := v) 25 #[.int .u64 0, .int .i64 0, .slice none 0 0]
      clear BEL103 BOX103 FA_f_103 FA_P_103 FA_y_103 KB_f_103
      go_simp
      generalize (v.alloc (.cells #[.int .u64 0, .int .i64 0, .slice none 0 0] 25)) = v2 at BEL104 BOX104 FA_f_104 FA_P_104 FA_y_104 KB_f_104 KB_x_104 ⊢
      generalize v.heap.size = gx at BOX104 FA_f_104 FA_P_104 FA_y_104 KB_x_104 NE_f_x ⊢
      refine hK0.out _ _ (by exact KB_f_104.out) (fun hHeld => ?_)
      clear hK0 K0 hHeld
      refine hTU.out _ _ _ _ ?_
      refine ND_3_x.out _ Ax cx AP cP Ay cy gx _ _ ?_ ?_ BEL104 BOX104 FA_f_104 FA_P_104 FA_y_104 KB_f_104 KB_x_104 NE_f_x
      · first | rfl | kernel_rfl
      · rw [hact.out]; rfl
    refine AllReadyH.cons rfl (fun K0 hK0 => ?_) ?_
    · have BEL104 := a_bel BEL103 (.cells #[.int .u64 0, .int .i64 0, .slice none 0 0] 25)
      have BOX104 := a_box BOX103 BEL103 (.cells #[.int .u64 0, .int .i64 0, .slice none 0 0] 25)
      have FA_f_104 := a_fact FA_f_103 (.cells #[.int .u64 0, .int .i64 0, .slice none 0 0] 25)
      have FA_P_104 := a_fact FA_P_103 (.cells #[.int .u64 0, .int .i64 0, .slice none 0 0] 25)
      have FA_y_104 := a_fact FA_y_103 (.cells #[.int .u64 0, .int .i64 0, .slice none 0 0] 25)
      have KB_f_104 := a_blk KB_f_103 (.cells #[.int .u64 0, .int .i64 0, .slice none 0 0] 25)
      have NE_f_y := n_ne KB_f_103
      have KB_y_104 := n_blk (u := v) 25 #[.int .u64 0, .int .i64 0, .slice none 0 0]
      clear BEL103 BOX103 FA_f_103 FA_P_103 FA_y_103 KB_f_103
      go_simp
      generalize (v.alloc (.cells #[.int .u64 0, .int .i64 0, .slice none 0 0] 25)) = v2 at BEL104 BOX104 FA_f_104 FA_P_104 FA_y_104 KB_f_104 KB_y_104 ⊢
      generalize v.heap.size = gy at BOX104 FA_f_104 FA_P_104 FA_y_104 KB_y_104 NE_f_y ⊢
      refine hK0.out _ _ (by exact KB_f_104.out) (fun hHeld => ?_)
      clear hK0 K0 hHeld
      refine hTU.out _ _ _ _ ?_
      refine ND_3_y.out _ Ax cx AP cP Ay cy gy _ _ ?_ ?_ BEL104 BOX104 FA_f_104 FA_P_104 FA_y_104 KB_f_104 KB_y_104 NE_f_y
      · first | rfl | kernel_rfl
      · rw [hact.out]; rfl
    exact AllReadyH.nil
  have ND_2_xy : Hid (∀ (v : World) (Ax : Option Addr) (cx : Nat) (AP : Option Addr) (cP : Nat) (gx : Nat) (gy : Nat) (ll : Array Bool) (aa : Act), ll = #[true, true, true, true, true, true, true, false, true, false, true, true, false, false] → aa = ((((act0.put (some 42) (.agg #[.int .u64 a0, .int .i64 a3, .slice Ax R cx])).put (some 44) (.agg #[.int .u64 a0, .int .i64 a3, .slice AP R cP])).put (some 15) (.pointer (some ⟨gx, 0, none⟩))).put (some 16) (.pointer (some ⟨gy, 0, none⟩))) → Hid (Below w.heap.size w v) → Hid (Boxes w v [gy, gx, gf]) → Hid (HeldX [gy, gx, gf] (fun uq => SkAt uq (.agg #[.int .u64 a0, .int .i64 a3, .slice Af R cf]) a0 a3 R (fun _ => n) (fun _ _ => 0)) v) → Hid (HeldX [gy, gx, gf] (fun uq => SkAt uq (.agg #[.int .u64 a0, .int .i64 a3, .slice AP R cP]) a0 a3 R (fun _ => n) (addsZ a0 a3 n (addsZ a0 a3 n (fun _ _ => 0) K q m) J r p)) v) → Hid (Blk v gf 25 #[.int .u64 a0, .int .i64 a3, .slice Af R cf]) → Hid (Blk v gx 25 #[.int .u64 0, .int .i64 0, .slice none 0 0]) → Hid (Blk v gy 25 #[.int .u64 0, .int .i64 0, .slice none 0 0]) → Hid (gf ≠ gx) → Hid (gf ≠ gy) → Hid (gx ≠ gy) → TT 4 ll aa v) := by
    intro v Ax cx AP cP gx gy ll aa hl hA BEL103 BOX103 FA_f_103 FA_P_103 KB_f_103 KB_x_103 KB_y_103 NE_f_x NE_f_y NE_x_y
    rw [hact.out] at hA
    try simp only [Act.put, List.setIfInBounds_toArray, List.set_cons_zero, List.set_cons_succ] at hA
    subst hl hA
    refine hUT.out _ _ _ _ ?_
    refine wpAnyH_ready (rs := [7]) (by kernel_rfl) (by simp) ?_
    refine AllReadyH.cons rfl (fun K0 hK0 => ?_) ?_
    · refine step_func 23 #[.agg #[.int .u64 a0, .int .i64 a3, .slice Af R cf], .slice Ak p capk] (by rfl) rfl (by simp [Act.eval]) (fun _ _ => by kernel_rfl) ?_
      refine (adds_any _ _ _ [gy, gx, gf] a0 a3 R n p _ J r FA_f_103.out (fun g hg => (BOX103.out g hg).2) (LB.out.keep (keep_of_below BEL103.out)) OK.out uS (by omega) HJ.out).mono ?_
      rintro e wy ⟨Ay, cy, rfl, fy, bb⟩
      have BEL104 := h_bel BEL103 bb
      have BOX104 := h_box BOX103 bb
      have FA_f_104 := h_fact FA_f_103 bb
      have FA_P_104 := h_fact FA_P_103 bb
      have KB_f_104 := h_blk KB_f_103 bb
      have KB_x_104 := h_blk KB_x_103 bb
      have KB_y_104 := h_blk KB_y_103 bb
      clear BEL103 BOX103 FA_f_103 FA_P_103 KB_f_103 KB_x_103 KB_y_103
      have FA_y_104 : Hid (HeldX [gy, gx, gf] (fun uq => SkAt uq (.agg #[.int .u64 a0, .int .i64 a3, .slice Ay R cy]) a0 a3 R (fun _ => n) (addsZ a0 a3 n (fun _ _ => 0) J r p)) wy) := fy
      clear bb fy
      refine ⟨_, rfl, ?_⟩
      refine hK0.out _ _ (by exact KB_f_104.out) (fun hHeld => ?_)
      clear hK0 K0 hHeld
      refine hTU.out _ _ _ _ ?_
      refine ND_3_xy.out _ Ax cx AP cP Ay cy gx gy _ _ ?_ ?_ BEL104 BOX104 FA_f_104 FA_P_104 FA_y_104 KB_f_104 KB_x_104 KB_y_104 NE_f_x NE_f_y NE_x_y
      · first | rfl | kernel_rfl
      · rw [hact.out]; rfl
    exact AllReadyH.nil
  have ND_2_x : Hid (∀ (v : World) (Ax : Option Addr) (cx : Nat) (AP : Option Addr) (cP : Nat) (gx : Nat) (ll : Array Bool) (aa : Act), ll = #[true, true, true, true, true, true, true, false, true, false, true, false, false, false] → aa = (((act0.put (some 42) (.agg #[.int .u64 a0, .int .i64 a3, .slice Ax R cx])).put (some 44) (.agg #[.int .u64 a0, .int .i64 a3, .slice AP R cP])).put (some 15) (.pointer (some ⟨gx, 0, none⟩))) → Hid (Below w.heap.size w v) → Hid (Boxes w v [gx, gf]) → Hid (HeldX [gx, gf] (fun uq => SkAt uq (.agg #[.int .u64 a0, .int .i64 a3, .slice Af R cf]) a0 a3 R (fun _ => n) (fun _ _ => 0)) v) → Hid (HeldX [gx, gf] (fun uq => SkAt uq (.agg #[.int .u64 a0, .int .i64 a3, .slice AP R cP]) a0 a3 R (fun _ => n) (addsZ a0 a3 n (addsZ a0 a3 n (fun _ _ => 0) K q m) J r p)) v) → Hid (Blk v gf 25 #[.int .u64 a0, .int .i64 a3, .slice Af R cf]) → Hid (Blk v gx 25 #[.int .u64 0, .int .i64 0, .slice none 0 0]) → Hid (gf ≠ gx) → TT 5 ll aa v) := by
    intro v Ax cx AP cP gx ll aa hl hA BEL103 BOX103 FA_f_103 FA_P_103 KB_f_103 KB_x_103 NE_f_x
    rw [hact.out] at hA
    try simp only [Act.put, List.setIfInBounds_toArray, List.set_cons_zero, List.set_cons_succ] at hA
    subst hl hA
    refine hUT.out _ _ _ _ ?_
    refine wpAnyH_ready (rs := [7, 11]) (by kernel_rfl) (by simp) ?_
    refine AllReadyH.cons rfl (fun K0 hK0 => ?_) ?_
    · refine step_func 23 #[.agg #[.int .u64 a0, .int .i64 a3, .slice Af R cf], .slice Ak p capk] (by rfl) rfl (by simp [Act.eval]) (fun _ _ => by kernel_rfl) ?_
      refine (adds_any _ _ _ [gx, gf] a0 a3 R n p _ J r FA_f_103.out (fun g hg => (BOX103.out g hg).2) (LB.out.keep (keep_of_below BEL103.out)) OK.out uS (by omega) HJ.out).mono ?_
      rintro e wy ⟨Ay, cy, rfl, fy, bb⟩
      have BEL104 := h_bel BEL103 bb
      have BOX104 := h_box BOX103 bb
      have FA_f_104 := h_fact FA_f_103 bb
      have FA_P_104 := h_fact FA_P_103 bb
      have KB_f_104 := h_blk KB_f_103 bb
      have KB_x_104 := h_blk KB_x_103 bb
      clear BEL103 BOX103 FA_f_103 FA_P_103 KB_f_103 KB_x_103
      have FA_y_104 : Hid (HeldX [gx, gf] (fun uq => SkAt uq (.agg #[.int .u64 a0, .int .i64 a3, .slice Ay R cy]) a0 a3 R (fun _ => n) (addsZ a0 a3 n (fun _ _ => 0) J r p)) wy) := fy
      clear bb fy
      refine ⟨_, rfl, ?_⟩
      refine hK0.out _ _ (by exact KB_f_104.out) (fun hHeld => ?_)
      clear hK0 K0 hHeld
      refine hTU.out _ _ _ _ ?_
      refine ND_3_x.out _ Ax cx AP cP Ay cy gx _ _ ?_ ?_ BEL104 BOX104 FA_f_104 FA_P_104 FA_y_104 KB_f_104 KB_x_104 NE_f_x
      · first | rfl | kernel_rfl
      · rw [hact.out]; rfl
    refine AllReadyH.cons rfl (fun K0 hK0 => ?_) ?_
    · have BEL104 := a_bel BEL103 (.cells #[.int .u64 0, .int .i64 0, .slice none 0 0] 25)
      have BOX104 := a_box BOX103 BEL103 (.cells #[.int .u64 0, .int .i64 0, .slice none 0 0] 25)
      have FA_f_104 := a_fact FA_f_103 (.cells #[.int .u64 0, .int .i64 0, .slice none 0 0] 25)
      have FA_P_104 := a_fact FA_P_103 (.cells #[.int .u64 0, .int .i64 0, .slice none 0 0] 25)
      have KB_f_104 := a_blk KB_f_103 (.cells #[.int .u64 0, .int .i64 0, .slice none 0 0] 25)
      have NE_f_y := n_ne KB_f_103
      have KB_x_104 := a_blk KB_x_103 (.cells #[.int .u64 0, .int .i64 0, .slice none 0 0] 25)
      have NE_x_y := n_ne KB_x_103
      have KB_y_104 := n_blk (u := v) 25 #[.int .u64 0, .int .i64 0, .slice none 0 0]
      clear BEL103 BOX103 FA_f_103 FA_P_103 KB_f_103 KB_x_103
      go_simp
      generalize (v.alloc (.cells #[.int .u64 0, .int .i64 0, .slice none 0 0] 25)) = v2 at BEL104 BOX104 FA_f_104 FA_P_104 KB_f_104 KB_x_104 KB_y_104 ⊢
      generalize v.heap.size = gy at BOX104 FA_f_104 FA_P_104 KB_y_104 NE_f_y NE_x_y ⊢
      refine hK0.out _ _ (by exact KB_f_104.out) (fun hHeld => ?_)
      clear hK0 K0 hHeld
      refine hTU.out _ _ _ _ ?_
      refine ND_2_xy.out _ Ax cx AP cP gx gy _ _ ?_ ?_ BEL104 BOX104 FA_f_104 FA_P_104 KB_f_104 KB_x_104 KB_y_104 NE_f_x NE_f_y NE_x_y
      · first | rfl | kernel_rfl
      · rw [hact.out]; rfl
    exact AllReadyH.nil
  have ND_2_y : Hid (∀ (v : World) (Ax : Option Addr) (cx : Nat) (AP : Option Addr) (cP : Nat) (gy : Nat) (ll : Array Bool) (aa : Act), ll = #[true, true, true, true, true, true, true, false, true, false, false, true, false, false] → aa = (((act0.put (some 42) (.agg #[.int .u64 a0, .int .i64 a3, .slice Ax R cx])).put (some 44) (.agg #[.int .u64 a0, .int .i64 a3, .slice AP R cP])).put (some 16) (.pointer (some ⟨gy, 0, none⟩))) → Hid (Below w.heap.size w v) → Hid (Boxes w v [gy, gf]) → Hid (HeldX [gy, gf] (fun uq => SkAt uq (.agg #[.int .u64 a0, .int .i64 a3, .slice Af R cf]) a0 a3 R (fun _ => n) (fun _ _ => 0)) v) → Hid (HeldX [gy, gf] (fun uq => SkAt uq (.agg #[.int .u64 a0, .int .i64 a3, .slice AP R cP]) a0 a3 R (fun _ => n) (addsZ a0 a3 n (addsZ a0 a3 n (fun _ _ => 0) K q m) J r p)) v) → Hid (Blk v gf 25 #[.int .u64 a0, .int .i64 a3, .slice Af R cf]) → Hid (Blk v gy 25 #[.int .u64 0, .int .i64 0, .slice none 0 0]) → Hid (gf ≠ gy) → TT 5 ll aa v) := by
    intro v Ax cx AP cP gy ll aa hl hA BEL103 BOX103 FA_f_103 FA_P_103 KB_f_103 KB_y_103 NE_f_y
    rw [hact.out] at hA
    try simp only [Act.put, List.setIfInBounds_toArray, List.set_cons_zero, List.set_cons_succ] at hA
    subst hl hA
    refine hUT.out _ _ _ _ ?_
    refine wpAnyH_ready (rs := [7, 10]) (by kernel_rfl) (by simp) ?_
    refine AllReadyH.cons rfl (fun K0 hK0 => ?_) ?_
    · refine step_func 23 #[.agg #[.int .u64 a0, .int .i64 a3, .slice Af R cf], .slice Ak p capk] (by rfl) rfl (by simp [Act.eval]) (fun _ _ => by kernel_rfl) ?_
      refine (adds_any _ _ _ [gy, gf] a0 a3 R n p _ J r FA_f_103.out (fun g hg => (BOX103.out g hg).2) (LB.out.keep (keep_of_below BEL103.out)) OK.out uS (by omega) HJ.out).mono ?_
      rintro e wy ⟨Ay, cy, rfl, fy, bb⟩
      have BEL104 := h_bel BEL103 bb
      have BOX104 := h_box BOX103 bb
      have FA_f_104 := h_fact FA_f_103 bb
      have FA_P_104 := h_fact FA_P_103 bb
      have KB_f_104 := h_blk KB_f_103 bb
      have KB_y_104 := h_blk KB_y_103 bb
      clear BEL103 BOX103 FA_f_103 FA_P_103 KB_f_103 KB_y_103
      have FA_y_104 : Hid (HeldX [gy, gf] (fun uq => SkAt uq (.agg #[.int .u64 a0, .int .i64 a3, .slice Ay R cy]) a0 a3 R (fun _ => n) (addsZ a0 a3 n (fun _ _ => 0) J r p)) wy) := fy
      clear bb fy
      refine ⟨_, rfl, ?_⟩
      refine hK0.out _ _ (by exact KB_f_104.out) (fun hHeld => ?_)
      clear hK0 K0 hHeld
      refine hTU.out _ _ _ _ ?_
      refine ND_3_y.out _ Ax cx AP cP Ay cy gy _ _ ?_ ?_ BEL104 BOX104 FA_f_104 FA_P_104 FA_y_104 KB_f_104 KB_y_104 NE_f_y
      · first | rfl | kernel_rfl
      · rw [hact.out]; rfl
    refine AllReadyH.cons rfl (fun K0 hK0 => ?_) ?_
    · have BEL104 := a_bel BEL103 (.cells #[.int .u64 0, .int .i64 0, .slice none 0 0] 25)
      have BOX104 := a_box BOX103 BEL103 (.cells #[.int .u64 0, .int .i64 0, .slice none 0 0] 25)
      have FA_f_104 := a_fact FA_f_103 (.cells #[.int .u64 0, .int .i64 0, .slice none 0 0] 25)
      have FA_P_104 := a_fact FA_P_103 (.cells #[.int .u64 0, .int .i64 0, .slice none 0 0] 25)
      have KB_f_104 := a_blk KB_f_103 (.cells #[.int .u64 0, .int .i64 0, .slice none 0 0] 25)
      have NE_f_x := n_ne KB_f_103
      have KB_y_104 := a_blk KB_y_103 (.cells #[.int .u64 0, .int .i64 0, .slice none 0 0] 25)
      have NE_y_x := n_ne KB_y_103
      have KB_x_104 := n_blk (u := v) 25 #[.int .u64 0, .int .i64 0, .slice none 0 0]
      clear BEL103 BOX103 FA_f_103 FA_P_103 KB_f_103 KB_y_103
      go_simp
      generalize (v.alloc (.cells #[.int .u64 0, .int .i64 0, .slice none 0 0] 25)) = v2 at BEL104 BOX104 FA_f_104 FA_P_104 KB_f_104 KB_y_104 KB_x_104 ⊢
      generalize v.heap.size = gx at BOX104 FA_f_104 FA_P_104 KB_x_104 NE_f_x NE_y_x ⊢
      refine hK0.out _ _ (by exact KB_f_104.out) (fun hHeld => ?_)
      clear hK0 K0 hHeld
      refine hTU.out _ _ _ _ ?_
      refine ND_2_xy.out _ Ax cx AP cP gx gy _ _ ?_ ?_ BEL104 (b_perm BOX104 (by intro p m; simp only [List.mem_cons, List.not_mem_nil, or_false] at m ⊢; omega)) (h_perm FA_f_104 (by intro p m; simp only [List.mem_cons, List.not_mem_nil, or_false] at m ⊢; omega)) (h_perm FA_P_104 (by intro p m; simp only [List.mem_cons, List.not_mem_nil, or_false] at m ⊢; omega)) KB_f_104 KB_x_104 KB_y_104 NE_f_x NE_f_y (n_sym NE_y_x)
      · first | rfl | kernel_rfl
      · rw [hact.out]; rfl
    exact AllReadyH.nil
  have ND_2_ : Hid (∀ (v : World) (Ax : Option Addr) (cx : Nat) (AP : Option Addr) (cP : Nat) (ll : Array Bool) (aa : Act), ll = #[true, true, true, true, true, true, true, false, true, false, false, false, false, false] → aa = ((act0.put (some 42) (.agg #[.int .u64 a0, .int .i64 a3, .slice Ax R cx])).put (some 44) (.agg #[.int .u64 a0, .int .i64 a3, .slice AP R cP])) → Hid (Below w.heap.size w v) → Hid (Boxes w v [gf]) → Hid (HeldX [gf] (fun uq => SkAt uq (.agg #[.int .u64 a0, .int .i64 a3, .slice Af R cf]) a0 a3 R (fun _ => n) (fun _ _ => 0)) v) → Hid (HeldX [gf] (fun uq => SkAt uq (.agg #[.int .u64 a0, .int .i64 a3, .slice AP R cP]) a0 a3 R (fun _ => n) (addsZ a0 a3 n (addsZ a0 a3 n (fun _ _ => 0) K q m) J r p)) v) → Hid (Blk v gf 25 #[.int .u64 a0, .int .i64 a3, .slice Af R cf]) → TT 6 ll aa v) := by
    intro v Ax cx AP cP ll aa hl hA BEL103 BOX103 FA_f_103 FA_P_103 KB_f_103
    rw [hact.out] at hA
    try simp only [Act.put, List.setIfInBounds_toArray, List.set_cons_zero, List.set_cons_succ] at hA
    subst hl hA
    refine hUT.out _ _ _ _ ?_
    refine wpAnyH_ready (rs := [7, 10, 11]) (by kernel_rfl) (by simp) ?_
    refine AllReadyH.cons rfl (fun K0 hK0 => ?_) ?_
    · refine step_func 23 #[.agg #[.int .u64 a0, .int .i64 a3, .slice Af R cf], .slice Ak p capk] (by rfl) rfl (by simp [Act.eval]) (fun _ _ => by kernel_rfl) ?_
      refine (adds_any _ _ _ [gf] a0 a3 R n p _ J r FA_f_103.out (fun g hg => (BOX103.out g hg).2) (LB.out.keep (keep_of_below BEL103.out)) OK.out uS (by omega) HJ.out).mono ?_
      rintro e wy ⟨Ay, cy, rfl, fy, bb⟩
      have BEL104 := h_bel BEL103 bb
      have BOX104 := h_box BOX103 bb
      have FA_f_104 := h_fact FA_f_103 bb
      have FA_P_104 := h_fact FA_P_103 bb
      have KB_f_104 := h_blk KB_f_103 bb
      clear BEL103 BOX103 FA_f_103 FA_P_103 KB_f_103
      have FA_y_104 : Hid (HeldX [gf] (fun uq => SkAt uq (.agg #[.int .u64 a0, .int .i64 a3, .slice Ay R cy]) a0 a3 R (fun _ => n) (addsZ a0 a3 n (fun _ _ => 0) J r p)) wy) := fy
      clear bb fy
      refine ⟨_, rfl, ?_⟩
      refine hK0.out _ _ (by exact KB_f_104.out) (fun hHeld => ?_)
      clear hK0 K0 hHeld
      refine hTU.out _ _ _ _ ?_
      refine ND_3_.out _ Ax cx AP cP Ay cy _ _ ?_ ?_ BEL104 BOX104 FA_f_104 FA_P_104 FA_y_104 KB_f_104
      · first | rfl | kernel_rfl
      · rw [hact.out]; rfl
    refine AllReadyH.cons rfl (fun K0 hK0 => ?_) ?_
    · have BEL104 := a_bel BEL103 (.cells #[.int .u64 0, .int .i64 0, .slice none 0 0] 25)
      have BOX104 := a_box BOX103 BEL103 (.cells #[.int .u64 0, .int .i64 0, .slice none 0 0] 25)
      have FA_f_104 := a_fact FA_f_103 (.cells #[.int .u64 0, .int .i64 0, .slice none 0 0] 25)
      have FA_P_104 := a_fact FA_P_103 (.cells #[.int .u64 0, .int .i64 0, .slice none 0 0] 25)
      have KB_f_104 := a_blk KB_f_103 (.cells #[.int .u64 0, .int .i64 0, .slice none 0 0] 25)
      have NE_f_x := n_ne KB_f_103
      have KB_x_104 := n_blk (u := v) 25 #[.int .u64 0, .int .i64 0, .slice none 0 0]
      clear BEL103 BOX103 FA_f_103 FA_P_103 KB_f_103
      go_simp
      generalize (v.alloc (.cells #[.int .u64 0, .int .i64 0, .slice none 0 0] 25)) = v2 at BEL104 BOX104 FA_f_104 FA_P_104 KB_f_104 KB_x_104 ⊢
      generalize v.heap.size = gx at BOX104 FA_f_104 FA_P_104 KB_x_104 NE_f_x ⊢
      refine hK0.out _ _ (by exact KB_f_104.out) (fun hHeld => ?_)
      clear hK0 K0 hHeld
      refine hTU.out _ _ _ _ ?_
      refine ND_2_x.out _ Ax cx AP cP gx _ _ ?_ ?_ BEL104 BOX104 FA_f_104 FA_P_104 KB_f_104 KB_x_104 NE_f_x
      · first | rfl | kernel_rfl
      · rw [hact.out]; rfl
    refine AllReadyH.cons rfl (fun K0 hK0 => ?_) ?_
    · have BEL104 := a_bel BEL103 (.cells #[.int .u64 0, .int .i64 0, .slice none 0 0] 25)
      have BOX104 := a_box BOX103 BEL103 (.cells #[.int .u64 0, .int .i64 0, .slice none 0 0] 25)
      have FA_f_104 := a_fact FA_f_103 (.cells #[.int .u64 0, .int .i64 0, .slice none 0 0] 25)
      have FA_P_104 := a_fact FA_P_103 (.cells #[.int .u64 0, .int .i64 0, .slice none 0 0] 25)
      have KB_f_104 := a_blk KB_f_103 (.cells #[.int .u64 0, .int .i64 0, .slice none 0 0] 25)
      have NE_f_y := n_ne KB_f_103
      have KB_y_104 := n_blk (u := v) 25 #[.int .u64 0, .int .i64 0, .slice none 0 0]
      clear BEL103 BOX103 FA_f_103 FA_P_103 KB_f_103
      go_simp
      generalize (v.alloc (.cells #[.int .u64 0, .int .i64 0, .slice none 0 0] 25)) = v2 at BEL104 BOX104 FA_f_104 FA_P_104 KB_f_104 KB_y_104 ⊢
      generalize v.heap.size = gy at BOX104 FA_f_104 FA_P_104 KB_y_104 NE_f_y ⊢
      refine hK0.out _ _ (by exact KB_f_104.out) (fun hHeld => ?_)
      clear hK0 K0 hHeld
      refine hTU.out _ _ _ _ ?_
      refine ND_2_y.out _ Ax cx AP cP gy _ _ ?_ ?_ BEL104 BOX104 FA_f_104 FA_P_104 KB_f_104 KB_y_104 NE_f_y
      · first | rfl | kernel_rfl
      · rw [hact.out]; rfl
    exact AllReadyH.nil
  have ND_1_xy : Hid (∀ (v : World) (Ax : Option Addr) (cx : Nat) (gx : Nat) (gy : Nat) (ll : Array Bool) (aa : Act), ll = #[true, true, true, true, false, true, true, false, true, false, true, true, false, false] → aa = (((act0.put (some 42) (.agg #[.int .u64 a0, .int .i64 a3, .slice Ax R cx])).put (some 15) (.pointer (some ⟨gx, 0, none⟩))).put (some 16) (.pointer (some ⟨gy, 0, none⟩))) → Hid (Below w.heap.size w v) → Hid (Boxes w v [gy, gx, gf]) → Hid (HeldX [gy, gx, gf] (fun uq => SkAt uq (.agg #[.int .u64 a0, .int .i64 a3, .slice Af R cf]) a0 a3 R (fun _ => n) (fun _ _ => 0)) v) → Hid (HeldX [gy, gx, gf] (fun uq => SkAt uq (.agg #[.int .u64 a0, .int .i64 a3, .slice Ax R cx]) a0 a3 R (fun _ => n) (addsZ a0 a3 n (fun _ _ => 0) K q m)) v) → Hid (Blk v gf 25 #[.int .u64 a0, .int .i64 a3, .slice Af R cf]) → Hid (Blk v gx 25 #[.int .u64 0, .int .i64 0, .slice none 0 0]) → Hid (Blk v gy 25 #[.int .u64 0, .int .i64 0, .slice none 0 0]) → Hid (gf ≠ gx) → Hid (gf ≠ gy) → Hid (gx ≠ gy) → TT 5 ll aa v) := by
    intro v Ax cx gx gy ll aa hl hA BEL103 BOX103 FA_f_103 FA_x_103 KB_f_103 KB_x_103 KB_y_103 NE_f_x NE_f_y NE_x_y
    rw [hact.out] at hA
    try simp only [Act.put, List.setIfInBounds_toArray, List.set_cons_zero, List.set_cons_succ] at hA
    subst hl hA
    refine hUT.out _ _ _ _ ?_
    refine wpAnyH_ready (rs := [4]) (by kernel_rfl) (by simp) ?_
    refine AllReadyH.cons rfl (fun K0 hK0 => ?_) ?_
    · refine step_func 23 #[.agg #[.int .u64 a0, .int .i64 a3, .slice Ax R cx], .slice Ak p capk] (by rfl) rfl (by simp [Act.eval]) (fun _ _ => by kernel_rfl) ?_
      refine (adds_any _ _ _ [gy, gx, gf] a0 a3 R n p _ J r FA_x_103.out (fun g hg => (BOX103.out g hg).2) (LB.out.keep (keep_of_below BEL103.out)) OKX.out uS (by omega) HJ.out).mono ?_
      rintro e wP ⟨AP, cP, rfl, fP, bb⟩
      have BEL104 := h_bel BEL103 bb
      have BOX104 := h_box BOX103 bb
      have FA_f_104 := h_fact FA_f_103 bb
      have FA_x_104 := h_fact FA_x_103 bb
      have KB_f_104 := h_blk KB_f_103 bb
      have KB_x_104 := h_blk KB_x_103 bb
      have KB_y_104 := h_blk KB_y_103 bb
      clear BEL103 BOX103 FA_f_103 FA_x_103 KB_f_103 KB_x_103 KB_y_103
      have FA_P_104 : Hid (HeldX [gy, gx, gf] (fun uq => SkAt uq (.agg #[.int .u64 a0, .int .i64 a3, .slice AP R cP]) a0 a3 R (fun _ => n) (addsZ a0 a3 n (addsZ a0 a3 n (fun _ _ => 0) K q m) J r p)) wP) := fP
      clear bb fP
      clear FA_x_104
      refine ⟨_, rfl, ?_⟩
      refine hK0.out _ _ (by exact KB_f_104.out) (fun hHeld => ?_)
      clear hK0 K0 hHeld
      refine hTU.out _ _ _ _ ?_
      refine ND_2_xy.out _ Ax cx AP cP gx gy _ _ ?_ ?_ BEL104 BOX104 FA_f_104 FA_P_104 KB_f_104 KB_x_104 KB_y_104 NE_f_x NE_f_y NE_x_y
      · first | rfl | kernel_rfl
      · rw [hact.out]; rfl
    exact AllReadyH.nil
  have ND_1_x : Hid (∀ (v : World) (Ax : Option Addr) (cx : Nat) (gx : Nat) (ll : Array Bool) (aa : Act), ll = #[true, true, true, true, false, true, true, false, true, false, true, false, false, false] → aa = ((act0.put (some 42) (.agg #[.int .u64 a0, .int .i64 a3, .slice Ax R cx])).put (some 15) (.pointer (some ⟨gx, 0, none⟩))) → Hid (Below w.heap.size w v) → Hid (Boxes w v [gx, gf]) → Hid (HeldX [gx, gf] (fun uq => SkAt uq (.agg #[.int .u64 a0, .int .i64 a3, .slice Af R cf]) a0 a3 R (fun _ => n) (fun _ _ => 0)) v) → Hid (HeldX [gx, gf] (fun uq => SkAt uq (.agg #[.int .u64 a0, .int .i64 a3, .slice Ax R cx]) a0 a3 R (fun _ => n) (addsZ a0 a3 n (fun _ _ => 0) K q m)) v) → Hid (Blk v gf 25 #[.int .u64 a0, .int .i64 a3, .slice Af R cf]) → Hid (Blk v gx 25 #[.int .u64 0, .int .i64 0, .slice none 0 0]) → Hid (gf ≠ gx) → TT 6 ll aa v) := by
    intro v Ax cx gx ll aa hl hA BEL103 BOX103 FA_f_103 FA_x_103 KB_f_103 KB_x_103 NE_f_x
    rw [hact.out] at hA
    try simp only [Act.put, List.setIfInBounds_toArray, List.set_cons_zero, List.set_cons_succ] at hA
    subst hl hA
    refine hUT.out _ _ _ _ ?_
    refine wpAnyH_ready (rs := [4, 11]) (by kernel_rfl) (by simp) ?_
    refine AllReadyH.cons rfl (fun K0 hK0 => ?_) ?_
    · refine step_func 23 #[.agg #[.int .u64 a0, .int .i64 a3, .slice Ax R cx], .slice Ak p capk] (by rfl) rfl (by simp [Act.eval]) (fun _ _ => by kernel_rfl) ?_
      refine (adds_any _ _ _ [gx, gf] a0 a3 R n p _ J r FA_x_103.out (fun g hg => (BOX103.out g hg).2) (LB.out.keep (keep_of_below BEL103.out)) OKX.out uS (by omega) HJ.out).mono ?_
      rintro e wP ⟨AP, cP, rfl, fP, bb⟩
      have BEL104 := h_bel BEL103 bb
      have BOX104 := h_box BOX103 bb
      have FA_f_104 := h_fact FA_f_103 bb
      have FA_x_104 := h_fact FA_x_103 bb
      have KB_f_104 := h_blk KB_f_103 bb
      have KB_x_104 := h_blk KB_x_103 bb
      clear BEL103 BOX103 FA_f_103 FA_x_103 KB_f_103 KB_x_103
      have FA_P_104 : Hid (HeldX [gx, gf] (fun uq => SkAt uq (.agg #[.int .u64 a0, .int .i64 a3, .slice AP R cP]) a0 a3 R (fun _ => n) (addsZ a0 a3 n (addsZ a0 a3 n (fun _ _ => 0) K q m) J r p)) wP) := fP
      clear bb fP
      clear FA_x_104
      refine ⟨_, rfl, ?_⟩
      refine hK0.out _ _ (by exact KB_f_104.out) (fun hHeld => ?_)
      clear hK0 K0 hHeld
      refine hTU.out _ _ _ _ ?_
      refine ND_2_x.out _ Ax cx AP cP gx _ _ ?_ ?_ BEL104 BOX104 FA_f_104 FA_P_104 KB_f_104 KB_x_104 NE_f_x
      · first | rfl | kernel_rfl
      · rw [hact.out]; rfl
    refine AllReadyH.cons rfl (fun K0 hK0 => ?_) ?_
    · have BEL104 := a_bel BEL103 (.cells #[.int .u64 0, .int .i64 0, .slice none 0 0] 25)
      have BOX104 := a_box BOX103 BEL103 (.cells #[.int .u64 0, .int .i64 0, .slice none 0 0] 25)
      have FA_f_104 := a_fact FA_f_103 (.cells #[.int .u64 0, .int .i64 0, .slice none 0 0] 25)
      have FA_x_104 := a_fact FA_x_103 (.cells #[.int .u64 0, .int .i64 0, .slice none 0 0] 25)
      have KB_f_104 := a_blk KB_f_103 (.cells #[.int .u64 0, .int .i64 0, .slice none 0 0] 25)
      have NE_f_y := n_ne KB_f_103
      have KB_x_104 := a_blk KB_x_103 (.cells #[.int .u64 0, .int .i64 0, .slice none 0 0] 25)
      have NE_x_y := n_ne KB_x_103
      have KB_y_104 := n_blk (u := v) 25 #[.int .u64 0, .int .i64 0, .slice none 0 0]
      clear BEL103 BOX103 FA_f_103 FA_x_103 KB_f_103 KB_x_103
      go_simp
      generalize (v.alloc (.cells #[.int .u64 0, .int .i64 0, .slice none 0 0] 25)) = v2 at BEL104 BOX104 FA_f_104 FA_x_104 KB_f_104 KB_x_104 KB_y_104 ⊢
      generalize v.heap.size = gy at BOX104 FA_f_104 FA_x_104 KB_y_104 NE_f_y NE_x_y ⊢
      refine hK0.out _ _ (by exact KB_f_104.out) (fun hHeld => ?_)
      clear hK0 K0 hHeld
      refine hTU.out _ _ _ _ ?_
      refine ND_1_xy.out _ Ax cx gx gy _ _ ?_ ?_ BEL104 BOX104 FA_f_104 FA_x_104 KB_f_104 KB_x_104 KB_y_104 NE_f_x NE_f_y NE_x_y
      · first | rfl | kernel_rfl
      · rw [hact.out]; rfl
    exact AllReadyH.nil
  have ND_1_y : Hid (∀ (v : World) (Ax : Option Addr) (cx : Nat) (gy : Nat) (ll : Array Bool) (aa : Act), ll = #[true, true, true, true, false, true, true, false, true, false, false, true, false, false] → aa = ((act0.put (some 42) (.agg #[.int .u64 a0, .int .i64 a3, .slice Ax R cx])).put (some 16) (.pointer (some ⟨gy, 0, none⟩))) → Hid (Below w.heap.size w v) → Hid (Boxes w v [gy, gf]) → Hid (HeldX [gy, gf] (fun uq => SkAt uq (.agg #[.int .u64 a0, .int .i64 a3, .slice Af R cf]) a0 a3 R (fun _ => n) (fun _ _ => 0)) v) → Hid (HeldX [gy, gf] (fun uq => SkAt uq (.agg #[.int .u64 a0, .int .i64 a3, .slice Ax R cx]) a0 a3 R (fun _ => n) (addsZ a0 a3 n (fun _ _ => 0) K q m)) v) → Hid (Blk v gf 25 #[.int .u64 a0, .int .i64 a3, .slice Af R cf]) → Hid (Blk v gy 25 #[.int .u64 0, .int .i64 0, .slice none 0 0]) → Hid (gf ≠ gy) → TT 6 ll aa v) := by
    intro v Ax cx gy ll aa hl hA BEL103 BOX103 FA_f_103 FA_x_103 KB_f_103 KB_y_103 NE_f_y
    rw [hact.out] at hA
    try simp only [Act.put, List.setIfInBounds_toArray, List.set_cons_zero, List.set_cons_succ] at hA
    subst hl hA
    refine hUT.out _ _ _ _ ?_
    refine wpAnyH_ready (rs := [4, 10]) (by kernel_rfl) (by simp) ?_
    refine AllReadyH.cons rfl (fun K0 hK0 => ?_) ?_
    · refine step_func 23 #[.agg #[.int .u64 a0, .int .i64 a3, .slice Ax R cx], .slice Ak p capk] (by rfl) rfl (by simp [Act.eval]) (fun _ _ => by kernel_rfl) ?_
      refine (adds_any _ _ _ [gy, gf] a0 a3 R n p _ J r FA_x_103.out (fun g hg => (BOX103.out g hg).2) (LB.out.keep (keep_of_below BEL103.out)) OKX.out uS (by omega) HJ.out).mono ?_
      rintro e wP ⟨AP, cP, rfl, fP, bb⟩
      have BEL104 := h_bel BEL103 bb
      have BOX104 := h_box BOX103 bb
      have FA_f_104 := h_fact FA_f_103 bb
      have FA_x_104 := h_fact FA_x_103 bb
      have KB_f_104 := h_blk KB_f_103 bb
      have KB_y_104 := h_blk KB_y_103 bb
      clear BEL103 BOX103 FA_f_103 FA_x_103 KB_f_103 KB_y_103
      have FA_P_104 : Hid (HeldX [gy, gf] (fun uq => SkAt uq (.agg #[.int .u64 a0, .int .i64 a3, .slice AP R cP]) a0 a3 R (fun _ => n) (addsZ a0 a3 n (addsZ a0 a3 n (fun _ _ => 0) K q m) J r p)) wP) := fP
      clear bb fP
      clear FA_x_104
      refine ⟨_, rfl, ?_⟩
      refine hK0.out _ _ (by exact KB_f_104.out) (fun hHeld => ?_)
      clear hK0 K0 hHeld
      refine hTU.out _ _ _ _ ?_
      refine ND_2_y.out _ Ax cx AP cP gy _ _ ?_ ?_ BEL104 BOX104 FA_f_104 FA_P_104 KB_f_104 KB_y_104 NE_f_y
      · first | rfl | kernel_rfl
      · rw [hact.out]; rfl
    refine AllReadyH.cons rfl (fun K0 hK0 => ?_) ?_
    · have BEL104 := a_bel BEL103 (.cells #[.int .u64 0, .int .i64 0, .slice none 0 0] 25)
      have BOX104 := a_box BOX103 BEL103 (.cells #[.int .u64 0, .int .i64 0, .slice none 0 0] 25)
      have FA_f_104 := a_fact FA_f_103 (.cells #[.int .u64 0, .int .i64 0, .slice none 0 0] 25)
      have FA_x_104 := a_fact FA_x_103 (.cells #[.int .u64 0, .int .i64 0, .slice none 0 0] 25)
      have KB_f_104 := a_blk KB_f_103 (.cells #[.int .u64 0, .int .i64 0, .slice none 0 0] 25)
      have NE_f_x := n_ne KB_f_103
      have KB_y_104 := a_blk KB_y_103 (.cells #[.int .u64 0, .int .i64 0, .slice none 0 0] 25)
      have NE_y_x := n_ne KB_y_103
      have KB_x_104 := n_blk (u := v) 25 #[.int .u64 0, .int .i64 0, .slice none 0 0]
      clear BEL103 BOX103 FA_f_103 FA_x_103 KB_f_103 KB_y_103
      go_simp
      generalize (v.alloc (.cells #[.int .u64 0, .int .i64 0, .slice none 0 0] 25)) = v2 at BEL104 BOX104 FA_f_104 FA_x_104 KB_f_104 KB_y_104 KB_x_104 ⊢
      generalize v.heap.size = gx at BOX104 FA_f_104 FA_x_104 KB_x_104 NE_f_x NE_y_x ⊢
      refine hK0.out _ _ (by exact KB_f_104.out) (fun hHeld => ?_)
      clear hK0 K0 hHeld
      refine hTU.out _ _ _ _ ?_
      refine ND_1_xy.out _ Ax cx gx gy _ _ ?_ ?_ BEL104 (b_perm BOX104 (by intro p m; simp only [List.mem_cons, List.not_mem_nil, or_false] at m ⊢; omega)) (h_perm FA_f_104 (by intro p m; simp only [List.mem_cons, List.not_mem_nil, or_false] at m ⊢; omega)) (h_perm FA_x_104 (by intro p m; simp only [List.mem_cons, List.not_mem_nil, or_false] at m ⊢; omega)) KB_f_104 KB_x_104 KB_y_104 NE_f_x NE_f_y (n_sym NE_y_x)
      · first | rfl | kernel_rfl
      · rw [hact.out]; rfl
    exact AllReadyH.nil
  have ND_1_ : Hid (∀ (v : World) (Ax : Option Addr) (cx : Nat) (ll : Array Bool) (aa : Act), ll = #[true, true, true, true, false, true, true, false, true, false, false, false, false, false] → aa = (act0.put (some 42) (.agg #[.int .u64 a0, .int .i64 a3, .slice Ax R cx])) → Hid (Below w.heap.size w v) → Hid (Boxes w v [gf]) → Hid (HeldX [gf] (fun uq => SkAt uq (.agg #[.int .u64 a0, .int .i64 a3, .slice Af R cf]) a0 a3 R (fun _ => n) (fun _ _ => 0)) v) → Hid (HeldX [gf] (fun uq => SkAt uq (.agg #[.int .u64 a0, .int .i64 a3, .slice Ax R cx]) a0 a3 R (fun _ => n) (addsZ a0 a3 n (fun _ _ => 0) K q m)) v) → Hid (Blk v gf 25 #[.int .u64 a0, .int .i64 a3, .slice Af R cf]) → TT 7 ll aa v) := by
    intro v Ax cx ll aa hl hA BEL103 BOX103 FA_f_103 FA_x_103 KB_f_103
    rw [hact.out] at hA
    try simp only [Act.put, List.setIfInBounds_toArray, List.set_cons_zero, List.set_cons_succ] at hA
    subst hl hA
    refine hUT.out _ _ _ _ ?_
    refine wpAnyH_ready (rs := [4, 10, 11]) (by kernel_rfl) (by simp) ?_
    refine AllReadyH.cons rfl (fun K0 hK0 => ?_) ?_
    · refine step_func 23 #[.agg #[.int .u64 a0, .int .i64 a3, .slice Ax R cx], .slice Ak p capk] (by rfl) rfl (by simp [Act.eval]) (fun _ _ => by kernel_rfl) ?_
      refine (adds_any _ _ _ [gf] a0 a3 R n p _ J r FA_x_103.out (fun g hg => (BOX103.out g hg).2) (LB.out.keep (keep_of_below BEL103.out)) OKX.out uS (by omega) HJ.out).mono ?_
      rintro e wP ⟨AP, cP, rfl, fP, bb⟩
      have BEL104 := h_bel BEL103 bb
      have BOX104 := h_box BOX103 bb
      have FA_f_104 := h_fact FA_f_103 bb
      have FA_x_104 := h_fact FA_x_103 bb
      have KB_f_104 := h_blk KB_f_103 bb
      clear BEL103 BOX103 FA_f_103 FA_x_103 KB_f_103
      have FA_P_104 : Hid (HeldX [gf] (fun uq => SkAt uq (.agg #[.int .u64 a0, .int .i64 a3, .slice AP R cP]) a0 a3 R (fun _ => n) (addsZ a0 a3 n (addsZ a0 a3 n (fun _ _ => 0) K q m) J r p)) wP) := fP
      clear bb fP
      clear FA_x_104
      refine ⟨_, rfl, ?_⟩
      refine hK0.out _ _ (by exact KB_f_104.out) (fun hHeld => ?_)
      clear hK0 K0 hHeld
      refine hTU.out _ _ _ _ ?_
      refine ND_2_.out _ Ax cx AP cP _ _ ?_ ?_ BEL104 BOX104 FA_f_104 FA_P_104 KB_f_104
      · first | rfl | kernel_rfl
      · rw [hact.out]; rfl
    refine AllReadyH.cons rfl (fun K0 hK0 => ?_) ?_
    · have BEL104 := a_bel BEL103 (.cells #[.int .u64 0, .int .i64 0, .slice none 0 0] 25)
      have BOX104 := a_box BOX103 BEL103 (.cells #[.int .u64 0, .int .i64 0, .slice none 0 0] 25)
      have FA_f_104 := a_fact FA_f_103 (.cells #[.int .u64 0, .int .i64 0, .slice none 0 0] 25)
      have FA_x_104 := a_fact FA_x_103 (.cells #[.int .u64 0, .int .i64 0, .slice none 0 0] 25)
      have KB_f_104 := a_blk KB_f_103 (.cells #[.int .u64 0, .int .i64 0, .slice none 0 0] 25)
      have NE_f_x := n_ne KB_f_103
      have KB_x_104 := n_blk (u := v) 25 #[.int .u64 0, .int .i64 0, .slice none 0 0]
      clear BEL103 BOX103 FA_f_103 FA_x_103 KB_f_103
      go_simp
      generalize (v.alloc (.cells #[.int .u64 0, .int .i64 0, .slice none 0 0] 25)) = v2 at BEL104 BOX104 FA_f_104 FA_x_104 KB_f_104 KB_x_104 ⊢
      generalize v.heap.size = gx at BOX104 FA_f_104 FA_x_104 KB_x_104 NE_f_x ⊢
      refine hK0.out _ _ (by exact KB_f_104.out) (fun hHeld => ?_)
      clear hK0 K0 hHeld
      refine hTU.out _ _ _ _ ?_
      refine ND_1_x.out _ Ax cx gx _ _ ?_ ?_ BEL104 BOX104 FA_f_104 FA_x_104 KB_f_104 KB_x_104 NE_f_x
      · first | rfl | kernel_rfl
      · rw [hact.out]; rfl
    refine AllReadyH.cons rfl (fun K0 hK0 => ?_) ?_
    · have BEL104 := a_bel BEL103 (.cells #[.int .u64 0, .int .i64 0, .slice none 0 0] 25)
      have BOX104 := a_box BOX103 BEL103 (.cells #[.int .u64 0, .int .i64 0, .slice none 0 0] 25)
      have FA_f_104 := a_fact FA_f_103 (.cells #[.int .u64 0, .int .i64 0, .slice none 0 0] 25)
      have FA_x_104 := a_fact FA_x_103 (.cells #[.int .u64 0, .int .i64 0, .slice none 0 0] 25)
      have KB_f_104 := a_blk KB_f_103 (.cells #[.int .u64 0, .int .i64 0, .slice none 0 0] 25)
      have NE_f_y := n_ne KB_f_103
      have KB_y_104 := n_blk (u := v) 25 #[.int .u64 0, .int .i64 0, .slice none 0 0]
      clear BEL103 BOX103 FA_f_103 FA_x_103 KB_f_103
      go_simp
      generalize (v.alloc (.cells #[.int .u64 0, .int .i64 0, .slice none 0 0] 25)) = v2 at BEL104 BOX104 FA_f_104 FA_x_104 KB_f_104 KB_y_104 ⊢
      generalize v.heap.size = gy at BOX104 FA_f_104 FA_x_104 KB_y_104 NE_f_y ⊢
      refine hK0.out _ _ (by exact KB_f_104.out) (fun hHeld => ?_)
      clear hK0 K0 hHeld
      refine hTU.out _ _ _ _ ?_
      refine ND_1_y.out _ Ax cx gy _ _ ?_ ?_ BEL104 BOX104 FA_f_104 FA_x_104 KB_f_104 KB_y_104 NE_f_y
      · first | rfl | kernel_rfl
      · rw [hact.out]; rfl
    exact AllReadyH.nil
  have ND_0_xy : Hid (∀ (v : World) (gx : Nat) (gy : Nat) (ll : Array Bool) (aa : Act), ll = #[true, true, false, true, false, true, true, false, true, false, true, true, false, false] → aa = ((act0.put (some 15) (.pointer (some ⟨gx, 0, none⟩))).put (some 16) (.pointer (some ⟨gy, 0, none⟩))) → Hid (Below w.heap.size w v) → Hid (Boxes w v [gy, gx, gf]) → Hid (HeldX [gy, gx, gf] (fun uq => SkAt uq (.agg #[.int .u64 a0, .int .i64 a3, .slice Af R cf]) a0 a3 R (fun _ => n) (fun _ _ => 0)) v) → Hid (Blk v gf 25 #[.int .u64 a0, .int .i64 a3, .slice Af R cf]) → Hid (Blk v gx 25 #[.int .u64 0, .int .i64 0, .slice none 0 0]) → Hid (Blk v gy 25 #[.int .u64 0, .int .i64 0, .slice none 0 0]) → Hid (gf ≠ gx) → Hid (gf ≠ gy) → Hid (gx ≠ gy) → TT 6 ll aa v) := by
    intro v gx gy ll aa hl hA BEL103 BOX103 FA_f_103 KB_f_103 KB_x_103 KB_y_103 NE_f_x NE_f_y NE_x_y
    rw [hact.out] at hA
    try simp only [Act.put, List.setIfInBounds_toArray, List.set_cons_zero, List.set_cons_succ] at hA
    subst hl hA
    refine hUT.out _ _ _ _ ?_
    refine wpAnyH_ready (rs := [2]) (by kernel_rfl) (by simp) ?_
    refine AllReadyH.cons rfl (fun K0 hK0 => ?_) ?_
    · refine step_func 23 #[.agg #[.int .u64 a0, .int .i64 a3, .slice Af R cf], .slice Al m capl] (by rfl) rfl (by simp [Act.eval]) (fun _ _ => by kernel_rfl) ?_
      refine (adds_any _ _ _ [gy, gx, gf] a0 a3 R n m _ K q FA_f_103.out (fun g hg => (BOX103.out g hg).2) (LA.out.keep (keep_of_below BEL103.out)) OK.out uS (by omega) HK.out).mono ?_
      rintro e wx ⟨Ax, cx, rfl, fx, bb⟩
      have BEL104 := h_bel BEL103 bb
      have BOX104 := h_box BOX103 bb
      have FA_f_104 := h_fact FA_f_103 bb
      have KB_f_104 := h_blk KB_f_103 bb
      have KB_x_104 := h_blk KB_x_103 bb
      have KB_y_104 := h_blk KB_y_103 bb
      clear BEL103 BOX103 FA_f_103 KB_f_103 KB_x_103 KB_y_103
      have FA_x_104 : Hid (HeldX [gy, gx, gf] (fun uq => SkAt uq (.agg #[.int .u64 a0, .int .i64 a3, .slice Ax R cx]) a0 a3 R (fun _ => n) (addsZ a0 a3 n (fun _ _ => 0) K q m)) wx) := fx
      clear bb fx
      refine ⟨_, rfl, ?_⟩
      refine hK0.out _ _ (by exact KB_f_104.out) (fun hHeld => ?_)
      clear hK0 K0 hHeld
      refine hTU.out _ _ _ _ ?_
      refine ND_1_xy.out _ Ax cx gx gy _ _ ?_ ?_ BEL104 BOX104 FA_f_104 FA_x_104 KB_f_104 KB_x_104 KB_y_104 NE_f_x NE_f_y NE_x_y
      · first | rfl | kernel_rfl
      · rw [hact.out]; rfl
    exact AllReadyH.nil
  have ND_0_x : Hid (∀ (v : World) (gx : Nat) (ll : Array Bool) (aa : Act), ll = #[true, true, false, true, false, true, true, false, true, false, true, false, false, false] → aa = (act0.put (some 15) (.pointer (some ⟨gx, 0, none⟩))) → Hid (Below w.heap.size w v) → Hid (Boxes w v [gx, gf]) → Hid (HeldX [gx, gf] (fun uq => SkAt uq (.agg #[.int .u64 a0, .int .i64 a3, .slice Af R cf]) a0 a3 R (fun _ => n) (fun _ _ => 0)) v) → Hid (Blk v gf 25 #[.int .u64 a0, .int .i64 a3, .slice Af R cf]) → Hid (Blk v gx 25 #[.int .u64 0, .int .i64 0, .slice none 0 0]) → Hid (gf ≠ gx) → TT 7 ll aa v) := by
    intro v gx ll aa hl hA BEL103 BOX103 FA_f_103 KB_f_103 KB_x_103 NE_f_x
    rw [hact.out] at hA
    try simp only [Act.put, List.setIfInBounds_toArray, List.set_cons_zero, List.set_cons_succ] at hA
    subst hl hA
    refine hUT.out _ _ _ _ ?_
    refine wpAnyH_ready (rs := [2, 11]) (by kernel_rfl) (by simp) ?_
    refine AllReadyH.cons rfl (fun K0 hK0 => ?_) ?_
    · refine step_func 23 #[.agg #[.int .u64 a0, .int .i64 a3, .slice Af R cf], .slice Al m capl] (by rfl) rfl (by simp [Act.eval]) (fun _ _ => by kernel_rfl) ?_
      refine (adds_any _ _ _ [gx, gf] a0 a3 R n m _ K q FA_f_103.out (fun g hg => (BOX103.out g hg).2) (LA.out.keep (keep_of_below BEL103.out)) OK.out uS (by omega) HK.out).mono ?_
      rintro e wx ⟨Ax, cx, rfl, fx, bb⟩
      have BEL104 := h_bel BEL103 bb
      have BOX104 := h_box BOX103 bb
      have FA_f_104 := h_fact FA_f_103 bb
      have KB_f_104 := h_blk KB_f_103 bb
      have KB_x_104 := h_blk KB_x_103 bb
      clear BEL103 BOX103 FA_f_103 KB_f_103 KB_x_103
      have FA_x_104 : Hid (HeldX [gx, gf] (fun uq => SkAt uq (.agg #[.int .u64 a0, .int .i64 a3, .slice Ax R cx]) a0 a3 R (fun _ => n) (addsZ a0 a3 n (fun _ _ => 0) K q m)) wx) := fx
      clear bb fx
      refine ⟨_, rfl, ?_⟩
      refine hK0.out _ _ (by exact KB_f_104.out) (fun hHeld => ?_)
      clear hK0 K0 hHeld
      refine hTU.out _ _ _ _ ?_
      refine ND_1_x.out _ Ax cx gx _ _ ?_ ?_ BEL104 BOX104 FA_f_104 FA_x_104 KB_f_104 KB_x_104 NE_f_x
      · first | rfl | kernel_rfl
      · rw [hact.out]; rfl
    refine AllReadyH.cons rfl (fun K0 hK0 => ?_) ?_
    · have BEL104 := a_bel BEL103 (.cells #[.int .u64 0, .int .i64 0, .slice none 0 0] 25)
      have BOX104 := a_box BOX103 BEL103 (.cells #[.int .u64 0, .int .i64 0, .slice none 0 0] 25)
      have FA_f_104 := a_fact FA_f_103 (.cells #[.int .u64 0, .int .i64 0, .slice none 0 0] 25)
      have KB_f_104 := a_blk KB_f_103 (.cells #[.int .u64 0, .int .i64 0, .slice none 0 0] 25)
      have NE_f_y := n_ne KB_f_103
      have KB_x_104 := a_blk KB_x_103 (.cells #[.int .u64 0, .int .i64 0, .slice none 0 0] 25)
      have NE_x_y := n_ne KB_x_103
      have KB_y_104 := n_blk (u := v) 25 #[.int .u64 0, .int .i64 0, .slice none 0 0]
      clear BEL103 BOX103 FA_f_103 KB_f_103 KB_x_103
      go_simp
      generalize (v.alloc (.cells #[.int .u64 0, .int .i64 0, .slice none 0 0] 25)) = v2 at BEL104 BOX104 FA_f_104 KB_f_104 KB_x_104 KB_y_104 ⊢
      generalize v.heap.size = gy at BOX104 FA_f_104 KB_y_104 NE_f_y NE_x_y ⊢
      refine hK0.out _ _ (by exact KB_f_104.out) (fun hHeld => ?_)
      clear hK0 K0 hHeld
      refine hTU.out _ _ _ _ ?_
      refine ND_0_xy.out _ gx gy _ _ ?_ ?_ BEL104 BOX104 FA_f_104 KB_f_104 KB_x_104 KB_y_104 NE_f_x NE_f_y NE_x_y
      · first | rfl | kernel_rfl
      · rw [hact.out]; rfl
    exact AllReadyH.nil
  have ND_0_y : Hid (∀ (v : World) (gy : Nat) (ll : Array Bool) (aa : Act), ll = #[true, true, false, true, false, true, true, false, true, false, false, true, false, false] → aa = (act0.put (some 16) (.pointer (some ⟨gy, 0, none⟩))) → Hid (Below w.heap.size w v) → Hid (Boxes w v [gy, gf]) → Hid (HeldX [gy, gf] (fun uq => SkAt uq (.agg #[.int .u64 a0, .int .i64 a3, .slice Af R cf]) a0 a3 R (fun _ => n) (fun _ _ => 0)) v) → Hid (Blk v gf 25 #[.int .u64 a0, .int .i64 a3, .slice Af R cf]) → Hid (Blk v gy 25 #[.int .u64 0, .int .i64 0, .slice none 0 0]) → Hid (gf ≠ gy) → TT 7 ll aa v) := by
    intro v gy ll aa hl hA BEL103 BOX103 FA_f_103 KB_f_103 KB_y_103 NE_f_y
    rw [hact.out] at hA
    try simp only [Act.put, List.setIfInBounds_toArray, List.set_cons_zero, List.set_cons_succ] at hA
    subst hl hA
    refine hUT.out _ _ _ _ ?_
    refine wpAnyH_ready (rs := [2, 10]) (by kernel_rfl) (by simp) ?_
    refine AllReadyH.cons rfl (fun K0 hK0 => ?_) ?_
    · refine step_func 23 #[.agg #[.int .u64 a0, .int .i64 a3, .slice Af R cf], .slice Al m capl] (by rfl) rfl (by simp [Act.eval]) (fun _ _ => by kernel_rfl) ?_
      refine (adds_any _ _ _ [gy, gf] a0 a3 R n m _ K q FA_f_103.out (fun g hg => (BOX103.out g hg).2) (LA.out.keep (keep_of_below BEL103.out)) OK.out uS (by omega) HK.out).mono ?_
      rintro e wx ⟨Ax, cx, rfl, fx, bb⟩
      have BEL104 := h_bel BEL103 bb
      have BOX104 := h_box BOX103 bb
      have FA_f_104 := h_fact FA_f_103 bb
      have KB_f_104 := h_blk KB_f_103 bb
      have KB_y_104 := h_blk KB_y_103 bb
      clear BEL103 BOX103 FA_f_103 KB_f_103 KB_y_103
      have FA_x_104 : Hid (HeldX [gy, gf] (fun uq => SkAt uq (.agg #[.int .u64 a0, .int .i64 a3, .slice Ax R cx]) a0 a3 R (fun _ => n) (addsZ a0 a3 n (fun _ _ => 0) K q m)) wx) := fx
      clear bb fx
      refine ⟨_, rfl, ?_⟩
      refine hK0.out _ _ (by exact KB_f_104.out) (fun hHeld => ?_)
      clear hK0 K0 hHeld
      refine hTU.out _ _ _ _ ?_
      refine ND_1_y.out _ Ax cx gy _ _ ?_ ?_ BEL104 BOX104 FA_f_104 FA_x_104 KB_f_104 KB_y_104 NE_f_y
      · first | rfl | kernel_rfl
      · rw [hact.out]; rfl
    refine AllReadyH.cons rfl (fun K0 hK0 => ?_) ?_
    · have BEL104 := a_bel BEL103 (.cells #[.int .u64 0, .int .i64 0, .slice none 0 0] 25)
      have BOX104 := a_box BOX103 BEL103 (.cells #[.int .u64 0, .int .i64 0, .slice none 0 0] 25)
      have FA_f_104 := a_fact FA_f_103 (.cells #[.int .u64 0, .int .i64 0, .slice none 0 0] 25)
      have KB_f_104 := a_blk KB_f_103 (.cells #[.int .u64 0, .int .i64 0, .slice none 0 0] 25)
      have NE_f_x := n_ne KB_f_103
      have KB_y_104 := a_blk KB_y_103 (.cells #[.int .u64 0, .int .i64 0, .slice none 0 0] 25)
      have NE_y_x := n_ne KB_y_103
      have KB_x_104 := n_blk (u := v) 25 #[.int .u64 0, .int .i64 0, .slice none 0 0]
      clear BEL103 BOX103 FA_f_103 KB_f_103 KB_y_103
      go_simp
      generalize (v.alloc (.cells #[.int .u64 0, .int .i64 0, .slice none 0 0] 25)) = v2 at BEL104 BOX104 FA_f_104 KB_f_104 KB_y_104 KB_x_104 ⊢
      generalize v.heap.size = gx at BOX104 FA_f_104 KB_x_104 NE_f_x NE_y_x ⊢
      refine hK0.out _ _ (by exact KB_f_104.out) (fun hHeld => ?_)
      clear hK0 K0 hHeld
      refine hTU.out _ _ _ _ ?_
      refine ND_0_xy.out _ gx gy _ _ ?_ ?_ BEL104 (b_perm BOX104 (by intro p m; simp only [List.mem_cons, List.not_mem_nil, or_false] at m ⊢; omega)) (h_perm FA_f_104 (by intro p m; simp only [List.mem_cons, List.not_mem_nil, or_false] at m ⊢; omega)) KB_f_104 KB_x_104 KB_y_104 NE_f_x NE_f_y (n_sym NE_y_x)
      · first | rfl | kernel_rfl
      · rw [hact.out]; rfl
    exact AllReadyH.nil
  have ND_0_ : Hid (∀ (v : World)  (ll : Array Bool) (aa : Act), ll = #[true, true, false, true, false, true, true, false, true, false, false, false, false, false] → aa = act0 → Hid (Below w.heap.size w v) → Hid (Boxes w v [gf]) → Hid (HeldX [gf] (fun uq => SkAt uq (.agg #[.int .u64 a0, .int .i64 a3, .slice Af R cf]) a0 a3 R (fun _ => n) (fun _ _ => 0)) v) → Hid (Blk v gf 25 #[.int .u64 a0, .int .i64 a3, .slice Af R cf]) → TT 8 ll aa v) := by
    intro v  ll aa hl hA BEL103 BOX103 FA_f_103 KB_f_103
    rw [hact.out] at hA
    try simp only [Act.put, List.setIfInBounds_toArray, List.set_cons_zero, List.set_cons_succ] at hA
    subst hl hA
    refine hUT.out _ _ _ _ ?_
    refine wpAnyH_ready (rs := [2, 10, 11]) (by kernel_rfl) (by simp) ?_
    refine AllReadyH.cons rfl (fun K0 hK0 => ?_) ?_
    · refine step_func 23 #[.agg #[.int .u64 a0, .int .i64 a3, .slice Af R cf], .slice Al m capl] (by rfl) rfl (by simp [Act.eval]) (fun _ _ => by kernel_rfl) ?_
      refine (adds_any _ _ _ [gf] a0 a3 R n m _ K q FA_f_103.out (fun g hg => (BOX103.out g hg).2) (LA.out.keep (keep_of_below BEL103.out)) OK.out uS (by omega) HK.out).mono ?_
      rintro e wx ⟨Ax, cx, rfl, fx, bb⟩
      have BEL104 := h_bel BEL103 bb
      have BOX104 := h_box BOX103 bb
      have FA_f_104 := h_fact FA_f_103 bb
      have KB_f_104 := h_blk KB_f_103 bb
      clear BEL103 BOX103 FA_f_103 KB_f_103
      have FA_x_104 : Hid (HeldX [gf] (fun uq => SkAt uq (.agg #[.int .u64 a0, .int .i64 a3, .slice Ax R cx]) a0 a3 R (fun _ => n) (addsZ a0 a3 n (fun _ _ => 0) K q m)) wx) := fx
      clear bb fx
      refine ⟨_, rfl, ?_⟩
      refine hK0.out _ _ (by exact KB_f_104.out) (fun hHeld => ?_)
      clear hK0 K0 hHeld
      refine hTU.out _ _ _ _ ?_
      refine ND_1_.out _ Ax cx _ _ ?_ ?_ BEL104 BOX104 FA_f_104 FA_x_104 KB_f_104
      · first | rfl | kernel_rfl
      · rw [hact.out]; rfl
    refine AllReadyH.cons rfl (fun K0 hK0 => ?_) ?_
    · have BEL104 := a_bel BEL103 (.cells #[.int .u64 0, .int .i64 0, .slice none 0 0] 25)
      have BOX104 := a_box BOX103 BEL103 (.cells #[.int .u64 0, .int .i64 0, .slice none 0 0] 25)
      have FA_f_104 := a_fact FA_f_103 (.cells #[.int .u64 0, .int .i64 0, .slice none 0 0] 25)
      have KB_f_104 := a_blk KB_f_103 (.cells #[.int .u64 0, .int .i64 0, .slice none 0 0] 25)
      have NE_f_x := n_ne KB_f_103
      have KB_x_104 := n_blk (u := v) 25 #[.int .u64 0, .int .i64 0, .slice none 0 0]
      clear BEL103 BOX103 FA_f_103 KB_f_103
      go_simp
      generalize (v.alloc (.cells #[.int .u64 0, .int .i64 0, .slice none 0 0] 25)) = v2 at BEL104 BOX104 FA_f_104 KB_f_104 KB_x_104 ⊢
      generalize v.heap.size = gx at BOX104 FA_f_104 KB_x_104 NE_f_x ⊢
      refine hK0.out _ _ (by exact KB_f_104.out) (fun hHeld => ?_)
      clear hK0 K0 hHeld
      refine hTU.out _ _ _ _ ?_
      refine ND_0_x.out _ gx _ _ ?_ ?_ BEL104 BOX104 FA_f_104 KB_f_104 KB_x_104 NE_f_x
      · first | rfl | kernel_rfl
      · rw [hact.out]; rfl
    refine AllReadyH.cons rfl (fun K0 hK0 => ?_) ?_
    · have BEL104 := a_bel BEL103 (.cells #[.int .u64 0, .int .i64 0, .slice none 0 0] 25)
      have BOX104 := a_box BOX103 BEL103 (.cells #[.int .u64 0, .int .i64 0, .slice none 0 0] 25)
      have FA_f_104 := a_fact FA_f_103 (.cells #[.int .u64 0, .int .i64 0, .slice none 0 0] 25)
      have KB_f_104 := a_blk KB_f_103 (.cells #[.int .u64 0, .int .i64 0, .slice none 0 0] 25)
      have NE_f_y := n_ne KB_f_103
      have KB_y_104 := n_blk (u := v) 25 #[.int .u64 0, .int .i64 0, .slice none 0 0]
      clear BEL103 BOX103 FA_f_103 KB_f_103
      go_simp
      generalize (v.alloc (.cells #[.int .u64 0, .int .i64 0, .slice none 0 0] 25)) = v2 at BEL104 BOX104 FA_f_104 KB_f_104 KB_y_104 ⊢
      generalize v.heap.size = gy at BOX104 FA_f_104 KB_y_104 NE_f_y ⊢
      refine hK0.out _ _ (by exact KB_f_104.out) (fun hHeld => ?_)
      clear hK0 K0 hHeld
      refine hTU.out _ _ _ _ ?_
      refine ND_0_y.out _ gy _ _ ?_ ?_ BEL104 BOX104 FA_f_104 KB_f_104 KB_y_104 NE_f_y
      · first | rfl | kernel_rfl
      · rw [hact.out]; rfl
    exact AllReadyH.nil
  refine ND_0_.out _  _ _ ?_ ?_ BEL3 BOX3 FA_f_3 KB_f_3
  · first | rfl | kernel_rfl
  · rfl

/-! ### The row -/
theorem laidOut : laidOutB Try.prog = true := by kernel_rfl
set_option maxRecDepth 100000 in
theorem lifted (os : Os) (started : os.Started) (H : Type) (enc : TypeId × Value → H) :
    ReturnsInHanded {} Try.checked os 7 .any (Rows.leastOrderSpec.pre6 enc Try.prog Try.f7 Rows.leastOrderRow.domain false) (Rows.leastOrderSpec.post enc Try.prog Try.f7 false true false false) := by
  refine returnsInHanded_of_change (C := Try.checked) own started (by kernel_rfl) Try.func7
    (ChangeSpec.witness6 (enc := enc) (C := Try.checked) false ⟨#[], #[.int .u64 0, .int .i64 0, .int .i64 0, .int .i64 0, .slice none 0 0, .slice none 0 0], []⟩ 8 (by kernel_rfl) (by kernel_rfl) (by kernel_rfl) (by kernel_rfl)) ?_
  intro W base args ds gs before hval0 hW hcnd _
  have hval : ∀ (j : Nat) t v, Try.f7.params[j]? = some t → args[j]? = some v → Value.okWide Try.prog W .any base t v := hval0
  have hW' := hW
  obtain ⟨p, q, hA0, hV, rfl, hfz, hnd⟩ := hW
  have hA : DataW.TrodAll enc Try.prog W 0 (fun _ => true) true Try.f7.params.toList args.toList ds p := hA0
  rw [Try.params7] at hA hval
  obtain ⟨v0, vs0, d0, ds0, p0, q0, hargs, rfl, rfl, h0, r0⟩ := trodAll_cons hA
  obtain ⟨v1, vs1, d1, ds1, p1, q1, rfl, rfl, rfl, h1, r1⟩ := trodAll_cons r0
  obtain ⟨v2, vs2, d2, ds2, p2, q2, rfl, rfl, rfl, h2, r2⟩ := trodAll_cons r1
  obtain ⟨v3, vs3, d3, ds3, p3, q3, rfl, rfl, rfl, h3, r3⟩ := trodAll_cons r2
  obtain ⟨v4, vs4, d4, ds4, p4, q4, rfl, rfl, rfl, h4, r4⟩ := trodAll_cons r3
  obtain ⟨v5, vs5, d5, ds5, p5, q5, rfl, rfl, rfl, h5, r5⟩ := trodAll_cons r4
  obtain ⟨rfl, rfl, rfl⟩ := trodAll_nil r5
  obtain rfl : args = #[v0, v1, v2, v3, v4, v5] := by cases args; simp_all
  obtain ⟨rfl, rfl⟩ := trodVars_none hV
  obtain ⟨a0, rfl, rfl, rfl, w0⟩ := open_int Try.underlying22 (hval 0 22 v0 rfl rfl) h0
  obtain ⟨a1, rfl, rfl, rfl, w1⟩ := open_int Try.underlying3 (hval 1 3 v1 rfl rfl) h1
  obtain ⟨a2, rfl, rfl, rfl, w2⟩ := open_int Try.underlying3 (hval 2 3 v2 rfl rfl) h2
  obtain ⟨a3, rfl, rfl, rfl, w3⟩ := open_int Try.underlying3 (hval 3 3 v3 rfl rfl) h3
  have k4 := h4
  have lt4 : ∀ x ∈ p4, x.block < W.heap.size := by obtain ⟨m, hm⟩ := k4; exact DataW.trod_lt m _ _ _ hm
  obtain ⟨F4, w4⟩ := open_items (hval 4 47 v4 rfl rfl) h4
  have k5 := h5
  have lt5 : ∀ x ∈ p5, x.block < W.heap.size := by obtain ⟨m, hm⟩ := k5; exact DataW.trod_lt m _ _ _ hm
  obtain ⟨F5, w5⟩ := open_items (hval 5 47 v5 rfl rfl) h5
  clear hA0 hval0
  refine (walk a0 a1 a2 a3 v4 F4 v5 F5 W w0 w1 w2 w3 w4 w5).mono fun e W' ⟨he, bel⟩ => ?_
  subst he
  exact ⟨_, rfl, _, _, _, [], _, [], hW', trodAll_mk1 (shut_bool Try.underlying4 _), (trodAll_cons_mk (shut_int Try.underlying22 w0) (trodAll_cons_mk (shut_int Try.underlying3 w1) (trodAll_cons_mk (shut_int Try.underlying3 w2) (trodAll_cons_mk (shut_int Try.underlying3 w3) (trodAll_cons_mk (Below.trod laidOut (by kernel_rfl) (of_decide_eq_true (by kernel_rfl)) k4 bel lt4) (trodAll_cons_mk (Below.trod laidOut (by kernel_rfl) (of_decide_eq_true (by kernel_rfl)) k5 bel lt5) trodAll_mk0)))))), rfl, bel.frame _, fun h => by cases h⟩

theorem over : Rows.leastOrderRow.holds Try.pinned (OpenSpec.ofChange Rows.leastOrderSpec) :=
  OpenClaim.holds_of_wide 7 Try.f7 rfl rfl rfl rfl rfl rfl rfl ⟨rfl, rfl, rfl, rfl, rfl⟩ rfl rfl rfl rfl rfl (by kernel_rfl) Try.func7 (by kernel_rfl)
    (of_decide_eq_true (by kernel_rfl)) (by unfold Func.isWrapper; first | (rw [if_pos (by decide +kernel)]; kernel_rfl) | (rw [if_neg (by decide +kernel)]; exact ⟨rfl, rfl⟩))
    (fun os started H enc _ => lifted os started H enc)

theorem proved : Rows.LeastOrderSaid := over
end Go.Proofs.Ytmlokipmcgnllaa.leastOrder
namespace Go.Proofs.Ytmlokipmcgnllaa
theorem leastOrder_holds : Rows.LeastOrderSaid := leastOrder.proved
#print axioms leastOrder_holds
end Go.Proofs.Ytmlokipmcgnllaa
