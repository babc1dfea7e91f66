
/-
  SignedOrder: the order of items does not matter; two sketches merged are one to which all was added; what is added and taken away is nothing. No condition.
-/
import Derived.Test.YtpjpgcjlbfgkdaaRows
import Derived.Test.YtpjpgcjlbfgkdaaSgnAwake
import Derived.Test.YtpjpgcjlbfgkdaaSgnMerge
import Derived.Test.YtpjpgcjlbfgkdaaSgnRef
import Derived.Test.YtpjpgcjlbfgkdaaSgnItems
import Derived.Test.YtpjpgcjlbfgkdaaRegKit
import Derived.WalkKit
import Derived.ProofKit
import Derived.OpenShut
import Derived.ShutString
import Derived.ChangeOld
import Derived.ChangeMaps5
import Derived.Below
import Derived.Carry
import Derived.Laws.StructEq
import Derived.BigQuiet
import Derived.Deep.Cut
import Derived.Deep.CutRange
import Derived.Deep.RegionHeld
import Derived.Deep.AppendLies
namespace Go.Proofs.Ytpjpgcjlbfgkdaa.signedOrder
open Fm Bl Sg L2 Go.Deep
open Go.ChangeShapes Go.WideShapes Go.ChangeAt Go.RowKit Go.ChangeMaps
set_option linter.unusedVariables false

theorem own : ownKnob Try.prog.godebug = none := by kernel_rfl

set_option maxRecDepth 8000 in
set_option maxHeartbeats 40000000 in
theorem walk (a0 a1 a2 : Int) (v3 : Value) (F3 : Its) (v4 : Value) (F4 : Its) (w : World) (w0 : (Lit.int .u64 a0).wf = true) (w1 : (Lit.int .i64 a1).wf = true) (w2 : (Lit.int .i64 a2).wf = true) (h3 : ItemsIn w v3 F3) (h4 : ItemsIn w v4 F4) :
    Calls Try.prog 6 #[.int .u64 a0, .int .i64 a1, .int .i64 a2, v3, v4] w fun e w' => e = .returned (.bool true) ∧ Below w.heap.size w w' := by
  have uS : U a0 := bounds_u64 w0
  obtain ⟨m, K, q⟩ := F3
  obtain ⟨hL, hm, hk⟩ := h3
  obtain ⟨p, J, r⟩ := F4
  obtain ⟨hM, hp, hj⟩ := h4
  simp only at hL hm hk hM hp hj
  obtain ⟨Al, capl, bl, ol, rfl, _, _, _⟩ := id hL
  obtain ⟨Ak, capk, bm, om, rfl, _, l3, l4⟩ := id hM
  have LA : Hid (ItAt w (.slice Al m capl) m K q) := hL
  have LB : Hid (ItAt w (.slice Ak p capk) p J r) := hM
  have L3 : Hid (0 < p → Ak = some ⟨bm, om, none⟩) := l3
  have L4 : Hid (∀ i, i < p → w.cell? ⟨bm, om + i * 2, none⟩ = some (.string (J i)) ∧ w.cell? ⟨bm, om + i * 2 + 1, none⟩ = some (.int .i64 (r i))) := l4
  clear hL hM l3 l4
  obtain ⟨it, hi, hz0, hz1, hz2⟩ := infoIT
  have HT : Hid (Try.prog.info? 54 = some it ∧ it.zero = some (.agg #[.string ⟨#[]⟩, .int .i64 0]) ∧ it.size = 2 ∧ it.bytes = 24) := ⟨hi, hz0, hz1, hz2⟩
  clear hi hz0 hz1 hz2
  by_cases hf : fitsS a1 a2 = true
  rotate_left
  · have BEL0 : Hid (Below w.heap.size w w) := Below.refl _ _
    have BOX0 : Hid (Boxes w w []) := boxes_none w w
    have hff : fitsS a1 a2 = false := by simpa using hf
    clear hf
    go_enter Try.func6, Try.ntmps6
    go_wp2_with fail
    refine (gnew_bad a0 a1 a2 _ hff).mono ?_
    rintro e ww1 ⟨rfl, b1⟩
    have BEL1 := h_bel BEL0 b1
    have BOX1 := h_box BOX0 b1
    clear BEL0 BOX0
    clear b1
    have BEL2 := a_bel BEL1 (.cells #[.int .u64 0, .slice none 0 0] 25)
    have BOX2 := a_box BOX1 BEL1 (.cells #[.int .u64 0, .slice none 0 0] 25)
    have KB_f_2 := n_blk (u := ww1) 25 #[.int .u64 0, .slice none 0 0]
    clear BEL1 BOX1
    go_wp2_with fail
    refine (gawake_any _).mono ?_
    rintro e ww99 ⟨rfl, b9⟩
    have BEL3 := h_bel BEL2 b9
    have BOX3 := h_box BOX2 b9
    have KB_f_3 := h_blk KB_f_2 b9
    clear BEL2 BOX2 KB_f_2
    clear b9
    go_wp2_with fail
    go_ret
    exact ⟨rfl, BEL3.out⟩
  have BEL0 : Hid (Below w.heap.size w w) := Below.refl _ _
  have BOX0 : Hid (Boxes w w []) := boxes_none w w
  have hR := (fitsS_iff _ _).1 hf
  obtain ⟨R, rfl⟩ : ∃ R : Nat, a1 = R := ⟨a1.toNat, by omega⟩
  obtain ⟨n, rfl⟩ : ∃ n : Nat, a2 = n := ⟨a2.toNat, by omega⟩
  have r1 : 1 ≤ R := by omega
  have r2 : R ≤ 7 := by omega
  have n1 : 1 ≤ n := by omega
  have n2 : n ≤ 256 := by omega
  have HF : Hid (fitsS R n = true) := hf
  have OK : Hid (OkG R n (fun _ _ => 0)) := okG_none hf
  clear hR hf
  go_enter Try.func6, Try.ntmps6
  go_wp2_with fail
  refine (gnew_ok a0 R n _ HF.out).mono ?_
  rintro e ww1 ⟨x1, rfl, f1, b1⟩
  obtain ⟨vf, rfl, hvf⟩ := f1.at
  obtain ⟨Af, cf, bbf, oof, rfl, hx1, hx2⟩ := hvf.read
  clear hx1 hx2 hvf
  have FA_f_1 : Hid (HeldX [] (fun uq => SgAt uq (.agg #[.int .u64 a0, .slice Af R cf]) a0 R (fun _ => n) (fun _ _ => 0)) ww1) := Held.new f1 BOX0.out
  have BEL1 := h_bel BEL0 b1
  have BOX1 := h_box BOX0 b1
  clear BEL0 BOX0
  clear b1 f1
  have BEL2 := a_bel BEL1 (.cells #[.int .u64 a0, .slice Af R cf] 25)
  have BOX2 := a_box BOX1 BEL1 (.cells #[.int .u64 a0, .slice Af R cf] 25)
  have FA_f_2 := a_fact FA_f_1 (.cells #[.int .u64 a0, .slice Af R cf] 25)
  have KB_f_2 := n_blk (u := ww1) 25 #[.int .u64 a0, .slice Af R cf]
  clear BEL1 BOX1 FA_f_1
  go_wp2_with fail
  refine (gfew_any _ _ m K q (LA.out.keep (keep_of_below BEL2.out)) hm (fun i hi => (hk i hi).1)).mono ?_
  rintro e ww2 ⟨B, rfl, hB, hw⟩
  obtain rfl := hw
  have HB : Hid (B = true ↔ FewG m K q) := hB
  clear hB
  cases B
  · go_wp2_with fail
    refine (gawake_any _).mono ?_
    rintro e ww99 ⟨rfl, b9⟩
    have BEL3 := h_bel BEL2 b9
    have BOX3 := h_box BOX2 b9
    have FA_f_3 := h_fact FA_f_2 b9
    have KB_f_3 := h_blk KB_f_2 b9
    clear BEL2 BOX2 FA_f_2 KB_f_2
    clear b9
    go_wp2_with fail
    go_ret
    exact ⟨rfl, BEL3.out⟩
  obtain ⟨m40, hk2⟩ := HB.out.1 rfl
  have HK : Hid (∀ i, i < m → (K i).size ≤ 100 ∧ -1073741824 ≤ q i ∧ q i ≤ 1073741824) := hk2
  clear HB hk hk2
  go_wp2_with fail
  refine (gfew_any _ _ p J r (LB.out.keep (keep_of_below BEL2.out)) hp (fun i hi => (hj i hi).1)).mono ?_
  rintro e ww2 ⟨B, rfl, hB, hw⟩
  obtain rfl := hw
  have HC : Hid (B = true ↔ FewG p J r) := hB
  clear hB
  cases B
  · go_wp2_with fail
    refine (gawake_any _).mono ?_
    rintro e ww99 ⟨rfl, b9⟩
    have BEL3 := h_bel BEL2 b9
    have BOX3 := h_box BOX2 b9
    have FA_f_3 := h_fact FA_f_2 b9
    have KB_f_3 := h_blk KB_f_2 b9
    clear BEL2 BOX2 FA_f_2 KB_f_2
    clear b9
    go_wp2_with fail
    go_ret
    exact ⟨rfl, BEL3.out⟩
  obtain ⟨p40, hk2⟩ := HC.out.1 rfl
  have HJ : Hid (∀ i, i < p → (J i).size ≤ 100 ∧ -1073741824 ≤ r i ∧ r i ≤ 1073741824) := hk2
  clear HC hj hk2
  have HJN : Hid (∀ i, i < p → (J i).size ≤ 100 ∧ -1073741824 ≤ (fun t => -r t) i ∧ (fun t => -r t) i ≤ 1073741824) := fun i hi => by
    have := HJ.out i hi
    show (J i).size ≤ 100 ∧ -1073741824 ≤ -r i ∧ -r i ≤ 1073741824
    omega
  have A0 : ∀ i, i < R → ∀ j, j < n → -(0 : Int) ≤ (fun (_ _ : Nat) => (0 : Int)) i j ∧ (fun (_ _ : Nat) => (0 : Int)) i j ≤ 0 := fun i _ j _ => by show -(0 : Int) ≤ 0 ∧ (0 : Int) ≤ 0; omega
  have BXb := adds_bound (S := a0) A0 K (fun t ht => (HK.out t ht).2)
  have BYb := adds_bound (S := a0) A0 J (fun t ht => (HJ.out t ht).2)
  have BPb := adds_bound (S := a0) BXb J (fun t ht => (HJ.out t ht).2)
  have OKK1 : Hid (∀ k, k ≤ m → OkG R n (addsG a0 n (fun _ _ => 0) K q k)) := fun k hk => OkG.adds OK.out A0 K (fun t ht => (HK.out t (by omega)).2) (by omega)
  have OKJ1 : Hid (∀ k, k ≤ p → OkG R n (addsG a0 n (fun _ _ => 0) J r k)) := fun k hk => OkG.adds OK.out A0 J (fun t ht => (HJ.out t (by omega)).2) (by omega)
  have OKK2 : Hid (∀ k, k ≤ p → OkG R n (addsG a0 n (addsG a0 n (fun _ _ => 0) K q m) J r k)) := fun k hk => OkG.adds (OKK1.out m (Nat.le_refl _)) BXb J (fun t ht => (HJ.out t (by omega)).2) (by omega)
  have OKJ2 : Hid (∀ k, k ≤ m → OkG R n (addsG a0 n (addsG a0 n (fun _ _ => 0) J r p) K q k)) := fun k hk => OkG.adds (OKJ1.out p (Nat.le_refl _)) BYb K (fun t ht => (HK.out t (by omega)).2) (by omega)
  have OKW : Hid (∀ k, k ≤ p → OkG R n (addsG a0 n (addsG a0 n (addsG a0 n (fun _ _ => 0) K q m) J r p) J (fun t => -r t) k)) := fun k hk => OkG.adds (OKK2.out p (Nat.le_refl _)) BPb J (fun t ht => (HJN.out t (by omega)).2) (by omega)
  have OKM : Hid (OkG R n (mergeG (addsG a0 n (fun _ _ => 0) K q m) (addsG a0 n (fun _ _ => 0) J r p))) := ⟨OK.out.1, OK.out.2.1, OK.out.2.2.1, n1, n2, fun i hi j hj => by
    have := BXb i hi j hj
    have := BYb i hi j hj
    show -1099511627776 ≤ (addsG a0 n (fun _ _ => 0) K q m) i j + (addsG a0 n (fun _ _ => 0) J r p) i j ∧ (addsG a0 n (fun _ _ => 0) K q m) i j + (addsG a0 n (fun _ _ => 0) J r p) i j ≤ 1099511627776
    omega⟩
  clear A0 BXb BYb BPb
  go_upto_region 4 with fail
  generalize (ww1.alloc (.cells #[.int .u64 a0, .slice Af R cf] 25)) = u1 at BEL2 BOX2 FA_f_2 KB_f_2 ⊢
  generalize ww1.heap.size = gf at BOX2 FA_f_2 KB_f_2 ⊢
  refine letterQ ?_
  intro QQ hQQ
  have BEL3 := h_bel BEL2 ((Below.refl _ _).drew)
  have BOX3 := h_box BOX2 ((Below.refl _ _).drew)
  have FA_f_3 := h_fact FA_f_2 ((Below.refl _ _).drew)
  have KB_f_3 := h_blk KB_f_2 ((Below.refl _ _).drew)
  clear BEL2 BOX2 FA_f_2 KB_f_2
  refine wp_region_held_drew (S := (fun w' => Blk w' gf 25 #[.int .u64 a0, .slice Af R cf])) (by kernel_rfl) KB_f_3.out (fun hHeld => ?_)
  clear hHeld
  generalize u1.drew = v1 at BEL3 BOX3 FA_f_3 KB_f_3 ⊢
  refine wpAnyH_take (i := 0) (v := ?_) rfl (by kernel_rfl) (by kernel_rfl) (by kernel_rfl) (fun _ _ _ h => h) (Or.inl ⟨by rfl, ?_⟩) KB_f_3.out ?_
  rotate_left
  · intro wq hSw; have cl0 := hSw.cell 0; have cl1 := hSw.cell 1; go_simp; first | done | with_reducible rfl
  simp only [List.getElem_toArray, List.getElem_cons_zero, Act.put, List.setIfInBounds_toArray, List.set_cons_zero, List.set_cons_succ]
  refine wpAnyH_take (i := 1) (v := ?_) rfl (by kernel_rfl) (by kernel_rfl) (by kernel_rfl) (fun _ _ _ h => h) (Or.inl ⟨by rfl, ?_⟩) KB_f_3.out ?_
  rotate_left
  · intro wq hSw; go_simp; first | done | with_reducible rfl
  simp only [List.getElem_toArray, List.getElem_cons_zero, List.getElem_cons_succ, Act.put, List.setIfInBounds_toArray, List.set_cons_zero, List.set_cons_succ]
  refine wpAnyH_take (i := 3) (v := ?_) rfl (by kernel_rfl) (by kernel_rfl) (by kernel_rfl) (fun _ _ _ h => h) (Or.inl ⟨by rfl, ?_⟩) KB_f_3.out ?_
  rotate_left
  · intro wq hSw; go_simp; first | done | with_reducible rfl
  simp only [List.getElem_toArray, List.getElem_cons_zero, List.getElem_cons_succ, Act.put, List.setIfInBounds_toArray, List.set_cons_zero, List.set_cons_succ]
  refine wpAnyH_take (i := 5) (v := ?_) rfl (by kernel_rfl) (by kernel_rfl) (by kernel_rfl) (fun _ _ _ h => h) (Or.inl ⟨by rfl, ?_⟩) KB_f_3.out ?_
  rotate_left
  · intro wq hSw; have cl0 := hSw.cell 0; have cl1 := hSw.cell 1; go_simp; first | done | with_reducible rfl
  simp only [List.getElem_toArray, List.getElem_cons_zero, List.getElem_cons_succ, Act.put, List.setIfInBounds_toArray, List.set_cons_zero, List.set_cons_succ]
  refine wpAnyH_take (i := 6) (v := ?_) rfl (by kernel_rfl) (by kernel_rfl) (by kernel_rfl) (fun _ _ _ h => h) (Or.inl ⟨by rfl, ?_⟩) KB_f_3.out ?_
  rotate_left
  · intro wq hSw; go_simp; first | done | with_reducible rfl
  simp only [List.getElem_toArray, List.getElem_cons_zero, List.getElem_cons_succ, Act.put, List.setIfInBounds_toArray, List.set_cons_zero, List.set_cons_succ]
  refine wpAnyH_take (i := 8) (v := ?_) rfl (by kernel_rfl) (by kernel_rfl) (by kernel_rfl) (fun _ _ _ h => h) (Or.inl ⟨by rfl, ?_⟩) KB_f_3.out ?_
  rotate_left
  · intro wq hSw; go_simp; first | done | with_reducible rfl
  simp only [List.getElem_toArray, List.getElem_cons_zero, List.getElem_cons_succ, Act.put, List.setIfInBounds_toArray, List.set_cons_zero, List.set_cons_succ]
  refine letterT (T := wpAnyH _ _ _ _ _) ?_
  intro TT hTU hUT
  refine letterA ?_
  intro act0 hact
  have ND_4_xy : Hid (∀ (v : World) (Ax : Option Addr) (cx : Nat) (AP : Option Addr) (cP : Nat) (Ay : Option Addr) (cy : Nat) (AQ : Option Addr) (cQ : Nat) (gx : Nat) (gy : Nat) (ll : Array Bool) (aa : Act), ll = #[true, true, true, true, true, true, true, true, true, true, true, true, false, false] → aa = ((((((act0.put (some 43) (.agg #[.int .u64 a0, .slice Ax R cx])).put (some 45) (.agg #[.int .u64 a0, .slice AP R cP])).put (some 48) (.agg #[.int .u64 a0, .slice Ay R cy])).put (some 50) (.agg #[.int .u64 a0, .slice AQ R cQ])).put (some 13) (.pointer (some ⟨gx, 0, none⟩))).put (some 14) (.pointer (some ⟨gy, 0, none⟩))) → Hid (Below w.heap.size w v) → Hid (Boxes w v [gy, gx, gf]) → Hid (HeldX [gy, gx, gf] (fun uq => SgAt uq (.agg #[.int .u64 a0, .slice Af R cf]) a0 R (fun _ => n) (fun _ _ => 0)) v) → Hid (HeldX [gy, gx, gf] (fun uq => SgAt uq (.agg #[.int .u64 a0, .slice AP R cP]) a0 R (fun _ => n) (addsG a0 n (addsG a0 n (fun _ _ => 0) K q m) J r p)) v) → Hid (HeldX [gy, gx, gf] (fun uq => SgAt uq (.agg #[.int .u64 a0, .slice AQ R cQ]) a0 R (fun _ => n) (addsG a0 n (addsG a0 n (fun _ _ => 0) J r p) K q m)) v) → Hid (Blk v gf 25 #[.int .u64 a0, .slice Af R cf]) → Hid (Blk v gx 25 #[.int .u64 0, .slice none 0 0]) → Hid (Blk v gy 25 #[.int .u64 0, .slice none 0 0]) → Hid (gf ≠ gx) → Hid (gf ≠ gy) → Hid (gx ≠ gy) → TT 2 ll aa v) := by
    intro v Ax cx AP cP Ay cy AQ cQ gx gy ll aa hl hA BEL103 BOX103 FA_f_103 FA_P_103 FA_Q_103 KB_f_103 KB_x_103 KB_y_103 NE_f_x NE_f_y NE_x_y
    rw [hact.out] at hA
    try simp only [Act.put, List.setIfInBounds_toArray, List.set_cons_zero, List.set_cons_succ] at hA
    subst hl hA
    refine hUT.out _ _ _ _ ?_
    refine wpAnyH_ready (rs := [12]) (by kernel_rfl) (by simp) ?_
    refine AllReadyH.cons rfl (fun K0 hK0 => ?_) ?_
    rotate_left
    · exact AllReadyH.nil
    have CE_x_0 : v.cell? ⟨gx, 0, none⟩ = some (.int .u64 0) := KB_x_103.out.cell 0
    have CF_x_0 : v.frozen? ⟨gx, 0, none⟩ = false := KB_x_103.out.frozen 0
    have CE_x_1 : v.cell? ⟨gx, 1, none⟩ = some (.slice none 0 0) := KB_x_103.out.cell 1
    have CF_x_1 : v.frozen? ⟨gx, 1, none⟩ = false := KB_x_103.out.frozen 1
    have CE_x_lt : gx < v.heap.size := KB_x_103.out.lt
    go_simp
    clear CE_x_0 CF_x_0 CE_x_1 CF_x_1 CE_x_lt
    obtain ⟨vs1, hv⟩ : ∃ q, q = ((v.setCell ⟨gx, 0, none⟩ (.int .u64 a0)).setCell ⟨gx, 1, none⟩ (.slice AP R cP)) := ⟨_, rfl⟩
    rw [← hv]
    have pe : vs1 = putCells v gx 0 [.int .u64 a0, .slice AP R cP] := hv
    clear hv
    have BEL104 := p_bel pe BEL103 BOX103 (List.mem_cons_of_mem _ List.mem_cons_self)
    have BOX104 := p_box pe BOX103
    have FA_f_104 := p_fact pe FA_f_103 (List.mem_cons_of_mem _ List.mem_cons_self)
    have FA_P_104 := p_fact pe FA_P_103 (List.mem_cons_of_mem _ List.mem_cons_self)
    have FA_Q_104 := p_fact pe FA_Q_103 (List.mem_cons_of_mem _ List.mem_cons_self)
    have KB_f_104 := p_oth pe KB_f_103 NE_f_x
    have KB_x_104 : Hid (Blk vs1 gx 25 #[.int .u64 a0, .slice AP R cP]) := p_blk pe KB_x_103 rfl
    have KB_y_104 := p_oth pe KB_y_103 (n_sym NE_x_y)
    clear pe BEL103 BOX103 FA_f_103 FA_P_103 FA_Q_103 KB_f_103 KB_x_103 KB_y_103
    refine hK0.out _ _ (by exact KB_f_104.out) (fun hHeld => ?_)
    clear hK0 K0 hHeld
    refine wpAnyH_ready (rs := [13]) (by kernel_rfl) (by simp) ?_
    refine AllReadyH.cons rfl (fun K0 hK0 => ?_) ?_
    rotate_left
    · exact AllReadyH.nil
    have CE_y_0 : vs1.cell? ⟨gy, 0, none⟩ = some (.int .u64 0) := KB_y_104.out.cell 0
    have CF_y_0 : vs1.frozen? ⟨gy, 0, none⟩ = false := KB_y_104.out.frozen 0
    have CE_y_1 : vs1.cell? ⟨gy, 1, none⟩ = some (.slice none 0 0) := KB_y_104.out.cell 1
    have CF_y_1 : vs1.frozen? ⟨gy, 1, none⟩ = false := KB_y_104.out.frozen 1
    have CE_y_lt : gy < vs1.heap.size := KB_y_104.out.lt
    go_simp
    clear CE_y_0 CF_y_0 CE_y_1 CF_y_1 CE_y_lt
    obtain ⟨vs2, hv⟩ : ∃ q, q = ((vs1.setCell ⟨gy, 0, none⟩ (.int .u64 a0)).setCell ⟨gy, 1, none⟩ (.slice AQ R cQ)) := ⟨_, rfl⟩
    rw [← hv]
    have pe : vs2 = putCells vs1 gy 0 [.int .u64 a0, .slice AQ R cQ] := hv
    clear hv
    have BEL105 := p_bel pe BEL104 BOX104 List.mem_cons_self
    have BOX105 := p_box pe BOX104
    have FA_f_105 := p_fact pe FA_f_104 List.mem_cons_self
    have FA_P_105 := p_fact pe FA_P_104 List.mem_cons_self
    have FA_Q_105 := p_fact pe FA_Q_104 List.mem_cons_self
    have KB_f_105 := p_oth pe KB_f_104 NE_f_y
    have KB_x_105 := p_oth pe KB_x_104 NE_x_y
    have KB_y_105 : Hid (Blk vs2 gy 25 #[.int .u64 a0, .slice AQ R cQ]) := p_blk pe KB_y_104 rfl
    clear pe BEL104 BOX104 FA_f_104 FA_P_104 FA_Q_104 KB_f_104 KB_x_104 KB_y_104
    refine hK0.out _ _ (by exact KB_f_105.out) (fun hHeld => ?_)
    clear hK0 K0 hHeld
    refine wpAnyH_done (by kernel_rfl) ?_ _
    refine NoPanic.normal ?_
    refine hQQ.out _ _ ?_
    clear hTU hUT hact hQQ
    generalize vs2 = v5 at BEL105 BOX105 FA_f_105 FA_P_105 FA_Q_105 KB_f_105 KB_x_105 KB_y_105 ⊢
    go_wp2_with fail
    refine letterQ ?_
    intro QQ hQQ
    have BEL106 := h_bel BEL105 ((Below.refl _ _).drew)
    have BOX106 := h_box BOX105 ((Below.refl _ _).drew)
    have FA_f_106 := h_fact FA_f_105 ((Below.refl _ _).drew)
    have FA_P_106 := h_fact FA_P_105 ((Below.refl _ _).drew)
    have FA_Q_106 := h_fact FA_Q_105 ((Below.refl _ _).drew)
    have KB_f_106 := h_blk KB_f_105 ((Below.refl _ _).drew)
    have KB_x_106 := h_blk KB_x_105 ((Below.refl _ _).drew)
    have KB_y_106 := h_blk KB_y_105 ((Below.refl _ _).drew)
    clear BEL105 BOX105 FA_f_105 FA_P_105 FA_Q_105 KB_f_105 KB_x_105 KB_y_105
    refine wp_region_held_drew (S := (fun w' => Blk w' gf 25 #[.int .u64 a0, .slice Af R cf])) (by kernel_rfl) KB_f_106.out (fun hHeld => ?_)
    clear hHeld
    generalize v5.drew = v6 at BEL106 BOX106 FA_f_106 FA_P_106 FA_Q_106 KB_f_106 KB_x_106 KB_y_106 ⊢
    refine wpAnyH_take (i := 0) (v := ?_) rfl (by kernel_rfl) (by kernel_rfl) (by kernel_rfl) (fun _ _ _ h => h) (Or.inl ⟨by rfl, ?_⟩) KB_f_106.out ?_
    rotate_left
    · intro wq hSw; have cl0 := hSw.cell 0; have cl1 := hSw.cell 1; go_simp; first | done | with_reducible rfl
    simp only [List.getElem_toArray, List.getElem_cons_zero, Act.put, List.setIfInBounds_toArray, List.set_cons_zero, List.set_cons_succ]
    refine wpAnyH_take (i := 1) (v := ?_) rfl (by kernel_rfl) (by kernel_rfl) (by kernel_rfl) (fun _ _ _ h => h) (Or.inl ⟨by rfl, ?_⟩) KB_f_106.out ?_
    rotate_left
    · intro wq hSw; go_simp; first | done | with_reducible rfl
    simp only [List.getElem_toArray, List.getElem_cons_zero, List.getElem_cons_succ, Act.put, List.setIfInBounds_toArray, List.set_cons_zero, List.set_cons_succ]
    refine wpAnyH_take (i := 3) (v := ?_) rfl (by kernel_rfl) (by kernel_rfl) (by kernel_rfl) (fun _ _ _ h => h) (Or.inl ⟨by rfl, ?_⟩) KB_f_106.out ?_
    rotate_left
    · intro wq hSw; have cl0 := hSw.cell 0; have cl1 := hSw.cell 1; go_simp; first | done | with_reducible rfl
    simp only [List.getElem_toArray, List.getElem_cons_zero, List.getElem_cons_succ, Act.put, List.setIfInBounds_toArray, List.set_cons_zero, List.set_cons_succ]
    refine wpAnyH_take (i := 4) (v := ?_) rfl (by kernel_rfl) (by kernel_rfl) (by kernel_rfl) (fun _ _ _ h => h) (Or.inl ⟨by rfl, ?_⟩) KB_f_106.out ?_
    rotate_left
    · intro wq hSw; go_simp; first | done | with_reducible rfl
    simp only [List.getElem_toArray, List.getElem_cons_zero, List.getElem_cons_succ, Act.put, List.setIfInBounds_toArray, List.set_cons_zero, List.set_cons_succ]
    refine letterT (T := wpAnyH _ _ _ _ _) ?_
    intro TT hTU hUT
    refine letterA ?_
    intro act0 hact
    have ND_3_m : Hid (∀ (v : World) (Ax2 : Option Addr) (cx2 : Nat) (Ay2 : Option Addr) (cy2 : Nat) (Am : Option Addr) (cm : Nat) (gm : Nat) (ll : Array Bool) (aa : Act), ll = #[true, true, true, true, true, true, true, true, true, true, true, false, false] → aa = (((((((act0.put (some 54) (.agg #[.int .u64 a0, .slice Ax2 R cx2])).put (some 57) (.agg #[.int .u64 a0, .slice Ay2 R cy2])).put (some 58) (.tuple #[.agg #[.int .u64 a0, .slice Am R cm], .int .i64 0])).put (some 51) (.tuple #[.agg #[.int .u64 a0, .slice Am R cm], .int .i64 0])).put (some 59) (.agg #[.int .u64 a0, .slice Am R cm])).put (some 60) (.int .i64 0)).put (some 15) (.pointer (some ⟨gm, 0, none⟩))) → Hid (Below w.heap.size w v) → Hid (Boxes w v [gm, gy, gx, gf]) → Hid (HeldX [gm, gy, gx, gf] (fun uq => SgAt uq (.agg #[.int .u64 a0, .slice Af R cf]) a0 R (fun _ => n) (fun _ _ => 0)) v) → Hid (HeldX [gm, gy, gx, gf] (fun uq => SgAt uq (.agg #[.int .u64 a0, .slice AP R cP]) a0 R (fun _ => n) (addsG a0 n (addsG a0 n (fun _ _ => 0) K q m) J r p)) v) → Hid (HeldX [gm, gy, gx, gf] (fun uq => SgAt uq (.agg #[.int .u64 a0, .slice AQ R cQ]) a0 R (fun _ => n) (addsG a0 n (addsG a0 n (fun _ _ => 0) J r p) K q m)) v) → Hid (HeldX [gm, gy, gx, gf] (fun uq => SgAt uq (.agg #[.int .u64 a0, .slice Am R cm]) a0 R (fun _ => n) (mergeG (addsG a0 n (fun _ _ => 0) K q m) (addsG a0 n (fun _ _ => 0) J r p))) v) → Hid (Blk v gf 25 #[.int .u64 a0, .slice Af R cf]) → Hid (Blk v gx 25 #[.int .u64 a0, .slice AP R cP]) → Hid (Blk v gy 25 #[.int .u64 a0, .slice AQ R cQ]) → Hid (Blk v gm 25 #[.int .u64 0, .slice none 0 0]) → Hid (gf ≠ gx) → Hid (gf ≠ gy) → Hid (gx ≠ gy) → Hid (gf ≠ gm) → Hid (gx ≠ gm) → Hid (gy ≠ gm) → TT 2 ll aa v) := by
      intro v Ax2 cx2 Ay2 cy2 Am cm gm ll aa hl hA BEL206 BOX206 FA_f_206 FA_P_206 FA_Q_206 FA_m_206 KB_f_206 KB_x_206 KB_y_206 KB_m_206 NE_f_x NE_f_y NE_x_y NE_f_m NE_x_m NE_y_m
      rw [hact.out] at hA
      try simp only [Act.put, List.setIfInBounds_toArray, List.set_cons_zero, List.set_cons_succ] at hA
      subst hl hA
      refine hUT.out _ _ _ _ ?_
      refine wpAnyH_ready (rs := [11]) (by kernel_rfl) (by simp) ?_
      refine AllReadyH.cons rfl (fun K0 hK0 => ?_) ?_
      rotate_left
      · exact AllReadyH.nil
      have CE_m_0 : v.cell? ⟨gm, 0, none⟩ = some (.int .u64 0) := KB_m_206.out.cell 0
      have CF_m_0 : v.frozen? ⟨gm, 0, none⟩ = false := KB_m_206.out.frozen 0
      have CE_m_1 : v.cell? ⟨gm, 1, none⟩ = some (.slice none 0 0) := KB_m_206.out.cell 1
      have CF_m_1 : v.frozen? ⟨gm, 1, none⟩ = false := KB_m_206.out.frozen 1
      have CE_m_lt : gm < v.heap.size := KB_m_206.out.lt
      go_simp
      clear CE_m_0 CF_m_0 CE_m_1 CF_m_1 CE_m_lt
      obtain ⟨vs1, hv⟩ : ∃ q, q = ((v.setCell ⟨gm, 0, none⟩ (.int .u64 a0)).setCell ⟨gm, 1, none⟩ (.slice Am R cm)) := ⟨_, rfl⟩
      rw [← hv]
      have pe : vs1 = putCells v gm 0 [.int .u64 a0, .slice Am R cm] := hv
      clear hv
      have BEL207 := p_bel pe BEL206 BOX206 List.mem_cons_self
      have BOX207 := p_box pe BOX206
      have FA_f_207 := p_fact pe FA_f_206 List.mem_cons_self
      have FA_P_207 := p_fact pe FA_P_206 List.mem_cons_self
      have FA_Q_207 := p_fact pe FA_Q_206 List.mem_cons_self
      have FA_m_207 := p_fact pe FA_m_206 List.mem_cons_self
      have KB_f_207 := p_oth pe KB_f_206 NE_f_m
      have KB_x_207 := p_oth pe KB_x_206 NE_x_m
      have KB_y_207 := p_oth pe KB_y_206 NE_y_m
      have KB_m_207 : Hid (Blk vs1 gm 25 #[.int .u64 a0, .slice Am R cm]) := p_blk pe KB_m_206 rfl
      clear pe BEL206 BOX206 FA_f_206 FA_P_206 FA_Q_206 FA_m_206 KB_f_206 KB_x_206 KB_y_206 KB_m_206
      refine hK0.out _ _ (by exact KB_f_207.out) (fun hHeld => ?_)
      clear hK0 K0 hHeld
      refine wpAnyH_take (i := 12) (v := ?_) rfl (by kernel_rfl) (by kernel_rfl) (by kernel_rfl) (fun _ _ _ h => h) (Or.inl ⟨by rfl, ?_⟩) KB_f_207.out ?_
      rotate_left
      · intro wq hSw; go_simp; first | done | with_reducible rfl
      simp only [List.getElem_toArray, List.getElem_cons_zero, List.getElem_cons_succ, Act.put, List.setIfInBounds_toArray, List.set_cons_zero, List.set_cons_succ]
      refine wpAnyH_done (by kernel_rfl) ?_ _
      refine NoPanic.normal ?_
      refine hQQ.out _ _ ?_
      clear hTU hUT hact hQQ
      generalize vs1 = v9 at BEL207 BOX207 FA_f_207 FA_P_207 FA_Q_207 FA_m_207 KB_f_207 KB_x_207 KB_y_207 KB_m_207 ⊢
      go_wp2_with fail
      go_loopg [17, 63] p (fun gk l i wr => ∃ (k : Nat) (ao : Option Addr) (cv : Nat), (gk = p - k ∧ k ≤ p ∧ GrowT v9 wr (.slice ao k cv) k J (fun t => -r t)) ∧ l = .slice ao k cv ∧ i = .int .i64 (k : Int))
      case atStart => exact ⟨0, none, 0, ⟨rfl, by omega, growT_start _ _ _⟩, rfl, rfl⟩
      case round =>
        obtain ⟨k, ao, cv, ⟨hg, hk, hI⟩, rfl, rfl⟩ := hrel
        have HQ : Hid (gk = p - k ∧ GrowT v9 wr (.slice ao k cv) k J (fun t => -r t)) := ⟨hg, hI⟩
        by_cases hlt : k < p
        · obtain rfl := L3.out (by omega)
          obtain ⟨d1, d2⟩ := L4.out k hlt
          have c1 : wr.cell? ⟨bm, om + k * 2, none⟩ = some (.string (J k)) := keep_of_below (bel_trans BEL207.out hI.since) _ _ d1
          have c2 : wr.cell? ⟨bm, om + k * 2 + 1, none⟩ = some (.int .i64 (r k)) := keep_of_below (bel_trans BEL207.out hI.since) _ _ d2
          have b1 : (k : Int) < (p : Int) := by omega
          have b0 : (0 : Int) ≤ (k : Int) := by omega
          have hkk := HJ.out k hlt
          obtain ⟨y, hy⟩ : ∃ y, y = J k := ⟨_, rfl⟩
          obtain ⟨z, hz⟩ : ∃ z, z = r k := ⟨_, rfl⟩
          rw [← hy] at c1 hkk
          rw [← hz] at c2 hkk
          obtain ⟨ys, z0, z1⟩ := hkk
          have HY : Hid (y = J k ∧ z = r k) := ⟨hy, hz⟩
          have wn : IntKind.i64.wrap (-z) = -z := by rw [IntKind.wrap_i64]; omega
          have hsz : v9.heap.size ≤ wr.heap.size := hI.since.size
          have HO : Hid (wr.ownsRow v9.heap.size 54 2 (.slice ao k cv) k (itCells J (fun t => -r t) k)) := hI.own
          have NW : Hid (∀ (j : Nat) (u : Value), [Value.string y, .int .i64 (-z)][j]? = some u → ((wr.alloc (.cells #[.string y, .int .i64 z] 54)).alloc (.cells #[.string y, .int .i64 (-z)] 54)).cell? ((⟨wr.heap.size + 1, 0, none⟩ : Addr).add j) = some u) := by
            have e := new_item (wr.alloc (.cells #[.string y, .int .i64 z] 54)) 54 (.string y) (.int .i64 (-z))
            simp only [World.size_alloc] at e
            exact e
          clear d1 d2 hy hz hg hI
          go_wp2_with (at_builtin; refine wpList_append_lies _ rfl _ _ _ rfl v9.heap.size 54 it (.agg #[.string ⟨#[]⟩, .int .i64 0]) 2 24 Try.underlying50 HT.out.1 HT.out.2.1 HT.out.2.2.1 HT.out.2.2.2 rfl (by omega) (.slice ao k cv) k (itCells J (fun t => -r t) k) (by rfl) ((HO.out.alloc _).alloc _) ⟨wr.heap.size + 1, 0, none⟩ 1 1 [.string y, .int .i64 (-z)] (by rfl) rfl NW.out (item_cell _ _) (by omega) (by unfold maxLen; omega) (by omega) (by simp; omega) _ rfl ?_; intro g cap1 w1 hown1 hgrow hat hlt1)
          go_roundg (p - (k + 1))
          case measure => have := HQ.out.1; omega
          case rel => exact ⟨k + 1, _, _, ⟨rfl, by omega, HQ.out.2.step HY.out.1 (by show -z = -r k; rw [HY.out.2]) hown1 hgrow⟩, rfl, by go_num⟩
        · obtain rfl : p = k := by omega
          have b1 : ¬ (p : Int) < (p : Int) := by omega
          have AW : Hid (ItAt wr (.slice ao p cv) p J (fun t => -r t)) := owns_items hI.own
          have BW : Hid (Below v9.heap.size v9 wr) := hI.since
          clear hg hI HQ
          have BEL208 := h_bel BEL207 BW.out
          have BOX208 := h_box BOX207 BW.out
          have FA_f_208 := h_fact FA_f_207 BW.out
          have FA_P_208 := h_fact FA_P_207 BW.out
          have FA_Q_208 := h_fact FA_Q_207 BW.out
          have FA_m_208 := h_fact FA_m_207 BW.out
          have KB_f_208 := h_blk KB_f_207 BW.out
          have KB_x_208 := h_blk KB_x_207 BW.out
          have KB_y_208 := h_blk KB_y_207 BW.out
          have KB_m_208 := h_blk KB_m_207 BW.out
          clear BEL207 BOX207 FA_f_207 FA_P_207 FA_Q_207 FA_m_207 KB_f_207 KB_x_207 KB_y_207 KB_m_207
          clear BW
          have CE_x_0 : wr.cell? ⟨gx, 0, none⟩ = some (.int .u64 a0) := KB_x_208.out.cell 0
          have CE_x_1 : wr.cell? ⟨gx, 1, none⟩ = some (.slice AP R cP) := KB_x_208.out.cell 1
          have CE_x_lt : gx < wr.heap.size := KB_x_208.out.lt
          go_wp2_with fail
          refine (gadds_any _ _ _ [gm, gy, gx, gf] a0 R n p _ J (fun t => -r t) FA_P_208.out (fun g hg => (BOX208.out g hg).2) AW.out OKW.out uS (by omega) HJN.out).mono ?_
          rintro e wz ⟨Az, cz, rfl, fz, bb⟩
          clear CE_x_0 CE_x_1 CE_x_lt
          have BEL209 := h_bel BEL208 bb
          have BOX209 := h_box BOX208 bb
          have FA_f_209 := h_fact FA_f_208 bb
          have FA_P_209 := h_fact FA_P_208 bb
          have FA_Q_209 := h_fact FA_Q_208 bb
          have FA_m_209 := h_fact FA_m_208 bb
          have KB_f_209 := h_blk KB_f_208 bb
          have KB_x_209 := h_blk KB_x_208 bb
          have KB_y_209 := h_blk KB_y_208 bb
          have KB_m_209 := h_blk KB_m_208 bb
          clear BEL208 BOX208 FA_f_208 FA_P_208 FA_Q_208 FA_m_208 KB_f_208 KB_x_208 KB_y_208 KB_m_208
          have FA_z_209 : Hid (HeldX [gm, gy, gx, gf] (fun uq => SgAt uq (.agg #[.int .u64 a0, .slice Az R cz]) a0 R (fun _ => n) (addsG a0 n (addsG a0 n (addsG a0 n (fun _ _ => 0) K q m) J r p) J (fun t => -r t) p)) wz) := fz
          clear bb fz AW
          go_upto_region 13 with fail
          have BEL210 := a_bel BEL209 (.cells #[.int .u64 a0, .slice Az R cz] 25)
          have BOX210 := a_box BOX209 BEL209 (.cells #[.int .u64 a0, .slice Az R cz] 25)
          have FA_f_210 := a_fact FA_f_209 (.cells #[.int .u64 a0, .slice Az R cz] 25)
          have FA_P_210 := a_fact FA_P_209 (.cells #[.int .u64 a0, .slice Az R cz] 25)
          have FA_Q_210 := a_fact FA_Q_209 (.cells #[.int .u64 a0, .slice Az R cz] 25)
          have FA_m_210 := a_fact FA_m_209 (.cells #[.int .u64 a0, .slice Az R cz] 25)
          have FA_z_210 := a_fact FA_z_209 (.cells #[.int .u64 a0, .slice Az R cz] 25)
          have KB_f_210 := a_blk KB_f_209 (.cells #[.int .u64 a0, .slice Az R cz] 25)
          have NE_f_z := n_ne KB_f_209
          have KB_x_210 := a_blk KB_x_209 (.cells #[.int .u64 a0, .slice Az R cz] 25)
          have NE_x_z := n_ne KB_x_209
          have KB_y_210 := a_blk KB_y_209 (.cells #[.int .u64 a0, .slice Az R cz] 25)
          have NE_y_z := n_ne KB_y_209
          have KB_m_210 := a_blk KB_m_209 (.cells #[.int .u64 a0, .slice Az R cz] 25)
          have NE_m_z := n_ne KB_m_209
          have KB_z_210 := n_blk (u := wz) 25 #[.int .u64 a0, .slice Az R cz]
          clear BEL209 BOX209 FA_f_209 FA_P_209 FA_Q_209 FA_m_209 FA_z_209 KB_f_209 KB_x_209 KB_y_209 KB_m_209
          generalize (wz.alloc (.cells #[.int .u64 a0, .slice Az R cz] 25)) = v11 at BEL210 BOX210 FA_f_210 FA_P_210 FA_Q_210 FA_m_210 FA_z_210 KB_f_210 KB_x_210 KB_y_210 KB_m_210 KB_z_210 ⊢
          generalize wz.heap.size = gz at BOX210 FA_f_210 FA_P_210 FA_Q_210 FA_m_210 FA_z_210 KB_z_210 NE_f_z NE_x_z NE_y_z NE_m_z ⊢
          have RP : Hid (∀ w1, Below v11.heap.size v11 w1 → Calls Try.prog 11 #[.agg #[.int .u64 a0, .slice AP R cP]] w1 fun e w' => e = .returned (.agg #[.int .u64 a0, .slice AP R cP]) ∧ Below v11.heap.size v11 w') := fun w1 b1 => (gref_any w1 _ a0 R _ _ (FA_P_210.out.since b1).at).mono fun e w' h => ⟨h.1, bel_trans b1 h.2⟩
          have RQ : Hid (∀ w1, Below v11.heap.size v11 w1 → Calls Try.prog 11 #[.agg #[.int .u64 a0, .slice AQ R cQ]] w1 fun e w' => e = .returned (.agg #[.int .u64 a0, .slice AQ R cQ]) ∧ Below v11.heap.size v11 w') := fun w1 b1 => (gref_any w1 _ a0 R _ _ (FA_Q_210.out.since b1).at).mono fun e w' h => ⟨h.1, bel_trans b1 h.2⟩
          have RM : Hid (∀ w1, Below v11.heap.size v11 w1 → Calls Try.prog 11 #[.agg #[.int .u64 a0, .slice Am R cm]] w1 fun e w' => e = .returned (.agg #[.int .u64 a0, .slice Am R cm]) ∧ Below v11.heap.size v11 w') := fun w1 b1 => (gref_any w1 _ a0 R _ _ (FA_m_210.out.since b1).at).mono fun e w' h => ⟨h.1, bel_trans b1 h.2⟩
          have RZ : Hid (∀ w1, Below v11.heap.size v11 w1 → Calls Try.prog 11 #[.agg #[.int .u64 a0, .slice Az R cz]] w1 fun e w' => e = .returned (.agg #[.int .u64 a0, .slice Az R cz]) ∧ Below v11.heap.size v11 w') := fun w1 b1 => (gref_any w1 _ a0 R _ _ (FA_z_210.out.since b1).at).mono fun e w' h => ⟨h.1, bel_trans b1 h.2⟩
          have E1 : Hid (∀ w1, Below v11.heap.size v11 w1 → Calls Try.prog 10 #[.agg #[.int .u64 a0, .slice AP R cP], .agg #[.int .u64 a0, .slice AQ R cQ]] w1 fun e w' => e = .returned (.bool true) ∧ Below v11.heap.size v11 w') := fun w1 b1 => (hequal_any w1 _ _ a0 a0 R R _ _ _ _ (FA_P_210.out.since b1).at (FA_Q_210.out.since b1).at (by omega) (fun i hi => by show n ≤ 1000; omega)).mono fun e w' h => ⟨(told h true ⟨fun _ => ⟨rfl, rfl, fun i hi => ⟨rfl, fun j hj => adds_turn _ K J q r m p i j⟩⟩, fun _ => rfl⟩).1, bel_trans b1 (told h true ⟨fun _ => ⟨rfl, rfl, fun i hi => ⟨rfl, fun j hj => adds_turn _ K J q r m p i j⟩⟩, fun _ => rfl⟩).2⟩
          have E2 : Hid (∀ w1, Below v11.heap.size v11 w1 → Calls Try.prog 10 #[.agg #[.int .u64 a0, .slice AP R cP], .agg #[.int .u64 a0, .slice Am R cm]] w1 fun e w' => e = .returned (.bool true) ∧ Below v11.heap.size v11 w') := fun w1 b1 => (hequal_any w1 _ _ a0 a0 R R _ _ _ _ (FA_P_210.out.since b1).at (FA_m_210.out.since b1).at (by omega) (fun i hi => by show n ≤ 1000; omega)).mono fun e w' h => ⟨(told h true ⟨fun _ => ⟨rfl, rfl, fun i hi => ⟨rfl, fun j hj => adds_merge K J q r m p i j⟩⟩, fun _ => rfl⟩).1, bel_trans b1 (told h true ⟨fun _ => ⟨rfl, rfl, fun i hi => ⟨rfl, fun j hj => adds_merge K J q r m p i j⟩⟩, fun _ => rfl⟩).2⟩
          have AD : Hid (∀ w1, Below v11.heap.size v11 w1 → Calls Try.prog 26 #[.agg #[.int .u64 a0, .slice Af R cf], .slice Al m capl] w1 fun e w' => ∃ (Aw : Option Addr) (cw : Nat), e = .returned (.agg #[.int .u64 a0, .slice Aw R cw]) ∧ SgAt w' (.agg #[.int .u64 a0, .slice Aw R cw]) a0 R (fun _ => n) (addsG a0 n (fun _ _ => 0) K q m) ∧ Below v11.heap.size v11 w') := fun w1 b1 => (gadds_any _ _ _ [] a0 R n m _ K q (((FA_f_210.out.since b1)).fewer (fun g hg => by cases hg)) (fun g hg => by cases hg) (LA.out.keep (keep_of_below (bel_trans BEL210.out b1))) OKK1.out uS (by omega) HK.out).mono fun e w' ⟨A, c, h1, h2, h3⟩ => ⟨A, c, h1, h2.at, bel_trans b1 h3⟩
          have RW : Hid (∀ w1 (Aw : Option Addr) (cw : Nat), Below v11.heap.size v11 w1 → SgAt w1 (.agg #[.int .u64 a0, .slice Aw R cw]) a0 R (fun _ => n) (addsG a0 n (fun _ _ => 0) K q m) → Calls Try.prog 11 #[.agg #[.int .u64 a0, .slice Aw R cw]] w1 fun e w' => e = .returned (.agg #[.int .u64 a0, .slice Aw R cw]) ∧ SgAt w' (.agg #[.int .u64 a0, .slice Aw R cw]) a0 R (fun _ => n) (addsG a0 n (fun _ _ => 0) K q m) ∧ Below v11.heap.size v11 w') := fun w1 Aw cw b1 h => (gref_any w1 _ a0 R _ _ h).mono fun e w' g => ⟨g.1, h.keep (keep_of_below g.2), bel_trans b1 g.2⟩
          have E3 : Hid (∀ w1 (Aw : Option Addr) (cw : Nat), Below v11.heap.size v11 w1 → SgAt w1 (.agg #[.int .u64 a0, .slice Aw R cw]) a0 R (fun _ => n) (addsG a0 n (fun _ _ => 0) K q m) → Calls Try.prog 10 #[.agg #[.int .u64 a0, .slice Az R cz], .agg #[.int .u64 a0, .slice Aw R cw]] w1 fun e w' => e = .returned (.bool true) ∧ Below v11.heap.size v11 w') := fun w1 Aw cw b1 hw => (hequal_any w1 _ _ a0 a0 R R _ _ _ _ (FA_z_210.out.since b1).at hw (by omega) (fun i hi => by show n ≤ 1000; omega)).mono fun e w' h => ⟨(told h true ⟨fun _ => ⟨rfl, rfl, fun i hi => ⟨rfl, fun j hj => adds_away _ K J q r m p i j⟩⟩, fun _ => rfl⟩).1, bel_trans b1 (told h true ⟨fun _ => ⟨rfl, rfl, fun i hi => ⟨rfl, fun j hj => adds_away _ K J q r m p i j⟩⟩, fun _ => rfl⟩).2⟩
          have WA : Hid (∀ w1, Below v11.heap.size v11 w1 → Calls Try.prog 12 #[] w1 fun e w' => e = .returned (.bool true) ∧ Below v11.heap.size v11 w') := fun w1 b1 => (gawake_any w1).mono fun e w' h => ⟨h.1, bel_trans b1 h.2⟩
          have KS : Hid (∀ w' : World, Below v11.heap.size v11 w' → (w'.cell? ⟨gx, 0, none⟩ = some (.int .u64 a0) ∧ w'.cell? ⟨gx, 1, none⟩ = some (.slice AP R cP) ∧ w'.cell? ⟨gy, 0, none⟩ = some (.int .u64 a0) ∧ w'.cell? ⟨gy, 1, none⟩ = some (.slice AQ R cQ) ∧ w'.cell? ⟨gm, 0, none⟩ = some (.int .u64 a0) ∧ w'.cell? ⟨gm, 1, none⟩ = some (.slice Am R cm) ∧ w'.cell? ⟨gz, 0, none⟩ = some (.int .u64 a0) ∧ w'.cell? ⟨gz, 1, none⟩ = some (.slice Az R cz) ∧ w'.cell? ⟨gf, 0, none⟩ = some (.int .u64 a0) ∧ w'.cell? ⟨gf, 1, none⟩ = some (.slice Af R cf))) := fun w' b1 => ⟨(KB_x_210.out.since b1).cell 0, (KB_x_210.out.since b1).cell 1, (KB_y_210.out.since b1).cell 0, (KB_y_210.out.since b1).cell 1, (KB_m_210.out.since b1).cell 0, (KB_m_210.out.since b1).cell 1, (KB_z_210.out.since b1).cell 0, (KB_z_210.out.since b1).cell 1, (KB_f_210.out.since b1).cell 0, (KB_f_210.out.since b1).cell 1⟩
          have Z0 : Hid (Below v11.heap.size v11 v11.drew) := (Below.refl _ _).drew
          have CE_f_0 : v11.cell? ⟨gf, 0, none⟩ = some (.int .u64 a0) := KB_f_210.out.cell 0
          have CE_f_1 : v11.cell? ⟨gf, 1, none⟩ = some (.slice Af R cf) := KB_f_210.out.cell 1
          have CE_f_lt : gf < v11.heap.size := KB_f_210.out.lt
          have CE_x_0 : v11.cell? ⟨gx, 0, none⟩ = some (.int .u64 a0) := KB_x_210.out.cell 0
          have CE_x_1 : v11.cell? ⟨gx, 1, none⟩ = some (.slice AP R cP) := KB_x_210.out.cell 1
          have CE_x_lt : gx < v11.heap.size := KB_x_210.out.lt
          have CE_y_0 : v11.cell? ⟨gy, 0, none⟩ = some (.int .u64 a0) := KB_y_210.out.cell 0
          have CE_y_1 : v11.cell? ⟨gy, 1, none⟩ = some (.slice AQ R cQ) := KB_y_210.out.cell 1
          have CE_y_lt : gy < v11.heap.size := KB_y_210.out.lt
          have CE_m_0 : v11.cell? ⟨gm, 0, none⟩ = some (.int .u64 a0) := KB_m_210.out.cell 0
          have CE_m_1 : v11.cell? ⟨gm, 1, none⟩ = some (.slice Am R cm) := KB_m_210.out.cell 1
          have CE_m_lt : gm < v11.heap.size := KB_m_210.out.lt
          have CE_z_0 : v11.cell? ⟨gz, 0, none⟩ = some (.int .u64 a0) := KB_z_210.out.cell 0
          have CE_z_1 : v11.cell? ⟨gz, 1, none⟩ = some (.slice Az R cz) := KB_z_210.out.cell 1
          have CE_z_lt : gz < v11.heap.size := KB_z_210.out.lt
          clear FA_f_210 FA_P_210 FA_Q_210 FA_m_210 FA_z_210
          go_wp2_with fail
          go_region_held3 (fun w' => w'.cell? ⟨gx, 0, none⟩ = some (.int .u64 a0) ∧ w'.cell? ⟨gx, 1, none⟩ = some (.slice AP R cP) ∧ w'.cell? ⟨gy, 0, none⟩ = some (.int .u64 a0) ∧ w'.cell? ⟨gy, 1, none⟩ = some (.slice AQ R cQ) ∧ w'.cell? ⟨gm, 0, none⟩ = some (.int .u64 a0) ∧ w'.cell? ⟨gm, 1, none⟩ = some (.slice Am R cm) ∧ w'.cell? ⟨gz, 0, none⟩ = some (.int .u64 a0) ∧ w'.cell? ⟨gz, 1, none⟩ = some (.slice Az R cz) ∧ w'.cell? ⟨gf, 0, none⟩ = some (.int .u64 a0) ∧ w'.cell? ⟨gf, 1, none⟩ = some (.slice Af R cf)) (first | exact KS.out _ Z11.out | exact KS.out _ Z10.out | exact KS.out _ Z9.out | exact KS.out _ Z8.out | exact KS.out _ Z7.out | exact KS.out _ Z6.out | exact KS.out _ Z5.out | exact KS.out _ Z4.out | exact KS.out _ Z3.out | exact KS.out _ Z2.out | exact KS.out _ Z1.out | exact KS.out _ Z0.out | go_keep) (first
            | (have fl := Z10; clear fl; go_simp; go_at_call 12; refine (WA.out _ Z10.out).mono ?_; rintro e q11 ⟨rfl, cc⟩; have Z11 : Hid (Below v11.heap.size v11 q11) := cc; clear cc)
            | (have fl := Z9; clear fl; go_simp; go_at_call 10; refine (E3.out _ _ _ Z9.out FV.out).mono ?_; rintro e q10 ⟨rfl, cc⟩; have Z10 : Hid (Below v11.heap.size v11 q10) := cc; clear cc)
            | (have fl := Z8; clear fl; go_simp; go_at_call 11; refine (RW.out _ _ _ Z8.out FW.out).mono ?_; rintro e q9 ⟨rfl, fv, cc⟩; have Z9 : Hid (Below v11.heap.size v11 q9) := cc; have FV : Hid (SgAt q9 (.agg #[.int .u64 a0, .slice Aw R cw]) a0 R (fun _ => n) (addsG a0 n (fun _ _ => 0) K q m)) := fv; clear fv; clear cc)
            | (have fl := Z7; clear fl; go_simp; go_at_call 26; refine (AD.out _ Z7.out).mono ?_; rintro e q8 ⟨Aw, cw, rfl, fw, cc⟩; have Z8 : Hid (Below v11.heap.size v11 q8) := cc; have FW : Hid (SgAt q8 (.agg #[.int .u64 a0, .slice Aw R cw]) a0 R (fun _ => n) (addsG a0 n (fun _ _ => 0) K q m)) := fw; clear fw; clear cc)
            | (have fl := Z6; clear fl; go_simp; go_at_call 11; refine (RZ.out _ Z6.out).mono ?_; rintro e q7 ⟨rfl, cc⟩; have Z7 : Hid (Below v11.heap.size v11 q7) := cc; clear cc)
            | (have fl := Z5; clear fl; go_simp; go_at_call 10; refine (E2.out _ Z5.out).mono ?_; rintro e q6 ⟨rfl, cc⟩; have Z6 : Hid (Below v11.heap.size v11 q6) := cc; clear cc)
            | (have fl := Z4; clear fl; go_simp; go_at_call 11; refine (RM.out _ Z4.out).mono ?_; rintro e q5 ⟨rfl, cc⟩; have Z5 : Hid (Below v11.heap.size v11 q5) := cc; clear cc)
            | (have fl := Z3; clear fl; go_simp; go_at_call 11; refine (RP.out _ Z3.out).mono ?_; rintro e q4 ⟨rfl, cc⟩; have Z4 : Hid (Below v11.heap.size v11 q4) := cc; clear cc)
            | (have fl := Z2; clear fl; go_simp; go_at_call 10; refine (E1.out _ Z2.out).mono ?_; rintro e q3 ⟨rfl, cc⟩; have Z3 : Hid (Below v11.heap.size v11 q3) := cc; clear cc)
            | (have fl := Z1; clear fl; go_simp; go_at_call 11; refine (RQ.out _ Z1.out).mono ?_; rintro e q2 ⟨rfl, cc⟩; have Z2 : Hid (Below v11.heap.size v11 q2) := cc; clear cc)
            | (have fl := Z0; clear fl; go_simp; go_at_call 11; refine (RP.out _ Z0.out).mono ?_; rintro e q1 ⟨rfl, cc⟩; have Z1 : Hid (Below v11.heap.size v11 q1) := cc; clear cc))
          all_goals go_wp2_with fail
          all_goals go_ret
          all_goals exact ⟨rfl, bel_trans BEL210.out Z11.out⟩
    have ND_3_ : Hid (∀ (v : World) (Ax2 : Option Addr) (cx2 : Nat) (Ay2 : Option Addr) (cy2 : Nat) (Am : Option Addr) (cm : Nat) (ll : Array Bool) (aa : Act), ll = #[true, true, true, true, true, true, true, true, true, true, false, false, false] → aa = ((((((act0.put (some 54) (.agg #[.int .u64 a0, .slice Ax2 R cx2])).put (some 57) (.agg #[.int .u64 a0, .slice Ay2 R cy2])).put (some 58) (.tuple #[.agg #[.int .u64 a0, .slice Am R cm], .int .i64 0])).put (some 51) (.tuple #[.agg #[.int .u64 a0, .slice Am R cm], .int .i64 0])).put (some 59) (.agg #[.int .u64 a0, .slice Am R cm])).put (some 60) (.int .i64 0)) → Hid (Below w.heap.size w v) → Hid (Boxes w v [gy, gx, gf]) → Hid (HeldX [gy, gx, gf] (fun uq => SgAt uq (.agg #[.int .u64 a0, .slice Af R cf]) a0 R (fun _ => n) (fun _ _ => 0)) v) → Hid (HeldX [gy, gx, gf] (fun uq => SgAt uq (.agg #[.int .u64 a0, .slice AP R cP]) a0 R (fun _ => n) (addsG a0 n (addsG a0 n (fun _ _ => 0) K q m) J r p)) v) → Hid (HeldX [gy, gx, gf] (fun uq => SgAt uq (.agg #[.int .u64 a0, .slice AQ R cQ]) a0 R (fun _ => n) (addsG a0 n (addsG a0 n (fun _ _ => 0) J r p) K q m)) v) → Hid (HeldX [gy, gx, gf] (fun uq => SgAt uq (.agg #[.int .u64 a0, .slice Am R cm]) a0 R (fun _ => n) (mergeG (addsG a0 n (fun _ _ => 0) K q m) (addsG a0 n (fun _ _ => 0) J r p))) v) → Hid (Blk v gf 25 #[.int .u64 a0, .slice Af R cf]) → Hid (Blk v gx 25 #[.int .u64 a0, .slice AP R cP]) → Hid (Blk v gy 25 #[.int .u64 a0, .slice AQ R cQ]) → Hid (gf ≠ gx) → Hid (gf ≠ gy) → Hid (gx ≠ gy) → TT 3 ll aa v) := by
      intro v Ax2 cx2 Ay2 cy2 Am cm ll aa hl hA BEL206 BOX206 FA_f_206 FA_P_206 FA_Q_206 FA_m_206 KB_f_206 KB_x_206 KB_y_206 NE_f_x NE_f_y NE_x_y
      rw [hact.out] at hA
      try simp only [Act.put, List.setIfInBounds_toArray, List.set_cons_zero, List.set_cons_succ] at hA
      subst hl hA
      refine hUT.out _ _ _ _ ?_
      refine wpAnyH_ready (rs := [10]) (by kernel_rfl) (by simp) ?_
      refine AllReadyH.cons rfl (fun K0 hK0 => ?_) ?_
      · have BEL207 := a_bel BEL206 (.cells #[.int .u64 0, .slice none 0 0] 25)
        have BOX207 := a_box BOX206 BEL206 (.cells #[.int .u64 0, .slice none 0 0] 25)
        have FA_f_207 := a_fact FA_f_206 (.cells #[.int .u64 0, .slice none 0 0] 25)
        have FA_P_207 := a_fact FA_P_206 (.cells #[.int .u64 0, .slice none 0 0] 25)
        have FA_Q_207 := a_fact FA_Q_206 (.cells #[.int .u64 0, .slice none 0 0] 25)
        have FA_m_207 := a_fact FA_m_206 (.cells #[.int .u64 0, .slice none 0 0] 25)
        have KB_f_207 := a_blk KB_f_206 (.cells #[.int .u64 0, .slice none 0 0] 25)
        have NE_f_m := n_ne KB_f_206
        have KB_x_207 := a_blk KB_x_206 (.cells #[.int .u64 0, .slice none 0 0] 25)
        have NE_x_m := n_ne KB_x_206
        have KB_y_207 := a_blk KB_y_206 (.cells #[.int .u64 0, .slice none 0 0] 25)
        have NE_y_m := n_ne KB_y_206
        have KB_m_207 := n_blk (u := v) 25 #[.int .u64 0, .slice none 0 0]
        clear BEL206 BOX206 FA_f_206 FA_P_206 FA_Q_206 FA_m_206 KB_f_206 KB_x_206 KB_y_206
        go_simp
        generalize (v.alloc (.cells #[.int .u64 0, .slice none 0 0] 25)) = v2 at BEL207 BOX207 FA_f_207 FA_P_207 FA_Q_207 FA_m_207 KB_f_207 KB_x_207 KB_y_207 KB_m_207 ⊢
        generalize v.heap.size = gm at BOX207 FA_f_207 FA_P_207 FA_Q_207 FA_m_207 KB_m_207 NE_f_m NE_x_m NE_y_m ⊢
        refine hK0.out _ _ (by exact KB_f_207.out) (fun hHeld => ?_)
        clear hK0 K0 hHeld
        refine hTU.out _ _ _ _ ?_
        refine ND_3_m.out _ Ax2 cx2 Ay2 cy2 Am cm gm _ _ ?_ ?_ BEL207 BOX207 FA_f_207 FA_P_207 FA_Q_207 FA_m_207 KB_f_207 KB_x_207 KB_y_207 KB_m_207 NE_f_x NE_f_y NE_x_y NE_f_m NE_x_m NE_y_m
        · first | rfl | kernel_rfl
        · rw [hact.out]; rfl
      exact AllReadyH.nil
    have ND_2_m : Hid (∀ (v : World) (Ax2 : Option Addr) (cx2 : Nat) (Ay2 : Option Addr) (cy2 : Nat) (gm : Nat) (ll : Array Bool) (aa : Act), ll = #[true, true, true, true, true, true, false, false, false, false, true, false, false] → aa = (((act0.put (some 54) (.agg #[.int .u64 a0, .slice Ax2 R cx2])).put (some 57) (.agg #[.int .u64 a0, .slice Ay2 R cy2])).put (some 15) (.pointer (some ⟨gm, 0, none⟩))) → Hid (Below w.heap.size w v) → Hid (Boxes w v [gm, gy, gx, gf]) → Hid (HeldX [gm, gy, gx, gf] (fun uq => SgAt uq (.agg #[.int .u64 a0, .slice Af R cf]) a0 R (fun _ => n) (fun _ _ => 0)) v) → Hid (HeldX [gm, gy, gx, gf] (fun uq => SgAt uq (.agg #[.int .u64 a0, .slice AP R cP]) a0 R (fun _ => n) (addsG a0 n (addsG a0 n (fun _ _ => 0) K q m) J r p)) v) → Hid (HeldX [gm, gy, gx, gf] (fun uq => SgAt uq (.agg #[.int .u64 a0, .slice AQ R cQ]) a0 R (fun _ => n) (addsG a0 n (addsG a0 n (fun _ _ => 0) J r p) K q m)) v) → Hid (HeldX [gm, gy, gx, gf] (fun uq => SgAt uq (.agg #[.int .u64 a0, .slice Ax2 R cx2]) a0 R (fun _ => n) (addsG a0 n (fun _ _ => 0) K q m)) v) → Hid (HeldX [gm, gy, gx, gf] (fun uq => SgAt uq (.agg #[.int .u64 a0, .slice Ay2 R cy2]) a0 R (fun _ => n) (addsG a0 n (fun _ _ => 0) J r p)) v) → Hid (Blk v gf 25 #[.int .u64 a0, .slice Af R cf]) → Hid (Blk v gx 25 #[.int .u64 a0, .slice AP R cP]) → Hid (Blk v gy 25 #[.int .u64 a0, .slice AQ R cQ]) → Hid (Blk v gm 25 #[.int .u64 0, .slice none 0 0]) → Hid (gf ≠ gx) → Hid (gf ≠ gy) → Hid (gx ≠ gy) → Hid (gf ≠ gm) → Hid (gx ≠ gm) → Hid (gy ≠ gm) → TT 6 ll aa v) := by
      intro v Ax2 cx2 Ay2 cy2 gm ll aa hl hA BEL206 BOX206 FA_f_206 FA_P_206 FA_Q_206 FA_x2_206 FA_y2_206 KB_f_206 KB_x_206 KB_y_206 KB_m_206 NE_f_x NE_f_y NE_x_y NE_f_m NE_x_m NE_y_m
      rw [hact.out] at hA
      try simp only [Act.put, List.setIfInBounds_toArray, List.set_cons_zero, List.set_cons_succ] at hA
      subst hl hA
      refine hUT.out _ _ _ _ ?_
      refine wpAnyH_ready (rs := [6]) (by kernel_rfl) (by simp) ?_
      refine AllReadyH.cons rfl (fun K0 hK0 => ?_) ?_
      · refine step_func 23 #[.agg #[.int .u64 a0, .slice Ax2 R cx2], .agg #[.int .u64 a0, .slice Ay2 R cy2]] (by rfl) rfl (by simp [Act.eval]) (fun _ _ => by kernel_rfl) ?_
        refine ((gmerge_any _ _ _ a0 R n _ _ FA_x2_206.out.at FA_y2_206.out.at (OKK1.out m (Nat.le_refl _)) (OKJ1.out p (Nat.le_refl _))).mono (fun _ _ h => h.1 OKM.out)).mono ?_
        rintro e wm ⟨xm, rfl, fm, bb⟩
        obtain ⟨vm, rfl, hvm⟩ := fm.at
        obtain ⟨Am, cm, bbm, oom, rfl, hx1, hx2⟩ := hvm.read
        clear hx1 hx2 hvm
        have FA_m_207 : Hid (HeldX [gm, gy, gx, gf] (fun uq => SgAt uq (.agg #[.int .u64 a0, .slice Am R cm]) a0 R (fun _ => n) (mergeG (addsG a0 n (fun _ _ => 0) K q m) (addsG a0 n (fun _ _ => 0) J r p))) wm) := Held.new fm BOX206.out
        have BEL207 := h_bel BEL206 bb
        have BOX207 := h_box BOX206 bb
        have FA_f_207 := h_fact FA_f_206 bb
        have FA_P_207 := h_fact FA_P_206 bb
        have FA_Q_207 := h_fact FA_Q_206 bb
        have FA_x2_207 := h_fact FA_x2_206 bb
        have FA_y2_207 := h_fact FA_y2_206 bb
        have KB_f_207 := h_blk KB_f_206 bb
        have KB_x_207 := h_blk KB_x_206 bb
        have KB_y_207 := h_blk KB_y_206 bb
        have KB_m_207 := h_blk KB_m_206 bb
        clear BEL206 BOX206 FA_f_206 FA_P_206 FA_Q_206 FA_x2_206 FA_y2_206 KB_f_206 KB_x_206 KB_y_206 KB_m_206
        clear bb fm
        clear FA_x2_207
        clear FA_y2_207
        refine ⟨_, rfl, ?_⟩
        refine hK0.out _ _ (by exact KB_f_207.out) (fun hHeld => ?_)
        clear hK0 K0 hHeld
        refine wpAnyH_take (i := 7) (v := ?_) rfl (by kernel_rfl) (by kernel_rfl) (by kernel_rfl) (fun _ _ _ h => h) (Or.inl ⟨by rfl, ?_⟩) KB_f_207.out ?_
        rotate_left
        · intro wq hSw; go_simp; first | done | with_reducible rfl
        simp only [List.getElem_toArray, List.getElem_cons_zero, List.getElem_cons_succ, Act.put, List.setIfInBounds_toArray, List.set_cons_zero, List.set_cons_succ]
        refine wpAnyH_take (i := 8) (v := ?_) rfl (by kernel_rfl) (by kernel_rfl) (by kernel_rfl) (fun _ _ _ h => h) (Or.inl ⟨by rfl, ?_⟩) KB_f_207.out ?_
        rotate_left
        · intro wq hSw; go_simp; first | done | with_reducible rfl
        simp only [List.getElem_toArray, List.getElem_cons_zero, List.getElem_cons_succ, Act.put, List.setIfInBounds_toArray, List.set_cons_zero, List.set_cons_succ]
        refine wpAnyH_take (i := 9) (v := ?_) rfl (by kernel_rfl) (by kernel_rfl) (by kernel_rfl) (fun _ _ _ h => h) (Or.inl ⟨by rfl, ?_⟩) KB_f_207.out ?_
        rotate_left
        · intro wq hSw; go_simp; first | done | with_reducible rfl
        simp only [List.getElem_toArray, List.getElem_cons_zero, List.getElem_cons_succ, Act.put, List.setIfInBounds_toArray, List.set_cons_zero, List.set_cons_succ]
        refine hTU.out _ _ _ _ ?_
        refine ND_3_m.out _ Ax2 cx2 Ay2 cy2 Am cm gm _ _ ?_ ?_ BEL207 BOX207 FA_f_207 FA_P_207 FA_Q_207 FA_m_207 KB_f_207 KB_x_207 KB_y_207 KB_m_207 NE_f_x NE_f_y NE_x_y NE_f_m NE_x_m NE_y_m
        · first | rfl | kernel_rfl
        · rw [hact.out]; rfl
      exact AllReadyH.nil
    have ND_2_ : Hid (∀ (v : World) (Ax2 : Option Addr) (cx2 : Nat) (Ay2 : Option Addr) (cy2 : Nat) (ll : Array Bool) (aa : Act), ll = #[true, true, true, true, true, true, false, false, false, false, false, false, false] → aa = ((act0.put (some 54) (.agg #[.int .u64 a0, .slice Ax2 R cx2])).put (some 57) (.agg #[.int .u64 a0, .slice Ay2 R cy2])) → Hid (Below w.heap.size w v) → Hid (Boxes w v [gy, gx, gf]) → Hid (HeldX [gy, gx, gf] (fun uq => SgAt uq (.agg #[.int .u64 a0, .slice Af R cf]) a0 R (fun _ => n) (fun _ _ => 0)) v) → Hid (HeldX [gy, gx, gf] (fun uq => SgAt uq (.agg #[.int .u64 a0, .slice AP R cP]) a0 R (fun _ => n) (addsG a0 n (addsG a0 n (fun _ _ => 0) K q m) J r p)) v) → Hid (HeldX [gy, gx, gf] (fun uq => SgAt uq (.agg #[.int .u64 a0, .slice AQ R cQ]) a0 R (fun _ => n) (addsG a0 n (addsG a0 n (fun _ _ => 0) J r p) K q m)) v) → Hid (HeldX [gy, gx, gf] (fun uq => SgAt uq (.agg #[.int .u64 a0, .slice Ax2 R cx2]) a0 R (fun _ => n) (addsG a0 n (fun _ _ => 0) K q m)) v) → Hid (HeldX [gy, gx, gf] (fun uq => SgAt uq (.agg #[.int .u64 a0, .slice Ay2 R cy2]) a0 R (fun _ => n) (addsG a0 n (fun _ _ => 0) J r p)) v) → Hid (Blk v gf 25 #[.int .u64 a0, .slice Af R cf]) → Hid (Blk v gx 25 #[.int .u64 a0, .slice AP R cP]) → Hid (Blk v gy 25 #[.int .u64 a0, .slice AQ R cQ]) → Hid (gf ≠ gx) → Hid (gf ≠ gy) → Hid (gx ≠ gy) → TT 7 ll aa v) := by
      intro v Ax2 cx2 Ay2 cy2 ll aa hl hA BEL206 BOX206 FA_f_206 FA_P_206 FA_Q_206 FA_x2_206 FA_y2_206 KB_f_206 KB_x_206 KB_y_206 NE_f_x NE_f_y NE_x_y
      rw [hact.out] at hA
      try simp only [Act.put, List.setIfInBounds_toArray, List.set_cons_zero, List.set_cons_succ] at hA
      subst hl hA
      refine hUT.out _ _ _ _ ?_
      refine wpAnyH_ready (rs := [6, 10]) (by kernel_rfl) (by simp) ?_
      refine AllReadyH.cons rfl (fun K0 hK0 => ?_) ?_
      · refine step_func 23 #[.agg #[.int .u64 a0, .slice Ax2 R cx2], .agg #[.int .u64 a0, .slice Ay2 R cy2]] (by rfl) rfl (by simp [Act.eval]) (fun _ _ => by kernel_rfl) ?_
        refine ((gmerge_any _ _ _ a0 R n _ _ FA_x2_206.out.at FA_y2_206.out.at (OKK1.out m (Nat.le_refl _)) (OKJ1.out p (Nat.le_refl _))).mono (fun _ _ h => h.1 OKM.out)).mono ?_
        rintro e wm ⟨xm, rfl, fm, bb⟩
        obtain ⟨vm, rfl, hvm⟩ := fm.at
        obtain ⟨Am, cm, bbm, oom, rfl, hx1, hx2⟩ := hvm.read
        clear hx1 hx2 hvm
        have FA_m_207 : Hid (HeldX [gy, gx, gf] (fun uq => SgAt uq (.agg #[.int .u64 a0, .slice Am R cm]) a0 R (fun _ => n) (mergeG (addsG a0 n (fun _ _ => 0) K q m) (addsG a0 n (fun _ _ => 0) J r p))) wm) := Held.new fm BOX206.out
        have BEL207 := h_bel BEL206 bb
        have BOX207 := h_box BOX206 bb
        have FA_f_207 := h_fact FA_f_206 bb
        have FA_P_207 := h_fact FA_P_206 bb
        have FA_Q_207 := h_fact FA_Q_206 bb
        have FA_x2_207 := h_fact FA_x2_206 bb
        have FA_y2_207 := h_fact FA_y2_206 bb
        have KB_f_207 := h_blk KB_f_206 bb
        have KB_x_207 := h_blk KB_x_206 bb
        have KB_y_207 := h_blk KB_y_206 bb
        clear BEL206 BOX206 FA_f_206 FA_P_206 FA_Q_206 FA_x2_206 FA_y2_206 KB_f_206 KB_x_206 KB_y_206
        clear bb fm
        clear FA_x2_207
        clear FA_y2_207
        refine ⟨_, rfl, ?_⟩
        refine hK0.out _ _ (by exact KB_f_207.out) (fun hHeld => ?_)
        clear hK0 K0 hHeld
        refine wpAnyH_take (i := 7) (v := ?_) rfl (by kernel_rfl) (by kernel_rfl) (by kernel_rfl) (fun _ _ _ h => h) (Or.inl ⟨by rfl, ?_⟩) KB_f_207.out ?_
        rotate_left
        · intro wq hSw; go_simp; first | done | with_reducible rfl
        simp only [List.getElem_toArray, List.getElem_cons_zero, List.getElem_cons_succ, Act.put, List.setIfInBounds_toArray, List.set_cons_zero, List.set_cons_succ]
        refine wpAnyH_take (i := 8) (v := ?_) rfl (by kernel_rfl) (by kernel_rfl) (by kernel_rfl) (fun _ _ _ h => h) (Or.inl ⟨by rfl, ?_⟩) KB_f_207.out ?_
        rotate_left
        · intro wq hSw; go_simp; first | done | with_reducible rfl
        simp only [List.getElem_toArray, List.getElem_cons_zero, List.getElem_cons_succ, Act.put, List.setIfInBounds_toArray, List.set_cons_zero, List.set_cons_succ]
        refine wpAnyH_take (i := 9) (v := ?_) rfl (by kernel_rfl) (by kernel_rfl) (by kernel_rfl) (fun _ _ _ h => h) (Or.inl ⟨by rfl, ?_⟩) KB_f_207.out ?_
        rotate_left
        · intro wq hSw; go_simp; first | done | with_reducible rfl
        simp only [List.getElem_toArray, List.getElem_cons_zero, List.getElem_cons_succ, Act.put, List.setIfInBounds_toArray, List.set_cons_zero, List.set_cons_succ]
        refine hTU.out _ _ _ _ ?_
        refine ND_3_.out _ Ax2 cx2 Ay2 cy2 Am cm _ _ ?_ ?_ BEL207 BOX207 FA_f_207 FA_P_207 FA_Q_207 FA_m_207 KB_f_207 KB_x_207 KB_y_207 NE_f_x NE_f_y NE_x_y
        · first | rfl | kernel_rfl
        · rw [hact.out]; rfl
      refine AllReadyH.cons rfl (fun K0 hK0 => ?_) ?_
      · have BEL207 := a_bel BEL206 (.cells #[.int .u64 0, .slice none 0 0] 25)
        have BOX207 := a_box BOX206 BEL206 (.cells #[.int .u64 0, .slice none 0 0] 25)
        have FA_f_207 := a_fact FA_f_206 (.cells #[.int .u64 0, .slice none 0 0] 25)
        have FA_P_207 := a_fact FA_P_206 (.cells #[.int .u64 0, .slice none 0 0] 25)
        have FA_Q_207 := a_fact FA_Q_206 (.cells #[.int .u64 0, .slice none 0 0] 25)
        have FA_x2_207 := a_fact FA_x2_206 (.cells #[.int .u64 0, .slice none 0 0] 25)
        have FA_y2_207 := a_fact FA_y2_206 (.cells #[.int .u64 0, .slice none 0 0] 25)
        have KB_f_207 := a_blk KB_f_206 (.cells #[.int .u64 0, .slice none 0 0] 25)
        have NE_f_m := n_ne KB_f_206
        have KB_x_207 := a_blk KB_x_206 (.cells #[.int .u64 0, .slice none 0 0] 25)
        have NE_x_m := n_ne KB_x_206
        have KB_y_207 := a_blk KB_y_206 (.cells #[.int .u64 0, .slice none 0 0] 25)
        have NE_y_m := n_ne KB_y_206
        have KB_m_207 := n_blk (u := v) 25 #[.int .u64 0, .slice none 0 0]
        clear BEL206 BOX206 FA_f_206 FA_P_206 FA_Q_206 FA_x2_206 FA_y2_206 KB_f_206 KB_x_206 KB_y_206
        go_simp
        generalize (v.alloc (.cells #[.int .u64 0, .slice none 0 0] 25)) = v2 at BEL207 BOX207 FA_f_207 FA_P_207 FA_Q_207 FA_x2_207 FA_y2_207 KB_f_207 KB_x_207 KB_y_207 KB_m_207 ⊢
        generalize v.heap.size = gm at BOX207 FA_f_207 FA_P_207 FA_Q_207 FA_x2_207 FA_y2_207 KB_m_207 NE_f_m NE_x_m NE_y_m ⊢
        refine hK0.out _ _ (by exact KB_f_207.out) (fun hHeld => ?_)
        clear hK0 K0 hHeld
        refine hTU.out _ _ _ _ ?_
        refine ND_2_m.out _ Ax2 cx2 Ay2 cy2 gm _ _ ?_ ?_ BEL207 BOX207 FA_f_207 FA_P_207 FA_Q_207 FA_x2_207 FA_y2_207 KB_f_207 KB_x_207 KB_y_207 KB_m_207 NE_f_x NE_f_y NE_x_y NE_f_m NE_x_m NE_y_m
        · first | rfl | kernel_rfl
        · rw [hact.out]; rfl
      exact AllReadyH.nil
    have ND_1_m : Hid (∀ (v : World) (Ax2 : Option Addr) (cx2 : Nat) (gm : Nat) (ll : Array Bool) (aa : Act), ll = #[true, true, true, true, true, false, false, false, false, false, true, false, false] → aa = ((act0.put (some 54) (.agg #[.int .u64 a0, .slice Ax2 R cx2])).put (some 15) (.pointer (some ⟨gm, 0, none⟩))) → Hid (Below w.heap.size w v) → Hid (Boxes w v [gm, gy, gx, gf]) → Hid (HeldX [gm, gy, gx, gf] (fun uq => SgAt uq (.agg #[.int .u64 a0, .slice Af R cf]) a0 R (fun _ => n) (fun _ _ => 0)) v) → Hid (HeldX [gm, gy, gx, gf] (fun uq => SgAt uq (.agg #[.int .u64 a0, .slice AP R cP]) a0 R (fun _ => n) (addsG a0 n (addsG a0 n (fun _ _ => 0) K q m) J r p)) v) → Hid (HeldX [gm, gy, gx, gf] (fun uq => SgAt uq (.agg #[.int .u64 a0, .slice AQ R cQ]) a0 R (fun _ => n) (addsG a0 n (addsG a0 n (fun _ _ => 0) J r p) K q m)) v) → Hid (HeldX [gm, gy, gx, gf] (fun uq => SgAt uq (.agg #[.int .u64 a0, .slice Ax2 R cx2]) a0 R (fun _ => n) (addsG a0 n (fun _ _ => 0) K q m)) v) → Hid (Blk v gf 25 #[.int .u64 a0, .slice Af R cf]) → Hid (Blk v gx 25 #[.int .u64 a0, .slice AP R cP]) → Hid (Blk v gy 25 #[.int .u64 a0, .slice AQ R cQ]) → Hid (Blk v gm 25 #[.int .u64 0, .slice none 0 0]) → Hid (gf ≠ gx) → Hid (gf ≠ gy) → Hid (gx ≠ gy) → Hid (gf ≠ gm) → Hid (gx ≠ gm) → Hid (gy ≠ gm) → TT 7 ll aa v) := by
      intro v Ax2 cx2 gm ll aa hl hA BEL206 BOX206 FA_f_206 FA_P_206 FA_Q_206 FA_x2_206 KB_f_206 KB_x_206 KB_y_206 KB_m_206 NE_f_x NE_f_y NE_x_y NE_f_m NE_x_m NE_y_m
      rw [hact.out] at hA
      try simp only [Act.put, List.setIfInBounds_toArray, List.set_cons_zero, List.set_cons_succ] at hA
      subst hl hA
      refine hUT.out _ _ _ _ ?_
      refine wpAnyH_ready (rs := [5]) (by kernel_rfl) (by simp) ?_
      refine AllReadyH.cons rfl (fun K0 hK0 => ?_) ?_
      · refine step_func 26 #[.agg #[.int .u64 a0, .slice Af R cf], .slice Ak p capk] (by rfl) rfl (by simp [Act.eval]) (fun _ _ => by kernel_rfl) ?_
        refine (gadds_any _ _ _ [gm, gy, gx, gf] a0 R n p _ J r FA_f_206.out (fun g hg => (BOX206.out g hg).2) (LB.out.keep (keep_of_below BEL206.out)) OKJ1.out uS (by omega) HJ.out).mono ?_
        rintro e wy2 ⟨Ay2, cy2, rfl, fy2, bb⟩
        have BEL207 := h_bel BEL206 bb
        have BOX207 := h_box BOX206 bb
        have FA_f_207 := h_fact FA_f_206 bb
        have FA_P_207 := h_fact FA_P_206 bb
        have FA_Q_207 := h_fact FA_Q_206 bb
        have FA_x2_207 := h_fact FA_x2_206 bb
        have KB_f_207 := h_blk KB_f_206 bb
        have KB_x_207 := h_blk KB_x_206 bb
        have KB_y_207 := h_blk KB_y_206 bb
        have KB_m_207 := h_blk KB_m_206 bb
        clear BEL206 BOX206 FA_f_206 FA_P_206 FA_Q_206 FA_x2_206 KB_f_206 KB_x_206 KB_y_206 KB_m_206
        have FA_y2_207 : Hid (HeldX [gm, gy, gx, gf] (fun uq => SgAt uq (.agg #[.int .u64 a0, .slice Ay2 R cy2]) a0 R (fun _ => n) (addsG a0 n (fun _ _ => 0) J r p)) wy2) := fy2
        clear bb fy2
        refine ⟨_, rfl, ?_⟩
        refine hK0.out _ _ (by exact KB_f_207.out) (fun hHeld => ?_)
        clear hK0 K0 hHeld
        refine hTU.out _ _ _ _ ?_
        refine ND_2_m.out _ Ax2 cx2 Ay2 cy2 gm _ _ ?_ ?_ BEL207 BOX207 FA_f_207 FA_P_207 FA_Q_207 FA_x2_207 FA_y2_207 KB_f_207 KB_x_207 KB_y_207 KB_m_207 NE_f_x NE_f_y NE_x_y NE_f_m NE_x_m NE_y_m
        · first | rfl | kernel_rfl
        · rw [hact.out]; rfl
      exact AllReadyH.nil
    have ND_1_ : Hid (∀ (v : World) (Ax2 : Option Addr) (cx2 : Nat) (ll : Array Bool) (aa : Act), ll = #[true, true, true, true, true, false, false, false, false, false, false, false, false] → aa = (act0.put (some 54) (.agg #[.int .u64 a0, .slice Ax2 R cx2])) → Hid (Below w.heap.size w v) → Hid (Boxes w v [gy, gx, gf]) → Hid (HeldX [gy, gx, gf] (fun uq => SgAt uq (.agg #[.int .u64 a0, .slice Af R cf]) a0 R (fun _ => n) (fun _ _ => 0)) v) → Hid (HeldX [gy, gx, gf] (fun uq => SgAt uq (.agg #[.int .u64 a0, .slice AP R cP]) a0 R (fun _ => n) (addsG a0 n (addsG a0 n (fun _ _ => 0) K q m) J r p)) v) → Hid (HeldX [gy, gx, gf] (fun uq => SgAt uq (.agg #[.int .u64 a0, .slice AQ R cQ]) a0 R (fun _ => n) (addsG a0 n (addsG a0 n (fun _ _ => 0) J r p) K q m)) v) → Hid (HeldX [gy, gx, gf] (fun uq => SgAt uq (.agg #[.int .u64 a0, .slice Ax2 R cx2]) a0 R (fun _ => n) (addsG a0 n (fun _ _ => 0) K q m)) v) → Hid (Blk v gf 25 #[.int .u64 a0, .slice Af R cf]) → Hid (Blk v gx 25 #[.int .u64 a0, .slice AP R cP]) → Hid (Blk v gy 25 #[.int .u64 a0, .slice AQ R cQ]) → Hid (gf ≠ gx) → Hid (gf ≠ gy) → Hid (gx ≠ gy) → TT 8 ll aa v) := by
      intro v Ax2 cx2 ll aa hl hA BEL206 BOX206 FA_f_206 FA_P_206 FA_Q_206 FA_x2_206 KB_f_206 KB_x_206 KB_y_206 NE_f_x NE_f_y NE_x_y
      rw [hact.out] at hA
      try simp only [Act.put, List.setIfInBounds_toArray, List.set_cons_zero, List.set_cons_succ] at hA
      subst hl hA
      refine hUT.out _ _ _ _ ?_
      refine wpAnyH_ready (rs := [5, 10]) (by kernel_rfl) (by simp) ?_
      refine AllReadyH.cons rfl (fun K0 hK0 => ?_) ?_
      · refine step_func 26 #[.agg #[.int .u64 a0, .slice Af R cf], .slice Ak p capk] (by rfl) rfl (by simp [Act.eval]) (fun _ _ => by kernel_rfl) ?_
        refine (gadds_any _ _ _ [gy, gx, gf] a0 R n p _ J r FA_f_206.out (fun g hg => (BOX206.out g hg).2) (LB.out.keep (keep_of_below BEL206.out)) OKJ1.out uS (by omega) HJ.out).mono ?_
        rintro e wy2 ⟨Ay2, cy2, rfl, fy2, bb⟩
        have BEL207 := h_bel BEL206 bb
        have BOX207 := h_box BOX206 bb
        have FA_f_207 := h_fact FA_f_206 bb
        have FA_P_207 := h_fact FA_P_206 bb
        have FA_Q_207 := h_fact FA_Q_206 bb
        have FA_x2_207 := h_fact FA_x2_206 bb
        have KB_f_207 := h_blk KB_f_206 bb
        have KB_x_207 := h_blk KB_x_206 bb
        have KB_y_207 := h_blk KB_y_206 bb
        clear BEL206 BOX206 FA_f_206 FA_P_206 FA_Q_206 FA_x2_206 KB_f_206 KB_x_206 KB_y_206
        have FA_y2_207 : Hid (HeldX [gy, gx, gf] (fun uq => SgAt uq (.agg #[.int .u64 a0, .slice Ay2 R cy2]) a0 R (fun _ => n) (addsG a0 n (fun _ _ => 0) J r p)) wy2) := fy2
        clear bb fy2
        refine ⟨_, rfl, ?_⟩
        refine hK0.out _ _ (by exact KB_f_207.out) (fun hHeld => ?_)
        clear hK0 K0 hHeld
        refine hTU.out _ _ _ _ ?_
        refine ND_2_.out _ Ax2 cx2 Ay2 cy2 _ _ ?_ ?_ BEL207 BOX207 FA_f_207 FA_P_207 FA_Q_207 FA_x2_207 FA_y2_207 KB_f_207 KB_x_207 KB_y_207 NE_f_x NE_f_y NE_x_y
        · first | rfl | kernel_rfl
        · rw [hact.out]; rfl
      refine AllReadyH.cons rfl (fun K0 hK0 => ?_) ?_
      · have BEL207 := a_bel BEL206 (.cells #[.int .u64 0, .slice none 0 0] 25)
        have BOX207 := a_box BOX206 BEL206 (.cells #[.int .u64 0, .slice none 0 0] 25)
        have FA_f_207 := a_fact FA_f_206 (.cells #[.int .u64 0, .slice none 0 0] 25)
        have FA_P_207 := a_fact FA_P_206 (.cells #[.int .u64 0, .slice none 0 0] 25)
        have FA_Q_207 := a_fact FA_Q_206 (.cells #[.int .u64 0, .slice none 0 0] 25)
        have FA_x2_207 := a_fact FA_x2_206 (.cells #[.int .u64 0, .slice none 0 0] 25)
        have KB_f_207 := a_blk KB_f_206 (.cells #[.int .u64 0, .slice none 0 0] 25)
        have NE_f_m := n_ne KB_f_206
        have KB_x_207 := a_blk KB_x_206 (.cells #[.int .u64 0, .slice none 0 0] 25)
        have NE_x_m := n_ne KB_x_206
        have KB_y_207 := a_blk KB_y_206 (.cells #[.int .u64 0, .slice none 0 0] 25)
        have NE_y_m := n_ne KB_y_206
        have KB_m_207 := n_blk (u := v) 25 #[.int .u64 0, .slice none 0 0]
        clear BEL206 BOX206 FA_f_206 FA_P_206 FA_Q_206 FA_x2_206 KB_f_206 KB_x_206 KB_y_206
        go_simp
        generalize (v.alloc (.cells #[.int .u64 0, .slice none 0 0] 25)) = v2 at BEL207 BOX207 FA_f_207 FA_P_207 FA_Q_207 FA_x2_207 KB_f_207 KB_x_207 KB_y_207 KB_m_207 ⊢
        generalize v.heap.size = gm at BOX207 FA_f_207 FA_P_207 FA_Q_207 FA_x2_207 KB_m_207 NE_f_m NE_x_m NE_y_m ⊢
        refine hK0.out _ _ (by exact KB_f_207.out) (fun hHeld => ?_)
        clear hK0 K0 hHeld
        refine hTU.out _ _ _ _ ?_
        refine ND_1_m.out _ Ax2 cx2 gm _ _ ?_ ?_ BEL207 BOX207 FA_f_207 FA_P_207 FA_Q_207 FA_x2_207 KB_f_207 KB_x_207 KB_y_207 KB_m_207 NE_f_x NE_f_y NE_x_y NE_f_m NE_x_m NE_y_m
        · first | rfl | kernel_rfl
        · rw [hact.out]; rfl
      exact AllReadyH.nil
    have ND_0_m : Hid (∀ (v : World) (gm : Nat) (ll : Array Bool) (aa : Act), ll = #[true, true, false, true, true, false, false, false, false, false, true, false, false] → aa = (act0.put (some 15) (.pointer (some ⟨gm, 0, none⟩))) → Hid (Below w.heap.size w v) → Hid (Boxes w v [gm, gy, gx, gf]) → Hid (HeldX [gm, gy, gx, gf] (fun uq => SgAt uq (.agg #[.int .u64 a0, .slice Af R cf]) a0 R (fun _ => n) (fun _ _ => 0)) v) → Hid (HeldX [gm, gy, gx, gf] (fun uq => SgAt uq (.agg #[.int .u64 a0, .slice AP R cP]) a0 R (fun _ => n) (addsG a0 n (addsG a0 n (fun _ _ => 0) K q m) J r p)) v) → Hid (HeldX [gm, gy, gx, gf] (fun uq => SgAt uq (.agg #[.int .u64 a0, .slice AQ R cQ]) a0 R (fun _ => n) (addsG a0 n (addsG a0 n (fun _ _ => 0) J r p) K q m)) v) → Hid (Blk v gf 25 #[.int .u64 a0, .slice Af R cf]) → Hid (Blk v gx 25 #[.int .u64 a0, .slice AP R cP]) → Hid (Blk v gy 25 #[.int .u64 a0, .slice AQ R cQ]) → Hid (Blk v gm 25 #[.int .u64 0, .slice none 0 0]) → Hid (gf ≠ gx) → Hid (gf ≠ gy) → Hid (gx ≠ gy) → Hid (gf ≠ gm) → Hid (gx ≠ gm) → Hid (gy ≠ gm) → TT 8 ll aa v) := by
      intro v gm ll aa hl hA BEL206 BOX206 FA_f_206 FA_P_206 FA_Q_206 KB_f_206 KB_x_206 KB_y_206 KB_m_206 NE_f_x NE_f_y NE_x_y NE_f_m NE_x_m NE_y_m
      rw [hact.out] at hA
      try simp only [Act.put, List.setIfInBounds_toArray, List.set_cons_zero, List.set_cons_succ] at hA
      subst hl hA
      refine hUT.out _ _ _ _ ?_
      refine wpAnyH_ready (rs := [2]) (by kernel_rfl) (by simp) ?_
      refine AllReadyH.cons rfl (fun K0 hK0 => ?_) ?_
      · refine step_func 26 #[.agg #[.int .u64 a0, .slice Af R cf], .slice Al m capl] (by rfl) rfl (by simp [Act.eval]) (fun _ _ => by kernel_rfl) ?_
        refine (gadds_any _ _ _ [gm, gy, gx, gf] a0 R n m _ K q FA_f_206.out (fun g hg => (BOX206.out g hg).2) (LA.out.keep (keep_of_below BEL206.out)) OKK1.out uS (by omega) HK.out).mono ?_
        rintro e wx2 ⟨Ax2, cx2, rfl, fx2, bb⟩
        have BEL207 := h_bel BEL206 bb
        have BOX207 := h_box BOX206 bb
        have FA_f_207 := h_fact FA_f_206 bb
        have FA_P_207 := h_fact FA_P_206 bb
        have FA_Q_207 := h_fact FA_Q_206 bb
        have KB_f_207 := h_blk KB_f_206 bb
        have KB_x_207 := h_blk KB_x_206 bb
        have KB_y_207 := h_blk KB_y_206 bb
        have KB_m_207 := h_blk KB_m_206 bb
        clear BEL206 BOX206 FA_f_206 FA_P_206 FA_Q_206 KB_f_206 KB_x_206 KB_y_206 KB_m_206
        have FA_x2_207 : Hid (HeldX [gm, gy, gx, gf] (fun uq => SgAt uq (.agg #[.int .u64 a0, .slice Ax2 R cx2]) a0 R (fun _ => n) (addsG a0 n (fun _ _ => 0) K q m)) wx2) := fx2
        clear bb fx2
        refine ⟨_, rfl, ?_⟩
        refine hK0.out _ _ (by exact KB_f_207.out) (fun hHeld => ?_)
        clear hK0 K0 hHeld
        refine hTU.out _ _ _ _ ?_
        refine ND_1_m.out _ Ax2 cx2 gm _ _ ?_ ?_ BEL207 BOX207 FA_f_207 FA_P_207 FA_Q_207 FA_x2_207 KB_f_207 KB_x_207 KB_y_207 KB_m_207 NE_f_x NE_f_y NE_x_y NE_f_m NE_x_m NE_y_m
        · first | rfl | kernel_rfl
        · rw [hact.out]; rfl
      exact AllReadyH.nil
    have ND_0_ : Hid (∀ (v : World)  (ll : Array Bool) (aa : Act), ll = #[true, true, false, true, true, false, false, false, false, false, false, false, false] → aa = act0 → Hid (Below w.heap.size w v) → Hid (Boxes w v [gy, gx, gf]) → Hid (HeldX [gy, gx, gf] (fun uq => SgAt uq (.agg #[.int .u64 a0, .slice Af R cf]) a0 R (fun _ => n) (fun _ _ => 0)) v) → Hid (HeldX [gy, gx, gf] (fun uq => SgAt uq (.agg #[.int .u64 a0, .slice AP R cP]) a0 R (fun _ => n) (addsG a0 n (addsG a0 n (fun _ _ => 0) K q m) J r p)) v) → Hid (HeldX [gy, gx, gf] (fun uq => SgAt uq (.agg #[.int .u64 a0, .slice AQ R cQ]) a0 R (fun _ => n) (addsG a0 n (addsG a0 n (fun _ _ => 0) J r p) K q m)) v) → Hid (Blk v gf 25 #[.int .u64 a0, .slice Af R cf]) → Hid (Blk v gx 25 #[.int .u64 a0, .slice AP R cP]) → Hid (Blk v gy 25 #[.int .u64 a0, .slice AQ R cQ]) → Hid (gf ≠ gx) → Hid (gf ≠ gy) → Hid (gx ≠ gy) → TT 9 ll aa v) := by
      intro v  ll aa hl hA BEL206 BOX206 FA_f_206 FA_P_206 FA_Q_206 KB_f_206 KB_x_206 KB_y_206 NE_f_x NE_f_y NE_x_y
      rw [hact.out] at hA
      try simp only [Act.put, List.setIfInBounds_toArray, List.set_cons_zero, List.set_cons_succ] at hA
      subst hl hA
      refine hUT.out _ _ _ _ ?_
      refine wpAnyH_ready (rs := [2, 10]) (by kernel_rfl) (by simp) ?_
      refine AllReadyH.cons rfl (fun K0 hK0 => ?_) ?_
      · refine step_func 26 #[.agg #[.int .u64 a0, .slice Af R cf], .slice Al m capl] (by rfl) rfl (by simp [Act.eval]) (fun _ _ => by kernel_rfl) ?_
        refine (gadds_any _ _ _ [gy, gx, gf] a0 R n m _ K q FA_f_206.out (fun g hg => (BOX206.out g hg).2) (LA.out.keep (keep_of_below BEL206.out)) OKK1.out uS (by omega) HK.out).mono ?_
        rintro e wx2 ⟨Ax2, cx2, rfl, fx2, bb⟩
        have BEL207 := h_bel BEL206 bb
        have BOX207 := h_box BOX206 bb
        have FA_f_207 := h_fact FA_f_206 bb
        have FA_P_207 := h_fact FA_P_206 bb
        have FA_Q_207 := h_fact FA_Q_206 bb
        have KB_f_207 := h_blk KB_f_206 bb
        have KB_x_207 := h_blk KB_x_206 bb
        have KB_y_207 := h_blk KB_y_206 bb
        clear BEL206 BOX206 FA_f_206 FA_P_206 FA_Q_206 KB_f_206 KB_x_206 KB_y_206
        have FA_x2_207 : Hid (HeldX [gy, gx, gf] (fun uq => SgAt uq (.agg #[.int .u64 a0, .slice Ax2 R cx2]) a0 R (fun _ => n) (addsG a0 n (fun _ _ => 0) K q m)) wx2) := fx2
        clear bb fx2
        refine ⟨_, rfl, ?_⟩
        refine hK0.out _ _ (by exact KB_f_207.out) (fun hHeld => ?_)
        clear hK0 K0 hHeld
        refine hTU.out _ _ _ _ ?_
        refine ND_1_.out _ Ax2 cx2 _ _ ?_ ?_ BEL207 BOX207 FA_f_207 FA_P_207 FA_Q_207 FA_x2_207 KB_f_207 KB_x_207 KB_y_207 NE_f_x NE_f_y NE_x_y
        · first | rfl | kernel_rfl
        · rw [hact.out]; rfl
      refine AllReadyH.cons rfl (fun K0 hK0 => ?_) ?_
      · have BEL207 := a_bel BEL206 (.cells #[.int .u64 0, .slice none 0 0] 25)
        have BOX207 := a_box BOX206 BEL206 (.cells #[.int .u64 0, .slice none 0 0] 25)
        have FA_f_207 := a_fact FA_f_206 (.cells #[.int .u64 0, .slice none 0 0] 25)
        have FA_P_207 := a_fact FA_P_206 (.cells #[.int .u64 0, .slice none 0 0] 25)
        have FA_Q_207 := a_fact FA_Q_206 (.cells #[.int .u64 0, .slice none 0 0] 25)
        have KB_f_207 := a_blk KB_f_206 (.cells #[.int .u64 0, .slice none 0 0] 25)
        have NE_f_m := n_ne KB_f_206
        have KB_x_207 := a_blk KB_x_206 (.cells #[.int .u64 0, .slice none 0 0] 25)
        have NE_x_m := n_ne KB_x_206
        have KB_y_207 := a_blk KB_y_206 (.cells #[.int .u64 0, .slice none 0 0] 25)
        have NE_y_m := n_ne KB_y_206
        have KB_m_207 := n_blk (u := v) 25 #[.int .u64 0, .slice none 0 0]
        clear BEL206 BOX206 FA_f_206 FA_P_206 FA_Q_206 KB_f_206 KB_x_206 KB_y_206
        go_simp
        generalize (v.alloc (.cells #[.int .u64 0, .slice none 0 0] 25)) = v2 at BEL207 BOX207 FA_f_207 FA_P_207 FA_Q_207 KB_f_207 KB_x_207 KB_y_207 KB_m_207 ⊢
        generalize v.heap.size = gm at BOX207 FA_f_207 FA_P_207 FA_Q_207 KB_m_207 NE_f_m NE_x_m NE_y_m ⊢
        refine hK0.out _ _ (by exact KB_f_207.out) (fun hHeld => ?_)
        clear hK0 K0 hHeld
        refine hTU.out _ _ _ _ ?_
        refine ND_0_m.out _ gm _ _ ?_ ?_ BEL207 BOX207 FA_f_207 FA_P_207 FA_Q_207 KB_f_207 KB_x_207 KB_y_207 KB_m_207 NE_f_x NE_f_y NE_x_y NE_f_m NE_x_m NE_y_m
        · first | rfl | kernel_rfl
        · rw [hact.out]; rfl
      exact AllReadyH.nil
    refine ND_0_.out _  _ _ ?_ ?_ BEL106 BOX106 FA_f_106 FA_P_106 FA_Q_106 KB_f_106 KB_x_106 KB_y_106 NE_f_x NE_f_y NE_x_y
    · first | rfl | kernel_rfl
    · rfl
  have ND_4_x : Hid (∀ (v : World) (Ax : Option Addr) (cx : Nat) (AP : Option Addr) (cP : Nat) (Ay : Option Addr) (cy : Nat) (AQ : Option Addr) (cQ : Nat) (gx : Nat) (ll : Array Bool) (aa : Act), ll = #[true, true, true, true, true, true, true, true, true, true, true, false, false, false] → aa = (((((act0.put (some 43) (.agg #[.int .u64 a0, .slice Ax R cx])).put (some 45) (.agg #[.int .u64 a0, .slice AP R cP])).put (some 48) (.agg #[.int .u64 a0, .slice Ay R cy])).put (some 50) (.agg #[.int .u64 a0, .slice AQ R cQ])).put (some 13) (.pointer (some ⟨gx, 0, none⟩))) → Hid (Below w.heap.size w v) → Hid (Boxes w v [gx, gf]) → Hid (HeldX [gx, gf] (fun uq => SgAt uq (.agg #[.int .u64 a0, .slice Af R cf]) a0 R (fun _ => n) (fun _ _ => 0)) v) → Hid (HeldX [gx, gf] (fun uq => SgAt uq (.agg #[.int .u64 a0, .slice AP R cP]) a0 R (fun _ => n) (addsG a0 n (addsG a0 n (fun _ _ => 0) K q m) J r p)) v) → Hid (HeldX [gx, gf] (fun uq => SgAt uq (.agg #[.int .u64 a0, .slice AQ R cQ]) a0 R (fun _ => n) (addsG a0 n (addsG a0 n (fun _ _ => 0) J r p) K q m)) v) → Hid (Blk v gf 25 #[.int .u64 a0, .slice Af R cf]) → Hid (Blk v gx 25 #[.int .u64 0, .slice none 0 0]) → Hid (gf ≠ gx) → TT 3 ll aa v) := by
    intro v Ax cx AP cP Ay cy AQ cQ gx ll aa hl hA BEL103 BOX103 FA_f_103 FA_P_103 FA_Q_103 KB_f_103 KB_x_103 NE_f_x
    rw [hact.out] at hA
    try simp only [Act.put, List.setIfInBounds_toArray, List.set_cons_zero, List.set_cons_succ] at hA
    subst hl hA
    refine hUT.out _ _ _ _ ?_
    refine wpAnyH_ready (rs := [11]) (by kernel_rfl) (by simp) ?_
    refine AllReadyH.cons rfl (fun K0 hK0 => ?_) ?_
    · have BEL104 := a_bel BEL103 (.cells #[.int .u64 0, .slice none 0 0] 25)
      have BOX104 := a_box BOX103 BEL103 (.cells #[.int .u64 0, .slice none 0 0] 25)
      have FA_f_104 := a_fact FA_f_103 (.cells #[.int .u64 0, .slice none 0 0] 25)
      have FA_P_104 := a_fact FA_P_103 (.cells #[.int .u64 0, .slice none 0 0] 25)
      have FA_Q_104 := a_fact FA_Q_103 (.cells #[.int .u64 0, .slice none 0 0] 25)
      have KB_f_104 := a_blk KB_f_103 (.cells #[.int .u64 0, .slice none 0 0] 25)
      have NE_f_y := n_ne KB_f_103
      have KB_x_104 := a_blk KB_x_103 (.cells #[.int .u64 0, .slice none 0 0] 25)
      have NE_x_y := n_ne KB_x_103
      have KB_y_104 := n_blk (u := v) 25 #[.int .u64 0, .slice none 0 0]
      clear BEL103 BOX103 FA_f_103 FA_P_103 FA_Q_103 KB_f_103 KB_x_103
      go_simp
      generalize (v.alloc (.cells #[.int .u64 0, .slice none 0 0] 25)) = v2 at BEL104 BOX104 FA_f_104 FA_P_104 FA_Q_104 KB_f_104 KB_x_104 KB_y_104 ⊢
      generalize v.heap.size = gy at BOX104 FA_f_104 FA_P_104 FA_Q_104 KB_y_104 NE_f_y NE_x_y ⊢
      refine hK0.out _ _ (by exact KB_f_104.out) (fun hHeld => ?_)
      clear hK0 K0 hHeld
      refine hTU.out _ _ _ _ ?_
      refine ND_4_xy.out _ Ax cx AP cP Ay cy AQ cQ gx gy _ _ ?_ ?_ BEL104 BOX104 FA_f_104 FA_P_104 FA_Q_104 KB_f_104 KB_x_104 KB_y_104 NE_f_x NE_f_y NE_x_y
      · first | rfl | kernel_rfl
      · rw [hact.out]; rfl
    exact AllReadyH.nil
  have ND_4_y : Hid (∀ (v : World) (Ax : Option Addr) (cx : Nat) (AP : Option Addr) (cP : Nat) (Ay : Option Addr) (cy : Nat) (AQ : Option Addr) (cQ : Nat) (gy : Nat) (ll : Array Bool) (aa : Act), ll = #[true, true, true, true, true, true, true, true, true, true, false, true, false, false] → aa = (((((act0.put (some 43) (.agg #[.int .u64 a0, .slice Ax R cx])).put (some 45) (.agg #[.int .u64 a0, .slice AP R cP])).put (some 48) (.agg #[.int .u64 a0, .slice Ay R cy])).put (some 50) (.agg #[.int .u64 a0, .slice AQ R cQ])).put (some 14) (.pointer (some ⟨gy, 0, none⟩))) → Hid (Below w.heap.size w v) → Hid (Boxes w v [gy, gf]) → Hid (HeldX [gy, gf] (fun uq => SgAt uq (.agg #[.int .u64 a0, .slice Af R cf]) a0 R (fun _ => n) (fun _ _ => 0)) v) → Hid (HeldX [gy, gf] (fun uq => SgAt uq (.agg #[.int .u64 a0, .slice AP R cP]) a0 R (fun _ => n) (addsG a0 n (addsG a0 n (fun _ _ => 0) K q m) J r p)) v) → Hid (HeldX [gy, gf] (fun uq => SgAt uq (.agg #[.int .u64 a0, .slice AQ R cQ]) a0 R (fun _ => n) (addsG a0 n (addsG a0 n (fun _ _ => 0) J r p) K q m)) v) → Hid (Blk v gf 25 #[.int .u64 a0, .slice Af R cf]) → Hid (Blk v gy 25 #[.int .u64 0, .slice none 0 0]) → Hid (gf ≠ gy) → TT 3 ll aa v) := by
    intro v Ax cx AP cP Ay cy AQ cQ gy ll aa hl hA BEL103 BOX103 FA_f_103 FA_P_103 FA_Q_103 KB_f_103 KB_y_103 NE_f_y
    rw [hact.out] at hA
    try simp only [Act.put, List.setIfInBounds_toArray, List.set_cons_zero, List.set_cons_succ] at hA
    subst hl hA
    refine hUT.out _ _ _ _ ?_
    refine wpAnyH_ready (rs := [10]) (by kernel_rfl) (by simp) ?_
    refine AllReadyH.cons rfl (fun K0 hK0 => ?_) ?_
    · have BEL104 := a_bel BEL103 (.cells #[.int .u64 0, .slice none 0 0] 25)
      have BOX104 := a_box BOX103 BEL103 (.cells #[.int .u64 0, .slice none 0 0] 25)
      have FA_f_104 := a_fact FA_f_103 (.cells #[.int .u64 0, .slice none 0 0] 25)
      have FA_P_104 := a_fact FA_P_103 (.cells #[.int .u64 0, .slice none 0 0] 25)
      have FA_Q_104 := a_fact FA_Q_103 (.cells #[.int .u64 0, .slice none 0 0] 25)
      have KB_f_104 := a_blk KB_f_103 (.cells #[.int .u64 0, .slice none 0 0] 25)
      have NE_f_x := n_ne KB_f_103
      have KB_y_104 := a_blk KB_y_103 (.cells #[.int .u64 0, .slice none 0 0] 25)
      have NE_y_x := n_ne KB_y_103
      have KB_x_104 := n_blk (u := v) 25 #[.int .u64 0, .slice none 0 0]
      clear BEL103 BOX103 FA_f_103 FA_P_103 FA_Q_103 KB_f_103 KB_y_103
      go_simp
      generalize (v.alloc (.cells #[.int .u64 0, .slice none 0 0] 25)) = v2 at BEL104 BOX104 FA_f_104 FA_P_104 FA_Q_104 KB_f_104 KB_y_104 KB_x_104 ⊢
      generalize v.heap.size = gx at BOX104 FA_f_104 FA_P_104 FA_Q_104 KB_x_104 NE_f_x NE_y_x ⊢
      refine hK0.out _ _ (by exact KB_f_104.out) (fun hHeld => ?_)
      clear hK0 K0 hHeld
      refine hTU.out _ _ _ _ ?_
      refine ND_4_xy.out _ Ax cx AP cP Ay cy AQ cQ gx gy _ _ ?_ ?_ BEL104 (b_perm BOX104 (by intro p m; simp only [List.mem_cons, List.not_mem_nil, or_false] at m ⊢; omega)) (h_perm FA_f_104 (by intro p m; simp only [List.mem_cons, List.not_mem_nil, or_false] at m ⊢; omega)) (h_perm FA_P_104 (by intro p m; simp only [List.mem_cons, List.not_mem_nil, or_false] at m ⊢; omega)) (h_perm FA_Q_104 (by intro p m; simp only [List.mem_cons, List.not_mem_nil, or_false] at m ⊢; omega)) KB_f_104 KB_x_104 KB_y_104 NE_f_x NE_f_y (n_sym NE_y_x)
      · first | rfl | kernel_rfl
      · rw [hact.out]; rfl
    exact AllReadyH.nil
  have ND_4_ : Hid (∀ (v : World) (Ax : Option Addr) (cx : Nat) (AP : Option Addr) (cP : Nat) (Ay : Option Addr) (cy : Nat) (AQ : Option Addr) (cQ : Nat) (ll : Array Bool) (aa : Act), ll = #[true, true, true, true, true, true, true, true, true, true, false, false, false, false] → aa = ((((act0.put (some 43) (.agg #[.int .u64 a0, .slice Ax R cx])).put (some 45) (.agg #[.int .u64 a0, .slice AP R cP])).put (some 48) (.agg #[.int .u64 a0, .slice Ay R cy])).put (some 50) (.agg #[.int .u64 a0, .slice AQ R cQ])) → Hid (Below w.heap.size w v) → Hid (Boxes w v [gf]) → Hid (HeldX [gf] (fun uq => SgAt uq (.agg #[.int .u64 a0, .slice Af R cf]) a0 R (fun _ => n) (fun _ _ => 0)) v) → Hid (HeldX [gf] (fun uq => SgAt uq (.agg #[.int .u64 a0, .slice AP R cP]) a0 R (fun _ => n) (addsG a0 n (addsG a0 n (fun _ _ => 0) K q m) J r p)) v) → Hid (HeldX [gf] (fun uq => SgAt uq (.agg #[.int .u64 a0, .slice AQ R cQ]) a0 R (fun _ => n) (addsG a0 n (addsG a0 n (fun _ _ => 0) J r p) K q m)) v) → Hid (Blk v gf 25 #[.int .u64 a0, .slice Af R cf]) → TT 4 ll aa v) := by
    intro v Ax cx AP cP Ay cy AQ cQ ll aa hl hA BEL103 BOX103 FA_f_103 FA_P_103 FA_Q_103 KB_f_103
    rw [hact.out] at hA
    try simp only [Act.put, List.setIfInBounds_toArray, List.set_cons_zero, List.set_cons_succ] at hA
    subst hl hA
    refine hUT.out _ _ _ _ ?_
    refine wpAnyH_ready (rs := [10, 11]) (by kernel_rfl) (by simp) ?_
    refine AllReadyH.cons rfl (fun K0 hK0 => ?_) ?_
    · have BEL104 := a_bel BEL103 (.cells #[.int .u64 0, .slice none 0 0] 25)
      have BOX104 := a_box BOX103 BEL103 (.cells #[.int .u64 0, .slice none 0 0] 25)
      have FA_f_104 := a_fact FA_f_103 (.cells #[.int .u64 0, .slice none 0 0] 25)
      have FA_P_104 := a_fact FA_P_103 (.cells #[.int .u64 0, .slice none 0 0] 25)
      have FA_Q_104 := a_fact FA_Q_103 (.cells #[.int .u64 0, .slice none 0 0] 25)
      have KB_f_104 := a_blk KB_f_103 (.cells #[.int .u64 0, .slice none 0 0] 25)
      have NE_f_x := n_ne KB_f_103
      have KB_x_104 := n_blk (u := v) 25 #[.int .u64 0, .slice none 0 0]
      clear BEL103 BOX103 FA_f_103 FA_P_103 FA_Q_103 KB_f_103
      go_simp
      generalize (v.alloc (.cells #[.int .u64 0, .slice none 0 0] 25)) = v2 at BEL104 BOX104 FA_f_104 FA_P_104 FA_Q_104 KB_f_104 KB_x_104 ⊢
      generalize v.heap.size = gx at BOX104 FA_f_104 FA_P_104 FA_Q_104 KB_x_104 NE_f_x ⊢
      refine hK0.out _ _ (by exact KB_f_104.out) (fun hHeld => ?_)
      clear hK0 K0 hHeld
      refine hTU.out _ _ _ _ ?_
      refine ND_4_x.out _ Ax cx AP cP Ay cy AQ cQ gx _ _ ?_ ?_ BEL104 BOX104 FA_f_104 FA_P_104 FA_Q_104 KB_f_104 KB_x_104 NE_f_x
      · first | rfl | kernel_rfl
      · rw [hact.out]; rfl
    refine AllReadyH.cons rfl (fun K0 hK0 => ?_) ?_
    · have BEL104 := a_bel BEL103 (.cells #[.int .u64 0, .slice none 0 0] 25)
      have BOX104 := a_box BOX103 BEL103 (.cells #[.int .u64 0, .slice none 0 0] 25)
      have FA_f_104 := a_fact FA_f_103 (.cells #[.int .u64 0, .slice none 0 0] 25)
      have FA_P_104 := a_fact FA_P_103 (.cells #[.int .u64 0, .slice none 0 0] 25)
      have FA_Q_104 := a_fact FA_Q_103 (.cells #[.int .u64 0, .slice none 0 0] 25)
      have KB_f_104 := a_blk KB_f_103 (.cells #[.int .u64 0, .slice none 0 0] 25)
      have NE_f_y := n_ne KB_f_103
      have KB_y_104 := n_blk (u := v) 25 #[.int .u64 0, .slice none 0 0]
      clear BEL103 BOX103 FA_f_103 FA_P_103 FA_Q_103 KB_f_103
      go_simp
      generalize (v.alloc (.cells #[.int .u64 0, .slice none 0 0] 25)) = v2 at BEL104 BOX104 FA_f_104 FA_P_104 FA_Q_104 KB_f_104 KB_y_104 ⊢
      generalize v.heap.size = gy at BOX104 FA_f_104 FA_P_104 FA_Q_104 KB_y_104 NE_f_y ⊢
      refine hK0.out _ _ (by exact KB_f_104.out) (fun hHeld => ?_)
      clear hK0 K0 hHeld
      refine hTU.out _ _ _ _ ?_
      refine ND_4_y.out _ Ax cx AP cP Ay cy AQ cQ gy _ _ ?_ ?_ BEL104 BOX104 FA_f_104 FA_P_104 FA_Q_104 KB_f_104 KB_y_104 NE_f_y
      · first | rfl | kernel_rfl
      · rw [hact.out]; rfl
    exact AllReadyH.nil
  have ND_3_xy : Hid (∀ (v : World) (Ax : Option Addr) (cx : Nat) (AP : Option Addr) (cP : Nat) (Ay : Option Addr) (cy : Nat) (gx : Nat) (gy : Nat) (ll : Array Bool) (aa : Act), ll = #[true, true, true, true, true, true, true, true, true, false, true, true, false, false] → aa = (((((act0.put (some 43) (.agg #[.int .u64 a0, .slice Ax R cx])).put (some 45) (.agg #[.int .u64 a0, .slice AP R cP])).put (some 48) (.agg #[.int .u64 a0, .slice Ay R cy])).put (some 13) (.pointer (some ⟨gx, 0, none⟩))).put (some 14) (.pointer (some ⟨gy, 0, none⟩))) → Hid (Below w.heap.size w v) → Hid (Boxes w v [gy, gx, gf]) → Hid (HeldX [gy, gx, gf] (fun uq => SgAt uq (.agg #[.int .u64 a0, .slice Af R cf]) a0 R (fun _ => n) (fun _ _ => 0)) v) → Hid (HeldX [gy, gx, gf] (fun uq => SgAt uq (.agg #[.int .u64 a0, .slice AP R cP]) a0 R (fun _ => n) (addsG a0 n (addsG a0 n (fun _ _ => 0) K q m) J r p)) v) → Hid (HeldX [gy, gx, gf] (fun uq => SgAt uq (.agg #[.int .u64 a0, .slice Ay R cy]) a0 R (fun _ => n) (addsG a0 n (fun _ _ => 0) J r p)) v) → Hid (Blk v gf 25 #[.int .u64 a0, .slice Af R cf]) → Hid (Blk v gx 25 #[.int .u64 0, .slice none 0 0]) → Hid (Blk v gy 25 #[.int .u64 0, .slice none 0 0]) → Hid (gf ≠ gx) → Hid (gf ≠ gy) → Hid (gx ≠ gy) → TT 3 ll aa v) := by
    intro v Ax cx AP cP Ay cy gx gy ll aa hl hA BEL103 BOX103 FA_f_103 FA_P_103 FA_y_103 KB_f_103 KB_x_103 KB_y_103 NE_f_x NE_f_y NE_x_y
    rw [hact.out] at hA
    try simp only [Act.put, List.setIfInBounds_toArray, List.set_cons_zero, List.set_cons_succ] at hA
    subst hl hA
    refine hUT.out _ _ _ _ ?_
    refine wpAnyH_ready (rs := [9]) (by kernel_rfl) (by simp) ?_
    refine AllReadyH.cons rfl (fun K0 hK0 => ?_) ?_
    · refine step_func 26 #[.agg #[.int .u64 a0, .slice Ay R cy], .slice Al m capl] (by rfl) rfl (by simp [Act.eval]) (fun _ _ => by kernel_rfl) ?_
      refine (gadds_any _ _ _ [gy, gx, gf] a0 R n m _ K q FA_y_103.out (fun g hg => (BOX103.out g hg).2) (LA.out.keep (keep_of_below BEL103.out)) OKJ2.out uS (by omega) HK.out).mono ?_
      rintro e wQ ⟨AQ, cQ, rfl, fQ, bb⟩
      have BEL104 := h_bel BEL103 bb
      have BOX104 := h_box BOX103 bb
      have FA_f_104 := h_fact FA_f_103 bb
      have FA_P_104 := h_fact FA_P_103 bb
      have FA_y_104 := h_fact FA_y_103 bb
      have KB_f_104 := h_blk KB_f_103 bb
      have KB_x_104 := h_blk KB_x_103 bb
      have KB_y_104 := h_blk KB_y_103 bb
      clear BEL103 BOX103 FA_f_103 FA_P_103 FA_y_103 KB_f_103 KB_x_103 KB_y_103
      have FA_Q_104 : Hid (HeldX [gy, gx, gf] (fun uq => SgAt uq (.agg #[.int .u64 a0, .slice AQ R cQ]) a0 R (fun _ => n) (addsG a0 n (addsG a0 n (fun _ _ => 0) J r p) K q m)) wQ) := fQ
      clear bb fQ
      clear FA_y_104
      refine ⟨_, rfl, ?_⟩
      refine hK0.out _ _ (by exact KB_f_104.out) (fun hHeld => ?_)
      clear hK0 K0 hHeld
      refine hTU.out _ _ _ _ ?_
      refine ND_4_xy.out _ Ax cx AP cP Ay cy AQ cQ gx gy _ _ ?_ ?_ BEL104 BOX104 FA_f_104 FA_P_104 FA_Q_104 KB_f_104 KB_x_104 KB_y_104 NE_f_x NE_f_y NE_x_y
      · first | rfl | kernel_rfl
      · rw [hact.out]; rfl
    exact AllReadyH.nil
  have ND_3_x : Hid (∀ (v : World) (Ax : Option Addr) (cx : Nat) (AP : Option Addr) (cP : Nat) (Ay : Option Addr) (cy : Nat) (gx : Nat) (ll : Array Bool) (aa : Act), ll = #[true, true, true, true, true, true, true, true, true, false, true, false, false, false] → aa = ((((act0.put (some 43) (.agg #[.int .u64 a0, .slice Ax R cx])).put (some 45) (.agg #[.int .u64 a0, .slice AP R cP])).put (some 48) (.agg #[.int .u64 a0, .slice Ay R cy])).put (some 13) (.pointer (some ⟨gx, 0, none⟩))) → Hid (Below w.heap.size w v) → Hid (Boxes w v [gx, gf]) → Hid (HeldX [gx, gf] (fun uq => SgAt uq (.agg #[.int .u64 a0, .slice Af R cf]) a0 R (fun _ => n) (fun _ _ => 0)) v) → Hid (HeldX [gx, gf] (fun uq => SgAt uq (.agg #[.int .u64 a0, .slice AP R cP]) a0 R (fun _ => n) (addsG a0 n (addsG a0 n (fun _ _ => 0) K q m) J r p)) v) → Hid (HeldX [gx, gf] (fun uq => SgAt uq (.agg #[.int .u64 a0, .slice Ay R cy]) a0 R (fun _ => n) (addsG a0 n (fun _ _ => 0) J r p)) v) → Hid (Blk v gf 25 #[.int .u64 a0, .slice Af R cf]) → Hid (Blk v gx 25 #[.int .u64 0, .slice none 0 0]) → Hid (gf ≠ gx) → TT 4 ll aa v) := by
    intro v Ax cx AP cP Ay cy gx ll aa hl hA BEL103 BOX103 FA_f_103 FA_P_103 FA_y_103 KB_f_103 KB_x_103 NE_f_x
    rw [hact.out] at hA
    try simp only [Act.put, List.setIfInBounds_toArray, List.set_cons_zero, List.set_cons_succ] at hA
    subst hl hA
    refine hUT.out _ _ _ _ ?_
    refine wpAnyH_ready (rs := [9, 11]) (by kernel_rfl) (by simp) ?_
    refine AllReadyH.cons rfl (fun K0 hK0 => ?_) ?_
    · refine step_func 26 #[.agg #[.int .u64 a0, .slice Ay R cy], .slice Al m capl] (by rfl) rfl (by simp [Act.eval]) (fun _ _ => by kernel_rfl) ?_
      refine (gadds_any _ _ _ [gx, gf] a0 R n m _ K q FA_y_103.out (fun g hg => (BOX103.out g hg).2) (LA.out.keep (keep_of_below BEL103.out)) OKJ2.out uS (by omega) HK.out).mono ?_
      rintro e wQ ⟨AQ, cQ, rfl, fQ, bb⟩
      have BEL104 := h_bel BEL103 bb
      have BOX104 := h_box BOX103 bb
      have FA_f_104 := h_fact FA_f_103 bb
      have FA_P_104 := h_fact FA_P_103 bb
      have FA_y_104 := h_fact FA_y_103 bb
      have KB_f_104 := h_blk KB_f_103 bb
      have KB_x_104 := h_blk KB_x_103 bb
      clear BEL103 BOX103 FA_f_103 FA_P_103 FA_y_103 KB_f_103 KB_x_103
      have FA_Q_104 : Hid (HeldX [gx, gf] (fun uq => SgAt uq (.agg #[.int .u64 a0, .slice AQ R cQ]) a0 R (fun _ => n) (addsG a0 n (addsG a0 n (fun _ _ => 0) J r p) K q m)) wQ) := fQ
      clear bb fQ
      clear FA_y_104
      refine ⟨_, rfl, ?_⟩
      refine hK0.out _ _ (by exact KB_f_104.out) (fun hHeld => ?_)
      clear hK0 K0 hHeld
      refine hTU.out _ _ _ _ ?_
      refine ND_4_x.out _ Ax cx AP cP Ay cy AQ cQ gx _ _ ?_ ?_ BEL104 BOX104 FA_f_104 FA_P_104 FA_Q_104 KB_f_104 KB_x_104 NE_f_x
      · first | rfl | kernel_rfl
      · rw [hact.out]; rfl
    refine AllReadyH.cons rfl (fun K0 hK0 => ?_) ?_
    · have BEL104 := a_bel BEL103 (.cells #[.int .u64 0, .slice none 0 0] 25)
      have BOX104 := a_box BOX103 BEL103 (.cells #[.int .u64 0, .slice none 0 0] 25)
      have FA_f_104 := a_fact FA_f_103 (.cells #[.int .u64 0, .slice none 0 0] 25)
      have FA_P_104 := a_fact FA_P_103 (.cells #[.int .u64 0, .slice none 0 0] 25)
      have FA_y_104 := a_fact FA_y_103 (.cells #[.int .u64 0, .slice none 0 0] 25)
      have KB_f_104 := a_blk KB_f_103 (.cells #[.int .u64 0, .slice none 0 0] 25)
      have NE_f_y := n_ne KB_f_103
      have KB_x_104 := a_blk KB_x_103 (.cells #[.int .u64 0, .slice none 0 0] 25)
      have NE_x_y := n_ne KB_x_103
      have KB_y_104 := n_blk (u := v) 25 #[.int .u64 0, .slice none 0 0]
      clear BEL103 BOX103 FA_f_103 FA_P_103 FA_y_103 KB_f_103 KB_x_103
      go_simp
      generalize (v.alloc (.cells #[.int .u64 0, .slice none 0 0] 25)) = v2 at BEL104 BOX104 FA_f_104 FA_P_104 FA_y_104 KB_f_104 KB_x_104 KB_y_104 ⊢
      generalize v.heap.size = gy at BOX104 FA_f_104 FA_P_104 FA_y_104 KB_y_104 NE_f_y NE_x_y ⊢
      refine hK0.out _ _ (by exact KB_f_104.out) (fun hHeld => ?_)
      clear hK0 K0 hHeld
      refine hTU.out _ _ _ _ ?_
      refine ND_3_xy.out _ Ax cx AP cP Ay cy gx gy _ _ ?_ ?_ BEL104 BOX104 FA_f_104 FA_P_104 FA_y_104 KB_f_104 KB_x_104 KB_y_104 NE_f_x NE_f_y NE_x_y
      · first | rfl | kernel_rfl
      · rw [hact.out]; rfl
    exact AllReadyH.nil
  have ND_3_y : Hid (∀ (v : World) (Ax : Option Addr) (cx : Nat) (AP : Option Addr) (cP : Nat) (Ay : Option Addr) (cy : Nat) (gy : Nat) (ll : Array Bool) (aa : Act), ll = #[true, true, true, true, true, true, true, true, true, false, false, true, false, false] → aa = ((((act0.put (some 43) (.agg #[.int .u64 a0, .slice Ax R cx])).put (some 45) (.agg #[.int .u64 a0, .slice AP R cP])).put (some 48) (.agg #[.int .u64 a0, .slice Ay R cy])).put (some 14) (.pointer (some ⟨gy, 0, none⟩))) → Hid (Below w.heap.size w v) → Hid (Boxes w v [gy, gf]) → Hid (HeldX [gy, gf] (fun uq => SgAt uq (.agg #[.int .u64 a0, .slice Af R cf]) a0 R (fun _ => n) (fun _ _ => 0)) v) → Hid (HeldX [gy, gf] (fun uq => SgAt uq (.agg #[.int .u64 a0, .slice AP R cP]) a0 R (fun _ => n) (addsG a0 n (addsG a0 n (fun _ _ => 0) K q m) J r p)) v) → Hid (HeldX [gy, gf] (fun uq => SgAt uq (.agg #[.int .u64 a0, .slice Ay R cy]) a0 R (fun _ => n) (addsG a0 n (fun _ _ => 0) J r p)) v) → Hid (Blk v gf 25 #[.int .u64 a0, .slice Af R cf]) → Hid (Blk v gy 25 #[.int .u64 0, .slice none 0 0]) → Hid (gf ≠ gy) → TT 4 ll aa v) := by
    intro v Ax cx AP cP Ay cy gy ll aa hl hA BEL103 BOX103 FA_f_103 FA_P_103 FA_y_103 KB_f_103 KB_y_103 NE_f_y
    rw [hact.out] at hA
    try simp only [Act.put, List.setIfInBounds_toArray, List.set_cons_zero, List.set_cons_succ] at hA
    subst hl hA
    refine hUT.out _ _ _ _ ?_
    refine wpAnyH_ready (rs := [9, 10]) (by kernel_rfl) (by simp) ?_
    refine AllReadyH.cons rfl (fun K0 hK0 => ?_) ?_
    · refine step_func 26 #[.agg #[.int .u64 a0, .slice Ay R cy], .slice Al m capl] (by rfl) rfl (by simp [Act.eval]) (fun _ _ => by kernel_rfl) ?_
      refine (gadds_any _ _ _ [gy, gf] a0 R n m _ K q FA_y_103.out (fun g hg => (BOX103.out g hg).2) (LA.out.keep (keep_of_below BEL103.out)) OKJ2.out uS (by omega) HK.out).mono ?_
      rintro e wQ ⟨AQ, cQ, rfl, fQ, bb⟩
      have BEL104 := h_bel BEL103 bb
      have BOX104 := h_box BOX103 bb
      have FA_f_104 := h_fact FA_f_103 bb
      have FA_P_104 := h_fact FA_P_103 bb
      have FA_y_104 := h_fact FA_y_103 bb
      have KB_f_104 := h_blk KB_f_103 bb
      have KB_y_104 := h_blk KB_y_103 bb
      clear BEL103 BOX103 FA_f_103 FA_P_103 FA_y_103 KB_f_103 KB_y_103
      have FA_Q_104 : Hid (HeldX [gy, gf] (fun uq => SgAt uq (.agg #[.int .u64 a0, .slice AQ R cQ]) a0 R (fun _ => n) (addsG a0 n (addsG a0 n (fun _ _ => 0) J r p) K q m)) wQ) := fQ
      clear bb fQ
      clear FA_y_104
      refine ⟨_, rfl, ?_⟩
      refine hK0.out _ _ (by exact KB_f_104.out) (fun hHeld => ?_)
      clear hK0 K0 hHeld
      refine hTU.out _ _ _ _ ?_
      refine ND_4_y.out _ Ax cx AP cP Ay cy AQ cQ gy _ _ ?_ ?_ BEL104 BOX104 FA_f_104 FA_P_104 FA_Q_104 KB_f_104 KB_y_104 NE_f_y
      · first | rfl | kernel_rfl
      · rw [hact.out]; rfl
    refine AllReadyH.cons rfl (fun K0 hK0 => ?_) ?_
    · have BEL104 := a_bel BEL103 (.cells #[.int .u64 0, .slice none 0 0] 25)
      have BOX104 := a_box BOX103 BEL103 (.cells #[.int .u64 0, .slice none 0 0] 25)
      have FA_f_104 := a_fact FA_f_103 (.cells #[.int .u64 0, .slice none 0 0] 25)
      have FA_P_104 := a_fact FA_P_103 (.cells #[.int .u64 0, .slice none 0 0] 25)
      have FA_y_104 := a_fact FA_y_103 (.cells #[.int .u64 0, .slice none 0 0] 25)
      have KB_f_104 := a_blk KB_f_103 (.cells #[.int .u64 0, .slice none 0 0] 25)
      have NE_f_x := n_ne KB_f_103
      have KB_y_104 := a_blk KB_y_103 (.cells #[.int .u64 0, .slice none 0 0] 25)
      have NE_y_x := n_ne KB_y_103
      have KB_x_104 := n_blk (u := v) 25 #[.int .u64 0, .slice none 0 0]
      clear BEL103 BOX103 FA_f_103 FA_P_103 FA_y_103 KB_f_103 KB_y_103
      go_simp
      generalize (v.alloc (.cells #[.int .u64 0, .slice none 0 0] 25)) = v2 at BEL104 BOX104 FA_f_104 FA_P_104 FA_y_104 KB_f_104 KB_y_104 KB_x_104 ⊢
      generalize v.heap.size = gx at BOX104 FA_f_104 FA_P_104 FA_y_104 KB_x_104 NE_f_x NE_y_x ⊢
      refine hK0.out _ _ (by exact KB_f_104.out) (fun hHeld => ?_)
      clear hK0 K0 hHeld
      refine hTU.out _ _ _ _ ?_
      refine ND_3_xy.out _ Ax cx AP cP Ay cy gx gy _ _ ?_ ?_ BEL104 (b_perm BOX104 (by intro p m; simp only [List.mem_cons, List.not_mem_nil, or_false] at m ⊢; omega)) (h_perm FA_f_104 (by intro p m; simp only [List.mem_cons, List.not_mem_nil, or_false] at m ⊢; omega)) (h_perm FA_P_104 (by intro p m; simp only [List.mem_cons, List.not_mem_nil, or_false] at m ⊢; omega)) (h_perm FA_y_104 (by intro p m; simp only [List.mem_cons, List.not_mem_nil, or_false] at m ⊢; omega)) KB_f_104 KB_x_104 KB_y_104 NE_f_x NE_f_y (n_sym NE_y_x)
      · first | rfl | kernel_rfl
      · rw [hact.out]; rfl
    exact AllReadyH.nil
  have ND_3_ : Hid (∀ (v : World) (Ax : Option Addr) (cx : Nat) (AP : Option Addr) (cP : Nat) (Ay : Option Addr) (cy : Nat) (ll : Array Bool) (aa : Act), ll = #[true, true, true, true, true, true, true, true, true, false, false, false, false, false] → aa = (((act0.put (some 43) (.agg #[.int .u64 a0, .slice Ax R cx])).put (some 45) (.agg #[.int .u64 a0, .slice AP R cP])).put (some 48) (.agg #[.int .u64 a0, .slice Ay R cy])) → Hid (Below w.heap.size w v) → Hid (Boxes w v [gf]) → Hid (HeldX [gf] (fun uq => SgAt uq (.agg #[.int .u64 a0, .slice Af R cf]) a0 R (fun _ => n) (fun _ _ => 0)) v) → Hid (HeldX [gf] (fun uq => SgAt uq (.agg #[.int .u64 a0, .slice AP R cP]) a0 R (fun _ => n) (addsG a0 n (addsG a0 n (fun _ _ => 0) K q m) J r p)) v) → Hid (HeldX [gf] (fun uq => SgAt uq (.agg #[.int .u64 a0, .slice Ay R cy]) a0 R (fun _ => n) (addsG a0 n (fun _ _ => 0) J r p)) v) → Hid (Blk v gf 25 #[.int .u64 a0, .slice Af R cf]) → TT 5 ll aa v) := by
    intro v Ax cx AP cP Ay cy ll aa hl hA BEL103 BOX103 FA_f_103 FA_P_103 FA_y_103 KB_f_103
    rw [hact.out] at hA
    try simp only [Act.put, List.setIfInBounds_toArray, List.set_cons_zero, List.set_cons_succ] at hA
    subst hl hA
    refine hUT.out _ _ _ _ ?_
    refine wpAnyH_ready (rs := [9, 10, 11]) (by kernel_rfl) (by simp) ?_
    refine AllReadyH.cons rfl (fun K0 hK0 => ?_) ?_
    · refine step_func 26 #[.agg #[.int .u64 a0, .slice Ay R cy], .slice Al m capl] (by rfl) rfl (by simp [Act.eval]) (fun _ _ => by kernel_rfl) ?_
      refine (gadds_any _ _ _ [gf] a0 R n m _ K q FA_y_103.out (fun g hg => (BOX103.out g hg).2) (LA.out.keep (keep_of_below BEL103.out)) OKJ2.out uS (by omega) HK.out).mono ?_
      rintro e wQ ⟨AQ, cQ, rfl, fQ, bb⟩
      have BEL104 := h_bel BEL103 bb
      have BOX104 := h_box BOX103 bb
      have FA_f_104 := h_fact FA_f_103 bb
      have FA_P_104 := h_fact FA_P_103 bb
      have FA_y_104 := h_fact FA_y_103 bb
      have KB_f_104 := h_blk KB_f_103 bb
      clear BEL103 BOX103 FA_f_103 FA_P_103 FA_y_103 KB_f_103
      have FA_Q_104 : Hid (HeldX [gf] (fun uq => SgAt uq (.agg #[.int .u64 a0, .slice AQ R cQ]) a0 R (fun _ => n) (addsG a0 n (addsG a0 n (fun _ _ => 0) J r p) K q m)) wQ) := fQ
      clear bb fQ
      clear FA_y_104
      refine ⟨_, rfl, ?_⟩
      refine hK0.out _ _ (by exact KB_f_104.out) (fun hHeld => ?_)
      clear hK0 K0 hHeld
      refine hTU.out _ _ _ _ ?_
      refine ND_4_.out _ Ax cx AP cP Ay cy AQ cQ _ _ ?_ ?_ BEL104 BOX104 FA_f_104 FA_P_104 FA_Q_104 KB_f_104
      · first | rfl | kernel_rfl
      · rw [hact.out]; rfl
    refine AllReadyH.cons rfl (fun K0 hK0 => ?_) ?_
    · have BEL104 := a_bel BEL103 (.cells #[.int .u64 0, .slice none 0 0] 25)
      have BOX104 := a_box BOX103 BEL103 (.cells #[.int .u64 0, .slice none 0 0] 25)
      have FA_f_104 := a_fact FA_f_103 (.cells #[.int .u64 0, .slice none 0 0] 25)
      have FA_P_104 := a_fact FA_P_103 (.cells #[.int .u64 0, .slice none 0 0] 25)
      have FA_y_104 := a_fact FA_y_103 (.cells #[.int .u64 0, .slice none 0 0] 25)
      have KB_f_104 := a_blk KB_f_103 (.cells #[.int .u64 0, .slice none 0 0] 25)
      have NE_f_x := n_ne KB_f_103
      have KB_x_104 := n_blk (u := v) 25 #[.int .u64 0, .slice none 0 0]
      clear BEL103 BOX103 FA_f_103 FA_P_103 FA_y_103 KB_f_103
      go_simp
      generalize (v.alloc (.cells #[.int .u64 0, .slice none 0 0] 25)) = v2 at BEL104 BOX104 FA_f_104 FA_P_104 FA_y_104 KB_f_104 KB_x_104 ⊢
      generalize v.heap.size = gx at BOX104 FA_f_104 FA_P_104 FA_y_104 KB_x_104 NE_f_x ⊢
      refine hK0.out _ _ (by exact KB_f_104.out) (fun hHeld => ?_)
      clear hK0 K0 hHeld
      refine hTU.out _ _ _ _ ?_
      refine ND_3_x.out _ Ax cx AP cP Ay cy gx _ _ ?_ ?_ BEL104 BOX104 FA_f_104 FA_P_104 FA_y_104 KB_f_104 KB_x_104 NE_f_x
      · first | rfl | kernel_rfl
      · rw [hact.out]; rfl
    refine AllReadyH.cons rfl (fun K0 hK0 => ?_) ?_
    · have BEL104 := a_bel BEL103 (.cells #[.int .u64 0, .slice none 0 0] 25)
      have BOX104 := a_box BOX103 BEL103 (.cells #[.int .u64 0, .slice none 0 0] 25)
      have FA_f_104 := a_fact FA_f_103 (.cells #[.int .u64 0, .slice none 0 0] 25)
      have FA_P_104 := a_fact FA_P_103 (.cells #[.int .u64 0, .slice none 0 0] 25)
      have FA_y_104 := a_fact FA_y_103 (.cells #[.int .u64 0, .slice none 0 0] 25)
      have KB_f_104 := a_blk KB_f_103 (.cells #[.int .u64 0, .slice none 0 0] 25)
      have NE_f_y := n_ne KB_f_103
      have KB_y_104 := n_blk (u := v) 25 #[.int .u64 0, .slice none 0 0]
      clear BEL103 BOX103 FA_f_103 FA_P_103 FA_y_103 KB_f_103
      go_simp
      generalize (v.alloc (.cells #[.int .u64 0, .slice none 0 0] 25)) = v2 at BEL104 BOX104 FA_f_104 FA_P_104 FA_y_104 KB_f_104 KB_y_104 ⊢
      generalize v.heap.size = gy at BOX104 FA_f_104 FA_P_104 FA_y_104 KB_y_104 NE_f_y ⊢
      refine hK0.out _ _ (by exact KB_f_104.out) (fun hHeld => ?_)
      clear hK0 K0 hHeld
      refine hTU.out _ _ _ _ ?_
      refine ND_3_y.out _ Ax cx AP cP Ay cy gy _ _ ?_ ?_ BEL104 BOX104 FA_f_104 FA_P_104 FA_y_104 KB_f_104 KB_y_104 NE_f_y
      · first | rfl | kernel_rfl
      · rw [hact.out]; rfl
    exact AllReadyH.nil
  have ND_2_xy : Hid (∀ (v : World) (Ax : Option Addr) (cx : Nat) (AP : Option Addr) (cP : Nat) (gx : Nat) (gy : Nat) (ll : Array Bool) (aa : Act), ll = #[true, true, true, true, true, true, true, false, true, false, true, true, false, false] → aa = ((((act0.put (some 43) (.agg #[.int .u64 a0, .slice Ax R cx])).put (some 45) (.agg #[.int .u64 a0, .slice AP R cP])).put (some 13) (.pointer (some ⟨gx, 0, none⟩))).put (some 14) (.pointer (some ⟨gy, 0, none⟩))) → Hid (Below w.heap.size w v) → Hid (Boxes w v [gy, gx, gf]) → Hid (HeldX [gy, gx, gf] (fun uq => SgAt uq (.agg #[.int .u64 a0, .slice Af R cf]) a0 R (fun _ => n) (fun _ _ => 0)) v) → Hid (HeldX [gy, gx, gf] (fun uq => SgAt uq (.agg #[.int .u64 a0, .slice AP R cP]) a0 R (fun _ => n) (addsG a0 n (addsG a0 n (fun _ _ => 0) K q m) J r p)) v) → Hid (Blk v gf 25 #[.int .u64 a0, .slice Af R cf]) → Hid (Blk v gx 25 #[.int .u64 0, .slice none 0 0]) → Hid (Blk v gy 25 #[.int .u64 0, .slice none 0 0]) → Hid (gf ≠ gx) → Hid (gf ≠ gy) → Hid (gx ≠ gy) → TT 4 ll aa v) := by
    intro v Ax cx AP cP gx gy ll aa hl hA BEL103 BOX103 FA_f_103 FA_P_103 KB_f_103 KB_x_103 KB_y_103 NE_f_x NE_f_y NE_x_y
    rw [hact.out] at hA
    try simp only [Act.put, List.setIfInBounds_toArray, List.set_cons_zero, List.set_cons_succ] at hA
    subst hl hA
    refine hUT.out _ _ _ _ ?_
    refine wpAnyH_ready (rs := [7]) (by kernel_rfl) (by simp) ?_
    refine AllReadyH.cons rfl (fun K0 hK0 => ?_) ?_
    · refine step_func 26 #[.agg #[.int .u64 a0, .slice Af R cf], .slice Ak p capk] (by rfl) rfl (by simp [Act.eval]) (fun _ _ => by kernel_rfl) ?_
      refine (gadds_any _ _ _ [gy, gx, gf] a0 R n p _ J r FA_f_103.out (fun g hg => (BOX103.out g hg).2) (LB.out.keep (keep_of_below BEL103.out)) OKJ1.out uS (by omega) HJ.out).mono ?_
      rintro e wy ⟨Ay, cy, rfl, fy, bb⟩
      have BEL104 := h_bel BEL103 bb
      have BOX104 := h_box BOX103 bb
      have FA_f_104 := h_fact FA_f_103 bb
      have FA_P_104 := h_fact FA_P_103 bb
      have KB_f_104 := h_blk KB_f_103 bb
      have KB_x_104 := h_blk KB_x_103 bb
      have KB_y_104 := h_blk KB_y_103 bb
      clear BEL103 BOX103 FA_f_103 FA_P_103 KB_f_103 KB_x_103 KB_y_103
      have FA_y_104 : Hid (HeldX [gy, gx, gf] (fun uq => SgAt uq (.agg #[.int .u64 a0, .slice Ay R cy]) a0 R (fun _ => n) (addsG a0 n (fun _ _ => 0) J r p)) wy) := fy
      clear bb fy
      refine ⟨_, rfl, ?_⟩
      refine hK0.out _ _ (by exact KB_f_104.out) (fun hHeld => ?_)
      clear hK0 K0 hHeld
      refine hTU.out _ _ _ _ ?_
      refine ND_3_xy.out _ Ax cx AP cP Ay cy gx gy _ _ ?_ ?_ BEL104 BOX104 FA_f_104 FA_P_104 FA_y_104 KB_f_104 KB_x_104 KB_y_104 NE_f_x NE_f_y NE_x_y
      · first | rfl | kernel_rfl
      · rw [hact.out]; rfl
    exact AllReadyH.nil
  have ND_2_x : Hid (∀ (v : World) (Ax : Option Addr) (cx : Nat) (AP : Option Addr) (cP : Nat) (gx : Nat) (ll : Array Bool) (aa : Act), ll = #[true, true, true, true, true, true, true, false, true, false, true, false, false, false] → aa = (((act0.put (some 43) (.agg #[.int .u64 a0, .slice Ax R cx])).put (some 45) (.agg #[.int .u64 a0, .slice AP R cP])).put (some 13) (.pointer (some ⟨gx, 0, none⟩))) → Hid (Below w.heap.size w v) → Hid (Boxes w v [gx, gf]) → Hid (HeldX [gx, gf] (fun uq => SgAt uq (.agg #[.int .u64 a0, .slice Af R cf]) a0 R (fun _ => n) (fun _ _ => 0)) v) → Hid (HeldX [gx, gf] (fun uq => SgAt uq (.agg #[.int .u64 a0, .slice AP R cP]) a0 R (fun _ => n) (addsG a0 n (addsG a0 n (fun _ _ => 0) K q m) J r p)) v) → Hid (Blk v gf 25 #[.int .u64 a0, .slice Af R cf]) → Hid (Blk v gx 25 #[.int .u64 0, .slice none 0 0]) → Hid (gf ≠ gx) → TT 5 ll aa v) := by
    intro v Ax cx AP cP gx ll aa hl hA BEL103 BOX103 FA_f_103 FA_P_103 KB_f_103 KB_x_103 NE_f_x
    rw [hact.out] at hA
    try simp only [Act.put, List.setIfInBounds_toArray, List.set_cons_zero, List.set_cons_succ] at hA
    subst hl hA
    refine hUT.out _ _ _ _ ?_
    refine wpAnyH_ready (rs := [7, 11]) (by kernel_rfl) (by simp) ?_
    refine AllReadyH.cons rfl (fun K0 hK0 => ?_) ?_
    · refine step_func 26 #[.agg #[.int .u64 a0, .slice Af R cf], .slice Ak p capk] (by rfl) rfl (by simp [Act.eval]) (fun _ _ => by kernel_rfl) ?_
      refine (gadds_any _ _ _ [gx, gf] a0 R n p _ J r FA_f_103.out (fun g hg => (BOX103.out g hg).2) (LB.out.keep (keep_of_below BEL103.out)) OKJ1.out uS (by omega) HJ.out).mono ?_
      rintro e wy ⟨Ay, cy, rfl, fy, bb⟩
      have BEL104 := h_bel BEL103 bb
      have BOX104 := h_box BOX103 bb
      have FA_f_104 := h_fact FA_f_103 bb
      have FA_P_104 := h_fact FA_P_103 bb
      have KB_f_104 := h_blk KB_f_103 bb
      have KB_x_104 := h_blk KB_x_103 bb
      clear BEL103 BOX103 FA_f_103 FA_P_103 KB_f_103 KB_x_103
      have FA_y_104 : Hid (HeldX [gx, gf] (fun uq => SgAt uq (.agg #[.int .u64 a0, .slice Ay R cy]) a0 R (fun _ => n) (addsG a0 n (fun _ _ => 0) J r p)) wy) := fy
      clear bb fy
      refine ⟨_, rfl, ?_⟩
      refine hK0.out _ _ (by exact KB_f_104.out) (fun hHeld => ?_)
      clear hK0 K0 hHeld
      refine hTU.out _ _ _ _ ?_
      refine ND_3_x.out _ Ax cx AP cP Ay cy gx _ _ ?_ ?_ BEL104 BOX104 FA_f_104 FA_P_104 FA_y_104 KB_f_104 KB_x_104 NE_f_x
      · first | rfl | kernel_rfl
      · rw [hact.out]; rfl
    refine AllReadyH.cons rfl (fun K0 hK0 => ?_) ?_
    · have BEL104 := a_bel BEL103 (.cells #[.int .u64 0, .slice none 0 0] 25)
      have BOX104 := a_box BOX103 BEL103 (.cells #[.int .u64 0, .slice none 0 0] 25)
      have FA_f_104 := a_fact FA_f_103 (.cells #[.int .u64 0, .slice none 0 0] 25)
      have FA_P_104 := a_fact FA_P_103 (.cells #[.int .u64 0, .slice none 0 0] 25)
      have KB_f_104 := a_blk KB_f_103 (.cells #[.int .u64 0, .slice none 0 0] 25)
      have NE_f_y := n_ne KB_f_103
      have KB_x_104 := a_blk KB_x_103 (.cells #[.int .u64 0, .slice none 0 0] 25)
      have NE_x_y := n_ne KB_x_103
      have KB_y_104 := n_blk (u := v) 25 #[.int .u64 0, .slice none 0 0]
      clear BEL103 BOX103 FA_f_103 FA_P_103 KB_f_103 KB_x_103
      go_simp
      generalize (v.alloc (.cells #[.int .u64 0, .slice none 0 0] 25)) = v2 at BEL104 BOX104 FA_f_104 FA_P_104 KB_f_104 KB_x_104 KB_y_104 ⊢
      generalize v.heap.size = gy at BOX104 FA_f_104 FA_P_104 KB_y_104 NE_f_y NE_x_y ⊢
      refine hK0.out _ _ (by exact KB_f_104.out) (fun hHeld => ?_)
      clear hK0 K0 hHeld
      refine hTU.out _ _ _ _ ?_
      refine ND_2_xy.out _ Ax cx AP cP gx gy _ _ ?_ ?_ BEL104 BOX104 FA_f_104 FA_P_104 KB_f_104 KB_x_104 KB_y_104 NE_f_x NE_f_y NE_x_y
      · first | rfl | kernel_rfl
      · rw [hact.out]; rfl
    exact AllReadyH.nil
  have ND_2_y : Hid (∀ (v : World) (Ax : Option Addr) (cx : Nat) (AP : Option Addr) (cP : Nat) (gy : Nat) (ll : Array Bool) (aa : Act), ll = #[true, true, true, true, true, true, true, false, true, false, false, true, false, false] → aa = (((act0.put (some 43) (.agg #[.int .u64 a0, .slice Ax R cx])).put (some 45) (.agg #[.int .u64 a0, .slice AP R cP])).put (some 14) (.pointer (some ⟨gy, 0, none⟩))) → Hid (Below w.heap.size w v) → Hid (Boxes w v [gy, gf]) → Hid (HeldX [gy, gf] (fun uq => SgAt uq (.agg #[.int .u64 a0, .slice Af R cf]) a0 R (fun _ => n) (fun _ _ => 0)) v) → Hid (HeldX [gy, gf] (fun uq => SgAt uq (.agg #[.int .u64 a0, .slice AP R cP]) a0 R (fun _ => n) (addsG a0 n (addsG a0 n (fun _ _ => 0) K q m) J r p)) v) → Hid (Blk v gf 25 #[.int .u64 a0, .slice Af R cf]) → Hid (Blk v gy 25 #[.int .u64 0, .slice none 0 0]) → Hid (gf ≠ gy) → TT 5 ll aa v) := by
    intro v Ax cx AP cP gy ll aa hl hA BEL103 BOX103 FA_f_103 FA_P_103 KB_f_103 KB_y_103 NE_f_y
    rw [hact.out] at hA
    try simp only [Act.put, List.setIfInBounds_toArray, List.set_cons_zero, List.set_cons_succ] at hA
    subst hl hA
    refine hUT.out _ _ _ _ ?_
    refine wpAnyH_ready (rs := [7, 10]) (by kernel_rfl) (by simp) ?_
    refine AllReadyH.cons rfl (fun K0 hK0 => ?_) ?_
    · refine step_func 26 #[.agg #[.int .u64 a0, .slice Af R cf], .slice Ak p capk] (by rfl) rfl (by simp [Act.eval]) (fun _ _ => by kernel_rfl) ?_
      refine (gadds_any _ _ _ [gy, gf] a0 R n p _ J r FA_f_103.out (fun g hg => (BOX103.out g hg).2) (LB.out.keep (keep_of_below BEL103.out)) OKJ1.out uS (by omega) HJ.out).mono ?_
      rintro e wy ⟨Ay, cy, rfl, fy, bb⟩
      have BEL104 := h_bel BEL103 bb
      have BOX104 := h_box BOX103 bb
      have FA_f_104 := h_fact FA_f_103 bb
      have FA_P_104 := h_fact FA_P_103 bb
      have KB_f_104 := h_blk KB_f_103 bb
      have KB_y_104 := h_blk KB_y_103 bb
      clear BEL103 BOX103 FA_f_103 FA_P_103 KB_f_103 KB_y_103
      have FA_y_104 : Hid (HeldX [gy, gf] (fun uq => SgAt uq (.agg #[.int .u64 a0, .slice Ay R cy]) a0 R (fun _ => n) (addsG a0 n (fun _ _ => 0) J r p)) wy) := fy
      clear bb fy
      refine ⟨_, rfl, ?_⟩
      refine hK0.out _ _ (by exact KB_f_104.out) (fun hHeld => ?_)
      clear hK0 K0 hHeld
      refine hTU.out _ _ _ _ ?_
      refine ND_3_y.out _ Ax cx AP cP Ay cy gy _ _ ?_ ?_ BEL104 BOX104 FA_f_104 FA_P_104 FA_y_104 KB_f_104 KB_y_104 NE_f_y
      · first | rfl | kernel_rfl
      · rw [hact.out]; rfl
    refine AllReadyH.cons rfl (fun K0 hK0 => ?_) ?_
    · have BEL104 := a_bel BEL103 (.cells #[.int .u64 0, .slice none 0 0] 25)
      have BOX104 := a_box BOX103 BEL103 (.cells #[.int .u64 0, .slice none 0 0] 25)
      have FA_f_104 := a_fact FA_f_103 (.cells #[.int .u64 0, .slice none 0 0] 25)
      have FA_P_104 := a_fact FA_P_103 (.cells #[.int .u64 0, .slice none 0 0] 25)
      have KB_f_104 := a_blk KB_f_103 (.cells #[.int .u64 0, .slice none 0 0] 25)
      have NE_f_x := n_ne KB_f_103
      have KB_y_104 := a_blk KB_y_103 (.cells #[.int .u64 0, .slice none 0 0] 25)
      have NE_y_x := n_ne KB_y_103
      have KB_x_104 := n_blk (u := v) 25 #[.int .u64 0, .slice none 0 0]
      clear BEL103 BOX103 FA_f_103 FA_P_103 KB_f_103 KB_y_103
      go_simp
      generalize (v.alloc (.cells #[.int .u64 0, .slice none 0 0] 25)) = v2 at BEL104 BOX104 FA_f_104 FA_P_104 KB_f_104 KB_y_104 KB_x_104 ⊢
      generalize v.heap.size = gx at BOX104 FA_f_104 FA_P_104 KB_x_104 NE_f_x NE_y_x ⊢
      refine hK0.out _ _ (by exact KB_f_104.out) (fun hHeld => ?_)
      clear hK0 K0 hHeld
      refine hTU.out _ _ _ _ ?_
      refine ND_2_xy.out _ Ax cx AP cP gx gy _ _ ?_ ?_ BEL104 (b_perm BOX104 (by intro p m; simp only [List.mem_cons, List.not_mem_nil, or_false] at m ⊢; omega)) (h_perm FA_f_104 (by intro p m; simp only [List.mem_cons, List.not_mem_nil, or_false] at m ⊢; omega)) (h_perm FA_P_104 (by intro p m; simp only [List.mem_cons, List.not_mem_nil, or_false] at m ⊢; omega)) KB_f_104 KB_x_104 KB_y_104 NE_f_x NE_f_y (n_sym NE_y_x)
      · first | rfl | kernel_rfl
      · rw [hact.out]; rfl
    exact AllReadyH.nil
  have ND_2_ : Hid (∀ (v : World) (Ax : Option Addr) (cx : Nat) (AP : Option Addr) (cP : Nat) (ll : Array Bool) (aa : Act), ll = #[true, true, true, true, true, true, true, false, true, false, false, false, false, false] → aa = ((act0.put (some 43) (.agg #[.int .u64 a0, .slice Ax R cx])).put (some 45) (.agg #[.int .u64 a0, .slice AP R cP])) → Hid (Below w.heap.size w v) → Hid (Boxes w v [gf]) → Hid (HeldX [gf] (fun uq => SgAt uq (.agg #[.int .u64 a0, .slice Af R cf]) a0 R (fun _ => n) (fun _ _ => 0)) v) → Hid (HeldX [gf] (fun uq => SgAt uq (.agg #[.int .u64 a0, .slice AP R cP]) a0 R (fun _ => n) (addsG a0 n (addsG a0 n (fun _ _ => 0) K q m) J r p)) v) → Hid (Blk v gf 25 #[.int .u64 a0, .slice Af R cf]) → TT 6 ll aa v) := by
    intro v Ax cx AP cP ll aa hl hA BEL103 BOX103 FA_f_103 FA_P_103 KB_f_103
    rw [hact.out] at hA
    try simp only [Act.put, List.setIfInBounds_toArray, List.set_cons_zero, List.set_cons_succ] at hA
    subst hl hA
    refine hUT.out _ _ _ _ ?_
    refine wpAnyH_ready (rs := [7, 10, 11]) (by kernel_rfl) (by simp) ?_
    refine AllReadyH.cons rfl (fun K0 hK0 => ?_) ?_
    · refine step_func 26 #[.agg #[.int .u64 a0, .slice Af R cf], .slice Ak p capk] (by rfl) rfl (by simp [Act.eval]) (fun _ _ => by kernel_rfl) ?_
      refine (gadds_any _ _ _ [gf] a0 R n p _ J r FA_f_103.out (fun g hg => (BOX103.out g hg).2) (LB.out.keep (keep_of_below BEL103.out)) OKJ1.out uS (by omega) HJ.out).mono ?_
      rintro e wy ⟨Ay, cy, rfl, fy, bb⟩
      have BEL104 := h_bel BEL103 bb
      have BOX104 := h_box BOX103 bb
      have FA_f_104 := h_fact FA_f_103 bb
      have FA_P_104 := h_fact FA_P_103 bb
      have KB_f_104 := h_blk KB_f_103 bb
      clear BEL103 BOX103 FA_f_103 FA_P_103 KB_f_103
      have FA_y_104 : Hid (HeldX [gf] (fun uq => SgAt uq (.agg #[.int .u64 a0, .slice Ay R cy]) a0 R (fun _ => n) (addsG a0 n (fun _ _ => 0) J r p)) wy) := fy
      clear bb fy
      refine ⟨_, rfl, ?_⟩
      refine hK0.out _ _ (by exact KB_f_104.out) (fun hHeld => ?_)
      clear hK0 K0 hHeld
      refine hTU.out _ _ _ _ ?_
      refine ND_3_.out _ Ax cx AP cP Ay cy _ _ ?_ ?_ BEL104 BOX104 FA_f_104 FA_P_104 FA_y_104 KB_f_104
      · first | rfl | kernel_rfl
      · rw [hact.out]; rfl
    refine AllReadyH.cons rfl (fun K0 hK0 => ?_) ?_
    · have BEL104 := a_bel BEL103 (.cells #[.int .u64 0, .slice none 0 0] 25)
      have BOX104 := a_box BOX103 BEL103 (.cells #[.int .u64 0, .slice none 0 0] 25)
      have FA_f_104 := a_fact FA_f_103 (.cells #[.int .u64 0, .slice none 0 0] 25)
      have FA_P_104 := a_fact FA_P_103 (.cells #[.int .u64 0, .slice none 0 0] 25)
      have KB_f_104 := a_blk KB_f_103 (.cells #[.int .u64 0, .slice none 0 0] 25)
      have NE_f_x := n_ne KB_f_103
      have KB_x_104 := n_blk (u := v) 25 #[.int .u64 0, .slice none 0 0]
      clear BEL103 BOX103 FA_f_103 FA_P_103 KB_f_103
      go_simp
      generalize (v.alloc (.cells #[.int .u64 0, .slice none 0 0] 25)) = v2 at BEL104 BOX104 FA_f_104 FA_P_104 KB_f_104 KB_x_104 ⊢
      generalize v.heap.size = gx at BOX104 FA_f_104 FA_P_104 KB_x_104 NE_f_x ⊢
      refine hK0.out _ _ (by exact KB_f_104.out) (fun hHeld => ?_)
      clear hK0 K0 hHeld
      refine hTU.out _ _ _ _ ?_
      refine ND_2_x.out _ Ax cx AP cP gx _ _ ?_ ?_ BEL104 BOX104 FA_f_104 FA_P_104 KB_f_104 KB_x_104 NE_f_x
      · first | rfl | kernel_rfl
      · rw [hact.out]; rfl
    refine AllReadyH.cons rfl (fun K0 hK0 => ?_) ?_
    · have BEL104 := a_bel BEL103 (.cells #[.int .u64 0, .slice none 0 0] 25)
      have BOX104 := a_box BOX103 BEL103 (.cells #[.int .u64 0, .slice none 0 0] 25)
      have FA_f_104 := a_fact FA_f_103 (.cells #[.int .u64 0, .slice none 0 0] 25)
      have FA_P_104 := a_fact FA_P_103 (.cells #[.int .u64 0, .slice none 0 0] 25)
      have KB_f_104 := a_blk KB_f_103 (.cells #[.int .u64 0, .slice none 0 0] 25)
      have NE_f_y := n_ne KB_f_103
      have KB_y_104 := n_blk (u := v) 25 #[.int .u64 0, .slice none 0 0]
      clear BEL103 BOX103 FA_f_103 FA_P_103 KB_f_103
      go_simp
      generalize (v.alloc (.cells #[.int .u64 0, .slice none 0 0] 25)) = v2 at BEL104 BOX104 FA_f_104 FA_P_104 KB_f_104 KB_y_104 ⊢
      generalize v.heap.size = gy at BOX104 FA_f_104 FA_P_104 KB_y_104 NE_f_y ⊢
      refine hK0.out _ _ (by exact KB_f_104.out) (fun hHeld => ?_)
      clear hK0 K0 hHeld
      refine hTU.out _ _ _ _ ?_
      refine ND_2_y.out _ Ax cx AP cP gy _ _ ?_ ?_ BEL104 BOX104 FA_f_104 FA_P_104 KB_f_104 KB_y_104 NE_f_y
      · first | rfl | kernel_rfl
      · rw [hact.out]; rfl
    exact AllReadyH.nil
  have ND_1_xy : Hid (∀ (v : World) (Ax : Option Addr) (cx : Nat) (gx : Nat) (gy : Nat) (ll : Array Bool) (aa : Act), ll = #[true, true, true, true, false, true, true, false, true, false, true, true, false, false] → aa = (((act0.put (some 43) (.agg #[.int .u64 a0, .slice Ax R cx])).put (some 13) (.pointer (some ⟨gx, 0, none⟩))).put (some 14) (.pointer (some ⟨gy, 0, none⟩))) → Hid (Below w.heap.size w v) → Hid (Boxes w v [gy, gx, gf]) → Hid (HeldX [gy, gx, gf] (fun uq => SgAt uq (.agg #[.int .u64 a0, .slice Af R cf]) a0 R (fun _ => n) (fun _ _ => 0)) v) → Hid (HeldX [gy, gx, gf] (fun uq => SgAt uq (.agg #[.int .u64 a0, .slice Ax R cx]) a0 R (fun _ => n) (addsG a0 n (fun _ _ => 0) K q m)) v) → Hid (Blk v gf 25 #[.int .u64 a0, .slice Af R cf]) → Hid (Blk v gx 25 #[.int .u64 0, .slice none 0 0]) → Hid (Blk v gy 25 #[.int .u64 0, .slice none 0 0]) → Hid (gf ≠ gx) → Hid (gf ≠ gy) → Hid (gx ≠ gy) → TT 5 ll aa v) := by
    intro v Ax cx gx gy ll aa hl hA BEL103 BOX103 FA_f_103 FA_x_103 KB_f_103 KB_x_103 KB_y_103 NE_f_x NE_f_y NE_x_y
    rw [hact.out] at hA
    try simp only [Act.put, List.setIfInBounds_toArray, List.set_cons_zero, List.set_cons_succ] at hA
    subst hl hA
    refine hUT.out _ _ _ _ ?_
    refine wpAnyH_ready (rs := [4]) (by kernel_rfl) (by simp) ?_
    refine AllReadyH.cons rfl (fun K0 hK0 => ?_) ?_
    · refine step_func 26 #[.agg #[.int .u64 a0, .slice Ax R cx], .slice Ak p capk] (by rfl) rfl (by simp [Act.eval]) (fun _ _ => by kernel_rfl) ?_
      refine (gadds_any _ _ _ [gy, gx, gf] a0 R n p _ J r FA_x_103.out (fun g hg => (BOX103.out g hg).2) (LB.out.keep (keep_of_below BEL103.out)) OKK2.out uS (by omega) HJ.out).mono ?_
      rintro e wP ⟨AP, cP, rfl, fP, bb⟩
      have BEL104 := h_bel BEL103 bb
      have BOX104 := h_box BOX103 bb
      have FA_f_104 := h_fact FA_f_103 bb
      have FA_x_104 := h_fact FA_x_103 bb
      have KB_f_104 := h_blk KB_f_103 bb
      have KB_x_104 := h_blk KB_x_103 bb
      have KB_y_104 := h_blk KB_y_103 bb
      clear BEL103 BOX103 FA_f_103 FA_x_103 KB_f_103 KB_x_103 KB_y_103
      have FA_P_104 : Hid (HeldX [gy, gx, gf] (fun uq => SgAt uq (.agg #[.int .u64 a0, .slice AP R cP]) a0 R (fun _ => n) (addsG a0 n (addsG a0 n (fun _ _ => 0) K q m) J r p)) wP) := fP
      clear bb fP
      clear FA_x_104
      refine ⟨_, rfl, ?_⟩
      refine hK0.out _ _ (by exact KB_f_104.out) (fun hHeld => ?_)
      clear hK0 K0 hHeld
      refine hTU.out _ _ _ _ ?_
      refine ND_2_xy.out _ Ax cx AP cP gx gy _ _ ?_ ?_ BEL104 BOX104 FA_f_104 FA_P_104 KB_f_104 KB_x_104 KB_y_104 NE_f_x NE_f_y NE_x_y
      · first | rfl | kernel_rfl
      · rw [hact.out]; rfl
    exact AllReadyH.nil
  have ND_1_x : Hid (∀ (v : World) (Ax : Option Addr) (cx : Nat) (gx : Nat) (ll : Array Bool) (aa : Act), ll = #[true, true, true, true, false, true, true, false, true, false, true, false, false, false] → aa = ((act0.put (some 43) (.agg #[.int .u64 a0, .slice Ax R cx])).put (some 13) (.pointer (some ⟨gx, 0, none⟩))) → Hid (Below w.heap.size w v) → Hid (Boxes w v [gx, gf]) → Hid (HeldX [gx, gf] (fun uq => SgAt uq (.agg #[.int .u64 a0, .slice Af R cf]) a0 R (fun _ => n) (fun _ _ => 0)) v) → Hid (HeldX [gx, gf] (fun uq => SgAt uq (.agg #[.int .u64 a0, .slice Ax R cx]) a0 R (fun _ => n) (addsG a0 n (fun _ _ => 0) K q m)) v) → Hid (Blk v gf 25 #[.int .u64 a0, .slice Af R cf]) → Hid (Blk v gx 25 #[.int .u64 0, .slice none 0 0]) → Hid (gf ≠ gx) → TT 6 ll aa v) := by
    intro v Ax cx gx ll aa hl hA BEL103 BOX103 FA_f_103 FA_x_103 KB_f_103 KB_x_103 NE_f_x
    rw [hact.out] at hA
    try simp only [Act.put, List.setIfInBounds_toArray, List.set_cons_zero, List.set_cons_succ] at hA
    subst hl hA
    refine hUT.out _ _ _ _ ?_
    refine wpAnyH_ready (rs := [4, 11]) (by kernel_rfl) (by simp) ?_
    refine AllReadyH.cons rfl (fun K0 hK0 => ?_) ?_
    · refine step_func 26 #[.agg #[.int .u64 a0, .slice Ax R cx], .slice Ak p capk] (by rfl) rfl (by simp [Act.eval]) (fun _ _ => by kernel_rfl) ?_
      refine (gadds_any _ _ _ [gx, gf] a0 R n p _ J r FA_x_103.out (fun g hg => (BOX103.out g hg).2) (LB.out.keep (keep_of_below BEL103.out)) OKK2.out uS (by omega) HJ.out).mono ?_
      rintro e wP ⟨AP, cP, rfl, fP, bb⟩
      have BEL104 := h_bel BEL103 bb
      have BOX104 := h_box BOX103 bb
      have FA_f_104 := h_fact FA_f_103 bb
      have FA_x_104 := h_fact FA_x_103 bb
      have KB_f_104 := h_blk KB_f_103 bb
      have KB_x_104 := h_blk KB_x_103 bb
      clear BEL103 BOX103 FA_f_103 FA_x_103 KB_f_103 KB_x_103
      have FA_P_104 : Hid (HeldX [gx, gf] (fun uq => SgAt uq (.agg #[.int .u64 a0, .slice AP R cP]) a0 R (fun _ => n) (addsG a0 n (addsG a0 n (fun _ _ => 0) K q m) J r p)) wP) := fP
      clear bb fP
      clear FA_x_104
      refine ⟨_, rfl, ?_⟩
      refine hK0.out _ _ (by exact KB_f_104.out) (fun hHeld => ?_)
      clear hK0 K0 hHeld
      refine hTU.out _ _ _ _ ?_
      refine ND_2_x.out _ Ax cx AP cP gx _ _ ?_ ?_ BEL104 BOX104 FA_f_104 FA_P_104 KB_f_104 KB_x_104 NE_f_x
      · first | rfl | kernel_rfl
      · rw [hact.out]; rfl
    refine AllReadyH.cons rfl (fun K0 hK0 => ?_) ?_
    · have BEL104 := a_bel BEL103 (.cells #[.int .u64 0, .slice none 0 0] 25)
      have BOX104 := a_box BOX103 BEL103 (.cells #[.int .u64 0, .slice none 0 0] 25)
      have FA_f_104 := a_fact FA_f_103 (.cells #[.int .u64 0, .slice none 0 0] 25)
      have FA_x_104 := a_fact FA_x_103 (.cells #[.int .u64 0, .slice none 0 0] 25)
      have KB_f_104 := a_blk KB_f_103 (.cells #[.int .u64 0, .slice none 0 0] 25)
      have NE_f_y := n_ne KB_f_103
      have KB_x_104 := a_blk KB_x_103 (.cells #[.int .u64 0, .slice none 0 0] 25)
      have NE_x_y := n_ne KB_x_103
      have KB_y_104 := n_blk (u := v) 25 #[.int .u64 0, .slice none 0 0]
      clear BEL103 BOX103 FA_f_103 FA_x_103 KB_f_103 KB_x_103
      go_simp
      generalize (v.alloc (.cells #[.int .u64 0, .slice none 0 0] 25)) = v2 at BEL104 BOX104 FA_f_104 FA_x_104 KB_f_104 KB_x_104 KB_y_104 ⊢
      generalize v.heap.size = gy at BOX104 FA_f_104 FA_x_104 KB_y_104 NE_f_y NE_x_y ⊢
      refine hK0.out _ _ (by exact KB_f_104.out) (fun hHeld => ?_)
      clear hK0 K0 hHeld
      refine hTU.out _ _ _ _ ?_
      refine ND_1_xy.out _ Ax cx gx gy _ _ ?_ ?_ BEL104 BOX104 FA_f_104 FA_x_104 KB_f_104 KB_x_104 KB_y_104 NE_f_x NE_f_y NE_x_y
      · first | rfl | kernel_rfl
      · rw [hact.out]; rfl
    exact AllReadyH.nil
  have ND_1_y : Hid (∀ (v : World) (Ax : Option Addr) (cx : Nat) (gy : Nat) (ll : Array Bool) (aa : Act), ll = #[true, true, true, true, false, true, true, false, true, false, false, true, false, false] → aa = ((act0.put (some 43) (.agg #[.int .u64 a0, .slice Ax R cx])).put (some 14) (.pointer (some ⟨gy, 0, none⟩))) → Hid (Below w.heap.size w v) → Hid (Boxes w v [gy, gf]) → Hid (HeldX [gy, gf] (fun uq => SgAt uq (.agg #[.int .u64 a0, .slice Af R cf]) a0 R (fun _ => n) (fun _ _ => 0)) v) → Hid (HeldX [gy, gf] (fun uq => SgAt uq (.agg #[.int .u64 a0, .slice Ax R cx]) a0 R (fun _ => n) (addsG a0 n (fun _ _ => 0) K q m)) v) → Hid (Blk v gf 25 #[.int .u64 a0, .slice Af R cf]) → Hid (Blk v gy 25 #[.int .u64 0, .slice none 0 0]) → Hid (gf ≠ gy) → TT 6 ll aa v) := by
    intro v Ax cx gy ll aa hl hA BEL103 BOX103 FA_f_103 FA_x_103 KB_f_103 KB_y_103 NE_f_y
    rw [hact.out] at hA
    try simp only [Act.put, List.setIfInBounds_toArray, List.set_cons_zero, List.set_cons_succ] at hA
    subst hl hA
    refine hUT.out _ _ _ _ ?_
    refine wpAnyH_ready (rs := [4, 10]) (by kernel_rfl) (by simp) ?_
    refine AllReadyH.cons rfl (fun K0 hK0 => ?_) ?_
    · refine step_func 26 #[.agg #[.int .u64 a0, .slice Ax R cx], .slice Ak p capk] (by rfl) rfl (by simp [Act.eval]) (fun _ _ => by kernel_rfl) ?_
      refine (gadds_any _ _ _ [gy, gf] a0 R n p _ J r FA_x_103.out (fun g hg => (BOX103.out g hg).2) (LB.out.keep (keep_of_below BEL103.out)) OKK2.out uS (by omega) HJ.out).mono ?_
      rintro e wP ⟨AP, cP, rfl, fP, bb⟩
      have BEL104 := h_bel BEL103 bb
      have BOX104 := h_box BOX103 bb
      have FA_f_104 := h_fact FA_f_103 bb
      have FA_x_104 := h_fact FA_x_103 bb
      have KB_f_104 := h_blk KB_f_103 bb
      have KB_y_104 := h_blk KB_y_103 bb
      clear BEL103 BOX103 FA_f_103 FA_x_103 KB_f_103 KB_y_103
      have FA_P_104 : Hid (HeldX [gy, gf] (fun uq => SgAt uq (.agg #[.int .u64 a0, .slice AP R cP]) a0 R (fun _ => n) (addsG a0 n (addsG a0 n (fun _ _ => 0) K q m) J r p)) wP) := fP
      clear bb fP
      clear FA_x_104
      refine ⟨_, rfl, ?_⟩
      refine hK0.out _ _ (by exact KB_f_104.out) (fun hHeld => ?_)
      clear hK0 K0 hHeld
      refine hTU.out _ _ _ _ ?_
      refine ND_2_y.out _ Ax cx AP cP gy _ _ ?_ ?_ BEL104 BOX104 FA_f_104 FA_P_104 KB_f_104 KB_y_104 NE_f_y
      · first | rfl | kernel_rfl
      · rw [hact.out]; rfl
    refine AllReadyH.cons rfl (fun K0 hK0 => ?_) ?_
    · have BEL104 := a_bel BEL103 (.cells #[.int .u64 0, .slice none 0 0] 25)
      have BOX104 := a_box BOX103 BEL103 (.cells #[.int .u64 0, .slice none 0 0] 25)
      have FA_f_104 := a_fact FA_f_103 (.cells #[.int .u64 0, .slice none 0 0] 25)
      have FA_x_104 := a_fact FA_x_103 (.cells #[.int .u64 0, .slice none 0 0] 25)
      have KB_f_104 := a_blk KB_f_103 (.cells #[.int .u64 0, .slice none 0 0] 25)
      have NE_f_x := n_ne KB_f_103
      have KB_y_104 := a_blk KB_y_103 (.cells #[.int .u64 0, .slice none 0 0] 25)
      have NE_y_x := n_ne KB_y_103
      have KB_x_104 := n_blk (u := v) 25 #[.int .u64 0, .slice none 0 0]
      clear BEL103 BOX103 FA_f_103 FA_x_103 KB_f_103 KB_y_103
      go_simp
      generalize (v.alloc (.cells #[.int .u64 0, .slice none 0 0] 25)) = v2 at BEL104 BOX104 FA_f_104 FA_x_104 KB_f_104 KB_y_104 KB_x_104 ⊢
      generalize v.heap.size = gx at BOX104 FA_f_104 FA_x_104 KB_x_104 NE_f_x NE_y_x ⊢
      refine hK0.out _ _ (by exact KB_f_104.out) (fun hHeld => ?_)
      clear hK0 K0 hHeld
      refine hTU.out _ _ _ _ ?_
      refine ND_1_xy.out _ Ax cx gx gy _ _ ?_ ?_ BEL104 (b_perm BOX104 (by intro p m; simp only [List.mem_cons, List.not_mem_nil, or_false] at m ⊢; omega)) (h_perm FA_f_104 (by intro p m; simp only [List.mem_cons, List.not_mem_nil, or_false] at m ⊢; omega)) (h_perm FA_x_104 (by intro p m; simp only [List.mem_cons, List.not_mem_nil, or_false] at m ⊢; omega)) KB_f_104 KB_x_104 KB_y_104 NE_f_x NE_f_y (n_sym NE_y_x)
      · first | rfl | kernel_rfl
      · rw [hact.out]; rfl
    exact AllReadyH.nil
  have ND_1_ : Hid (∀ (v : World) (Ax : Option Addr) (cx : Nat) (ll : Array Bool) (aa : Act), ll = #[true, true, true, true, false, true, true, false, true, false, false, false, false, false] → aa = (act0.put (some 43) (.agg #[.int .u64 a0, .slice Ax R cx])) → Hid (Below w.heap.size w v) → Hid (Boxes w v [gf]) → Hid (HeldX [gf] (fun uq => SgAt uq (.agg #[.int .u64 a0, .slice Af R cf]) a0 R (fun _ => n) (fun _ _ => 0)) v) → Hid (HeldX [gf] (fun uq => SgAt uq (.agg #[.int .u64 a0, .slice Ax R cx]) a0 R (fun _ => n) (addsG a0 n (fun _ _ => 0) K q m)) v) → Hid (Blk v gf 25 #[.int .u64 a0, .slice Af R cf]) → TT 7 ll aa v) := by
    intro v Ax cx ll aa hl hA BEL103 BOX103 FA_f_103 FA_x_103 KB_f_103
    rw [hact.out] at hA
    try simp only [Act.put, List.setIfInBounds_toArray, List.set_cons_zero, List.set_cons_succ] at hA
    subst hl hA
    refine hUT.out _ _ _ _ ?_
    refine wpAnyH_ready (rs := [4, 10, 11]) (by kernel_rfl) (by simp) ?_
    refine AllReadyH.cons rfl (fun K0 hK0 => ?_) ?_
    · refine step_func 26 #[.agg #[.int .u64 a0, .slice Ax R cx], .slice Ak p capk] (by rfl) rfl (by simp [Act.eval]) (fun _ _ => by kernel_rfl) ?_
      refine (gadds_any _ _ _ [gf] a0 R n p _ J r FA_x_103.out (fun g hg => (BOX103.out g hg).2) (LB.out.keep (keep_of_below BEL103.out)) OKK2.out uS (by omega) HJ.out).mono ?_
      rintro e wP ⟨AP, cP, rfl, fP, bb⟩
      have BEL104 := h_bel BEL103 bb
      have BOX104 := h_box BOX103 bb
      have FA_f_104 := h_fact FA_f_103 bb
      have FA_x_104 := h_fact FA_x_103 bb
      have KB_f_104 := h_blk KB_f_103 bb
      clear BEL103 BOX103 FA_f_103 FA_x_103 KB_f_103
      have FA_P_104 : Hid (HeldX [gf] (fun uq => SgAt uq (.agg #[.int .u64 a0, .slice AP R cP]) a0 R (fun _ => n) (addsG a0 n (addsG a0 n (fun _ _ => 0) K q m) J r p)) wP) := fP
      clear bb fP
      clear FA_x_104
      refine ⟨_, rfl, ?_⟩
      refine hK0.out _ _ (by exact KB_f_104.out) (fun hHeld => ?_)
      clear hK0 K0 hHeld
      refine hTU.out _ _ _ _ ?_
      refine ND_2_.out _ Ax cx AP cP _ _ ?_ ?_ BEL104 BOX104 FA_f_104 FA_P_104 KB_f_104
      · first | rfl | kernel_rfl
      · rw [hact.out]; rfl
    refine AllReadyH.cons rfl (fun K0 hK0 => ?_) ?_
    · have BEL104 := a_bel BEL103 (.cells #[.int .u64 0, .slice none 0 0] 25)
      have BOX104 := a_box BOX103 BEL103 (.cells #[.int .u64 0, .slice none 0 0] 25)
      have FA_f_104 := a_fact FA_f_103 (.cells #[.int .u64 0, .slice none 0 0] 25)
      have FA_x_104 := a_fact FA_x_103 (.cells #[.int .u64 0, .slice none 0 0] 25)
      have KB_f_104 := a_blk KB_f_103 (.cells #[.int .u64 0, .slice none 0 0] 25)
      have NE_f_x := n_ne KB_f_103
      have KB_x_104 := n_blk (u := v) 25 #[.int .u64 0, .slice none 0 0]
      clear BEL103 BOX103 FA_f_103 FA_x_103 KB_f_103
      go_simp
      generalize (v.alloc (.cells #[.int .u64 0, .slice none 0 0] 25)) = v2 at BEL104 BOX104 FA_f_104 FA_x_104 KB_f_104 KB_x_104 ⊢
      generalize v.heap.size = gx at BOX104 FA_f_104 FA_x_104 KB_x_104 NE_f_x ⊢
      refine hK0.out _ _ (by exact KB_f_104.out) (fun hHeld => ?_)
      clear hK0 K0 hHeld
      refine hTU.out _ _ _ _ ?_
      refine ND_1_x.out _ Ax cx gx _ _ ?_ ?_ BEL104 BOX104 FA_f_104 FA_x_104 KB_f_104 KB_x_104 NE_f_x
      · first | rfl | kernel_rfl
      · rw [hact.out]; rfl
    refine AllReadyH.cons rfl (fun K0 hK0 => ?_) ?_
    · have BEL104 := a_bel BEL103 (.cells #[.int .u64 0, .slice none 0 0] 25)
      have BOX104 := a_box BOX103 BEL103 (.cells #[.int .u64 0, .slice none 0 0] 25)
      have FA_f_104 := a_fact FA_f_103 (.cells #[.int .u64 0, .slice none 0 0] 25)
      have FA_x_104 := a_fact FA_x_103 (.cells #[.int .u64 0, .slice none 0 0] 25)
      have KB_f_104 := a_blk KB_f_103 (.cells #[.int .u64 0, .slice none 0 0] 25)
      have NE_f_y := n_ne KB_f_103
      have KB_y_104 := n_blk (u := v) 25 #[.int .u64 0, .slice none 0 0]
      clear BEL103 BOX103 FA_f_103 FA_x_103 KB_f_103
      go_simp
      generalize (v.alloc (.cells #[.int .u64 0, .slice none 0 0] 25)) = v2 at BEL104 BOX104 FA_f_104 FA_x_104 KB_f_104 KB_y_104 ⊢
      generalize v.heap.size = gy at BOX104 FA_f_104 FA_x_104 KB_y_104 NE_f_y ⊢
      refine hK0.out _ _ (by exact KB_f_104.out) (fun hHeld => ?_)
      clear hK0 K0 hHeld
      refine hTU.out _ _ _ _ ?_
      refine ND_1_y.out _ Ax cx gy _ _ ?_ ?_ BEL104 BOX104 FA_f_104 FA_x_104 KB_f_104 KB_y_104 NE_f_y
      · first | rfl | kernel_rfl
      · rw [hact.out]; rfl
    exact AllReadyH.nil
  have ND_0_xy : Hid (∀ (v : World) (gx : Nat) (gy : Nat) (ll : Array Bool) (aa : Act), ll = #[true, true, false, true, false, true, true, false, true, false, true, true, false, false] → aa = ((act0.put (some 13) (.pointer (some ⟨gx, 0, none⟩))).put (some 14) (.pointer (some ⟨gy, 0, none⟩))) → Hid (Below w.heap.size w v) → Hid (Boxes w v [gy, gx, gf]) → Hid (HeldX [gy, gx, gf] (fun uq => SgAt uq (.agg #[.int .u64 a0, .slice Af R cf]) a0 R (fun _ => n) (fun _ _ => 0)) v) → Hid (Blk v gf 25 #[.int .u64 a0, .slice Af R cf]) → Hid (Blk v gx 25 #[.int .u64 0, .slice none 0 0]) → Hid (Blk v gy 25 #[.int .u64 0, .slice none 0 0]) → Hid (gf ≠ gx) → Hid (gf ≠ gy) → Hid (gx ≠ gy) → TT 6 ll aa v) := by
    intro v gx gy ll aa hl hA BEL103 BOX103 FA_f_103 KB_f_103 KB_x_103 KB_y_103 NE_f_x NE_f_y NE_x_y
    rw [hact.out] at hA
    try simp only [Act.put, List.setIfInBounds_toArray, List.set_cons_zero, List.set_cons_succ] at hA
    subst hl hA
    refine hUT.out _ _ _ _ ?_
    refine wpAnyH_ready (rs := [2]) (by kernel_rfl) (by simp) ?_
    refine AllReadyH.cons rfl (fun K0 hK0 => ?_) ?_
    · refine step_func 26 #[.agg #[.int .u64 a0, .slice Af R cf], .slice Al m capl] (by rfl) rfl (by simp [Act.eval]) (fun _ _ => by kernel_rfl) ?_
      refine (gadds_any _ _ _ [gy, gx, gf] a0 R n m _ K q FA_f_103.out (fun g hg => (BOX103.out g hg).2) (LA.out.keep (keep_of_below BEL103.out)) OKK1.out uS (by omega) HK.out).mono ?_
      rintro e wx ⟨Ax, cx, rfl, fx, bb⟩
      have BEL104 := h_bel BEL103 bb
      have BOX104 := h_box BOX103 bb
      have FA_f_104 := h_fact FA_f_103 bb
      have KB_f_104 := h_blk KB_f_103 bb
      have KB_x_104 := h_blk KB_x_103 bb
      have KB_y_104 := h_blk KB_y_103 bb
      clear BEL103 BOX103 FA_f_103 KB_f_103 KB_x_103 KB_y_103
      have FA_x_104 : Hid (HeldX [gy, gx, gf] (fun uq => SgAt uq (.agg #[.int .u64 a0, .slice Ax R cx]) a0 R (fun _ => n) (addsG a0 n (fun _ _ => 0) K q m)) wx) := fx
      clear bb fx
      refine ⟨_, rfl, ?_⟩
      refine hK0.out _ _ (by exact KB_f_104.out) (fun hHeld => ?_)
      clear hK0 K0 hHeld
      refine hTU.out _ _ _ _ ?_
      refine ND_1_xy.out _ Ax cx gx gy _ _ ?_ ?_ BEL104 BOX104 FA_f_104 FA_x_104 KB_f_104 KB_x_104 KB_y_104 NE_f_x NE_f_y NE_x_y
      · first | rfl | kernel_rfl
      · rw [hact.out]; rfl
    exact AllReadyH.nil
  have ND_0_x : Hid (∀ (v : World) (gx : Nat) (ll : Array Bool) (aa : Act), ll = #[true, true, false, true, false, true, true, false, true, false, true, false, false, false] → aa = (act0.put (some 13) (.pointer (some ⟨gx, 0, none⟩))) → Hid (Below w.heap.size w v) → Hid (Boxes w v [gx, gf]) → Hid (HeldX [gx, gf] (fun uq => SgAt uq (.agg #[.int .u64 a0, .slice Af R cf]) a0 R (fun _ => n) (fun _ _ => 0)) v) → Hid (Blk v gf 25 #[.int .u64 a0, .slice Af R cf]) → Hid (Blk v gx 25 #[.int .u64 0, .slice none 0 0]) → Hid (gf ≠ gx) → TT 7 ll aa v) := by
    intro v gx ll aa hl hA BEL103 BOX103 FA_f_103 KB_f_103 KB_x_103 NE_f_x
    rw [hact.out] at hA
    try simp only [Act.put, List.setIfInBounds_toArray, List.set_cons_zero, List.set_cons_succ] at hA
    subst hl hA
    refine hUT.out _ _ _ _ ?_
    refine wpAnyH_ready (rs := [2, 11]) (by kernel_rfl) (by simp) ?_
    refine AllReadyH.cons rfl (fun K0 hK0 => ?_) ?_
    · refine step_func 26 #[.agg #[.int .u64 a0, .slice Af R cf], .slice Al m capl] (by rfl) rfl (by simp [Act.eval]) (fun _ _ => by kernel_rfl) ?_
      refine (gadds_any _ _ _ [gx, gf] a0 R n m _ K q FA_f_103.out (fun g hg => (BOX103.out g hg).2) (LA.out.keep (keep_of_below BEL103.out)) OKK1.out uS (by omega) HK.out).mono ?_
      rintro e wx ⟨Ax, cx, rfl, fx, bb⟩
      have BEL104 := h_bel BEL103 bb
      have BOX104 := h_box BOX103 bb
      have FA_f_104 := h_fact FA_f_103 bb
      have KB_f_104 := h_blk KB_f_103 bb
      have KB_x_104 := h_blk KB_x_103 bb
      clear BEL103 BOX103 FA_f_103 KB_f_103 KB_x_103
      have FA_x_104 : Hid (HeldX [gx, gf] (fun uq => SgAt uq (.agg #[.int .u64 a0, .slice Ax R cx]) a0 R (fun _ => n) (addsG a0 n (fun _ _ => 0) K q m)) wx) := fx
      clear bb fx
      refine ⟨_, rfl, ?_⟩
      refine hK0.out _ _ (by exact KB_f_104.out) (fun hHeld => ?_)
      clear hK0 K0 hHeld
      refine hTU.out _ _ _ _ ?_
      refine ND_1_x.out _ Ax cx gx _ _ ?_ ?_ BEL104 BOX104 FA_f_104 FA_x_104 KB_f_104 KB_x_104 NE_f_x
      · first | rfl | kernel_rfl
      · rw [hact.out]; rfl
    refine AllReadyH.cons rfl (fun K0 hK0 => ?_) ?_
    · have BEL104 := a_bel BEL103 (.cells #[.int .u64 0, .slice none 0 0] 25)
      have BOX104 := a_box BOX103 BEL103 (.cells #[.int .u64 0, .slice none 0 0] 25)
      have FA_f_104 := a_fact FA_f_103 (.cells #[.int .u64 0, .slice none 0 0] 25)
      have KB_f_104 := a_blk KB_f_103 (.cells #[.int .u64 0, .slice none 0 0] 25)
      have NE_f_y := n_ne KB_f_103
      have KB_x_104 := a_blk KB_x_103 (.cells #[.int .u64 0, .slice none 0 0] 25)
      have NE_x_y := n_ne KB_x_103
      have KB_y_104 := n_blk (u := v) 25 #[.int .u64 0, .slice none 0 0]
      clear BEL103 BOX103 FA_f_103 KB_f_103 KB_x_103
      go_simp
      generalize (v.alloc (.cells #[.int .u64 0, .slice none 0 0] 25)) = v2 at BEL104 BOX104 FA_f_104 KB_f_104 KB_x_104 KB_y_104 ⊢
      generalize v.heap.size = gy at BOX104 FA_f_104 KB_y_104 NE_f_y NE_x_y ⊢
      refine hK0.out _ _ (by exact KB_f_104.out) (fun hHeld => ?_)
      clear hK0 K0 hHeld
      refine hTU.out _ _ _ _ ?_
      refine ND_0_xy.out _ gx gy _ _ ?_ ?_ BEL104 BOX104 FA_f_104 KB_f_104 KB_x_104 KB_y_104 NE_f_x NE_f_y NE_x_y
      · first | rfl | kernel_rfl
      · rw [hact.out]; rfl
    exact AllReadyH.nil
  have ND_0_y : Hid (∀ (v : World) (gy : Nat) (ll : Array Bool) (aa : Act), ll = #[true, true, false, true, false, true, true, false, true, false, false, true, false, false] → aa = (act0.put (some 14) (.pointer (some ⟨gy, 0, none⟩))) → Hid (Below w.heap.size w v) → Hid (Boxes w v [gy, gf]) → Hid (HeldX [gy, gf] (fun uq => SgAt uq (.agg #[.int .u64 a0, .slice Af R cf]) a0 R (fun _ => n) (fun _ _ => 0)) v) → Hid (Blk v gf 25 #[.int .u64 a0, .slice Af R cf]) → Hid (Blk v gy 25 #[.int .u64 0, .slice none 0 0]) → Hid (gf ≠ gy) → TT 7 ll aa v) := by
    intro v gy ll aa hl hA BEL103 BOX103 FA_f_103 KB_f_103 KB_y_103 NE_f_y
    rw [hact.out] at hA
    try simp only [Act.put, List.setIfInBounds_toArray, List.set_cons_zero, List.set_cons_succ] at hA
    subst hl hA
    refine hUT.out _ _ _ _ ?_
    refine wpAnyH_ready (rs := [2, 10]) (by kernel_rfl) (by simp) ?_
    refine AllReadyH.cons rfl (fun K0 hK0 => ?_) ?_
    · refine step_func 26 #[.agg #[.int .u64 a0, .slice Af R cf], .slice Al m capl] (by rfl) rfl (by simp [Act.eval]) (fun _ _ => by kernel_rfl) ?_
      refine (gadds_any _ _ _ [gy, gf] a0 R n m _ K q FA_f_103.out (fun g hg => (BOX103.out g hg).2) (LA.out.keep (keep_of_below BEL103.out)) OKK1.out uS (by omega) HK.out).mono ?_
      rintro e wx ⟨Ax, cx, rfl, fx, bb⟩
      have BEL104 := h_bel BEL103 bb
      have BOX104 := h_box BOX103 bb
      have FA_f_104 := h_fact FA_f_103 bb
      have KB_f_104 := h_blk KB_f_103 bb
      have KB_y_104 := h_blk KB_y_103 bb
      clear BEL103 BOX103 FA_f_103 KB_f_103 KB_y_103
      have FA_x_104 : Hid (HeldX [gy, gf] (fun uq => SgAt uq (.agg #[.int .u64 a0, .slice Ax R cx]) a0 R (fun _ => n) (addsG a0 n (fun _ _ => 0) K q m)) wx) := fx
      clear bb fx
      refine ⟨_, rfl, ?_⟩
      refine hK0.out _ _ (by exact KB_f_104.out) (fun hHeld => ?_)
      clear hK0 K0 hHeld
      refine hTU.out _ _ _ _ ?_
      refine ND_1_y.out _ Ax cx gy _ _ ?_ ?_ BEL104 BOX104 FA_f_104 FA_x_104 KB_f_104 KB_y_104 NE_f_y
      · first | rfl | kernel_rfl
      · rw [hact.out]; rfl
    refine AllReadyH.cons rfl (fun K0 hK0 => ?_) ?_
    · have BEL104 := a_bel BEL103 (.cells #[.int .u64 0, .slice none 0 0] 25)
      have BOX104 := a_box BOX103 BEL103 (.cells #[.int .u64 0, .slice none 0 0] 25)
      have FA_f_104 := a_fact FA_f_103 (.cells #[.int .u64 0, .slice none 0 0] 25)
      have KB_f_104 := a_blk KB_f_103 (.cells #[.int .u64 0, .slice none 0 0] 25)
      have NE_f_x := n_ne KB_f_103
      have KB_y_104 := a_blk KB_y_103 (.cells #[.int .u64 0, .slice none 0 0] 25)
      have NE_y_x := n_ne KB_y_103
      have KB_x_104 := n_blk (u := v) 25 #[.int .u64 0, .slice none 0 0]
      clear BEL103 BOX103 FA_f_103 KB_f_103 KB_y_103
      go_simp
      generalize (v.alloc (.cells #[.int .u64 0, .slice none 0 0] 25)) = v2 at BEL104 BOX104 FA_f_104 KB_f_104 KB_y_104 KB_x_104 ⊢
      generalize v.heap.size = gx at BOX104 FA_f_104 KB_x_104 NE_f_x NE_y_x ⊢
      refine hK0.out _ _ (by exact KB_f_104.out) (fun hHeld => ?_)
      clear hK0 K0 hHeld
      refine hTU.out _ _ _ _ ?_
      refine ND_0_xy.out _ gx gy _ _ ?_ ?_ BEL104 (b_perm BOX104 (by intro p m; simp only [List.mem_cons, List.not_mem_nil, or_false] at m ⊢; omega)) (h_perm FA_f_104 (by intro p m; simp only [List.mem_cons, List.not_mem_nil, or_false] at m ⊢; omega)) KB_f_104 KB_x_104 KB_y_104 NE_f_x NE_f_y (n_sym NE_y_x)
      · first | rfl | kernel_rfl
      · rw [hact.out]; rfl
    exact AllReadyH.nil
  have ND_0_ : Hid (∀ (v : World)  (ll : Array Bool) (aa : Act), ll = #[true, true, false, true, false, true, true, false, true, false, false, false, false, false] → aa = act0 → Hid (Below w.heap.size w v) → Hid (Boxes w v [gf]) → Hid (HeldX [gf] (fun uq => SgAt uq (.agg #[.int .u64 a0, .slice Af R cf]) a0 R (fun _ => n) (fun _ _ => 0)) v) → Hid (Blk v gf 25 #[.int .u64 a0, .slice Af R cf]) → TT 8 ll aa v) := by
    intro v  ll aa hl hA BEL103 BOX103 FA_f_103 KB_f_103
    rw [hact.out] at hA
    try simp only [Act.put, List.setIfInBounds_toArray, List.set_cons_zero, List.set_cons_succ] at hA
    subst hl hA
    refine hUT.out _ _ _ _ ?_
    refine wpAnyH_ready (rs := [2, 10, 11]) (by kernel_rfl) (by simp) ?_
    refine AllReadyH.cons rfl (fun K0 hK0 => ?_) ?_
    · refine step_func 26 #[.agg #[.int .u64 a0, .slice Af R cf], .slice Al m capl] (by rfl) rfl (by simp [Act.eval]) (fun _ _ => by kernel_rfl) ?_
      refine (gadds_any _ _ _ [gf] a0 R n m _ K q FA_f_103.out (fun g hg => (BOX103.out g hg).2) (LA.out.keep (keep_of_below BEL103.out)) OKK1.out uS (by omega) HK.out).mono ?_
      rintro e wx ⟨Ax, cx, rfl, fx, bb⟩
      have BEL104 := h_bel BEL103 bb
      have BOX104 := h_box BOX103 bb
      have FA_f_104 := h_fact FA_f_103 bb
      have KB_f_104 := h_blk KB_f_103 bb
      clear BEL103 BOX103 FA_f_103 KB_f_103
      have FA_x_104 : Hid (HeldX [gf] (fun uq => SgAt uq (.agg #[.int .u64 a0, .slice Ax R cx]) a0 R (fun _ => n) (addsG a0 n (fun _ _ => 0) K q m)) wx) := fx
      clear bb fx
      refine ⟨_, rfl, ?_⟩
      refine hK0.out _ _ (by exact KB_f_104.out) (fun hHeld => ?_)
      clear hK0 K0 hHeld
      refine hTU.out _ _ _ _ ?_
      refine ND_1_.out _ Ax cx _ _ ?_ ?_ BEL104 BOX104 FA_f_104 FA_x_104 KB_f_104
      · first | rfl | kernel_rfl
      · rw [hact.out]; rfl
    refine AllReadyH.cons rfl (fun K0 hK0 => ?_) ?_
    · have BEL104 := a_bel BEL103 (.cells #[.int .u64 0, .slice none 0 0] 25)
      have BOX104 := a_box BOX103 BEL103 (.cells #[.int .u64 0, .slice none 0 0] 25)
      have FA_f_104 := a_fact FA_f_103 (.cells #[.int .u64 0, .slice none 0 0] 25)
      have KB_f_104 := a_blk KB_f_103 (.cells #[.int .u64 0, .slice none 0 0] 25)
      have NE_f_x := n_ne KB_f_103
      have KB_x_104 := n_blk (u := v) 25 #[.int .u64 0, .slice none 0 0]
      clear BEL103 BOX103 FA_f_103 KB_f_103
      go_simp
      generalize (v.alloc (.cells #[.int .u64 0, .slice none 0 0] 25)) = v2 at BEL104 BOX104 FA_f_104 KB_f_104 KB_x_104 ⊢
      generalize v.heap.size = gx at BOX104 FA_f_104 KB_x_104 NE_f_x ⊢
      refine hK0.out _ _ (by exact KB_f_104.out) (fun hHeld => ?_)
      clear hK0 K0 hHeld
      refine hTU.out _ _ _ _ ?_
      refine ND_0_x.out _ gx _ _ ?_ ?_ BEL104 BOX104 FA_f_104 KB_f_104 KB_x_104 NE_f_x
      · first | rfl | kernel_rfl
      · rw [hact.out]; rfl
    refine AllReadyH.cons rfl (fun K0 hK0 => ?_) ?_
    · have BEL104 := a_bel BEL103 (.cells #[.int .u64 0, .slice none 0 0] 25)
      have BOX104 := a_box BOX103 BEL103 (.cells #[.int .u64 0, .slice none 0 0] 25)
      have FA_f_104 := a_fact FA_f_103 (.cells #[.int .u64 0, .slice none 0 0] 25)
      have KB_f_104 := a_blk KB_f_103 (.cells #[.int .u64 0, .slice none 0 0] 25)
      have NE_f_y := n_ne KB_f_103
      have KB_y_104 := n_blk (u := v) 25 #[.int .u64 0, .slice none 0 0]
      clear BEL103 BOX103 FA_f_103 KB_f_103
      go_simp
      generalize (v.alloc (.cells #[.int .u64 0, .slice none 0 0] 25)) = v2 at BEL104 BOX104 FA_f_104 KB_f_104 KB_y_104 ⊢
      generalize v.heap.size = gy at BOX104 FA_f_104 KB_y_104 NE_f_y ⊢
      refine hK0.out _ _ (by exact KB_f_104.out) (fun hHeld => ?_)
      clear hK0 K0 hHeld
      refine hTU.out _ _ _ _ ?_
      refine ND_0_y.out _ gy _ _ ?_ ?_ BEL104 BOX104 FA_f_104 KB_f_104 KB_y_104 NE_f_y
      · first | rfl | kernel_rfl
      · rw [hact.out]; rfl
    exact AllReadyH.nil
  refine ND_0_.out _  _ _ ?_ ?_ BEL3 BOX3 FA_f_3 KB_f_3
  · first | rfl | kernel_rfl
  · rfl

/-! ### The row -/
theorem laidOut : laidOutB Try.prog = true := by kernel_rfl
set_option maxRecDepth 100000 in
theorem lifted (os : Os) (started : os.Started) (H : Type) (enc : TypeId × Value → H) :
    ReturnsInHanded {} Try.checked os 6 .any (Rows.signedOrderSpec.pre6 enc Try.prog Try.f6 Rows.signedOrderRow.domain false) (Rows.signedOrderSpec.post enc Try.prog Try.f6 false true false false) := by
  refine returnsInHanded_of_change (C := Try.checked) own started (by kernel_rfl) Try.func6
    (ChangeSpec.witness6 (enc := enc) (C := Try.checked) false ⟨#[], #[.int .u64 0, .int .i64 0, .int .i64 0, .slice none 0 0, .slice none 0 0], []⟩ 8 (by kernel_rfl) (by kernel_rfl) (by kernel_rfl) (by kernel_rfl)) ?_
  intro W base args ds gs before hval0 hW hcnd _
  have hval : ∀ (j : Nat) t v, Try.f6.params[j]? = some t → args[j]? = some v → Value.okWide Try.prog W .any base t v := hval0
  have hW' := hW
  obtain ⟨p, q, hA0, hV, rfl, hfz, hnd⟩ := hW
  have hA : DataW.TrodAll enc Try.prog W 0 (fun _ => true) true Try.f6.params.toList args.toList ds p := hA0
  rw [Try.params6] at hA hval
  obtain ⟨v0, vs0, d0, ds0, p0, q0, hargs, rfl, rfl, h0, r0⟩ := trodAll_cons hA
  obtain ⟨v1, vs1, d1, ds1, p1, q1, rfl, rfl, rfl, h1, r1⟩ := trodAll_cons r0
  obtain ⟨v2, vs2, d2, ds2, p2, q2, rfl, rfl, rfl, h2, r2⟩ := trodAll_cons r1
  obtain ⟨v3, vs3, d3, ds3, p3, q3, rfl, rfl, rfl, h3, r3⟩ := trodAll_cons r2
  obtain ⟨v4, vs4, d4, ds4, p4, q4, rfl, rfl, rfl, h4, r4⟩ := trodAll_cons r3
  obtain ⟨rfl, rfl, rfl⟩ := trodAll_nil r4
  obtain rfl : args = #[v0, v1, v2, v3, v4] := by cases args; simp_all
  obtain ⟨rfl, rfl⟩ := trodVars_none hV
  obtain ⟨a0, rfl, rfl, rfl, w0⟩ := open_int Try.underlying22 (hval 0 22 v0 rfl rfl) h0
  obtain ⟨a1, rfl, rfl, rfl, w1⟩ := open_int Try.underlying3 (hval 1 3 v1 rfl rfl) h1
  obtain ⟨a2, rfl, rfl, rfl, w2⟩ := open_int Try.underlying3 (hval 2 3 v2 rfl rfl) h2
  have k3 := h3
  have lt3 : ∀ x ∈ p3, x.block < W.heap.size := by obtain ⟨m, hm⟩ := k3; exact DataW.trod_lt m _ _ _ hm
  obtain ⟨F3, w3⟩ := open_items (hval 3 50 v3 rfl rfl) h3
  have k4 := h4
  have lt4 : ∀ x ∈ p4, x.block < W.heap.size := by obtain ⟨m, hm⟩ := k4; exact DataW.trod_lt m _ _ _ hm
  obtain ⟨F4, w4⟩ := open_items (hval 4 50 v4 rfl rfl) h4
  clear hA0 hval0
  refine (walk a0 a1 a2 v3 F3 v4 F4 W w0 w1 w2 w3 w4).mono fun e W' ⟨he, bel⟩ => ?_
  subst he
  exact ⟨_, rfl, _, _, _, [], _, [], hW', trodAll_mk1 (shut_bool Try.underlying4 _), (trodAll_cons_mk (shut_int Try.underlying22 w0) (trodAll_cons_mk (shut_int Try.underlying3 w1) (trodAll_cons_mk (shut_int Try.underlying3 w2) (trodAll_cons_mk (Below.trod laidOut (by kernel_rfl) (of_decide_eq_true (by kernel_rfl)) k3 bel lt3) (trodAll_cons_mk (Below.trod laidOut (by kernel_rfl) (of_decide_eq_true (by kernel_rfl)) k4 bel lt4) trodAll_mk0))))), rfl, bel.frame _, fun h => by cases h⟩

theorem over : Rows.signedOrderRow.holds Try.pinned (OpenSpec.ofChange Rows.signedOrderSpec) :=
  OpenClaim.holds_of_wide 6 Try.f6 rfl rfl rfl rfl rfl rfl rfl ⟨rfl, rfl, rfl, rfl, rfl⟩ rfl rfl rfl rfl rfl (by kernel_rfl) Try.func6 (by kernel_rfl)
    (of_decide_eq_true (by kernel_rfl)) (by unfold Func.isWrapper; first | (rw [if_pos (by decide +kernel)]; kernel_rfl) | (rw [if_neg (by decide +kernel)]; exact ⟨rfl, rfl⟩))
    (fun os started H enc _ => lifted os started H enc)

theorem proved : Rows.SignedOrderSaid := over
end Go.Proofs.Ytpjpgcjlbfgkdaa.signedOrder
namespace Go.Proofs.Ytpjpgcjlbfgkdaa
theorem signedOrder_holds : Rows.SignedOrderSaid := signedOrder.proved
#print axioms signedOrder_holds
end Go.Proofs.Ytpjpgcjlbfgkdaa
