
/-
  BitmapGrows: the estimate never falls with a thing more, or a map merged; a thing that comes again turns nothing; the order does not matter. The table math/bits.deBruijn64tab is as the text of the library lays it (the card ties it).
-/
import Derived.Test.YtkfhofgmjhnknaaDoorRows
import Derived.Test.YtkfhofgmjhnknaaDoorCards
import Derived.Test.YtkfhofgmjhnknaaDoorTie
import Derived.Test.YtkfhofgmjhnknaaDoorTab
import Derived.Test.YtkfhofgmjhnknaaDoorBtmAwake
import Derived.Test.YtkfhofgmjhnknaaDoorBtmMerge
import Derived.Test.YtkfhofgmjhnknaaDoorBtmRef
import Derived.Test.YtkfhofgmjhnknaaDoorRegKit
import Derived.WalkKit
import Derived.ProofKit
import Derived.OpenShut
import Derived.ShutString
import Derived.ChangeOld
import Derived.ChangeMaps5
import Derived.Below
import Derived.Carry
import Derived.Laws.StructEq
import Derived.BigQuiet
import Derived.Deep.Cut
import Derived.Deep.CutRange
import Derived.Deep.RegionHeld
import Derived.LaidMore
import Derived.Stop.Joined
import Derived.SevenTiedAt
namespace Go.Proofs.YtkfhofgmjhnknaaDoor.bitmapGrows
open Fm Bl Bm L2 Go.Deep
open Go.ChangeShapes Go.WideShapes Go.ChangeAt Go.RowKit Go.ChangeMaps
set_option linter.unusedVariables false

theorem own : ownKnob Tryd.prog.godebug = none := by kernel_rfl

set_option maxRecDepth 8000 in
set_option maxHeartbeats 40000000 in
theorem walk (a0 a1 a2 : Int) (v3 : Value) (F3 : Lst) (v4 : Value) (F4 : Lst) (w : World) (w0 : (Lit.int .u64 a0).wf = true) (w1 : (Lit.int .i64 a1).wf = true) (w2 : (Lit.int .i64 a2).wf = true) (h3 : StrsIn w v3 F3) (h4 : StrsIn w v4 F4) (hT0 : TabAt 0 Lib.deBruijn64tab w) :
    Calls Tryd.prog 6 #[.int .u64 a0, .int .i64 a1, .int .i64 a2, v3, v4] w fun e w' => e = .returned (.bool true) ∧ Below w.heap.size w w' := by
  have HT : Hid (TabAt 0 Lib.deBruijn64tab w) := hT0
  clear hT0
  have uS : U a0 := bounds_u64 w0
  obtain ⟨m, K⟩ := F3
  obtain ⟨hL, hm, hk⟩ := h3
  obtain ⟨p, J⟩ := F4
  obtain ⟨hM, hp, hj⟩ := h4
  simp only at hL hm hk hM hp hj
  obtain ⟨Al, capl, bl, ol, rfl, _, l3, l4⟩ := id hL
  obtain ⟨Ak, capk, bm, om, rfl, _, _, _⟩ := id hM
  have LA : Hid (StrsAt w (.slice Al m capl) m K) := hL
  have LB : Hid (StrsAt w (.slice Ak p capk) p J) := hM
  have L3 : Hid (0 < m → Al = some ⟨bl, ol, none⟩) := l3
  have L4 : Hid (∀ i, i < m → w.cell? ⟨bl, ol + i, none⟩ = some (.string (K i))) := l4
  clear hL hM l3 l4
  by_cases hf : fitsM a1 a2 = true
  rotate_left
  · have BEL0 : Hid (Below w.heap.size w w) := Below.refl _ _
    have BOX0 : Hid (Boxes w w []) := boxes_none w w
    have hff : fitsM a1 a2 = false := by simpa using hf
    clear hf
    go_enter Tryd.func6, Tryd.ntmps6
    go_wp2_with fail
    refine (mnew_bad a0 a1 a2 _ hff).mono ?_
    rintro e ww1 ⟨rfl, b1⟩
    have BEL1 := h_bel BEL0 b1
    have BOX1 := h_box BOX0 b1
    clear BEL0 BOX0
    clear b1
    have BEL2 := a_bel BEL1 (.cells #[.int .u64 0, .slice none 0 0] 25)
    have BOX2 := a_box BOX1 BEL1 (.cells #[.int .u64 0, .slice none 0 0] 25)
    have KB_f_2 := n_blk (u := ww1) 25 #[.int .u64 0, .slice none 0 0]
    clear BEL1 BOX1
    go_wp2_with fail
    refine (mawake_any _ (tabAt_keep HT.out (keep_of_below BEL2.out))).mono ?_
    rintro e ww99 ⟨rfl, b9⟩
    have BEL3 := h_bel BEL2 b9
    have BOX3 := h_box BOX2 b9
    have KB_f_3 := h_blk KB_f_2 b9
    clear BEL2 BOX2 KB_f_2
    clear b9
    go_wp2_with fail
    go_ret
    exact ⟨rfl, BEL3.out⟩
  have BEL0 : Hid (Below w.heap.size w w) := Below.refl _ _
  have BOX0 : Hid (Boxes w w []) := boxes_none w w
  have hR := (fitsM_iff _ _).1 hf
  obtain ⟨R, rfl⟩ : ∃ R : Nat, a1 = R := ⟨a1.toNat, by omega⟩
  obtain ⟨n, rfl⟩ : ∃ n : Nat, a2 = n := ⟨a2.toNat, by omega⟩
  have r1 : 1 ≤ R := by omega
  have r2 : R ≤ 16 := by omega
  have n1 : 1 ≤ n := by omega
  have n2 : n ≤ 256 := by omega
  have OK : Hid (OkM R n) := okM_fits hf
  clear hR
  go_enter Tryd.func6, Tryd.ntmps6
  go_wp2_with fail
  refine (mnew_ok a0 R n _ hf).mono ?_
  rintro e ww1 ⟨x1, rfl, f1, b1⟩
  obtain ⟨vf, rfl, hvf⟩ := f1.at
  obtain ⟨Af, cf, bbf, oof, rfl, hx1, hx2⟩ := hvf.read
  clear hx1 hx2 hvf
  have FA_f_1 : Hid (HeldX [] (fun uq => MpAt uq (.agg #[.int .u64 a0, .slice Af R cf]) a0 R (fun _ => n) (fun _ _ => false)) ww1) := Held.new f1 BOX0.out
  have BEL1 := h_bel BEL0 b1
  have BOX1 := h_box BOX0 b1
  clear BEL0 BOX0
  clear b1 f1
  clear hf
  have BEL2 := a_bel BEL1 (.cells #[.int .u64 a0, .slice Af R cf] 25)
  have BOX2 := a_box BOX1 BEL1 (.cells #[.int .u64 a0, .slice Af R cf] 25)
  have FA_f_2 := a_fact FA_f_1 (.cells #[.int .u64 a0, .slice Af R cf] 25)
  have KB_f_2 := n_blk (u := ww1) 25 #[.int .u64 a0, .slice Af R cf]
  clear BEL1 BOX1 FA_f_1
  go_wp2_with fail
  refine (mshort_any _ _ m K (LA.out.keep (keep_of_below BEL2.out)) hm hk).mono ?_
  rintro e ww2 ⟨B, rfl, hB, b2⟩
  have HB : Hid (B = true ↔ (m ≤ 40 ∧ ∀ i, i < m → (K i).size ≤ 100)) := hB
  clear hB
  have BEL3 := h_bel BEL2 b2
  have BOX3 := h_box BOX2 b2
  have FA_f_3 := h_fact FA_f_2 b2
  have KB_f_3 := h_blk KB_f_2 b2
  clear BEL2 BOX2 FA_f_2 KB_f_2
  clear b2
  cases B
  · go_wp2_with fail
    refine (mawake_any _ (tabAt_keep HT.out (keep_of_below BEL3.out))).mono ?_
    rintro e ww99 ⟨rfl, b9⟩
    have BEL4 := h_bel BEL3 b9
    have BOX4 := h_box BOX3 b9
    have FA_f_4 := h_fact FA_f_3 b9
    have KB_f_4 := h_blk KB_f_3 b9
    clear BEL3 BOX3 FA_f_3 KB_f_3
    clear b9
    go_wp2_with fail
    go_ret
    exact ⟨rfl, BEL4.out⟩
  obtain ⟨m40, hk2⟩ := HB.out.1 rfl
  have HK : Hid (∀ i, i < m → (K i).size ≤ 100) := hk2
  clear HB hk hk2
  go_wp2_with fail
  refine (mshort_any _ _ p J (LB.out.keep (keep_of_below BEL3.out)) hp hj).mono ?_
  rintro e ww3 ⟨B, rfl, hB, b2⟩
  have HC : Hid (B = true ↔ (p ≤ 40 ∧ ∀ i, i < p → (J i).size ≤ 100)) := hB
  clear hB
  have BEL4 := h_bel BEL3 b2
  have BOX4 := h_box BOX3 b2
  have FA_f_4 := h_fact FA_f_3 b2
  have KB_f_4 := h_blk KB_f_3 b2
  clear BEL3 BOX3 FA_f_3 KB_f_3
  clear b2
  cases B
  · go_wp2_with fail
    refine (mawake_any _ (tabAt_keep HT.out (keep_of_below BEL4.out))).mono ?_
    rintro e ww99 ⟨rfl, b9⟩
    have BEL5 := h_bel BEL4 b9
    have BOX5 := h_box BOX4 b9
    have FA_f_5 := h_fact FA_f_4 b9
    have KB_f_5 := h_blk KB_f_4 b9
    clear BEL4 BOX4 FA_f_4 KB_f_4
    clear b9
    go_wp2_with fail
    go_ret
    exact ⟨rfl, BEL5.out⟩
  obtain ⟨p40, hk2⟩ := HC.out.1 rfl
  have HJ : Hid (∀ i, i < p → (J i).size ≤ 100) := hk2
  clear HC hj hk2
  go_upto_region 4 with fail
  generalize ww3 = u1 at BEL4 BOX4 FA_f_4 KB_f_4 ⊢
  generalize ww1.heap.size = gf at BOX4 FA_f_4 KB_f_4 ⊢
  refine letterQ ?_
  intro QQ hQQ
  have BEL5 := h_bel BEL4 ((Below.refl _ _).drew)
  have BOX5 := h_box BOX4 ((Below.refl _ _).drew)
  have FA_f_5 := h_fact FA_f_4 ((Below.refl _ _).drew)
  have KB_f_5 := h_blk KB_f_4 ((Below.refl _ _).drew)
  clear BEL4 BOX4 FA_f_4 KB_f_4
  refine wp_region_held_drew (S := (fun w' => Blk w' gf 25 #[.int .u64 a0, .slice Af R cf])) (by kernel_rfl) KB_f_5.out (fun hHeld => ?_)
  clear hHeld
  generalize u1.drew = v1 at BEL5 BOX5 FA_f_5 KB_f_5 ⊢
  refine wpAnyH_take (i := 0) (v := ?_) rfl (by kernel_rfl) (by kernel_rfl) (by kernel_rfl) (fun _ _ _ h => h) (Or.inl ⟨by rfl, ?_⟩) KB_f_5.out ?_
  rotate_left
  · intro wq hSw; have cl0 := hSw.cell 0; have cl1 := hSw.cell 1; go_simp; first | done | with_reducible rfl
  simp only [List.getElem_toArray, List.getElem_cons_zero, Act.put, List.setIfInBounds_toArray, List.set_cons_zero, List.set_cons_succ]
  refine wpAnyH_take (i := 1) (v := ?_) rfl (by kernel_rfl) (by kernel_rfl) (by kernel_rfl) (fun _ _ _ h => h) (Or.inl ⟨by rfl, ?_⟩) KB_f_5.out ?_
  rotate_left
  · intro wq hSw; go_simp; first | done | with_reducible rfl
  simp only [List.getElem_toArray, List.getElem_cons_zero, List.getElem_cons_succ, Act.put, List.setIfInBounds_toArray, List.set_cons_zero, List.set_cons_succ]
  refine wpAnyH_take (i := 3) (v := ?_) rfl (by kernel_rfl) (by kernel_rfl) (by kernel_rfl) (fun _ _ _ h => h) (Or.inl ⟨by rfl, ?_⟩) KB_f_5.out ?_
  rotate_left
  · intro wq hSw; have cl0 := hSw.cell 0; have cl1 := hSw.cell 1; go_simp; first | done | with_reducible rfl
  simp only [List.getElem_toArray, List.getElem_cons_zero, List.getElem_cons_succ, Act.put, List.setIfInBounds_toArray, List.set_cons_zero, List.set_cons_succ]
  refine wpAnyH_take (i := 4) (v := ?_) rfl (by kernel_rfl) (by kernel_rfl) (by kernel_rfl) (fun _ _ _ h => h) (Or.inl ⟨by rfl, ?_⟩) KB_f_5.out ?_
  rotate_left
  · intro wq hSw; go_simp; first | done | with_reducible rfl
  simp only [List.getElem_toArray, List.getElem_cons_zero, List.getElem_cons_succ, Act.put, List.setIfInBounds_toArray, List.set_cons_zero, List.set_cons_succ]
  refine letterT (T := wpAnyH _ _ _ _ _) ?_
  intro TT hTU hUT
  refine letterA ?_
  intro act0 hact
  have ND_2_xy : Hid (∀ (v : World) (Ax : Option Addr) (cx : Nat) (Ay : Option Addr) (cy : Nat) (gx : Nat) (gy : Nat) (ll : Array Bool) (aa : Act), ll = #[true, true, true, true, true, true, true, true, false, false] → aa = ((((act0.put (some 45) (.agg #[.int .u64 a0, .slice Ax R cx])).put (some 48) (.agg #[.int .u64 a0, .slice Ay R cy])).put (some 13) (.pointer (some ⟨gx, 0, none⟩))).put (some 14) (.pointer (some ⟨gy, 0, none⟩))) → Hid (Below w.heap.size w v) → Hid (Boxes w v [gy, gx, gf]) → Hid (HeldX [gy, gx, gf] (fun uq => MpAt uq (.agg #[.int .u64 a0, .slice Af R cf]) a0 R (fun _ => n) (fun _ _ => false)) v) → Hid (HeldX [gy, gx, gf] (fun uq => MpAt uq (.agg #[.int .u64 a0, .slice Ax R cx]) a0 R (fun _ => n) (addsM a0 R n (fun _ _ => false) K m)) v) → Hid (HeldX [gy, gx, gf] (fun uq => MpAt uq (.agg #[.int .u64 a0, .slice Ay R cy]) a0 R (fun _ => n) (addsM a0 R n (fun _ _ => false) J p)) v) → Hid (Blk v gf 25 #[.int .u64 a0, .slice Af R cf]) → Hid (Blk v gx 25 #[.int .u64 0, .slice none 0 0]) → Hid (Blk v gy 25 #[.int .u64 0, .slice none 0 0]) → Hid (gf ≠ gx) → Hid (gf ≠ gy) → Hid (gx ≠ gy) → TT 2 ll aa v) := by
    intro v Ax cx Ay cy gx gy ll aa hl hA BEL105 BOX105 FA_f_105 FA_x_105 FA_y_105 KB_f_105 KB_x_105 KB_y_105 NE_f_x NE_f_y NE_x_y
    rw [hact.out] at hA
    try simp only [Act.put, List.setIfInBounds_toArray, List.set_cons_zero, List.set_cons_succ] at hA
    subst hl hA
    refine hUT.out _ _ _ _ ?_
    refine wpAnyH_ready (rs := [8]) (by kernel_rfl) (by simp) ?_
    refine AllReadyH.cons rfl (fun K0 hK0 => ?_) ?_
    rotate_left
    · exact AllReadyH.nil
    have CE_x_0 : v.cell? ⟨gx, 0, none⟩ = some (.int .u64 0) := KB_x_105.out.cell 0
    have CF_x_0 : v.frozen? ⟨gx, 0, none⟩ = false := KB_x_105.out.frozen 0
    have CE_x_1 : v.cell? ⟨gx, 1, none⟩ = some (.slice none 0 0) := KB_x_105.out.cell 1
    have CF_x_1 : v.frozen? ⟨gx, 1, none⟩ = false := KB_x_105.out.frozen 1
    have CE_x_lt : gx < v.heap.size := KB_x_105.out.lt
    go_simp
    clear CE_x_0 CF_x_0 CE_x_1 CF_x_1 CE_x_lt
    obtain ⟨vs1, hv⟩ : ∃ q, q = ((v.setCell ⟨gx, 0, none⟩ (.int .u64 a0)).setCell ⟨gx, 1, none⟩ (.slice Ax R cx)) := ⟨_, rfl⟩
    rw [← hv]
    have pe : vs1 = putCells v gx 0 [.int .u64 a0, .slice Ax R cx] := hv
    clear hv
    have BEL106 := p_bel pe BEL105 BOX105 (List.mem_cons_of_mem _ List.mem_cons_self)
    have BOX106 := p_box pe BOX105
    have FA_f_106 := p_fact pe FA_f_105 (List.mem_cons_of_mem _ List.mem_cons_self)
    have FA_x_106 := p_fact pe FA_x_105 (List.mem_cons_of_mem _ List.mem_cons_self)
    have FA_y_106 := p_fact pe FA_y_105 (List.mem_cons_of_mem _ List.mem_cons_self)
    have KB_f_106 := p_oth pe KB_f_105 NE_f_x
    have KB_x_106 : Hid (Blk vs1 gx 25 #[.int .u64 a0, .slice Ax R cx]) := p_blk pe KB_x_105 rfl
    have KB_y_106 := p_oth pe KB_y_105 (n_sym NE_x_y)
    clear pe BEL105 BOX105 FA_f_105 FA_x_105 FA_y_105 KB_f_105 KB_x_105 KB_y_105
    refine hK0.out _ _ (by exact KB_f_106.out) (fun hHeld => ?_)
    clear hK0 K0 hHeld
    refine wpAnyH_ready (rs := [9]) (by kernel_rfl) (by simp) ?_
    refine AllReadyH.cons rfl (fun K0 hK0 => ?_) ?_
    rotate_left
    · exact AllReadyH.nil
    have CE_y_0 : vs1.cell? ⟨gy, 0, none⟩ = some (.int .u64 0) := KB_y_106.out.cell 0
    have CF_y_0 : vs1.frozen? ⟨gy, 0, none⟩ = false := KB_y_106.out.frozen 0
    have CE_y_1 : vs1.cell? ⟨gy, 1, none⟩ = some (.slice none 0 0) := KB_y_106.out.cell 1
    have CF_y_1 : vs1.frozen? ⟨gy, 1, none⟩ = false := KB_y_106.out.frozen 1
    have CE_y_lt : gy < vs1.heap.size := KB_y_106.out.lt
    go_simp
    clear CE_y_0 CF_y_0 CE_y_1 CF_y_1 CE_y_lt
    obtain ⟨vs2, hv⟩ : ∃ q, q = ((vs1.setCell ⟨gy, 0, none⟩ (.int .u64 a0)).setCell ⟨gy, 1, none⟩ (.slice Ay R cy)) := ⟨_, rfl⟩
    rw [← hv]
    have pe : vs2 = putCells vs1 gy 0 [.int .u64 a0, .slice Ay R cy] := hv
    clear hv
    have BEL107 := p_bel pe BEL106 BOX106 List.mem_cons_self
    have BOX107 := p_box pe BOX106
    have FA_f_107 := p_fact pe FA_f_106 List.mem_cons_self
    have FA_x_107 := p_fact pe FA_x_106 List.mem_cons_self
    have FA_y_107 := p_fact pe FA_y_106 List.mem_cons_self
    have KB_f_107 := p_oth pe KB_f_106 NE_f_y
    have KB_x_107 := p_oth pe KB_x_106 NE_x_y
    have KB_y_107 : Hid (Blk vs2 gy 25 #[.int .u64 a0, .slice Ay R cy]) := p_blk pe KB_y_106 rfl
    clear pe BEL106 BOX106 FA_f_106 FA_x_106 FA_y_106 KB_f_106 KB_x_106 KB_y_106
    refine hK0.out _ _ (by exact KB_f_107.out) (fun hHeld => ?_)
    clear hK0 K0 hHeld
    refine wpAnyH_done (by kernel_rfl) ?_ _
    refine NoPanic.normal ?_
    refine hQQ.out _ _ ?_
    clear hTU hUT hact hQQ
    generalize vs2 = v5 at BEL107 BOX107 FA_f_107 FA_x_107 FA_y_107 KB_f_107 KB_x_107 KB_y_107 ⊢
    go_wp2_with fail
    refine letterQ ?_
    intro QQ hQQ
    have BEL108 := h_bel BEL107 ((Below.refl _ _).drew)
    have BOX108 := h_box BOX107 ((Below.refl _ _).drew)
    have FA_f_108 := h_fact FA_f_107 ((Below.refl _ _).drew)
    have FA_x_108 := h_fact FA_x_107 ((Below.refl _ _).drew)
    have FA_y_108 := h_fact FA_y_107 ((Below.refl _ _).drew)
    have KB_f_108 := h_blk KB_f_107 ((Below.refl _ _).drew)
    have KB_x_108 := h_blk KB_x_107 ((Below.refl _ _).drew)
    have KB_y_108 := h_blk KB_y_107 ((Below.refl _ _).drew)
    clear BEL107 BOX107 FA_f_107 FA_x_107 FA_y_107 KB_f_107 KB_x_107 KB_y_107
    refine wp_region_held_drew (S := (fun w' => Blk w' gx 25 #[.int .u64 a0, .slice Ax R cx] ∧ Blk w' gy 25 #[.int .u64 a0, .slice Ay R cy])) (by kernel_rfl) ⟨KB_x_108.out, KB_y_108.out⟩ (fun hHeld => ?_)
    clear hHeld
    generalize v5.drew = v6 at BEL108 BOX108 FA_f_108 FA_x_108 FA_y_108 KB_f_108 KB_x_108 KB_y_108 ⊢
    refine wpAnyH_take (i := 0) (v := ?_) rfl (by kernel_rfl) (by kernel_rfl) (by kernel_rfl) (fun _ _ _ h => h) (Or.inl ⟨by rfl, ?_⟩) ⟨KB_x_108.out, KB_y_108.out⟩ ?_
    rotate_left
    · intro wq hSw; have cl0 := hSw.1.cell 0; have cl1 := hSw.1.cell 1; go_simp; first | done | with_reducible rfl
    simp only [List.getElem_toArray, List.getElem_cons_zero, Act.put, List.setIfInBounds_toArray, List.set_cons_zero, List.set_cons_succ]
    refine wpAnyH_take (i := 1) (v := ?_) rfl (by kernel_rfl) (by kernel_rfl) (by kernel_rfl) (fun _ _ _ h => h) (Or.inl ⟨by rfl, ?_⟩) ⟨KB_x_108.out, KB_y_108.out⟩ ?_
    rotate_left
    · intro wq hSw; go_simp; first | done | with_reducible rfl
    simp only [List.getElem_toArray, List.getElem_cons_zero, List.getElem_cons_succ, Act.put, List.setIfInBounds_toArray, List.set_cons_zero, List.set_cons_succ]
    refine wpAnyH_take (i := 3) (v := ?_) rfl (by kernel_rfl) (by kernel_rfl) (by kernel_rfl) (fun _ _ _ h => h) (Or.inl ⟨by rfl, ?_⟩) ⟨KB_x_108.out, KB_y_108.out⟩ ?_
    rotate_left
    · intro wq hSw; have cl0 := hSw.2.cell 0; have cl1 := hSw.2.cell 1; go_simp; first | done | with_reducible rfl
    simp only [List.getElem_toArray, List.getElem_cons_zero, List.getElem_cons_succ, Act.put, List.setIfInBounds_toArray, List.set_cons_zero, List.set_cons_succ]
    refine wpAnyH_take (i := 4) (v := ?_) rfl (by kernel_rfl) (by kernel_rfl) (by kernel_rfl) (fun _ _ _ h => h) (Or.inl ⟨by rfl, ?_⟩) ⟨KB_x_108.out, KB_y_108.out⟩ ?_
    rotate_left
    · intro wq hSw; go_simp; first | done | with_reducible rfl
    simp only [List.getElem_toArray, List.getElem_cons_zero, List.getElem_cons_succ, Act.put, List.setIfInBounds_toArray, List.set_cons_zero, List.set_cons_succ]
    refine letterT (T := wpAnyH _ _ _ _ _) ?_
    intro TT hTU hUT
    refine letterA ?_
    intro act0 hact
    have ND_2_PQ : Hid (∀ (v : World) (AP : Option Addr) (cP : Nat) (AQ : Option Addr) (cQ : Nat) (gP : Nat) (gQ : Nat) (ll : Array Bool) (aa : Act), ll = #[true, true, true, true, true, true, true, true, false, false] → aa = ((((act0.put (some 51) (.agg #[.int .u64 a0, .slice AP R cP])).put (some 54) (.agg #[.int .u64 a0, .slice AQ R cQ])).put (some 15) (.pointer (some ⟨gP, 0, none⟩))).put (some 16) (.pointer (some ⟨gQ, 0, none⟩))) → Hid (Below w.heap.size w v) → Hid (Boxes w v [gQ, gP, gy, gx, gf]) → Hid (HeldX [gQ, gP, gy, gx, gf] (fun uq => MpAt uq (.agg #[.int .u64 a0, .slice Af R cf]) a0 R (fun _ => n) (fun _ _ => false)) v) → Hid (HeldX [gQ, gP, gy, gx, gf] (fun uq => MpAt uq (.agg #[.int .u64 a0, .slice Ax R cx]) a0 R (fun _ => n) (addsM a0 R n (fun _ _ => false) K m)) v) → Hid (HeldX [gQ, gP, gy, gx, gf] (fun uq => MpAt uq (.agg #[.int .u64 a0, .slice Ay R cy]) a0 R (fun _ => n) (addsM a0 R n (fun _ _ => false) J p)) v) → Hid (HeldX [gQ, gP, gy, gx, gf] (fun uq => MpAt uq (.agg #[.int .u64 a0, .slice AP R cP]) a0 R (fun _ => n) (addsM a0 R n (addsM a0 R n (fun _ _ => false) K m) J p)) v) → Hid (HeldX [gQ, gP, gy, gx, gf] (fun uq => MpAt uq (.agg #[.int .u64 a0, .slice AQ R cQ]) a0 R (fun _ => n) (addsM a0 R n (addsM a0 R n (fun _ _ => false) J p) K m)) v) → Hid (Blk v gf 25 #[.int .u64 a0, .slice Af R cf]) → Hid (Blk v gx 25 #[.int .u64 a0, .slice Ax R cx]) → Hid (Blk v gy 25 #[.int .u64 a0, .slice Ay R cy]) → Hid (Blk v gP 25 #[.int .u64 0, .slice none 0 0]) → Hid (Blk v gQ 25 #[.int .u64 0, .slice none 0 0]) → Hid (gf ≠ gx) → Hid (gf ≠ gy) → Hid (gx ≠ gy) → Hid (gf ≠ gP) → Hid (gf ≠ gQ) → Hid (gx ≠ gP) → Hid (gx ≠ gQ) → Hid (gy ≠ gP) → Hid (gy ≠ gQ) → Hid (gP ≠ gQ) → TT 2 ll aa v) := by
      intro v AP cP AQ cQ gP gQ ll aa hl hA BEL208 BOX208 FA_f_208 FA_x_208 FA_y_208 FA_P_208 FA_Q_208 KB_f_208 KB_x_208 KB_y_208 KB_P_208 KB_Q_208 NE_f_x NE_f_y NE_x_y NE_f_P NE_f_Q NE_x_P NE_x_Q NE_y_P NE_y_Q NE_P_Q
      rw [hact.out] at hA
      try simp only [Act.put, List.setIfInBounds_toArray, List.set_cons_zero, List.set_cons_succ] at hA
      subst hl hA
      refine hUT.out _ _ _ _ ?_
      refine wpAnyH_ready (rs := [8]) (by kernel_rfl) (by simp) ?_
      refine AllReadyH.cons rfl (fun K0 hK0 => ?_) ?_
      rotate_left
      · exact AllReadyH.nil
      have CE_P_0 : v.cell? ⟨gP, 0, none⟩ = some (.int .u64 0) := KB_P_208.out.cell 0
      have CF_P_0 : v.frozen? ⟨gP, 0, none⟩ = false := KB_P_208.out.frozen 0
      have CE_P_1 : v.cell? ⟨gP, 1, none⟩ = some (.slice none 0 0) := KB_P_208.out.cell 1
      have CF_P_1 : v.frozen? ⟨gP, 1, none⟩ = false := KB_P_208.out.frozen 1
      have CE_P_lt : gP < v.heap.size := KB_P_208.out.lt
      go_simp
      clear CE_P_0 CF_P_0 CE_P_1 CF_P_1 CE_P_lt
      obtain ⟨vs1, hv⟩ : ∃ q, q = ((v.setCell ⟨gP, 0, none⟩ (.int .u64 a0)).setCell ⟨gP, 1, none⟩ (.slice AP R cP)) := ⟨_, rfl⟩
      rw [← hv]
      have pe : vs1 = putCells v gP 0 [.int .u64 a0, .slice AP R cP] := hv
      clear hv
      have BEL209 := p_bel pe BEL208 BOX208 (List.mem_cons_of_mem _ List.mem_cons_self)
      have BOX209 := p_box pe BOX208
      have FA_f_209 := p_fact pe FA_f_208 (List.mem_cons_of_mem _ List.mem_cons_self)
      have FA_x_209 := p_fact pe FA_x_208 (List.mem_cons_of_mem _ List.mem_cons_self)
      have FA_y_209 := p_fact pe FA_y_208 (List.mem_cons_of_mem _ List.mem_cons_self)
      have FA_P_209 := p_fact pe FA_P_208 (List.mem_cons_of_mem _ List.mem_cons_self)
      have FA_Q_209 := p_fact pe FA_Q_208 (List.mem_cons_of_mem _ List.mem_cons_self)
      have KB_f_209 := p_oth pe KB_f_208 NE_f_P
      have KB_x_209 := p_oth pe KB_x_208 NE_x_P
      have KB_y_209 := p_oth pe KB_y_208 NE_y_P
      have KB_P_209 : Hid (Blk vs1 gP 25 #[.int .u64 a0, .slice AP R cP]) := p_blk pe KB_P_208 rfl
      have KB_Q_209 := p_oth pe KB_Q_208 (n_sym NE_P_Q)
      clear pe BEL208 BOX208 FA_f_208 FA_x_208 FA_y_208 FA_P_208 FA_Q_208 KB_f_208 KB_x_208 KB_y_208 KB_P_208 KB_Q_208
      refine hK0.out _ _ (by exact ⟨KB_x_209.out, KB_y_209.out⟩) (fun hHeld => ?_)
      clear hK0 K0 hHeld
      refine wpAnyH_ready (rs := [9]) (by kernel_rfl) (by simp) ?_
      refine AllReadyH.cons rfl (fun K0 hK0 => ?_) ?_
      rotate_left
      · exact AllReadyH.nil
      have CE_Q_0 : vs1.cell? ⟨gQ, 0, none⟩ = some (.int .u64 0) := KB_Q_209.out.cell 0
      have CF_Q_0 : vs1.frozen? ⟨gQ, 0, none⟩ = false := KB_Q_209.out.frozen 0
      have CE_Q_1 : vs1.cell? ⟨gQ, 1, none⟩ = some (.slice none 0 0) := KB_Q_209.out.cell 1
      have CF_Q_1 : vs1.frozen? ⟨gQ, 1, none⟩ = false := KB_Q_209.out.frozen 1
      have CE_Q_lt : gQ < vs1.heap.size := KB_Q_209.out.lt
      go_simp
      clear CE_Q_0 CF_Q_0 CE_Q_1 CF_Q_1 CE_Q_lt
      obtain ⟨vs2, hv⟩ : ∃ q, q = ((vs1.setCell ⟨gQ, 0, none⟩ (.int .u64 a0)).setCell ⟨gQ, 1, none⟩ (.slice AQ R cQ)) := ⟨_, rfl⟩
      rw [← hv]
      have pe : vs2 = putCells vs1 gQ 0 [.int .u64 a0, .slice AQ R cQ] := hv
      clear hv
      have BEL210 := p_bel pe BEL209 BOX209 List.mem_cons_self
      have BOX210 := p_box pe BOX209
      have FA_f_210 := p_fact pe FA_f_209 List.mem_cons_self
      have FA_x_210 := p_fact pe FA_x_209 List.mem_cons_self
      have FA_y_210 := p_fact pe FA_y_209 List.mem_cons_self
      have FA_P_210 := p_fact pe FA_P_209 List.mem_cons_self
      have FA_Q_210 := p_fact pe FA_Q_209 List.mem_cons_self
      have KB_f_210 := p_oth pe KB_f_209 NE_f_Q
      have KB_x_210 := p_oth pe KB_x_209 NE_x_Q
      have KB_y_210 := p_oth pe KB_y_209 NE_y_Q
      have KB_P_210 := p_oth pe KB_P_209 NE_P_Q
      have KB_Q_210 : Hid (Blk vs2 gQ 25 #[.int .u64 a0, .slice AQ R cQ]) := p_blk pe KB_Q_209 rfl
      clear pe BEL209 BOX209 FA_f_209 FA_x_209 FA_y_209 FA_P_209 FA_Q_209 KB_f_209 KB_x_209 KB_y_209 KB_P_209 KB_Q_209
      refine hK0.out _ _ (by exact ⟨KB_x_210.out, KB_y_210.out⟩) (fun hHeld => ?_)
      clear hK0 K0 hHeld
      refine wpAnyH_done (by kernel_rfl) ?_ _
      refine NoPanic.normal ?_
      refine hQQ.out _ _ ?_
      clear hTU hUT hact hQQ
      generalize vs2 = v8 at BEL210 BOX210 FA_f_210 FA_x_210 FA_y_210 FA_P_210 FA_Q_210 KB_f_210 KB_x_210 KB_y_210 KB_P_210 KB_Q_210 ⊢
      have CE_x_0 : v8.cell? ⟨gx, 0, none⟩ = some (.int .u64 a0) := KB_x_210.out.cell 0
      have CE_x_1 : v8.cell? ⟨gx, 1, none⟩ = some (.slice Ax R cx) := KB_x_210.out.cell 1
      have CE_x_lt : gx < v8.heap.size := KB_x_210.out.lt
      have CE_y_0 : v8.cell? ⟨gy, 0, none⟩ = some (.int .u64 a0) := KB_y_210.out.cell 0
      have CE_y_1 : v8.cell? ⟨gy, 1, none⟩ = some (.slice Ay R cy) := KB_y_210.out.cell 1
      have CE_y_lt : gy < v8.heap.size := KB_y_210.out.lt
      go_wp2_with fail
      refine (mmerge_any _ _ _ a0 R n _ _ FA_x_210.out.at FA_y_210.out.at OK.out).mono ?_
      rintro e wu ⟨xu, rfl, fu, bb⟩
      clear CE_x_0 CE_x_1 CE_x_lt CE_y_0 CE_y_1 CE_y_lt
      obtain ⟨vu, rfl, hvu⟩ := fu.at
      obtain ⟨Au, cu, bbu, oou, rfl, hx1, hx2⟩ := hvu.read
      clear hx1 hx2 hvu
      have FA_u_211 : Hid (HeldX [gQ, gP, gy, gx, gf] (fun uq => MpAt uq (.agg #[.int .u64 a0, .slice Au R cu]) a0 R (fun _ => n) (mergeM (addsM a0 R n (fun _ _ => false) K m) (addsM a0 R n (fun _ _ => false) J p))) wu) := Held.new fu BOX210.out
      have BEL211 := h_bel BEL210 bb
      have BOX211 := h_box BOX210 bb
      have FA_f_211 := h_fact FA_f_210 bb
      have FA_x_211 := h_fact FA_x_210 bb
      have FA_y_211 := h_fact FA_y_210 bb
      have FA_P_211 := h_fact FA_P_210 bb
      have FA_Q_211 := h_fact FA_Q_210 bb
      have KB_f_211 := h_blk KB_f_210 bb
      have KB_x_211 := h_blk KB_x_210 bb
      have KB_y_211 := h_blk KB_y_210 bb
      have KB_P_211 := h_blk KB_P_210 bb
      have KB_Q_211 := h_blk KB_Q_210 bb
      clear BEL210 BOX210 FA_f_210 FA_x_210 FA_y_210 FA_P_210 FA_Q_210 KB_f_210 KB_x_210 KB_y_210 KB_P_210 KB_Q_210
      clear bb fu
      go_upto_region 7 with fail
      have BEL212 := a_bel BEL211 (.cells #[.int .u64 a0, .slice Au R cu] 25)
      have BOX212 := a_box BOX211 BEL211 (.cells #[.int .u64 a0, .slice Au R cu] 25)
      have FA_f_212 := a_fact FA_f_211 (.cells #[.int .u64 a0, .slice Au R cu] 25)
      have FA_x_212 := a_fact FA_x_211 (.cells #[.int .u64 a0, .slice Au R cu] 25)
      have FA_y_212 := a_fact FA_y_211 (.cells #[.int .u64 a0, .slice Au R cu] 25)
      have FA_P_212 := a_fact FA_P_211 (.cells #[.int .u64 a0, .slice Au R cu] 25)
      have FA_Q_212 := a_fact FA_Q_211 (.cells #[.int .u64 a0, .slice Au R cu] 25)
      have FA_u_212 := a_fact FA_u_211 (.cells #[.int .u64 a0, .slice Au R cu] 25)
      have KB_f_212 := a_blk KB_f_211 (.cells #[.int .u64 a0, .slice Au R cu] 25)
      have NE_f_u := n_ne KB_f_211
      have KB_x_212 := a_blk KB_x_211 (.cells #[.int .u64 a0, .slice Au R cu] 25)
      have NE_x_u := n_ne KB_x_211
      have KB_y_212 := a_blk KB_y_211 (.cells #[.int .u64 a0, .slice Au R cu] 25)
      have NE_y_u := n_ne KB_y_211
      have KB_P_212 := a_blk KB_P_211 (.cells #[.int .u64 a0, .slice Au R cu] 25)
      have NE_P_u := n_ne KB_P_211
      have KB_Q_212 := a_blk KB_Q_211 (.cells #[.int .u64 a0, .slice Au R cu] 25)
      have NE_Q_u := n_ne KB_Q_211
      have KB_u_212 := n_blk (u := wu) 25 #[.int .u64 a0, .slice Au R cu]
      clear BEL211 BOX211 FA_f_211 FA_x_211 FA_y_211 FA_P_211 FA_Q_211 FA_u_211 KB_f_211 KB_x_211 KB_y_211 KB_P_211 KB_Q_211
      generalize (wu.alloc (.cells #[.int .u64 a0, .slice Au R cu] 25)) = v9 at BEL212 BOX212 FA_f_212 FA_x_212 FA_y_212 FA_P_212 FA_Q_212 FA_u_212 KB_f_212 KB_x_212 KB_y_212 KB_P_212 KB_Q_212 KB_u_212 ⊢
      generalize wu.heap.size = gu at BOX212 FA_f_212 FA_x_212 FA_y_212 FA_P_212 FA_Q_212 FA_u_212 KB_u_212 NE_f_u NE_x_u NE_y_u NE_P_u NE_Q_u ⊢
      have RP : Hid (∀ w1, Below v9.heap.size v9 w1 → Calls Tryd.prog 10 #[.agg #[.int .u64 a0, .slice AP R cP]] w1 fun e w' => e = .returned (.agg #[.int .u64 a0, .slice AP R cP]) ∧ Below v9.heap.size v9 w') := fun w1 b1 => (mref_any w1 _ a0 R _ _ (FA_P_212.out.since b1).at).mono fun e w' h => ⟨h.1, bel_trans b1 h.2⟩
      have RQ : Hid (∀ w1, Below v9.heap.size v9 w1 → Calls Tryd.prog 10 #[.agg #[.int .u64 a0, .slice AQ R cQ]] w1 fun e w' => e = .returned (.agg #[.int .u64 a0, .slice AQ R cQ]) ∧ Below v9.heap.size v9 w') := fun w1 b1 => (mref_any w1 _ a0 R _ _ (FA_Q_212.out.since b1).at).mono fun e w' h => ⟨h.1, bel_trans b1 h.2⟩
      have RU : Hid (∀ w1, Below v9.heap.size v9 w1 → Calls Tryd.prog 10 #[.agg #[.int .u64 a0, .slice Au R cu]] w1 fun e w' => e = .returned (.agg #[.int .u64 a0, .slice Au R cu]) ∧ Below v9.heap.size v9 w') := fun w1 b1 => (mref_any w1 _ a0 R _ _ (FA_u_212.out.since b1).at).mono fun e w' h => ⟨h.1, bel_trans b1 h.2⟩
      have E1 : Hid (∀ w1, Below v9.heap.size v9 w1 → Calls Tryd.prog 9 #[.agg #[.int .u64 a0, .slice AP R cP], .agg #[.int .u64 a0, .slice AQ R cQ]] w1 fun e w' => e = .returned (.bool true) ∧ Below v9.heap.size v9 w') := fun w1 b1 => (requal_any w1 _ _ a0 a0 R R _ _ _ _ (FA_P_212.out.since b1).at (FA_Q_212.out.since b1).at (by omega) (fun i hi => by show n ≤ 1000; omega)).mono fun e w' h => ⟨(told h true ⟨fun _ => ⟨rfl, rfl, fun i hi => ⟨rfl, fun j hj => adds_turn a0 R n _ K J m p i j⟩⟩, fun _ => rfl⟩).1, bel_trans b1 (told h true ⟨fun _ => ⟨rfl, rfl, fun i hi => ⟨rfl, fun j hj => adds_turn a0 R n _ K J m p i j⟩⟩, fun _ => rfl⟩).2⟩
      have E2 : Hid (∀ w1, Below v9.heap.size v9 w1 → Calls Tryd.prog 9 #[.agg #[.int .u64 a0, .slice AP R cP], .agg #[.int .u64 a0, .slice Au R cu]] w1 fun e w' => e = .returned (.bool true) ∧ Below v9.heap.size v9 w') := fun w1 b1 => (requal_any w1 _ _ a0 a0 R R _ _ _ _ (FA_P_212.out.since b1).at (FA_u_212.out.since b1).at (by omega) (fun i hi => by show n ≤ 1000; omega)).mono fun e w' h => ⟨(told h true ⟨fun _ => ⟨rfl, rfl, fun i hi => ⟨rfl, fun j hj => adds_merge a0 R n _ K J m p i j⟩⟩, fun _ => rfl⟩).1, bel_trans b1 (told h true ⟨fun _ => ⟨rfl, rfl, fun i hi => ⟨rfl, fun j hj => adds_merge a0 R n _ K J m p i j⟩⟩, fun _ => rfl⟩).2⟩
      have AD : Hid (∀ w1, Below v9.heap.size v9 w1 → Calls Tryd.prog 23 #[.agg #[.int .u64 a0, .slice AP R cP], .slice Al m capl] w1 fun e w' => ∃ (Aw : Option Addr) (cw : Nat), e = .returned (.agg #[.int .u64 a0, .slice Aw R cw]) ∧ MpAt w' (.agg #[.int .u64 a0, .slice Aw R cw]) a0 R (fun _ => n) (addsM a0 R n (addsM a0 R n (addsM a0 R n (fun _ _ => false) K m) J p) K m) ∧ Below v9.heap.size v9 w') := fun w1 b1 => (madds_any _ _ _ [] a0 R n m _ K (((FA_P_212.out.since b1)).fewer (fun g hg => by cases hg)) (fun g hg => by cases hg) (LA.out.keep (keep_of_below (bel_trans BEL212.out b1))) OK.out uS (by omega) HK.out (tabAt_keep HT.out (keep_of_below (bel_trans BEL212.out b1)))).mono fun e w' ⟨A, c, h1, h2, h3⟩ => ⟨A, c, h1, h2.at, bel_trans b1 h3⟩
      have RW : Hid (∀ w1 (Aw : Option Addr) (cw : Nat), Below v9.heap.size v9 w1 → MpAt w1 (.agg #[.int .u64 a0, .slice Aw R cw]) a0 R (fun _ => n) (addsM a0 R n (addsM a0 R n (addsM a0 R n (fun _ _ => false) K m) J p) K m) → Calls Tryd.prog 10 #[.agg #[.int .u64 a0, .slice Aw R cw]] w1 fun e w' => e = .returned (.agg #[.int .u64 a0, .slice Aw R cw]) ∧ MpAt w' (.agg #[.int .u64 a0, .slice Aw R cw]) a0 R (fun _ => n) (addsM a0 R n (addsM a0 R n (addsM a0 R n (fun _ _ => false) K m) J p) K m) ∧ Below v9.heap.size v9 w') := fun w1 Aw cw b1 h => (mref_any w1 _ a0 R _ _ h).mono fun e w' g => ⟨g.1, h.keep (keep_of_below g.2), bel_trans b1 g.2⟩
      have RV : Hid (∀ w1 (Aw : Option Addr) (cw : Nat), Below v9.heap.size v9 w1 → MpAt w1 (.agg #[.int .u64 a0, .slice Aw R cw]) a0 R (fun _ => n) (addsM a0 R n (addsM a0 R n (addsM a0 R n (fun _ _ => false) K m) J p) K m) → Calls Tryd.prog 10 #[.agg #[.int .u64 a0, .slice AP R cP]] w1 fun e w' => e = .returned (.agg #[.int .u64 a0, .slice AP R cP]) ∧ MpAt w' (.agg #[.int .u64 a0, .slice Aw R cw]) a0 R (fun _ => n) (addsM a0 R n (addsM a0 R n (addsM a0 R n (fun _ _ => false) K m) J p) K m) ∧ Below v9.heap.size v9 w') := fun w1 Aw cw b1 h => (mref_any w1 _ a0 R _ _ (FA_P_212.out.since b1).at).mono fun e w' g => ⟨g.1, h.keep (keep_of_below g.2), bel_trans b1 g.2⟩
      have E3 : Hid (∀ w1 (Aw : Option Addr) (cw : Nat), Below v9.heap.size v9 w1 → MpAt w1 (.agg #[.int .u64 a0, .slice Aw R cw]) a0 R (fun _ => n) (addsM a0 R n (addsM a0 R n (addsM a0 R n (fun _ _ => false) K m) J p) K m) → Calls Tryd.prog 9 #[.agg #[.int .u64 a0, .slice Aw R cw], .agg #[.int .u64 a0, .slice AP R cP]] w1 fun e w' => e = .returned (.bool true) ∧ Below v9.heap.size v9 w') := fun w1 Aw cw b1 hw => (requal_any w1 _ _ a0 a0 R R _ _ _ _ hw (FA_P_212.out.since b1).at (by omega) (fun i hi => by show n ≤ 1000; omega)).mono fun e w' h => ⟨(told h true ⟨fun _ => ⟨rfl, rfl, fun i hi => ⟨rfl, fun j hj => adds_again a0 R n _ K J m p i j⟩⟩, fun _ => rfl⟩).1, bel_trans b1 (told h true ⟨fun _ => ⟨rfl, rfl, fun i hi => ⟨rfl, fun j hj => adds_again a0 R n _ K J m p i j⟩⟩, fun _ => rfl⟩).2⟩
      have KS : Hid (∀ w' : World, Below v9.heap.size v9 w' → (w'.cell? ⟨gP, 0, none⟩ = some (.int .u64 a0) ∧ w'.cell? ⟨gP, 1, none⟩ = some (.slice AP R cP) ∧ w'.cell? ⟨gQ, 0, none⟩ = some (.int .u64 a0) ∧ w'.cell? ⟨gQ, 1, none⟩ = some (.slice AQ R cQ) ∧ w'.cell? ⟨gu, 0, none⟩ = some (.int .u64 a0) ∧ w'.cell? ⟨gu, 1, none⟩ = some (.slice Au R cu))) := fun w' b1 => ⟨(KB_P_212.out.since b1).cell 0, (KB_P_212.out.since b1).cell 1, (KB_Q_212.out.since b1).cell 0, (KB_Q_212.out.since b1).cell 1, (KB_u_212.out.since b1).cell 0, (KB_u_212.out.since b1).cell 1⟩
      have Z0 : Hid (Below v9.heap.size v9 v9.drew) := (Below.refl _ _).drew
      have CE_P_0 : v9.cell? ⟨gP, 0, none⟩ = some (.int .u64 a0) := KB_P_212.out.cell 0
      have CE_P_1 : v9.cell? ⟨gP, 1, none⟩ = some (.slice AP R cP) := KB_P_212.out.cell 1
      have CE_P_lt : gP < v9.heap.size := KB_P_212.out.lt
      have CE_Q_0 : v9.cell? ⟨gQ, 0, none⟩ = some (.int .u64 a0) := KB_Q_212.out.cell 0
      have CE_Q_1 : v9.cell? ⟨gQ, 1, none⟩ = some (.slice AQ R cQ) := KB_Q_212.out.cell 1
      have CE_Q_lt : gQ < v9.heap.size := KB_Q_212.out.lt
      have CE_u_0 : v9.cell? ⟨gu, 0, none⟩ = some (.int .u64 a0) := KB_u_212.out.cell 0
      have CE_u_1 : v9.cell? ⟨gu, 1, none⟩ = some (.slice Au R cu) := KB_u_212.out.cell 1
      have CE_u_lt : gu < v9.heap.size := KB_u_212.out.lt
      go_wp2_with fail
      go_region_held3 (fun w' => w'.cell? ⟨gP, 0, none⟩ = some (.int .u64 a0) ∧ w'.cell? ⟨gP, 1, none⟩ = some (.slice AP R cP) ∧ w'.cell? ⟨gQ, 0, none⟩ = some (.int .u64 a0) ∧ w'.cell? ⟨gQ, 1, none⟩ = some (.slice AQ R cQ) ∧ w'.cell? ⟨gu, 0, none⟩ = some (.int .u64 a0) ∧ w'.cell? ⟨gu, 1, none⟩ = some (.slice Au R cu)) (first | exact KS.out _ Z10.out | exact KS.out _ Z9.out | exact KS.out _ Z8.out | exact KS.out _ Z7.out | exact KS.out _ Z6.out | exact KS.out _ Z5.out | exact KS.out _ Z4.out | exact KS.out _ Z3.out | exact KS.out _ Z2.out | exact KS.out _ Z1.out | exact KS.out _ Z0.out | go_keep) (first
        | (have fl := Z9; clear fl; go_simp; go_at_call 9; refine (E3.out _ _ _ Z9.out FT.out).mono ?_; rintro e q10 ⟨rfl, cc⟩; have Z10 : Hid (Below v9.heap.size v9 q10) := cc; clear cc)
        | (have fl := Z8; clear fl; go_simp; go_at_call 10; refine (RV.out _ _ _ Z8.out FV.out).mono ?_; rintro e q9 ⟨rfl, fw, cc⟩; have Z9 : Hid (Below v9.heap.size v9 q9) := cc; have FT : Hid (MpAt q9 (.agg #[.int .u64 a0, .slice Aw R cw]) a0 R (fun _ => n) (addsM a0 R n (addsM a0 R n (addsM a0 R n (fun _ _ => false) K m) J p) K m)) := fw; clear fw; clear cc)
        | (have fl := Z7; clear fl; go_simp; go_at_call 10; refine (RW.out _ _ _ Z7.out FW.out).mono ?_; rintro e q8 ⟨rfl, fw, cc⟩; have Z8 : Hid (Below v9.heap.size v9 q8) := cc; have FV : Hid (MpAt q8 (.agg #[.int .u64 a0, .slice Aw R cw]) a0 R (fun _ => n) (addsM a0 R n (addsM a0 R n (addsM a0 R n (fun _ _ => false) K m) J p) K m)) := fw; clear fw; clear cc)
        | (have fl := Z6; clear fl; go_simp; go_at_call 23; refine (AD.out _ Z6.out).mono ?_; rintro e q7 ⟨Aw, cw, rfl, fw, cc⟩; have Z7 : Hid (Below v9.heap.size v9 q7) := cc; have FW : Hid (MpAt q7 (.agg #[.int .u64 a0, .slice Aw R cw]) a0 R (fun _ => n) (addsM a0 R n (addsM a0 R n (addsM a0 R n (fun _ _ => false) K m) J p) K m)) := fw; clear fw; clear cc)
        | (have fl := Z5; clear fl; go_simp; go_at_call 9; refine (E2.out _ Z5.out).mono ?_; rintro e q6 ⟨rfl, cc⟩; have Z6 : Hid (Below v9.heap.size v9 q6) := cc; clear cc)
        | (have fl := Z4; clear fl; go_simp; go_at_call 10; refine (RU.out _ Z4.out).mono ?_; rintro e q5 ⟨rfl, cc⟩; have Z5 : Hid (Below v9.heap.size v9 q5) := cc; clear cc)
        | (have fl := Z3; clear fl; go_simp; go_at_call 10; refine (RP.out _ Z3.out).mono ?_; rintro e q4 ⟨rfl, cc⟩; have Z4 : Hid (Below v9.heap.size v9 q4) := cc; clear cc)
        | (have fl := Z2; clear fl; go_simp; go_at_call 9; refine (E1.out _ Z2.out).mono ?_; rintro e q3 ⟨rfl, cc⟩; have Z3 : Hid (Below v9.heap.size v9 q3) := cc; clear cc)
        | (have fl := Z1; clear fl; go_simp; go_at_call 10; refine (RQ.out _ Z1.out).mono ?_; rintro e q2 ⟨rfl, cc⟩; have Z2 : Hid (Below v9.heap.size v9 q2) := cc; clear cc)
        | (have fl := Z0; clear fl; go_simp; go_at_call 10; refine (RP.out _ Z0.out).mono ?_; rintro e q1 ⟨rfl, cc⟩; have Z1 : Hid (Below v9.heap.size v9 q1) := cc; clear cc))
      all_goals clear CE_P_0 CE_P_1 CE_P_lt CE_Q_0 CE_Q_1 CE_Q_lt CE_u_0 CE_u_1 CE_u_lt RP RQ RU E1 E2 AD RW RV E3 KS FW FV FT
      all_goals
        have BEL213 := h_bel BEL212 Z10.out
        have BOX213 := h_box BOX212 Z10.out
        have FA_f_213 := h_fact FA_f_212 Z10.out
        have FA_x_213 := h_fact FA_x_212 Z10.out
        have FA_y_213 := h_fact FA_y_212 Z10.out
        have FA_P_213 := h_fact FA_P_212 Z10.out
        have FA_Q_213 := h_fact FA_Q_212 Z10.out
        have FA_u_213 := h_fact FA_u_212 Z10.out
        have KB_f_213 := h_blk KB_f_212 Z10.out
        have KB_x_213 := h_blk KB_x_212 Z10.out
        have KB_y_213 := h_blk KB_y_212 Z10.out
        have KB_P_213 := h_blk KB_P_212 Z10.out
        have KB_Q_213 := h_blk KB_Q_212 Z10.out
        have KB_u_213 := h_blk KB_u_212 Z10.out
        clear BEL212 BOX212 FA_f_212 FA_x_212 FA_y_212 FA_P_212 FA_Q_212 FA_u_212 KB_f_212 KB_x_212 KB_y_212 KB_P_212 KB_Q_212 KB_u_212
        clear Z0 Z1 Z2 Z3 Z4 Z5 Z6 Z7 Z8 Z9 Z10
        clear FA_P_213
        clear KB_P_213
        clear FA_Q_213
        clear KB_Q_213
        go_wp2_with fail
        go_loopg [19, 91] m (fun gj la i wr => ∃ (t l0 : Nat) (Ar : Option Addr) (cr : Nat), (gj = m - t ∧ t ≤ m ∧ l0 ≤ estM n (addsM a0 R n (fun _ _ => false) K t) R ∧ (Below w.heap.size w wr) ∧ (Boxes w wr [gu, gQ, gP, gy, gx, gf]) ∧ (HeldX [gu, gQ, gP, gy, gx, gf] (fun uq => MpAt uq (.agg #[.int .u64 a0, .slice Ar R cr]) a0 R (fun _ => n) (addsM a0 R n (fun _ _ => false) K t)) wr) ∧ (HeldX [gu, gQ, gP, gy, gx, gf] (fun uq => MpAt uq (.agg #[.int .u64 a0, .slice Ax R cx]) a0 R (fun _ => n) (addsM a0 R n (fun _ _ => false) K m)) wr) ∧ (HeldX [gu, gQ, gP, gy, gx, gf] (fun uq => MpAt uq (.agg #[.int .u64 a0, .slice Ay R cy]) a0 R (fun _ => n) (addsM a0 R n (fun _ _ => false) J p)) wr) ∧ (HeldX [gu, gQ, gP, gy, gx, gf] (fun uq => MpAt uq (.agg #[.int .u64 a0, .slice Au R cu]) a0 R (fun _ => n) (mergeM (addsM a0 R n (fun _ _ => false) K m) (addsM a0 R n (fun _ _ => false) J p))) wr) ∧ (Blk wr gf 25 #[.int .u64 a0, .slice Ar R cr]) ∧ (Blk wr gx 25 #[.int .u64 a0, .slice Ax R cx]) ∧ (Blk wr gy 25 #[.int .u64 a0, .slice Ay R cy]) ∧ (Blk wr gu 25 #[.int .u64 a0, .slice Au R cu])) ∧ la = .int .i64 (l0 : Int) ∧ i = .int .i64 (t : Int))
        case atStart => exact ⟨0, 0, Af, cf, ⟨rfl, by omega, by omega, BEL213.out, BOX213.out, FA_f_213.out, FA_x_213.out, FA_y_213.out, FA_u_213.out, KB_f_213.out, KB_x_213.out, KB_y_213.out, KB_u_213.out⟩, rfl, rfl⟩
        case round =>
          clear BEL213 BOX213 FA_f_213 FA_x_213 FA_y_213 FA_u_213 KB_f_213 KB_x_213 KB_y_213 KB_u_213
          obtain ⟨t, l0, Ar, cr, ⟨hg, ht, l2, iBEL, iBOX, iFA_f, iFA_x, iFA_y, iFA_u, iKB_f, iKB_x, iKB_y, iKB_u⟩, rfl, rfl⟩ := hrel
          have BEL713 : Hid (Below w.heap.size w wr) := iBEL
          have BOX713 : Hid (Boxes w wr [gu, gQ, gP, gy, gx, gf]) := iBOX
          have FA_f_713 : Hid (HeldX [gu, gQ, gP, gy, gx, gf] (fun uq => MpAt uq (.agg #[.int .u64 a0, .slice Ar R cr]) a0 R (fun _ => n) (addsM a0 R n (fun _ _ => false) K t)) wr) := iFA_f
          have FA_x_713 : Hid (HeldX [gu, gQ, gP, gy, gx, gf] (fun uq => MpAt uq (.agg #[.int .u64 a0, .slice Ax R cx]) a0 R (fun _ => n) (addsM a0 R n (fun _ _ => false) K m)) wr) := iFA_x
          have FA_y_713 : Hid (HeldX [gu, gQ, gP, gy, gx, gf] (fun uq => MpAt uq (.agg #[.int .u64 a0, .slice Ay R cy]) a0 R (fun _ => n) (addsM a0 R n (fun _ _ => false) J p)) wr) := iFA_y
          have FA_u_713 : Hid (HeldX [gu, gQ, gP, gy, gx, gf] (fun uq => MpAt uq (.agg #[.int .u64 a0, .slice Au R cu]) a0 R (fun _ => n) (mergeM (addsM a0 R n (fun _ _ => false) K m) (addsM a0 R n (fun _ _ => false) J p))) wr) := iFA_u
          have KB_f_713 : Hid (Blk wr gf 25 #[.int .u64 a0, .slice Ar R cr]) := iKB_f
          have KB_x_713 : Hid (Blk wr gx 25 #[.int .u64 a0, .slice Ax R cx]) := iKB_x
          have KB_y_713 : Hid (Blk wr gy 25 #[.int .u64 a0, .slice Ay R cy]) := iKB_y
          have KB_u_713 : Hid (Blk wr gu 25 #[.int .u64 a0, .slice Au R cu]) := iKB_u
          clear iBEL iBOX iFA_f iFA_x iFA_y iFA_u iKB_f iKB_x iKB_y iKB_u
          have l1 : l0 ≤ 68719476736 := by have := estM_lt n (addsM a0 R n (fun _ _ => false) K t) n2 R; omega
          have HG : Hid (gk = m - t) := hg
          clear hg
          by_cases hlt : t < m
          · obtain rfl := L3.out (by omega)
            have c1 : wr.cell? ⟨bl, ol + t, none⟩ = some (.string (K t)) := keep_of_below BEL713.out _ _ (L4.out t hlt)
            have bt : (t : Int) < (m : Int) := by omega
            obtain ⟨D, hD⟩ : ∃ D, D = addsM a0 R n (fun _ _ => false) K t := ⟨_, rfl⟩
            have HDE : Hid (addsM a0 R n (fun _ _ => false) K (t + 1) = addM a0 R n D (K t)) := by rw [hD]; exact rfl
            have FF := FA_f_713.out.at
            rw [← hD] at FF l2
            have AC : Hid (Calls Tryd.prog 15 #[.agg #[.int .u64 a0, .slice Ar R cr], .string (K t)] wr (GaveA wr a0 R (fun _ => n) (addM a0 R n D (K t)))) := madd_ok wr _ a0 R n D (K t) FF OK.out uS (by have := HK.out t hlt; omega) (tabAt_keep HT.out (keep_of_below BEL713.out))
            have m1 : estM n D R ≤ estM n (addM a0 R n D (K t)) R := estM_add_le a0 R n D (K t) R
            have m2 : 65536 ≤ estM n (addM a0 R n D (K t)) R := estM_add_pos a0 D (K t) OK.out
            have m3 : estM n (addM a0 R n D (K t)) R ≤ 68719476736 := by have := estM_lt n (addM a0 R n D (K t)) n2 R; omega
            obtain ⟨E, hE⟩ : ∃ E, E = addM a0 R n D (K t) := ⟨_, rfl⟩
            rw [← hE] at AC m1 m2 m3 HDE
            obtain ⟨T, hT⟩ : ∃ T, T = estM n E R := ⟨_, rfl⟩
            have HTE : Hid (T = estM n E R) := hT
            rw [← hT] at m1 m2 m3
            have tl : ¬ (T : Int) < (l0 : Int) := by omega
            have ts : ¬ (T : Int) < 65536 := by omega
            generalize K t = st at c1 AC
            clear FF hD hE hT l2 m1
            have CE_f_0 : wr.cell? ⟨gf, 0, none⟩ = some (.int .u64 a0) := KB_f_713.out.cell 0
            have CE_f_1 : wr.cell? ⟨gf, 1, none⟩ = some (.slice Ar R cr) := KB_f_713.out.cell 1
            have CE_f_lt : gf < wr.heap.size := KB_f_713.out.lt
            go_wp2_with fail
            refine (AC.out).mono ?_
            rintro e w6 ⟨xg, rfl, fg, b6⟩
            clear CE_f_0 CE_f_1 CE_f_lt
            obtain ⟨vg, rfl, hvg⟩ := fg.at
            obtain ⟨Ag, cg, bbg, oog, rfl, hx1, hx2⟩ := hvg.read
            clear hx1 hx2 hvg
            have FA_g_714 : Hid (HeldX [gu, gQ, gP, gy, gx, gf] (fun uq => MpAt uq (.agg #[.int .u64 a0, .slice Ag R cg]) a0 R (fun _ => n) E) w6) := Held.new fg BOX713.out
            have BEL714 := h_bel BEL713 b6
            have BOX714 := h_box BOX713 b6
            have FA_f_714 := h_fact FA_f_713 b6
            have FA_x_714 := h_fact FA_x_713 b6
            have FA_y_714 := h_fact FA_y_713 b6
            have FA_u_714 := h_fact FA_u_713 b6
            have KB_f_714 := h_blk KB_f_713 b6
            have KB_x_714 := h_blk KB_x_713 b6
            have KB_y_714 := h_blk KB_y_713 b6
            have KB_u_714 := h_blk KB_u_713 b6
            clear BEL713 BOX713 FA_f_713 FA_x_713 FA_y_713 FA_u_713 KB_f_713 KB_x_713 KB_y_713 KB_u_713
            clear b6 fg
            clear AC c1
            clear FA_f_714
            have CE_f_0 : w6.cell? ⟨gf, 0, none⟩ = some (.int .u64 a0) := KB_f_714.out.cell 0
            have CF_f_0 : w6.frozen? ⟨gf, 0, none⟩ = false := KB_f_714.out.frozen 0
            have CE_f_1 : w6.cell? ⟨gf, 1, none⟩ = some (.slice Ar R cr) := KB_f_714.out.cell 1
            have CF_f_1 : w6.frozen? ⟨gf, 1, none⟩ = false := KB_f_714.out.frozen 1
            have CE_f_lt : gf < w6.heap.size := KB_f_714.out.lt
            go_upto_region 14 with fail
            clear CE_f_0 CF_f_0 CE_f_1 CF_f_1 CE_f_lt
            obtain ⟨w7, hv⟩ : ∃ q, q = ((w6.setCell ⟨gf, 0, none⟩ (.int .u64 a0)).setCell ⟨gf, 1, none⟩ (.slice Ag R cg)) := ⟨_, rfl⟩
            rw [← hv]
            have pe : w7 = putCells w6 gf 0 [.int .u64 a0, .slice Ag R cg] := hv
            clear hv
            have BEL715 := p_bel pe BEL714 BOX714 (List.mem_cons_of_mem _ (List.mem_cons_of_mem _ (List.mem_cons_of_mem _ (List.mem_cons_of_mem _ (List.mem_cons_of_mem _ List.mem_cons_self)))))
            have BOX715 := p_box pe BOX714
            have FA_x_715 := p_fact pe FA_x_714 (List.mem_cons_of_mem _ (List.mem_cons_of_mem _ (List.mem_cons_of_mem _ (List.mem_cons_of_mem _ (List.mem_cons_of_mem _ List.mem_cons_self)))))
            have FA_y_715 := p_fact pe FA_y_714 (List.mem_cons_of_mem _ (List.mem_cons_of_mem _ (List.mem_cons_of_mem _ (List.mem_cons_of_mem _ (List.mem_cons_of_mem _ List.mem_cons_self)))))
            have FA_u_715 := p_fact pe FA_u_714 (List.mem_cons_of_mem _ (List.mem_cons_of_mem _ (List.mem_cons_of_mem _ (List.mem_cons_of_mem _ (List.mem_cons_of_mem _ List.mem_cons_self)))))
            have FA_g_715 := p_fact pe FA_g_714 (List.mem_cons_of_mem _ (List.mem_cons_of_mem _ (List.mem_cons_of_mem _ (List.mem_cons_of_mem _ (List.mem_cons_of_mem _ List.mem_cons_self)))))
            have KB_f_715 : Hid (Blk w7 gf 25 #[.int .u64 a0, .slice Ag R cg]) := p_blk pe KB_f_714 rfl
            have KB_x_715 := p_oth pe KB_x_714 (n_sym NE_f_x)
            have KB_y_715 := p_oth pe KB_y_714 (n_sym NE_f_y)
            have KB_u_715 := p_oth pe KB_u_714 (n_sym NE_f_u)
            clear pe BEL714 BOX714 FA_x_714 FA_y_714 FA_u_714 FA_g_714 KB_f_714 KB_x_714 KB_y_714 KB_u_714
            have CE_f_0 : w7.cell? ⟨gf, 0, none⟩ = some (.int .u64 a0) := KB_f_715.out.cell 0
            have CE_f_1 : w7.cell? ⟨gf, 1, none⟩ = some (.slice Ag R cg) := KB_f_715.out.cell 1
            have CE_f_lt : gf < w7.heap.size := KB_f_715.out.lt
            go_wp2_with fail
            refine (mestim_ok _ _ a0 R n E FA_g_715.out.at OK.out).mono ?_
            rintro e w8 ⟨rfl, b8⟩
            clear CE_f_0 CE_f_1 CE_f_lt
            rw [← HTE.out]
            have BEL716 := h_bel BEL715 b8
            have BOX716 := h_box BOX715 b8
            have FA_x_716 := h_fact FA_x_715 b8
            have FA_y_716 := h_fact FA_y_715 b8
            have FA_u_716 := h_fact FA_u_715 b8
            have FA_g_716 := h_fact FA_g_715 b8
            have KB_f_716 := h_blk KB_f_715 b8
            have KB_x_716 := h_blk KB_x_715 b8
            have KB_y_716 := h_blk KB_y_715 b8
            have KB_u_716 := h_blk KB_u_715 b8
            clear BEL715 BOX715 FA_x_715 FA_y_715 FA_u_715 FA_g_715 KB_f_715 KB_x_715 KB_y_715 KB_u_715
            clear b8
            go_wp2_with fail
            go_roundg (m - (t + 1))
            case measure => have := HG.out; omega
            case rel => exact ⟨t + 1, T, Ag, cg, ⟨rfl, by omega, by rw [HDE.out, ← HTE.out]; exact Nat.le_refl _, BEL716.out, BOX716.out, by rw [HDE.out]; exact FA_g_716.out, FA_x_716.out, FA_y_716.out, FA_u_716.out, KB_f_716.out, KB_x_716.out, KB_y_716.out, KB_u_716.out⟩, rfl, by go_num⟩
          · have bt : ¬ (t : Int) < (m : Int) := by omega
            clear l2 l1 HG
            obtain ⟨TX, hTX⟩ : ∃ TX, TX = estM n (addsM a0 R n (fun _ _ => false) K m) R := ⟨_, rfl⟩
            obtain ⟨TY, hTY⟩ : ∃ TY, TY = estM n (addsM a0 R n (fun _ _ => false) J p) R := ⟨_, rfl⟩
            obtain ⟨TU, hTU⟩ : ∃ TU, TU = estM n (mergeM (addsM a0 R n (fun _ _ => false) K m) (addsM a0 R n (fun _ _ => false) J p)) R := ⟨_, rfl⟩
            have hx1 : TX ≤ TU := by rw [hTX, hTU]; exact estM_merge_left _ _ n R
            have hy1 : TY ≤ TU := by rw [hTY, hTU]; exact estM_merge_right _ _ n R
            have gx1 : (TX : Int) ≤ (TU : Int) := by omega
            have gy1 : (TY : Int) ≤ (TU : Int) := by omega
            have gx2 : decide ((TU : Int) ≥ (TX : Int)) = true := decide_eq_true gx1
            have gy2 : decide ((TU : Int) ≥ (TY : Int)) = true := decide_eq_true gy1
            have TXE : Hid (TX = estM n (addsM a0 R n (fun _ _ => false) K m) R) := hTX
            have TYE : Hid (TY = estM n (addsM a0 R n (fun _ _ => false) J p) R) := hTY
            have TUE : Hid (TU = estM n (mergeM (addsM a0 R n (fun _ _ => false) K m) (addsM a0 R n (fun _ _ => false) J p)) R) := hTU
            clear hTX hTY hTU hx1 hy1
            have ESX : Hid (∀ w1, Below wr.heap.size wr w1 → Calls Tryd.prog 17 #[.agg #[.int .u64 a0, .slice Ax R cx]] w1 fun e w' => e = .returned (.int .i64 (TX : Int)) ∧ Below wr.heap.size wr w') := fun w1 b1 => (mestim_ok w1 _ a0 R n _ (FA_x_713.out.since b1).at OK.out).mono fun e w' h => ⟨(by rw [TXE.out]; exact h.1), bel_trans b1 h.2⟩
            have ESY : Hid (∀ w1, Below wr.heap.size wr w1 → Calls Tryd.prog 17 #[.agg #[.int .u64 a0, .slice Ay R cy]] w1 fun e w' => e = .returned (.int .i64 (TY : Int)) ∧ Below wr.heap.size wr w') := fun w1 b1 => (mestim_ok w1 _ a0 R n _ (FA_y_713.out.since b1).at OK.out).mono fun e w' h => ⟨(by rw [TYE.out]; exact h.1), bel_trans b1 h.2⟩
            have ESU : Hid (∀ w1, Below wr.heap.size wr w1 → Calls Tryd.prog 17 #[.agg #[.int .u64 a0, .slice Au R cu]] w1 fun e w' => e = .returned (.int .i64 (TU : Int)) ∧ Below wr.heap.size wr w') := fun w1 b1 => (mestim_ok w1 _ a0 R n _ (FA_u_713.out.since b1).at OK.out).mono fun e w' h => ⟨(by rw [TUE.out]; exact h.1), bel_trans b1 h.2⟩
            have WA : Hid (∀ w1, Below wr.heap.size wr w1 → Calls Tryd.prog 11 #[] w1 fun e w' => e = .returned (.bool true) ∧ Below wr.heap.size wr w') := fun w1 b1 => (mawake_any w1 (tabAt_keep HT.out (keep_of_below (bel_trans BEL713.out b1)))).mono fun e w' h => ⟨h.1, bel_trans b1 h.2⟩
            have KS : Hid (∀ w' : World, Below wr.heap.size wr w' → (w'.cell? ⟨gx, 0, none⟩ = some (.int .u64 a0) ∧ w'.cell? ⟨gx, 1, none⟩ = some (.slice Ax R cx) ∧ w'.cell? ⟨gy, 0, none⟩ = some (.int .u64 a0) ∧ w'.cell? ⟨gy, 1, none⟩ = some (.slice Ay R cy) ∧ w'.cell? ⟨gu, 0, none⟩ = some (.int .u64 a0) ∧ w'.cell? ⟨gu, 1, none⟩ = some (.slice Au R cu))) := fun w' b1 => ⟨(KB_x_713.out.since b1).cell 0, (KB_x_713.out.since b1).cell 1, (KB_y_713.out.since b1).cell 0, (KB_y_713.out.since b1).cell 1, (KB_u_713.out.since b1).cell 0, (KB_u_713.out.since b1).cell 1⟩
            have Z0 : Hid (Below wr.heap.size wr wr.drew) := (Below.refl _ _).drew
            have CE_x_0 : wr.cell? ⟨gx, 0, none⟩ = some (.int .u64 a0) := KB_x_713.out.cell 0
            have CE_x_1 : wr.cell? ⟨gx, 1, none⟩ = some (.slice Ax R cx) := KB_x_713.out.cell 1
            have CE_x_lt : gx < wr.heap.size := KB_x_713.out.lt
            have CE_y_0 : wr.cell? ⟨gy, 0, none⟩ = some (.int .u64 a0) := KB_y_713.out.cell 0
            have CE_y_1 : wr.cell? ⟨gy, 1, none⟩ = some (.slice Ay R cy) := KB_y_713.out.cell 1
            have CE_y_lt : gy < wr.heap.size := KB_y_713.out.lt
            have CE_u_0 : wr.cell? ⟨gu, 0, none⟩ = some (.int .u64 a0) := KB_u_713.out.cell 0
            have CE_u_1 : wr.cell? ⟨gu, 1, none⟩ = some (.slice Au R cu) := KB_u_713.out.cell 1
            have CE_u_lt : gu < wr.heap.size := KB_u_713.out.lt
            clear FA_f_713 FA_x_713 FA_y_713 FA_u_713
            go_wp2_with fail
            go_region_held3 (fun w' => w'.cell? ⟨gx, 0, none⟩ = some (.int .u64 a0) ∧ w'.cell? ⟨gx, 1, none⟩ = some (.slice Ax R cx) ∧ w'.cell? ⟨gy, 0, none⟩ = some (.int .u64 a0) ∧ w'.cell? ⟨gy, 1, none⟩ = some (.slice Ay R cy) ∧ w'.cell? ⟨gu, 0, none⟩ = some (.int .u64 a0) ∧ w'.cell? ⟨gu, 1, none⟩ = some (.slice Au R cu)) (first | exact KS.out _ Z5.out | exact KS.out _ Z4.out | exact KS.out _ Z3.out | exact KS.out _ Z2.out | exact KS.out _ Z1.out | exact KS.out _ Z0.out | go_keep) (first
              | (have fl := Z4; clear fl; go_simp; go_at_call 11; refine (WA.out _ Z4.out).mono ?_; rintro e r5 ⟨rfl, cc⟩; have Z5 : Hid (Below wr.heap.size wr r5) := cc; clear cc)
              | (have fl := Z3; clear fl; go_simp; go_at_call 17; refine (ESY.out _ Z3.out).mono ?_; rintro e r4 ⟨rfl, cc⟩; have Z4 : Hid (Below wr.heap.size wr r4) := cc; clear cc)
              | (have fl := Z2; clear fl; go_simp; go_at_call 17; refine (ESU.out _ Z2.out).mono ?_; rintro e r3 ⟨rfl, cc⟩; have Z3 : Hid (Below wr.heap.size wr r3) := cc; clear cc)
              | (have fl := Z1; clear fl; go_simp; go_at_call 17; refine (ESX.out _ Z1.out).mono ?_; rintro e r2 ⟨rfl, cc⟩; have Z2 : Hid (Below wr.heap.size wr r2) := cc; clear cc)
              | (have fl := Z0; clear fl; go_simp; go_at_call 17; refine (ESU.out _ Z0.out).mono ?_; rintro e r1 ⟨rfl, cc⟩; have Z1 : Hid (Below wr.heap.size wr r1) := cc; clear cc))
            all_goals go_wp2_with fail
            all_goals go_ret
            all_goals exact ⟨rfl, bel_trans BEL713.out Z5.out⟩
    have ND_2_P : Hid (∀ (v : World) (AP : Option Addr) (cP : Nat) (AQ : Option Addr) (cQ : Nat) (gP : Nat) (ll : Array Bool) (aa : Act), ll = #[true, true, true, true, true, true, true, false, false, false] → aa = (((act0.put (some 51) (.agg #[.int .u64 a0, .slice AP R cP])).put (some 54) (.agg #[.int .u64 a0, .slice AQ R cQ])).put (some 15) (.pointer (some ⟨gP, 0, none⟩))) → Hid (Below w.heap.size w v) → Hid (Boxes w v [gP, gy, gx, gf]) → Hid (HeldX [gP, gy, gx, gf] (fun uq => MpAt uq (.agg #[.int .u64 a0, .slice Af R cf]) a0 R (fun _ => n) (fun _ _ => false)) v) → Hid (HeldX [gP, gy, gx, gf] (fun uq => MpAt uq (.agg #[.int .u64 a0, .slice Ax R cx]) a0 R (fun _ => n) (addsM a0 R n (fun _ _ => false) K m)) v) → Hid (HeldX [gP, gy, gx, gf] (fun uq => MpAt uq (.agg #[.int .u64 a0, .slice Ay R cy]) a0 R (fun _ => n) (addsM a0 R n (fun _ _ => false) J p)) v) → Hid (HeldX [gP, gy, gx, gf] (fun uq => MpAt uq (.agg #[.int .u64 a0, .slice AP R cP]) a0 R (fun _ => n) (addsM a0 R n (addsM a0 R n (fun _ _ => false) K m) J p)) v) → Hid (HeldX [gP, gy, gx, gf] (fun uq => MpAt uq (.agg #[.int .u64 a0, .slice AQ R cQ]) a0 R (fun _ => n) (addsM a0 R n (addsM a0 R n (fun _ _ => false) J p) K m)) v) → Hid (Blk v gf 25 #[.int .u64 a0, .slice Af R cf]) → Hid (Blk v gx 25 #[.int .u64 a0, .slice Ax R cx]) → Hid (Blk v gy 25 #[.int .u64 a0, .slice Ay R cy]) → Hid (Blk v gP 25 #[.int .u64 0, .slice none 0 0]) → Hid (gf ≠ gx) → Hid (gf ≠ gy) → Hid (gx ≠ gy) → Hid (gf ≠ gP) → Hid (gx ≠ gP) → Hid (gy ≠ gP) → TT 3 ll aa v) := by
      intro v AP cP AQ cQ gP ll aa hl hA BEL208 BOX208 FA_f_208 FA_x_208 FA_y_208 FA_P_208 FA_Q_208 KB_f_208 KB_x_208 KB_y_208 KB_P_208 NE_f_x NE_f_y NE_x_y NE_f_P NE_x_P NE_y_P
      rw [hact.out] at hA
      try simp only [Act.put, List.setIfInBounds_toArray, List.set_cons_zero, List.set_cons_succ] at hA
      subst hl hA
      refine hUT.out _ _ _ _ ?_
      refine wpAnyH_ready (rs := [7]) (by kernel_rfl) (by simp) ?_
      refine AllReadyH.cons rfl (fun K0 hK0 => ?_) ?_
      · have BEL209 := a_bel BEL208 (.cells #[.int .u64 0, .slice none 0 0] 25)
        have BOX209 := a_box BOX208 BEL208 (.cells #[.int .u64 0, .slice none 0 0] 25)
        have FA_f_209 := a_fact FA_f_208 (.cells #[.int .u64 0, .slice none 0 0] 25)
        have FA_x_209 := a_fact FA_x_208 (.cells #[.int .u64 0, .slice none 0 0] 25)
        have FA_y_209 := a_fact FA_y_208 (.cells #[.int .u64 0, .slice none 0 0] 25)
        have FA_P_209 := a_fact FA_P_208 (.cells #[.int .u64 0, .slice none 0 0] 25)
        have FA_Q_209 := a_fact FA_Q_208 (.cells #[.int .u64 0, .slice none 0 0] 25)
        have KB_f_209 := a_blk KB_f_208 (.cells #[.int .u64 0, .slice none 0 0] 25)
        have NE_f_Q := n_ne KB_f_208
        have KB_x_209 := a_blk KB_x_208 (.cells #[.int .u64 0, .slice none 0 0] 25)
        have NE_x_Q := n_ne KB_x_208
        have KB_y_209 := a_blk KB_y_208 (.cells #[.int .u64 0, .slice none 0 0] 25)
        have NE_y_Q := n_ne KB_y_208
        have KB_P_209 := a_blk KB_P_208 (.cells #[.int .u64 0, .slice none 0 0] 25)
        have NE_P_Q := n_ne KB_P_208
        have KB_Q_209 := n_blk (u := v) 25 #[.int .u64 0, .slice none 0 0]
        clear BEL208 BOX208 FA_f_208 FA_x_208 FA_y_208 FA_P_208 FA_Q_208 KB_f_208 KB_x_208 KB_y_208 KB_P_208
        go_simp
        generalize (v.alloc (.cells #[.int .u64 0, .slice none 0 0] 25)) = v2 at BEL209 BOX209 FA_f_209 FA_x_209 FA_y_209 FA_P_209 FA_Q_209 KB_f_209 KB_x_209 KB_y_209 KB_P_209 KB_Q_209 ⊢
        generalize v.heap.size = gQ at BOX209 FA_f_209 FA_x_209 FA_y_209 FA_P_209 FA_Q_209 KB_Q_209 NE_f_Q NE_x_Q NE_y_Q NE_P_Q ⊢
        refine hK0.out _ _ (by exact ⟨KB_x_209.out, KB_y_209.out⟩) (fun hHeld => ?_)
        clear hK0 K0 hHeld
        refine hTU.out _ _ _ _ ?_
        refine ND_2_PQ.out _ AP cP AQ cQ gP gQ _ _ ?_ ?_ BEL209 BOX209 FA_f_209 FA_x_209 FA_y_209 FA_P_209 FA_Q_209 KB_f_209 KB_x_209 KB_y_209 KB_P_209 KB_Q_209 NE_f_x NE_f_y NE_x_y NE_f_P NE_f_Q NE_x_P NE_x_Q NE_y_P NE_y_Q NE_P_Q
        · first | rfl | kernel_rfl
        · rw [hact.out]; rfl
      exact AllReadyH.nil
    have ND_2_Q : Hid (∀ (v : World) (AP : Option Addr) (cP : Nat) (AQ : Option Addr) (cQ : Nat) (gQ : Nat) (ll : Array Bool) (aa : Act), ll = #[true, true, true, true, true, true, false, true, false, false] → aa = (((act0.put (some 51) (.agg #[.int .u64 a0, .slice AP R cP])).put (some 54) (.agg #[.int .u64 a0, .slice AQ R cQ])).put (some 16) (.pointer (some ⟨gQ, 0, none⟩))) → Hid (Below w.heap.size w v) → Hid (Boxes w v [gQ, gy, gx, gf]) → Hid (HeldX [gQ, gy, gx, gf] (fun uq => MpAt uq (.agg #[.int .u64 a0, .slice Af R cf]) a0 R (fun _ => n) (fun _ _ => false)) v) → Hid (HeldX [gQ, gy, gx, gf] (fun uq => MpAt uq (.agg #[.int .u64 a0, .slice Ax R cx]) a0 R (fun _ => n) (addsM a0 R n (fun _ _ => false) K m)) v) → Hid (HeldX [gQ, gy, gx, gf] (fun uq => MpAt uq (.agg #[.int .u64 a0, .slice Ay R cy]) a0 R (fun _ => n) (addsM a0 R n (fun _ _ => false) J p)) v) → Hid (HeldX [gQ, gy, gx, gf] (fun uq => MpAt uq (.agg #[.int .u64 a0, .slice AP R cP]) a0 R (fun _ => n) (addsM a0 R n (addsM a0 R n (fun _ _ => false) K m) J p)) v) → Hid (HeldX [gQ, gy, gx, gf] (fun uq => MpAt uq (.agg #[.int .u64 a0, .slice AQ R cQ]) a0 R (fun _ => n) (addsM a0 R n (addsM a0 R n (fun _ _ => false) J p) K m)) v) → Hid (Blk v gf 25 #[.int .u64 a0, .slice Af R cf]) → Hid (Blk v gx 25 #[.int .u64 a0, .slice Ax R cx]) → Hid (Blk v gy 25 #[.int .u64 a0, .slice Ay R cy]) → Hid (Blk v gQ 25 #[.int .u64 0, .slice none 0 0]) → Hid (gf ≠ gx) → Hid (gf ≠ gy) → Hid (gx ≠ gy) → Hid (gf ≠ gQ) → Hid (gx ≠ gQ) → Hid (gy ≠ gQ) → TT 3 ll aa v) := by
      intro v AP cP AQ cQ gQ ll aa hl hA BEL208 BOX208 FA_f_208 FA_x_208 FA_y_208 FA_P_208 FA_Q_208 KB_f_208 KB_x_208 KB_y_208 KB_Q_208 NE_f_x NE_f_y NE_x_y NE_f_Q NE_x_Q NE_y_Q
      rw [hact.out] at hA
      try simp only [Act.put, List.setIfInBounds_toArray, List.set_cons_zero, List.set_cons_succ] at hA
      subst hl hA
      refine hUT.out _ _ _ _ ?_
      refine wpAnyH_ready (rs := [6]) (by kernel_rfl) (by simp) ?_
      refine AllReadyH.cons rfl (fun K0 hK0 => ?_) ?_
      · have BEL209 := a_bel BEL208 (.cells #[.int .u64 0, .slice none 0 0] 25)
        have BOX209 := a_box BOX208 BEL208 (.cells #[.int .u64 0, .slice none 0 0] 25)
        have FA_f_209 := a_fact FA_f_208 (.cells #[.int .u64 0, .slice none 0 0] 25)
        have FA_x_209 := a_fact FA_x_208 (.cells #[.int .u64 0, .slice none 0 0] 25)
        have FA_y_209 := a_fact FA_y_208 (.cells #[.int .u64 0, .slice none 0 0] 25)
        have FA_P_209 := a_fact FA_P_208 (.cells #[.int .u64 0, .slice none 0 0] 25)
        have FA_Q_209 := a_fact FA_Q_208 (.cells #[.int .u64 0, .slice none 0 0] 25)
        have KB_f_209 := a_blk KB_f_208 (.cells #[.int .u64 0, .slice none 0 0] 25)
        have NE_f_P := n_ne KB_f_208
        have KB_x_209 := a_blk KB_x_208 (.cells #[.int .u64 0, .slice none 0 0] 25)
        have NE_x_P := n_ne KB_x_208
        have KB_y_209 := a_blk KB_y_208 (.cells #[.int .u64 0, .slice none 0 0] 25)
        have NE_y_P := n_ne KB_y_208
        have KB_Q_209 := a_blk KB_Q_208 (.cells #[.int .u64 0, .slice none 0 0] 25)
        have NE_Q_P := n_ne KB_Q_208
        have KB_P_209 := n_blk (u := v) 25 #[.int .u64 0, .slice none 0 0]
        clear BEL208 BOX208 FA_f_208 FA_x_208 FA_y_208 FA_P_208 FA_Q_208 KB_f_208 KB_x_208 KB_y_208 KB_Q_208
        go_simp
        generalize (v.alloc (.cells #[.int .u64 0, .slice none 0 0] 25)) = v2 at BEL209 BOX209 FA_f_209 FA_x_209 FA_y_209 FA_P_209 FA_Q_209 KB_f_209 KB_x_209 KB_y_209 KB_Q_209 KB_P_209 ⊢
        generalize v.heap.size = gP at BOX209 FA_f_209 FA_x_209 FA_y_209 FA_P_209 FA_Q_209 KB_P_209 NE_f_P NE_x_P NE_y_P NE_Q_P ⊢
        refine hK0.out _ _ (by exact ⟨KB_x_209.out, KB_y_209.out⟩) (fun hHeld => ?_)
        clear hK0 K0 hHeld
        refine hTU.out _ _ _ _ ?_
        refine ND_2_PQ.out _ AP cP AQ cQ gP gQ _ _ ?_ ?_ BEL209 (b_perm BOX209 (by intro p m; simp only [List.mem_cons, List.not_mem_nil, or_false] at m ⊢; omega)) (h_perm FA_f_209 (by intro p m; simp only [List.mem_cons, List.not_mem_nil, or_false] at m ⊢; omega)) (h_perm FA_x_209 (by intro p m; simp only [List.mem_cons, List.not_mem_nil, or_false] at m ⊢; omega)) (h_perm FA_y_209 (by intro p m; simp only [List.mem_cons, List.not_mem_nil, or_false] at m ⊢; omega)) (h_perm FA_P_209 (by intro p m; simp only [List.mem_cons, List.not_mem_nil, or_false] at m ⊢; omega)) (h_perm FA_Q_209 (by intro p m; simp only [List.mem_cons, List.not_mem_nil, or_false] at m ⊢; omega)) KB_f_209 KB_x_209 KB_y_209 KB_P_209 KB_Q_209 NE_f_x NE_f_y NE_x_y NE_f_P NE_f_Q NE_x_P NE_x_Q NE_y_P NE_y_Q (n_sym NE_Q_P)
        · first | rfl | kernel_rfl
        · rw [hact.out]; rfl
      exact AllReadyH.nil
    have ND_2_ : Hid (∀ (v : World) (AP : Option Addr) (cP : Nat) (AQ : Option Addr) (cQ : Nat) (ll : Array Bool) (aa : Act), ll = #[true, true, true, true, true, true, false, false, false, false] → aa = ((act0.put (some 51) (.agg #[.int .u64 a0, .slice AP R cP])).put (some 54) (.agg #[.int .u64 a0, .slice AQ R cQ])) → Hid (Below w.heap.size w v) → Hid (Boxes w v [gy, gx, gf]) → Hid (HeldX [gy, gx, gf] (fun uq => MpAt uq (.agg #[.int .u64 a0, .slice Af R cf]) a0 R (fun _ => n) (fun _ _ => false)) v) → Hid (HeldX [gy, gx, gf] (fun uq => MpAt uq (.agg #[.int .u64 a0, .slice Ax R cx]) a0 R (fun _ => n) (addsM a0 R n (fun _ _ => false) K m)) v) → Hid (HeldX [gy, gx, gf] (fun uq => MpAt uq (.agg #[.int .u64 a0, .slice Ay R cy]) a0 R (fun _ => n) (addsM a0 R n (fun _ _ => false) J p)) v) → Hid (HeldX [gy, gx, gf] (fun uq => MpAt uq (.agg #[.int .u64 a0, .slice AP R cP]) a0 R (fun _ => n) (addsM a0 R n (addsM a0 R n (fun _ _ => false) K m) J p)) v) → Hid (HeldX [gy, gx, gf] (fun uq => MpAt uq (.agg #[.int .u64 a0, .slice AQ R cQ]) a0 R (fun _ => n) (addsM a0 R n (addsM a0 R n (fun _ _ => false) J p) K m)) v) → Hid (Blk v gf 25 #[.int .u64 a0, .slice Af R cf]) → Hid (Blk v gx 25 #[.int .u64 a0, .slice Ax R cx]) → Hid (Blk v gy 25 #[.int .u64 a0, .slice Ay R cy]) → Hid (gf ≠ gx) → Hid (gf ≠ gy) → Hid (gx ≠ gy) → TT 4 ll aa v) := by
      intro v AP cP AQ cQ ll aa hl hA BEL208 BOX208 FA_f_208 FA_x_208 FA_y_208 FA_P_208 FA_Q_208 KB_f_208 KB_x_208 KB_y_208 NE_f_x NE_f_y NE_x_y
      rw [hact.out] at hA
      try simp only [Act.put, List.setIfInBounds_toArray, List.set_cons_zero, List.set_cons_succ] at hA
      subst hl hA
      refine hUT.out _ _ _ _ ?_
      refine wpAnyH_ready (rs := [6, 7]) (by kernel_rfl) (by simp) ?_
      refine AllReadyH.cons rfl (fun K0 hK0 => ?_) ?_
      · have BEL209 := a_bel BEL208 (.cells #[.int .u64 0, .slice none 0 0] 25)
        have BOX209 := a_box BOX208 BEL208 (.cells #[.int .u64 0, .slice none 0 0] 25)
        have FA_f_209 := a_fact FA_f_208 (.cells #[.int .u64 0, .slice none 0 0] 25)
        have FA_x_209 := a_fact FA_x_208 (.cells #[.int .u64 0, .slice none 0 0] 25)
        have FA_y_209 := a_fact FA_y_208 (.cells #[.int .u64 0, .slice none 0 0] 25)
        have FA_P_209 := a_fact FA_P_208 (.cells #[.int .u64 0, .slice none 0 0] 25)
        have FA_Q_209 := a_fact FA_Q_208 (.cells #[.int .u64 0, .slice none 0 0] 25)
        have KB_f_209 := a_blk KB_f_208 (.cells #[.int .u64 0, .slice none 0 0] 25)
        have NE_f_P := n_ne KB_f_208
        have KB_x_209 := a_blk KB_x_208 (.cells #[.int .u64 0, .slice none 0 0] 25)
        have NE_x_P := n_ne KB_x_208
        have KB_y_209 := a_blk KB_y_208 (.cells #[.int .u64 0, .slice none 0 0] 25)
        have NE_y_P := n_ne KB_y_208
        have KB_P_209 := n_blk (u := v) 25 #[.int .u64 0, .slice none 0 0]
        clear BEL208 BOX208 FA_f_208 FA_x_208 FA_y_208 FA_P_208 FA_Q_208 KB_f_208 KB_x_208 KB_y_208
        go_simp
        generalize (v.alloc (.cells #[.int .u64 0, .slice none 0 0] 25)) = v2 at BEL209 BOX209 FA_f_209 FA_x_209 FA_y_209 FA_P_209 FA_Q_209 KB_f_209 KB_x_209 KB_y_209 KB_P_209 ⊢
        generalize v.heap.size = gP at BOX209 FA_f_209 FA_x_209 FA_y_209 FA_P_209 FA_Q_209 KB_P_209 NE_f_P NE_x_P NE_y_P ⊢
        refine hK0.out _ _ (by exact ⟨KB_x_209.out, KB_y_209.out⟩) (fun hHeld => ?_)
        clear hK0 K0 hHeld
        refine hTU.out _ _ _ _ ?_
        refine ND_2_P.out _ AP cP AQ cQ gP _ _ ?_ ?_ BEL209 BOX209 FA_f_209 FA_x_209 FA_y_209 FA_P_209 FA_Q_209 KB_f_209 KB_x_209 KB_y_209 KB_P_209 NE_f_x NE_f_y NE_x_y NE_f_P NE_x_P NE_y_P
        · first | rfl | kernel_rfl
        · rw [hact.out]; rfl
      refine AllReadyH.cons rfl (fun K0 hK0 => ?_) ?_
      · have BEL209 := a_bel BEL208 (.cells #[.int .u64 0, .slice none 0 0] 25)
        have BOX209 := a_box BOX208 BEL208 (.cells #[.int .u64 0, .slice none 0 0] 25)
        have FA_f_209 := a_fact FA_f_208 (.cells #[.int .u64 0, .slice none 0 0] 25)
        have FA_x_209 := a_fact FA_x_208 (.cells #[.int .u64 0, .slice none 0 0] 25)
        have FA_y_209 := a_fact FA_y_208 (.cells #[.int .u64 0, .slice none 0 0] 25)
        have FA_P_209 := a_fact FA_P_208 (.cells #[.int .u64 0, .slice none 0 0] 25)
        have FA_Q_209 := a_fact FA_Q_208 (.cells #[.int .u64 0, .slice none 0 0] 25)
        have KB_f_209 := a_blk KB_f_208 (.cells #[.int .u64 0, .slice none 0 0] 25)
        have NE_f_Q := n_ne KB_f_208
        have KB_x_209 := a_blk KB_x_208 (.cells #[.int .u64 0, .slice none 0 0] 25)
        have NE_x_Q := n_ne KB_x_208
        have KB_y_209 := a_blk KB_y_208 (.cells #[.int .u64 0, .slice none 0 0] 25)
        have NE_y_Q := n_ne KB_y_208
        have KB_Q_209 := n_blk (u := v) 25 #[.int .u64 0, .slice none 0 0]
        clear BEL208 BOX208 FA_f_208 FA_x_208 FA_y_208 FA_P_208 FA_Q_208 KB_f_208 KB_x_208 KB_y_208
        go_simp
        generalize (v.alloc (.cells #[.int .u64 0, .slice none 0 0] 25)) = v2 at BEL209 BOX209 FA_f_209 FA_x_209 FA_y_209 FA_P_209 FA_Q_209 KB_f_209 KB_x_209 KB_y_209 KB_Q_209 ⊢
        generalize v.heap.size = gQ at BOX209 FA_f_209 FA_x_209 FA_y_209 FA_P_209 FA_Q_209 KB_Q_209 NE_f_Q NE_x_Q NE_y_Q ⊢
        refine hK0.out _ _ (by exact ⟨KB_x_209.out, KB_y_209.out⟩) (fun hHeld => ?_)
        clear hK0 K0 hHeld
        refine hTU.out _ _ _ _ ?_
        refine ND_2_Q.out _ AP cP AQ cQ gQ _ _ ?_ ?_ BEL209 BOX209 FA_f_209 FA_x_209 FA_y_209 FA_P_209 FA_Q_209 KB_f_209 KB_x_209 KB_y_209 KB_Q_209 NE_f_x NE_f_y NE_x_y NE_f_Q NE_x_Q NE_y_Q
        · first | rfl | kernel_rfl
        · rw [hact.out]; rfl
      exact AllReadyH.nil
    have ND_1_PQ : Hid (∀ (v : World) (AP : Option Addr) (cP : Nat) (gP : Nat) (gQ : Nat) (ll : Array Bool) (aa : Act), ll = #[true, true, true, true, true, false, true, true, false, false] → aa = (((act0.put (some 51) (.agg #[.int .u64 a0, .slice AP R cP])).put (some 15) (.pointer (some ⟨gP, 0, none⟩))).put (some 16) (.pointer (some ⟨gQ, 0, none⟩))) → Hid (Below w.heap.size w v) → Hid (Boxes w v [gQ, gP, gy, gx, gf]) → Hid (HeldX [gQ, gP, gy, gx, gf] (fun uq => MpAt uq (.agg #[.int .u64 a0, .slice Af R cf]) a0 R (fun _ => n) (fun _ _ => false)) v) → Hid (HeldX [gQ, gP, gy, gx, gf] (fun uq => MpAt uq (.agg #[.int .u64 a0, .slice Ax R cx]) a0 R (fun _ => n) (addsM a0 R n (fun _ _ => false) K m)) v) → Hid (HeldX [gQ, gP, gy, gx, gf] (fun uq => MpAt uq (.agg #[.int .u64 a0, .slice Ay R cy]) a0 R (fun _ => n) (addsM a0 R n (fun _ _ => false) J p)) v) → Hid (HeldX [gQ, gP, gy, gx, gf] (fun uq => MpAt uq (.agg #[.int .u64 a0, .slice AP R cP]) a0 R (fun _ => n) (addsM a0 R n (addsM a0 R n (fun _ _ => false) K m) J p)) v) → Hid (Blk v gf 25 #[.int .u64 a0, .slice Af R cf]) → Hid (Blk v gx 25 #[.int .u64 a0, .slice Ax R cx]) → Hid (Blk v gy 25 #[.int .u64 a0, .slice Ay R cy]) → Hid (Blk v gP 25 #[.int .u64 0, .slice none 0 0]) → Hid (Blk v gQ 25 #[.int .u64 0, .slice none 0 0]) → Hid (gf ≠ gx) → Hid (gf ≠ gy) → Hid (gx ≠ gy) → Hid (gf ≠ gP) → Hid (gf ≠ gQ) → Hid (gx ≠ gP) → Hid (gx ≠ gQ) → Hid (gy ≠ gP) → Hid (gy ≠ gQ) → Hid (gP ≠ gQ) → TT 3 ll aa v) := by
      intro v AP cP gP gQ ll aa hl hA BEL208 BOX208 FA_f_208 FA_x_208 FA_y_208 FA_P_208 KB_f_208 KB_x_208 KB_y_208 KB_P_208 KB_Q_208 NE_f_x NE_f_y NE_x_y NE_f_P NE_f_Q NE_x_P NE_x_Q NE_y_P NE_y_Q NE_P_Q
      rw [hact.out] at hA
      try simp only [Act.put, List.setIfInBounds_toArray, List.set_cons_zero, List.set_cons_succ] at hA
      subst hl hA
      refine hUT.out _ _ _ _ ?_
      refine wpAnyH_ready (rs := [5]) (by kernel_rfl) (by simp) ?_
      refine AllReadyH.cons rfl (fun K0 hK0 => ?_) ?_
      · refine step_func 23 #[.agg #[.int .u64 a0, .slice Ay R cy], .slice Al m capl] (by rfl) rfl (by simp [Act.eval]) (fun _ _ => by kernel_rfl) ?_
        refine (madds_any _ _ _ [gQ, gP, gy, gx, gf] a0 R n m _ K FA_y_208.out (fun g hg => (BOX208.out g hg).2) (LA.out.keep (keep_of_below BEL208.out)) OK.out uS (by omega) HK.out (tabAt_keep HT.out (keep_of_below BEL208.out))).mono ?_
        rintro e wQ ⟨AQ, cQ, rfl, fQ, bb⟩
        have BEL209 := h_bel BEL208 bb
        have BOX209 := h_box BOX208 bb
        have FA_f_209 := h_fact FA_f_208 bb
        have FA_x_209 := h_fact FA_x_208 bb
        have FA_y_209 := h_fact FA_y_208 bb
        have FA_P_209 := h_fact FA_P_208 bb
        have KB_f_209 := h_blk KB_f_208 bb
        have KB_x_209 := h_blk KB_x_208 bb
        have KB_y_209 := h_blk KB_y_208 bb
        have KB_P_209 := h_blk KB_P_208 bb
        have KB_Q_209 := h_blk KB_Q_208 bb
        clear BEL208 BOX208 FA_f_208 FA_x_208 FA_y_208 FA_P_208 KB_f_208 KB_x_208 KB_y_208 KB_P_208 KB_Q_208
        have FA_Q_209 : Hid (HeldX [gQ, gP, gy, gx, gf] (fun uq => MpAt uq (.agg #[.int .u64 a0, .slice AQ R cQ]) a0 R (fun _ => n) (addsM a0 R n (addsM a0 R n (fun _ _ => false) J p) K m)) wQ) := fQ
        clear bb fQ
        refine ⟨_, rfl, ?_⟩
        refine hK0.out _ _ (by exact ⟨KB_x_209.out, KB_y_209.out⟩) (fun hHeld => ?_)
        clear hK0 K0 hHeld
        refine hTU.out _ _ _ _ ?_
        refine ND_2_PQ.out _ AP cP AQ cQ gP gQ _ _ ?_ ?_ BEL209 BOX209 FA_f_209 FA_x_209 FA_y_209 FA_P_209 FA_Q_209 KB_f_209 KB_x_209 KB_y_209 KB_P_209 KB_Q_209 NE_f_x NE_f_y NE_x_y NE_f_P NE_f_Q NE_x_P NE_x_Q NE_y_P NE_y_Q NE_P_Q
        · first | rfl | kernel_rfl
        · rw [hact.out]; rfl
      exact AllReadyH.nil
    have ND_1_P : Hid (∀ (v : World) (AP : Option Addr) (cP : Nat) (gP : Nat) (ll : Array Bool) (aa : Act), ll = #[true, true, true, true, true, false, true, false, false, false] → aa = ((act0.put (some 51) (.agg #[.int .u64 a0, .slice AP R cP])).put (some 15) (.pointer (some ⟨gP, 0, none⟩))) → Hid (Below w.heap.size w v) → Hid (Boxes w v [gP, gy, gx, gf]) → Hid (HeldX [gP, gy, gx, gf] (fun uq => MpAt uq (.agg #[.int .u64 a0, .slice Af R cf]) a0 R (fun _ => n) (fun _ _ => false)) v) → Hid (HeldX [gP, gy, gx, gf] (fun uq => MpAt uq (.agg #[.int .u64 a0, .slice Ax R cx]) a0 R (fun _ => n) (addsM a0 R n (fun _ _ => false) K m)) v) → Hid (HeldX [gP, gy, gx, gf] (fun uq => MpAt uq (.agg #[.int .u64 a0, .slice Ay R cy]) a0 R (fun _ => n) (addsM a0 R n (fun _ _ => false) J p)) v) → Hid (HeldX [gP, gy, gx, gf] (fun uq => MpAt uq (.agg #[.int .u64 a0, .slice AP R cP]) a0 R (fun _ => n) (addsM a0 R n (addsM a0 R n (fun _ _ => false) K m) J p)) v) → Hid (Blk v gf 25 #[.int .u64 a0, .slice Af R cf]) → Hid (Blk v gx 25 #[.int .u64 a0, .slice Ax R cx]) → Hid (Blk v gy 25 #[.int .u64 a0, .slice Ay R cy]) → Hid (Blk v gP 25 #[.int .u64 0, .slice none 0 0]) → Hid (gf ≠ gx) → Hid (gf ≠ gy) → Hid (gx ≠ gy) → Hid (gf ≠ gP) → Hid (gx ≠ gP) → Hid (gy ≠ gP) → TT 4 ll aa v) := by
      intro v AP cP gP ll aa hl hA BEL208 BOX208 FA_f_208 FA_x_208 FA_y_208 FA_P_208 KB_f_208 KB_x_208 KB_y_208 KB_P_208 NE_f_x NE_f_y NE_x_y NE_f_P NE_x_P NE_y_P
      rw [hact.out] at hA
      try simp only [Act.put, List.setIfInBounds_toArray, List.set_cons_zero, List.set_cons_succ] at hA
      subst hl hA
      refine hUT.out _ _ _ _ ?_
      refine wpAnyH_ready (rs := [5, 7]) (by kernel_rfl) (by simp) ?_
      refine AllReadyH.cons rfl (fun K0 hK0 => ?_) ?_
      · refine step_func 23 #[.agg #[.int .u64 a0, .slice Ay R cy], .slice Al m capl] (by rfl) rfl (by simp [Act.eval]) (fun _ _ => by kernel_rfl) ?_
        refine (madds_any _ _ _ [gP, gy, gx, gf] a0 R n m _ K FA_y_208.out (fun g hg => (BOX208.out g hg).2) (LA.out.keep (keep_of_below BEL208.out)) OK.out uS (by omega) HK.out (tabAt_keep HT.out (keep_of_below BEL208.out))).mono ?_
        rintro e wQ ⟨AQ, cQ, rfl, fQ, bb⟩
        have BEL209 := h_bel BEL208 bb
        have BOX209 := h_box BOX208 bb
        have FA_f_209 := h_fact FA_f_208 bb
        have FA_x_209 := h_fact FA_x_208 bb
        have FA_y_209 := h_fact FA_y_208 bb
        have FA_P_209 := h_fact FA_P_208 bb
        have KB_f_209 := h_blk KB_f_208 bb
        have KB_x_209 := h_blk KB_x_208 bb
        have KB_y_209 := h_blk KB_y_208 bb
        have KB_P_209 := h_blk KB_P_208 bb
        clear BEL208 BOX208 FA_f_208 FA_x_208 FA_y_208 FA_P_208 KB_f_208 KB_x_208 KB_y_208 KB_P_208
        have FA_Q_209 : Hid (HeldX [gP, gy, gx, gf] (fun uq => MpAt uq (.agg #[.int .u64 a0, .slice AQ R cQ]) a0 R (fun _ => n) (addsM a0 R n (addsM a0 R n (fun _ _ => false) J p) K m)) wQ) := fQ
        clear bb fQ
        refine ⟨_, rfl, ?_⟩
        refine hK0.out _ _ (by exact ⟨KB_x_209.out, KB_y_209.out⟩) (fun hHeld => ?_)
        clear hK0 K0 hHeld
        refine hTU.out _ _ _ _ ?_
        refine ND_2_P.out _ AP cP AQ cQ gP _ _ ?_ ?_ BEL209 BOX209 FA_f_209 FA_x_209 FA_y_209 FA_P_209 FA_Q_209 KB_f_209 KB_x_209 KB_y_209 KB_P_209 NE_f_x NE_f_y NE_x_y NE_f_P NE_x_P NE_y_P
        · first | rfl | kernel_rfl
        · rw [hact.out]; rfl
      refine AllReadyH.cons rfl (fun K0 hK0 => ?_) ?_
      · have BEL209 := a_bel BEL208 (.cells #[.int .u64 0, .slice none 0 0] 25)
        have BOX209 := a_box BOX208 BEL208 (.cells #[.int .u64 0, .slice none 0 0] 25)
        have FA_f_209 := a_fact FA_f_208 (.cells #[.int .u64 0, .slice none 0 0] 25)
        have FA_x_209 := a_fact FA_x_208 (.cells #[.int .u64 0, .slice none 0 0] 25)
        have FA_y_209 := a_fact FA_y_208 (.cells #[.int .u64 0, .slice none 0 0] 25)
        have FA_P_209 := a_fact FA_P_208 (.cells #[.int .u64 0, .slice none 0 0] 25)
        have KB_f_209 := a_blk KB_f_208 (.cells #[.int .u64 0, .slice none 0 0] 25)
        have NE_f_Q := n_ne KB_f_208
        have KB_x_209 := a_blk KB_x_208 (.cells #[.int .u64 0, .slice none 0 0] 25)
        have NE_x_Q := n_ne KB_x_208
        have KB_y_209 := a_blk KB_y_208 (.cells #[.int .u64 0, .slice none 0 0] 25)
        have NE_y_Q := n_ne KB_y_208
        have KB_P_209 := a_blk KB_P_208 (.cells #[.int .u64 0, .slice none 0 0] 25)
        have NE_P_Q := n_ne KB_P_208
        have KB_Q_209 := n_blk (u := v) 25 #[.int .u64 0, .slice none 0 0]
        clear BEL208 BOX208 FA_f_208 FA_x_208 FA_y_208 FA_P_208 KB_f_208 KB_x_208 KB_y_208 KB_P_208
        go_simp
        generalize (v.alloc (.cells #[.int .u64 0, .slice none 0 0] 25)) = v2 at BEL209 BOX209 FA_f_209 FA_x_209 FA_y_209 FA_P_209 KB_f_209 KB_x_209 KB_y_209 KB_P_209 KB_Q_209 ⊢
        generalize v.heap.size = gQ at BOX209 FA_f_209 FA_x_209 FA_y_209 FA_P_209 KB_Q_209 NE_f_Q NE_x_Q NE_y_Q NE_P_Q ⊢
        refine hK0.out _ _ (by exact ⟨KB_x_209.out, KB_y_209.out⟩) (fun hHeld => ?_)
        clear hK0 K0 hHeld
        refine hTU.out _ _ _ _ ?_
        refine ND_1_PQ.out _ AP cP gP gQ _ _ ?_ ?_ BEL209 BOX209 FA_f_209 FA_x_209 FA_y_209 FA_P_209 KB_f_209 KB_x_209 KB_y_209 KB_P_209 KB_Q_209 NE_f_x NE_f_y NE_x_y NE_f_P NE_f_Q NE_x_P NE_x_Q NE_y_P NE_y_Q NE_P_Q
        · first | rfl | kernel_rfl
        · rw [hact.out]; rfl
      exact AllReadyH.nil
    have ND_1_Q : Hid (∀ (v : World) (AP : Option Addr) (cP : Nat) (gQ : Nat) (ll : Array Bool) (aa : Act), ll = #[true, true, true, true, true, false, false, true, false, false] → aa = ((act0.put (some 51) (.agg #[.int .u64 a0, .slice AP R cP])).put (some 16) (.pointer (some ⟨gQ, 0, none⟩))) → Hid (Below w.heap.size w v) → Hid (Boxes w v [gQ, gy, gx, gf]) → Hid (HeldX [gQ, gy, gx, gf] (fun uq => MpAt uq (.agg #[.int .u64 a0, .slice Af R cf]) a0 R (fun _ => n) (fun _ _ => false)) v) → Hid (HeldX [gQ, gy, gx, gf] (fun uq => MpAt uq (.agg #[.int .u64 a0, .slice Ax R cx]) a0 R (fun _ => n) (addsM a0 R n (fun _ _ => false) K m)) v) → Hid (HeldX [gQ, gy, gx, gf] (fun uq => MpAt uq (.agg #[.int .u64 a0, .slice Ay R cy]) a0 R (fun _ => n) (addsM a0 R n (fun _ _ => false) J p)) v) → Hid (HeldX [gQ, gy, gx, gf] (fun uq => MpAt uq (.agg #[.int .u64 a0, .slice AP R cP]) a0 R (fun _ => n) (addsM a0 R n (addsM a0 R n (fun _ _ => false) K m) J p)) v) → Hid (Blk v gf 25 #[.int .u64 a0, .slice Af R cf]) → Hid (Blk v gx 25 #[.int .u64 a0, .slice Ax R cx]) → Hid (Blk v gy 25 #[.int .u64 a0, .slice Ay R cy]) → Hid (Blk v gQ 25 #[.int .u64 0, .slice none 0 0]) → Hid (gf ≠ gx) → Hid (gf ≠ gy) → Hid (gx ≠ gy) → Hid (gf ≠ gQ) → Hid (gx ≠ gQ) → Hid (gy ≠ gQ) → TT 4 ll aa v) := by
      intro v AP cP gQ ll aa hl hA BEL208 BOX208 FA_f_208 FA_x_208 FA_y_208 FA_P_208 KB_f_208 KB_x_208 KB_y_208 KB_Q_208 NE_f_x NE_f_y NE_x_y NE_f_Q NE_x_Q NE_y_Q
      rw [hact.out] at hA
      try simp only [Act.put, List.setIfInBounds_toArray, List.set_cons_zero, List.set_cons_succ] at hA
      subst hl hA
      refine hUT.out _ _ _ _ ?_
      refine wpAnyH_ready (rs := [5, 6]) (by kernel_rfl) (by simp) ?_
      refine AllReadyH.cons rfl (fun K0 hK0 => ?_) ?_
      · refine step_func 23 #[.agg #[.int .u64 a0, .slice Ay R cy], .slice Al m capl] (by rfl) rfl (by simp [Act.eval]) (fun _ _ => by kernel_rfl) ?_
        refine (madds_any _ _ _ [gQ, gy, gx, gf] a0 R n m _ K FA_y_208.out (fun g hg => (BOX208.out g hg).2) (LA.out.keep (keep_of_below BEL208.out)) OK.out uS (by omega) HK.out (tabAt_keep HT.out (keep_of_below BEL208.out))).mono ?_
        rintro e wQ ⟨AQ, cQ, rfl, fQ, bb⟩
        have BEL209 := h_bel BEL208 bb
        have BOX209 := h_box BOX208 bb
        have FA_f_209 := h_fact FA_f_208 bb
        have FA_x_209 := h_fact FA_x_208 bb
        have FA_y_209 := h_fact FA_y_208 bb
        have FA_P_209 := h_fact FA_P_208 bb
        have KB_f_209 := h_blk KB_f_208 bb
        have KB_x_209 := h_blk KB_x_208 bb
        have KB_y_209 := h_blk KB_y_208 bb
        have KB_Q_209 := h_blk KB_Q_208 bb
        clear BEL208 BOX208 FA_f_208 FA_x_208 FA_y_208 FA_P_208 KB_f_208 KB_x_208 KB_y_208 KB_Q_208
        have FA_Q_209 : Hid (HeldX [gQ, gy, gx, gf] (fun uq => MpAt uq (.agg #[.int .u64 a0, .slice AQ R cQ]) a0 R (fun _ => n) (addsM a0 R n (addsM a0 R n (fun _ _ => false) J p) K m)) wQ) := fQ
        clear bb fQ
        refine ⟨_, rfl, ?_⟩
        refine hK0.out _ _ (by exact ⟨KB_x_209.out, KB_y_209.out⟩) (fun hHeld => ?_)
        clear hK0 K0 hHeld
        refine hTU.out _ _ _ _ ?_
        refine ND_2_Q.out _ AP cP AQ cQ gQ _ _ ?_ ?_ BEL209 BOX209 FA_f_209 FA_x_209 FA_y_209 FA_P_209 FA_Q_209 KB_f_209 KB_x_209 KB_y_209 KB_Q_209 NE_f_x NE_f_y NE_x_y NE_f_Q NE_x_Q NE_y_Q
        · first | rfl | kernel_rfl
        · rw [hact.out]; rfl
      refine AllReadyH.cons rfl (fun K0 hK0 => ?_) ?_
      · have BEL209 := a_bel BEL208 (.cells #[.int .u64 0, .slice none 0 0] 25)
        have BOX209 := a_box BOX208 BEL208 (.cells #[.int .u64 0, .slice none 0 0] 25)
        have FA_f_209 := a_fact FA_f_208 (.cells #[.int .u64 0, .slice none 0 0] 25)
        have FA_x_209 := a_fact FA_x_208 (.cells #[.int .u64 0, .slice none 0 0] 25)
        have FA_y_209 := a_fact FA_y_208 (.cells #[.int .u64 0, .slice none 0 0] 25)
        have FA_P_209 := a_fact FA_P_208 (.cells #[.int .u64 0, .slice none 0 0] 25)
        have KB_f_209 := a_blk KB_f_208 (.cells #[.int .u64 0, .slice none 0 0] 25)
        have NE_f_P := n_ne KB_f_208
        have KB_x_209 := a_blk KB_x_208 (.cells #[.int .u64 0, .slice none 0 0] 25)
        have NE_x_P := n_ne KB_x_208
        have KB_y_209 := a_blk KB_y_208 (.cells #[.int .u64 0, .slice none 0 0] 25)
        have NE_y_P := n_ne KB_y_208
        have KB_Q_209 := a_blk KB_Q_208 (.cells #[.int .u64 0, .slice none 0 0] 25)
        have NE_Q_P := n_ne KB_Q_208
        have KB_P_209 := n_blk (u := v) 25 #[.int .u64 0, .slice none 0 0]
        clear BEL208 BOX208 FA_f_208 FA_x_208 FA_y_208 FA_P_208 KB_f_208 KB_x_208 KB_y_208 KB_Q_208
        go_simp
        generalize (v.alloc (.cells #[.int .u64 0, .slice none 0 0] 25)) = v2 at BEL209 BOX209 FA_f_209 FA_x_209 FA_y_209 FA_P_209 KB_f_209 KB_x_209 KB_y_209 KB_Q_209 KB_P_209 ⊢
        generalize v.heap.size = gP at BOX209 FA_f_209 FA_x_209 FA_y_209 FA_P_209 KB_P_209 NE_f_P NE_x_P NE_y_P NE_Q_P ⊢
        refine hK0.out _ _ (by exact ⟨KB_x_209.out, KB_y_209.out⟩) (fun hHeld => ?_)
        clear hK0 K0 hHeld
        refine hTU.out _ _ _ _ ?_
        refine ND_1_PQ.out _ AP cP gP gQ _ _ ?_ ?_ BEL209 (b_perm BOX209 (by intro p m; simp only [List.mem_cons, List.not_mem_nil, or_false] at m ⊢; omega)) (h_perm FA_f_209 (by intro p m; simp only [List.mem_cons, List.not_mem_nil, or_false] at m ⊢; omega)) (h_perm FA_x_209 (by intro p m; simp only [List.mem_cons, List.not_mem_nil, or_false] at m ⊢; omega)) (h_perm FA_y_209 (by intro p m; simp only [List.mem_cons, List.not_mem_nil, or_false] at m ⊢; omega)) (h_perm FA_P_209 (by intro p m; simp only [List.mem_cons, List.not_mem_nil, or_false] at m ⊢; omega)) KB_f_209 KB_x_209 KB_y_209 KB_P_209 KB_Q_209 NE_f_x NE_f_y NE_x_y NE_f_P NE_f_Q NE_x_P NE_x_Q NE_y_P NE_y_Q (n_sym NE_Q_P)
        · first | rfl | kernel_rfl
        · rw [hact.out]; rfl
      exact AllReadyH.nil
    have ND_1_ : Hid (∀ (v : World) (AP : Option Addr) (cP : Nat) (ll : Array Bool) (aa : Act), ll = #[true, true, true, true, true, false, false, false, false, false] → aa = (act0.put (some 51) (.agg #[.int .u64 a0, .slice AP R cP])) → Hid (Below w.heap.size w v) → Hid (Boxes w v [gy, gx, gf]) → Hid (HeldX [gy, gx, gf] (fun uq => MpAt uq (.agg #[.int .u64 a0, .slice Af R cf]) a0 R (fun _ => n) (fun _ _ => false)) v) → Hid (HeldX [gy, gx, gf] (fun uq => MpAt uq (.agg #[.int .u64 a0, .slice Ax R cx]) a0 R (fun _ => n) (addsM a0 R n (fun _ _ => false) K m)) v) → Hid (HeldX [gy, gx, gf] (fun uq => MpAt uq (.agg #[.int .u64 a0, .slice Ay R cy]) a0 R (fun _ => n) (addsM a0 R n (fun _ _ => false) J p)) v) → Hid (HeldX [gy, gx, gf] (fun uq => MpAt uq (.agg #[.int .u64 a0, .slice AP R cP]) a0 R (fun _ => n) (addsM a0 R n (addsM a0 R n (fun _ _ => false) K m) J p)) v) → Hid (Blk v gf 25 #[.int .u64 a0, .slice Af R cf]) → Hid (Blk v gx 25 #[.int .u64 a0, .slice Ax R cx]) → Hid (Blk v gy 25 #[.int .u64 a0, .slice Ay R cy]) → Hid (gf ≠ gx) → Hid (gf ≠ gy) → Hid (gx ≠ gy) → TT 5 ll aa v) := by
      intro v AP cP ll aa hl hA BEL208 BOX208 FA_f_208 FA_x_208 FA_y_208 FA_P_208 KB_f_208 KB_x_208 KB_y_208 NE_f_x NE_f_y NE_x_y
      rw [hact.out] at hA
      try simp only [Act.put, List.setIfInBounds_toArray, List.set_cons_zero, List.set_cons_succ] at hA
      subst hl hA
      refine hUT.out _ _ _ _ ?_
      refine wpAnyH_ready (rs := [5, 6, 7]) (by kernel_rfl) (by simp) ?_
      refine AllReadyH.cons rfl (fun K0 hK0 => ?_) ?_
      · refine step_func 23 #[.agg #[.int .u64 a0, .slice Ay R cy], .slice Al m capl] (by rfl) rfl (by simp [Act.eval]) (fun _ _ => by kernel_rfl) ?_
        refine (madds_any _ _ _ [gy, gx, gf] a0 R n m _ K FA_y_208.out (fun g hg => (BOX208.out g hg).2) (LA.out.keep (keep_of_below BEL208.out)) OK.out uS (by omega) HK.out (tabAt_keep HT.out (keep_of_below BEL208.out))).mono ?_
        rintro e wQ ⟨AQ, cQ, rfl, fQ, bb⟩
        have BEL209 := h_bel BEL208 bb
        have BOX209 := h_box BOX208 bb
        have FA_f_209 := h_fact FA_f_208 bb
        have FA_x_209 := h_fact FA_x_208 bb
        have FA_y_209 := h_fact FA_y_208 bb
        have FA_P_209 := h_fact FA_P_208 bb
        have KB_f_209 := h_blk KB_f_208 bb
        have KB_x_209 := h_blk KB_x_208 bb
        have KB_y_209 := h_blk KB_y_208 bb
        clear BEL208 BOX208 FA_f_208 FA_x_208 FA_y_208 FA_P_208 KB_f_208 KB_x_208 KB_y_208
        have FA_Q_209 : Hid (HeldX [gy, gx, gf] (fun uq => MpAt uq (.agg #[.int .u64 a0, .slice AQ R cQ]) a0 R (fun _ => n) (addsM a0 R n (addsM a0 R n (fun _ _ => false) J p) K m)) wQ) := fQ
        clear bb fQ
        refine ⟨_, rfl, ?_⟩
        refine hK0.out _ _ (by exact ⟨KB_x_209.out, KB_y_209.out⟩) (fun hHeld => ?_)
        clear hK0 K0 hHeld
        refine hTU.out _ _ _ _ ?_
        refine ND_2_.out _ AP cP AQ cQ _ _ ?_ ?_ BEL209 BOX209 FA_f_209 FA_x_209 FA_y_209 FA_P_209 FA_Q_209 KB_f_209 KB_x_209 KB_y_209 NE_f_x NE_f_y NE_x_y
        · first | rfl | kernel_rfl
        · rw [hact.out]; rfl
      refine AllReadyH.cons rfl (fun K0 hK0 => ?_) ?_
      · have BEL209 := a_bel BEL208 (.cells #[.int .u64 0, .slice none 0 0] 25)
        have BOX209 := a_box BOX208 BEL208 (.cells #[.int .u64 0, .slice none 0 0] 25)
        have FA_f_209 := a_fact FA_f_208 (.cells #[.int .u64 0, .slice none 0 0] 25)
        have FA_x_209 := a_fact FA_x_208 (.cells #[.int .u64 0, .slice none 0 0] 25)
        have FA_y_209 := a_fact FA_y_208 (.cells #[.int .u64 0, .slice none 0 0] 25)
        have FA_P_209 := a_fact FA_P_208 (.cells #[.int .u64 0, .slice none 0 0] 25)
        have KB_f_209 := a_blk KB_f_208 (.cells #[.int .u64 0, .slice none 0 0] 25)
        have NE_f_P := n_ne KB_f_208
        have KB_x_209 := a_blk KB_x_208 (.cells #[.int .u64 0, .slice none 0 0] 25)
        have NE_x_P := n_ne KB_x_208
        have KB_y_209 := a_blk KB_y_208 (.cells #[.int .u64 0, .slice none 0 0] 25)
        have NE_y_P := n_ne KB_y_208
        have KB_P_209 := n_blk (u := v) 25 #[.int .u64 0, .slice none 0 0]
        clear BEL208 BOX208 FA_f_208 FA_x_208 FA_y_208 FA_P_208 KB_f_208 KB_x_208 KB_y_208
        go_simp
        generalize (v.alloc (.cells #[.int .u64 0, .slice none 0 0] 25)) = v2 at BEL209 BOX209 FA_f_209 FA_x_209 FA_y_209 FA_P_209 KB_f_209 KB_x_209 KB_y_209 KB_P_209 ⊢
        generalize v.heap.size = gP at BOX209 FA_f_209 FA_x_209 FA_y_209 FA_P_209 KB_P_209 NE_f_P NE_x_P NE_y_P ⊢
        refine hK0.out _ _ (by exact ⟨KB_x_209.out, KB_y_209.out⟩) (fun hHeld => ?_)
        clear hK0 K0 hHeld
        refine hTU.out _ _ _ _ ?_
        refine ND_1_P.out _ AP cP gP _ _ ?_ ?_ BEL209 BOX209 FA_f_209 FA_x_209 FA_y_209 FA_P_209 KB_f_209 KB_x_209 KB_y_209 KB_P_209 NE_f_x NE_f_y NE_x_y NE_f_P NE_x_P NE_y_P
        · first | rfl | kernel_rfl
        · rw [hact.out]; rfl
      refine AllReadyH.cons rfl (fun K0 hK0 => ?_) ?_
      · have BEL209 := a_bel BEL208 (.cells #[.int .u64 0, .slice none 0 0] 25)
        have BOX209 := a_box BOX208 BEL208 (.cells #[.int .u64 0, .slice none 0 0] 25)
        have FA_f_209 := a_fact FA_f_208 (.cells #[.int .u64 0, .slice none 0 0] 25)
        have FA_x_209 := a_fact FA_x_208 (.cells #[.int .u64 0, .slice none 0 0] 25)
        have FA_y_209 := a_fact FA_y_208 (.cells #[.int .u64 0, .slice none 0 0] 25)
        have FA_P_209 := a_fact FA_P_208 (.cells #[.int .u64 0, .slice none 0 0] 25)
        have KB_f_209 := a_blk KB_f_208 (.cells #[.int .u64 0, .slice none 0 0] 25)
        have NE_f_Q := n_ne KB_f_208
        have KB_x_209 := a_blk KB_x_208 (.cells #[.int .u64 0, .slice none 0 0] 25)
        have NE_x_Q := n_ne KB_x_208
        have KB_y_209 := a_blk KB_y_208 (.cells #[.int .u64 0, .slice none 0 0] 25)
        have NE_y_Q := n_ne KB_y_208
        have KB_Q_209 := n_blk (u := v) 25 #[.int .u64 0, .slice none 0 0]
        clear BEL208 BOX208 FA_f_208 FA_x_208 FA_y_208 FA_P_208 KB_f_208 KB_x_208 KB_y_208
        go_simp
        generalize (v.alloc (.cells #[.int .u64 0, .slice none 0 0] 25)) = v2 at BEL209 BOX209 FA_f_209 FA_x_209 FA_y_209 FA_P_209 KB_f_209 KB_x_209 KB_y_209 KB_Q_209 ⊢
        generalize v.heap.size = gQ at BOX209 FA_f_209 FA_x_209 FA_y_209 FA_P_209 KB_Q_209 NE_f_Q NE_x_Q NE_y_Q ⊢
        refine hK0.out _ _ (by exact ⟨KB_x_209.out, KB_y_209.out⟩) (fun hHeld => ?_)
        clear hK0 K0 hHeld
        refine hTU.out _ _ _ _ ?_
        refine ND_1_Q.out _ AP cP gQ _ _ ?_ ?_ BEL209 BOX209 FA_f_209 FA_x_209 FA_y_209 FA_P_209 KB_f_209 KB_x_209 KB_y_209 KB_Q_209 NE_f_x NE_f_y NE_x_y NE_f_Q NE_x_Q NE_y_Q
        · first | rfl | kernel_rfl
        · rw [hact.out]; rfl
      exact AllReadyH.nil
    have ND_0_PQ : Hid (∀ (v : World) (gP : Nat) (gQ : Nat) (ll : Array Bool) (aa : Act), ll = #[true, true, false, true, true, false, true, true, false, false] → aa = ((act0.put (some 15) (.pointer (some ⟨gP, 0, none⟩))).put (some 16) (.pointer (some ⟨gQ, 0, none⟩))) → Hid (Below w.heap.size w v) → Hid (Boxes w v [gQ, gP, gy, gx, gf]) → Hid (HeldX [gQ, gP, gy, gx, gf] (fun uq => MpAt uq (.agg #[.int .u64 a0, .slice Af R cf]) a0 R (fun _ => n) (fun _ _ => false)) v) → Hid (HeldX [gQ, gP, gy, gx, gf] (fun uq => MpAt uq (.agg #[.int .u64 a0, .slice Ax R cx]) a0 R (fun _ => n) (addsM a0 R n (fun _ _ => false) K m)) v) → Hid (HeldX [gQ, gP, gy, gx, gf] (fun uq => MpAt uq (.agg #[.int .u64 a0, .slice Ay R cy]) a0 R (fun _ => n) (addsM a0 R n (fun _ _ => false) J p)) v) → Hid (Blk v gf 25 #[.int .u64 a0, .slice Af R cf]) → Hid (Blk v gx 25 #[.int .u64 a0, .slice Ax R cx]) → Hid (Blk v gy 25 #[.int .u64 a0, .slice Ay R cy]) → Hid (Blk v gP 25 #[.int .u64 0, .slice none 0 0]) → Hid (Blk v gQ 25 #[.int .u64 0, .slice none 0 0]) → Hid (gf ≠ gx) → Hid (gf ≠ gy) → Hid (gx ≠ gy) → Hid (gf ≠ gP) → Hid (gf ≠ gQ) → Hid (gx ≠ gP) → Hid (gx ≠ gQ) → Hid (gy ≠ gP) → Hid (gy ≠ gQ) → Hid (gP ≠ gQ) → TT 4 ll aa v) := by
      intro v gP gQ ll aa hl hA BEL208 BOX208 FA_f_208 FA_x_208 FA_y_208 KB_f_208 KB_x_208 KB_y_208 KB_P_208 KB_Q_208 NE_f_x NE_f_y NE_x_y NE_f_P NE_f_Q NE_x_P NE_x_Q NE_y_P NE_y_Q NE_P_Q
      rw [hact.out] at hA
      try simp only [Act.put, List.setIfInBounds_toArray, List.set_cons_zero, List.set_cons_succ] at hA
      subst hl hA
      refine hUT.out _ _ _ _ ?_
      refine wpAnyH_ready (rs := [2]) (by kernel_rfl) (by simp) ?_
      refine AllReadyH.cons rfl (fun K0 hK0 => ?_) ?_
      · refine step_func 23 #[.agg #[.int .u64 a0, .slice Ax R cx], .slice Ak p capk] (by rfl) rfl (by simp [Act.eval]) (fun _ _ => by kernel_rfl) ?_
        refine (madds_any _ _ _ [gQ, gP, gy, gx, gf] a0 R n p _ J FA_x_208.out (fun g hg => (BOX208.out g hg).2) (LB.out.keep (keep_of_below BEL208.out)) OK.out uS (by omega) HJ.out (tabAt_keep HT.out (keep_of_below BEL208.out))).mono ?_
        rintro e wP ⟨AP, cP, rfl, fP, bb⟩
        have BEL209 := h_bel BEL208 bb
        have BOX209 := h_box BOX208 bb
        have FA_f_209 := h_fact FA_f_208 bb
        have FA_x_209 := h_fact FA_x_208 bb
        have FA_y_209 := h_fact FA_y_208 bb
        have KB_f_209 := h_blk KB_f_208 bb
        have KB_x_209 := h_blk KB_x_208 bb
        have KB_y_209 := h_blk KB_y_208 bb
        have KB_P_209 := h_blk KB_P_208 bb
        have KB_Q_209 := h_blk KB_Q_208 bb
        clear BEL208 BOX208 FA_f_208 FA_x_208 FA_y_208 KB_f_208 KB_x_208 KB_y_208 KB_P_208 KB_Q_208
        have FA_P_209 : Hid (HeldX [gQ, gP, gy, gx, gf] (fun uq => MpAt uq (.agg #[.int .u64 a0, .slice AP R cP]) a0 R (fun _ => n) (addsM a0 R n (addsM a0 R n (fun _ _ => false) K m) J p)) wP) := fP
        clear bb fP
        refine ⟨_, rfl, ?_⟩
        refine hK0.out _ _ (by exact ⟨KB_x_209.out, KB_y_209.out⟩) (fun hHeld => ?_)
        clear hK0 K0 hHeld
        refine hTU.out _ _ _ _ ?_
        refine ND_1_PQ.out _ AP cP gP gQ _ _ ?_ ?_ BEL209 BOX209 FA_f_209 FA_x_209 FA_y_209 FA_P_209 KB_f_209 KB_x_209 KB_y_209 KB_P_209 KB_Q_209 NE_f_x NE_f_y NE_x_y NE_f_P NE_f_Q NE_x_P NE_x_Q NE_y_P NE_y_Q NE_P_Q
        · first | rfl | kernel_rfl
        · rw [hact.out]; rfl
      exact AllReadyH.nil
    have ND_0_P : Hid (∀ (v : World) (gP : Nat) (ll : Array Bool) (aa : Act), ll = #[true, true, false, true, true, false, true, false, false, false] → aa = (act0.put (some 15) (.pointer (some ⟨gP, 0, none⟩))) → Hid (Below w.heap.size w v) → Hid (Boxes w v [gP, gy, gx, gf]) → Hid (HeldX [gP, gy, gx, gf] (fun uq => MpAt uq (.agg #[.int .u64 a0, .slice Af R cf]) a0 R (fun _ => n) (fun _ _ => false)) v) → Hid (HeldX [gP, gy, gx, gf] (fun uq => MpAt uq (.agg #[.int .u64 a0, .slice Ax R cx]) a0 R (fun _ => n) (addsM a0 R n (fun _ _ => false) K m)) v) → Hid (HeldX [gP, gy, gx, gf] (fun uq => MpAt uq (.agg #[.int .u64 a0, .slice Ay R cy]) a0 R (fun _ => n) (addsM a0 R n (fun _ _ => false) J p)) v) → Hid (Blk v gf 25 #[.int .u64 a0, .slice Af R cf]) → Hid (Blk v gx 25 #[.int .u64 a0, .slice Ax R cx]) → Hid (Blk v gy 25 #[.int .u64 a0, .slice Ay R cy]) → Hid (Blk v gP 25 #[.int .u64 0, .slice none 0 0]) → Hid (gf ≠ gx) → Hid (gf ≠ gy) → Hid (gx ≠ gy) → Hid (gf ≠ gP) → Hid (gx ≠ gP) → Hid (gy ≠ gP) → TT 5 ll aa v) := by
      intro v gP ll aa hl hA BEL208 BOX208 FA_f_208 FA_x_208 FA_y_208 KB_f_208 KB_x_208 KB_y_208 KB_P_208 NE_f_x NE_f_y NE_x_y NE_f_P NE_x_P NE_y_P
      rw [hact.out] at hA
      try simp only [Act.put, List.setIfInBounds_toArray, List.set_cons_zero, List.set_cons_succ] at hA
      subst hl hA
      refine hUT.out _ _ _ _ ?_
      refine wpAnyH_ready (rs := [2, 7]) (by kernel_rfl) (by simp) ?_
      refine AllReadyH.cons rfl (fun K0 hK0 => ?_) ?_
      · refine step_func 23 #[.agg #[.int .u64 a0, .slice Ax R cx], .slice Ak p capk] (by rfl) rfl (by simp [Act.eval]) (fun _ _ => by kernel_rfl) ?_
        refine (madds_any _ _ _ [gP, gy, gx, gf] a0 R n p _ J FA_x_208.out (fun g hg => (BOX208.out g hg).2) (LB.out.keep (keep_of_below BEL208.out)) OK.out uS (by omega) HJ.out (tabAt_keep HT.out (keep_of_below BEL208.out))).mono ?_
        rintro e wP ⟨AP, cP, rfl, fP, bb⟩
        have BEL209 := h_bel BEL208 bb
        have BOX209 := h_box BOX208 bb
        have FA_f_209 := h_fact FA_f_208 bb
        have FA_x_209 := h_fact FA_x_208 bb
        have FA_y_209 := h_fact FA_y_208 bb
        have KB_f_209 := h_blk KB_f_208 bb
        have KB_x_209 := h_blk KB_x_208 bb
        have KB_y_209 := h_blk KB_y_208 bb
        have KB_P_209 := h_blk KB_P_208 bb
        clear BEL208 BOX208 FA_f_208 FA_x_208 FA_y_208 KB_f_208 KB_x_208 KB_y_208 KB_P_208
        have FA_P_209 : Hid (HeldX [gP, gy, gx, gf] (fun uq => MpAt uq (.agg #[.int .u64 a0, .slice AP R cP]) a0 R (fun _ => n) (addsM a0 R n (addsM a0 R n (fun _ _ => false) K m) J p)) wP) := fP
        clear bb fP
        refine ⟨_, rfl, ?_⟩
        refine hK0.out _ _ (by exact ⟨KB_x_209.out, KB_y_209.out⟩) (fun hHeld => ?_)
        clear hK0 K0 hHeld
        refine hTU.out _ _ _ _ ?_
        refine ND_1_P.out _ AP cP gP _ _ ?_ ?_ BEL209 BOX209 FA_f_209 FA_x_209 FA_y_209 FA_P_209 KB_f_209 KB_x_209 KB_y_209 KB_P_209 NE_f_x NE_f_y NE_x_y NE_f_P NE_x_P NE_y_P
        · first | rfl | kernel_rfl
        · rw [hact.out]; rfl
      refine AllReadyH.cons rfl (fun K0 hK0 => ?_) ?_
      · have BEL209 := a_bel BEL208 (.cells #[.int .u64 0, .slice none 0 0] 25)
        have BOX209 := a_box BOX208 BEL208 (.cells #[.int .u64 0, .slice none 0 0] 25)
        have FA_f_209 := a_fact FA_f_208 (.cells #[.int .u64 0, .slice none 0 0] 25)
        have FA_x_209 := a_fact FA_x_208 (.cells #[.int .u64 0, .slice none 0 0] 25)
        have FA_y_209 := a_fact FA_y_208 (.cells #[.int .u64 0, .slice none 0 0] 25)
        have KB_f_209 := a_blk KB_f_208 (.cells #[.int .u64 0, .slice none 0 0] 25)
        have NE_f_Q := n_ne KB_f_208
        have KB_x_209 := a_blk KB_x_208 (.cells #[.int .u64 0, .slice none 0 0] 25)
        have NE_x_Q := n_ne KB_x_208
        have KB_y_209 := a_blk KB_y_208 (.cells #[.int .u64 0, .slice none 0 0] 25)
        have NE_y_Q := n_ne KB_y_208
        have KB_P_209 := a_blk KB_P_208 (.cells #[.int .u64 0, .slice none 0 0] 25)
        have NE_P_Q := n_ne KB_P_208
        have KB_Q_209 := n_blk (u := v) 25 #[.int .u64 0, .slice none 0 0]
        clear BEL208 BOX208 FA_f_208 FA_x_208 FA_y_208 KB_f_208 KB_x_208 KB_y_208 KB_P_208
        go_simp
        generalize (v.alloc (.cells #[.int .u64 0, .slice none 0 0] 25)) = v2 at BEL209 BOX209 FA_f_209 FA_x_209 FA_y_209 KB_f_209 KB_x_209 KB_y_209 KB_P_209 KB_Q_209 ⊢
        generalize v.heap.size = gQ at BOX209 FA_f_209 FA_x_209 FA_y_209 KB_Q_209 NE_f_Q NE_x_Q NE_y_Q NE_P_Q ⊢
        refine hK0.out _ _ (by exact ⟨KB_x_209.out, KB_y_209.out⟩) (fun hHeld => ?_)
        clear hK0 K0 hHeld
        refine hTU.out _ _ _ _ ?_
        refine ND_0_PQ.out _ gP gQ _ _ ?_ ?_ BEL209 BOX209 FA_f_209 FA_x_209 FA_y_209 KB_f_209 KB_x_209 KB_y_209 KB_P_209 KB_Q_209 NE_f_x NE_f_y NE_x_y NE_f_P NE_f_Q NE_x_P NE_x_Q NE_y_P NE_y_Q NE_P_Q
        · first | rfl | kernel_rfl
        · rw [hact.out]; rfl
      exact AllReadyH.nil
    have ND_0_Q : Hid (∀ (v : World) (gQ : Nat) (ll : Array Bool) (aa : Act), ll = #[true, true, false, true, true, false, false, true, false, false] → aa = (act0.put (some 16) (.pointer (some ⟨gQ, 0, none⟩))) → Hid (Below w.heap.size w v) → Hid (Boxes w v [gQ, gy, gx, gf]) → Hid (HeldX [gQ, gy, gx, gf] (fun uq => MpAt uq (.agg #[.int .u64 a0, .slice Af R cf]) a0 R (fun _ => n) (fun _ _ => false)) v) → Hid (HeldX [gQ, gy, gx, gf] (fun uq => MpAt uq (.agg #[.int .u64 a0, .slice Ax R cx]) a0 R (fun _ => n) (addsM a0 R n (fun _ _ => false) K m)) v) → Hid (HeldX [gQ, gy, gx, gf] (fun uq => MpAt uq (.agg #[.int .u64 a0, .slice Ay R cy]) a0 R (fun _ => n) (addsM a0 R n (fun _ _ => false) J p)) v) → Hid (Blk v gf 25 #[.int .u64 a0, .slice Af R cf]) → Hid (Blk v gx 25 #[.int .u64 a0, .slice Ax R cx]) → Hid (Blk v gy 25 #[.int .u64 a0, .slice Ay R cy]) → Hid (Blk v gQ 25 #[.int .u64 0, .slice none 0 0]) → Hid (gf ≠ gx) → Hid (gf ≠ gy) → Hid (gx ≠ gy) → Hid (gf ≠ gQ) → Hid (gx ≠ gQ) → Hid (gy ≠ gQ) → TT 5 ll aa v) := by
      intro v gQ ll aa hl hA BEL208 BOX208 FA_f_208 FA_x_208 FA_y_208 KB_f_208 KB_x_208 KB_y_208 KB_Q_208 NE_f_x NE_f_y NE_x_y NE_f_Q NE_x_Q NE_y_Q
      rw [hact.out] at hA
      try simp only [Act.put, List.setIfInBounds_toArray, List.set_cons_zero, List.set_cons_succ] at hA
      subst hl hA
      refine hUT.out _ _ _ _ ?_
      refine wpAnyH_ready (rs := [2, 6]) (by kernel_rfl) (by simp) ?_
      refine AllReadyH.cons rfl (fun K0 hK0 => ?_) ?_
      · refine step_func 23 #[.agg #[.int .u64 a0, .slice Ax R cx], .slice Ak p capk] (by rfl) rfl (by simp [Act.eval]) (fun _ _ => by kernel_rfl) ?_
        refine (madds_any _ _ _ [gQ, gy, gx, gf] a0 R n p _ J FA_x_208.out (fun g hg => (BOX208.out g hg).2) (LB.out.keep (keep_of_below BEL208.out)) OK.out uS (by omega) HJ.out (tabAt_keep HT.out (keep_of_below BEL208.out))).mono ?_
        rintro e wP ⟨AP, cP, rfl, fP, bb⟩
        have BEL209 := h_bel BEL208 bb
        have BOX209 := h_box BOX208 bb
        have FA_f_209 := h_fact FA_f_208 bb
        have FA_x_209 := h_fact FA_x_208 bb
        have FA_y_209 := h_fact FA_y_208 bb
        have KB_f_209 := h_blk KB_f_208 bb
        have KB_x_209 := h_blk KB_x_208 bb
        have KB_y_209 := h_blk KB_y_208 bb
        have KB_Q_209 := h_blk KB_Q_208 bb
        clear BEL208 BOX208 FA_f_208 FA_x_208 FA_y_208 KB_f_208 KB_x_208 KB_y_208 KB_Q_208
        have FA_P_209 : Hid (HeldX [gQ, gy, gx, gf] (fun uq => MpAt uq (.agg #[.int .u64 a0, .slice AP R cP]) a0 R (fun _ => n) (addsM a0 R n (addsM a0 R n (fun _ _ => false) K m) J p)) wP) := fP
        clear bb fP
        refine ⟨_, rfl, ?_⟩
        refine hK0.out _ _ (by exact ⟨KB_x_209.out, KB_y_209.out⟩) (fun hHeld => ?_)
        clear hK0 K0 hHeld
        refine hTU.out _ _ _ _ ?_
        refine ND_1_Q.out _ AP cP gQ _ _ ?_ ?_ BEL209 BOX209 FA_f_209 FA_x_209 FA_y_209 FA_P_209 KB_f_209 KB_x_209 KB_y_209 KB_Q_209 NE_f_x NE_f_y NE_x_y NE_f_Q NE_x_Q NE_y_Q
        · first | rfl | kernel_rfl
        · rw [hact.out]; rfl
      refine AllReadyH.cons rfl (fun K0 hK0 => ?_) ?_
      · have BEL209 := a_bel BEL208 (.cells #[.int .u64 0, .slice none 0 0] 25)
        have BOX209 := a_box BOX208 BEL208 (.cells #[.int .u64 0, .slice none 0 0] 25)
        have FA_f_209 := a_fact FA_f_208 (.cells #[.int .u64 0, .slice none 0 0] 25)
        have FA_x_209 := a_fact FA_x_208 (.cells #[.int .u64 0, .slice none 0 0] 25)
        have FA_y_209 := a_fact FA_y_208 (.cells #[.int .u64 0, .slice none 0 0] 25)
        have KB_f_209 := a_blk KB_f_208 (.cells #[.int .u64 0, .slice none 0 0] 25)
        have NE_f_P := n_ne KB_f_208
        have KB_x_209 := a_blk KB_x_208 (.cells #[.int .u64 0, .slice none 0 0] 25)
        have NE_x_P := n_ne KB_x_208
        have KB_y_209 := a_blk KB_y_208 (.cells #[.int .u64 0, .slice none 0 0] 25)
        have NE_y_P := n_ne KB_y_208
        have KB_Q_209 := a_blk KB_Q_208 (.cells #[.int .u64 0, .slice none 0 0] 25)
        have NE_Q_P := n_ne KB_Q_208
        have KB_P_209 := n_blk (u := v) 25 #[.int .u64 0, .slice none 0 0]
        clear BEL208 BOX208 FA_f_208 FA_x_208 FA_y_208 KB_f_208 KB_x_208 KB_y_208 KB_Q_208
        go_simp
        generalize (v.alloc (.cells #[.int .u64 0, .slice none 0 0] 25)) = v2 at BEL209 BOX209 FA_f_209 FA_x_209 FA_y_209 KB_f_209 KB_x_209 KB_y_209 KB_Q_209 KB_P_209 ⊢
        generalize v.heap.size = gP at BOX209 FA_f_209 FA_x_209 FA_y_209 KB_P_209 NE_f_P NE_x_P NE_y_P NE_Q_P ⊢
        refine hK0.out _ _ (by exact ⟨KB_x_209.out, KB_y_209.out⟩) (fun hHeld => ?_)
        clear hK0 K0 hHeld
        refine hTU.out _ _ _ _ ?_
        refine ND_0_PQ.out _ gP gQ _ _ ?_ ?_ BEL209 (b_perm BOX209 (by intro p m; simp only [List.mem_cons, List.not_mem_nil, or_false] at m ⊢; omega)) (h_perm FA_f_209 (by intro p m; simp only [List.mem_cons, List.not_mem_nil, or_false] at m ⊢; omega)) (h_perm FA_x_209 (by intro p m; simp only [List.mem_cons, List.not_mem_nil, or_false] at m ⊢; omega)) (h_perm FA_y_209 (by intro p m; simp only [List.mem_cons, List.not_mem_nil, or_false] at m ⊢; omega)) KB_f_209 KB_x_209 KB_y_209 KB_P_209 KB_Q_209 NE_f_x NE_f_y NE_x_y NE_f_P NE_f_Q NE_x_P NE_x_Q NE_y_P NE_y_Q (n_sym NE_Q_P)
        · first | rfl | kernel_rfl
        · rw [hact.out]; rfl
      exact AllReadyH.nil
    have ND_0_ : Hid (∀ (v : World)  (ll : Array Bool) (aa : Act), ll = #[true, true, false, true, true, false, false, false, false, false] → aa = act0 → Hid (Below w.heap.size w v) → Hid (Boxes w v [gy, gx, gf]) → Hid (HeldX [gy, gx, gf] (fun uq => MpAt uq (.agg #[.int .u64 a0, .slice Af R cf]) a0 R (fun _ => n) (fun _ _ => false)) v) → Hid (HeldX [gy, gx, gf] (fun uq => MpAt uq (.agg #[.int .u64 a0, .slice Ax R cx]) a0 R (fun _ => n) (addsM a0 R n (fun _ _ => false) K m)) v) → Hid (HeldX [gy, gx, gf] (fun uq => MpAt uq (.agg #[.int .u64 a0, .slice Ay R cy]) a0 R (fun _ => n) (addsM a0 R n (fun _ _ => false) J p)) v) → Hid (Blk v gf 25 #[.int .u64 a0, .slice Af R cf]) → Hid (Blk v gx 25 #[.int .u64 a0, .slice Ax R cx]) → Hid (Blk v gy 25 #[.int .u64 a0, .slice Ay R cy]) → Hid (gf ≠ gx) → Hid (gf ≠ gy) → Hid (gx ≠ gy) → TT 6 ll aa v) := by
      intro v  ll aa hl hA BEL208 BOX208 FA_f_208 FA_x_208 FA_y_208 KB_f_208 KB_x_208 KB_y_208 NE_f_x NE_f_y NE_x_y
      rw [hact.out] at hA
      try simp only [Act.put, List.setIfInBounds_toArray, List.set_cons_zero, List.set_cons_succ] at hA
      subst hl hA
      refine hUT.out _ _ _ _ ?_
      refine wpAnyH_ready (rs := [2, 6, 7]) (by kernel_rfl) (by simp) ?_
      refine AllReadyH.cons rfl (fun K0 hK0 => ?_) ?_
      · refine step_func 23 #[.agg #[.int .u64 a0, .slice Ax R cx], .slice Ak p capk] (by rfl) rfl (by simp [Act.eval]) (fun _ _ => by kernel_rfl) ?_
        refine (madds_any _ _ _ [gy, gx, gf] a0 R n p _ J FA_x_208.out (fun g hg => (BOX208.out g hg).2) (LB.out.keep (keep_of_below BEL208.out)) OK.out uS (by omega) HJ.out (tabAt_keep HT.out (keep_of_below BEL208.out))).mono ?_
        rintro e wP ⟨AP, cP, rfl, fP, bb⟩
        have BEL209 := h_bel BEL208 bb
        have BOX209 := h_box BOX208 bb
        have FA_f_209 := h_fact FA_f_208 bb
        have FA_x_209 := h_fact FA_x_208 bb
        have FA_y_209 := h_fact FA_y_208 bb
        have KB_f_209 := h_blk KB_f_208 bb
        have KB_x_209 := h_blk KB_x_208 bb
        have KB_y_209 := h_blk KB_y_208 bb
        clear BEL208 BOX208 FA_f_208 FA_x_208 FA_y_208 KB_f_208 KB_x_208 KB_y_208
        have FA_P_209 : Hid (HeldX [gy, gx, gf] (fun uq => MpAt uq (.agg #[.int .u64 a0, .slice AP R cP]) a0 R (fun _ => n) (addsM a0 R n (addsM a0 R n (fun _ _ => false) K m) J p)) wP) := fP
        clear bb fP
        refine ⟨_, rfl, ?_⟩
        refine hK0.out _ _ (by exact ⟨KB_x_209.out, KB_y_209.out⟩) (fun hHeld => ?_)
        clear hK0 K0 hHeld
        refine hTU.out _ _ _ _ ?_
        refine ND_1_.out _ AP cP _ _ ?_ ?_ BEL209 BOX209 FA_f_209 FA_x_209 FA_y_209 FA_P_209 KB_f_209 KB_x_209 KB_y_209 NE_f_x NE_f_y NE_x_y
        · first | rfl | kernel_rfl
        · rw [hact.out]; rfl
      refine AllReadyH.cons rfl (fun K0 hK0 => ?_) ?_
      · have BEL209 := a_bel BEL208 (.cells #[.int .u64 0, .slice none 0 0] 25)
        have BOX209 := a_box BOX208 BEL208 (.cells #[.int .u64 0, .slice none 0 0] 25)
        have FA_f_209 := a_fact FA_f_208 (.cells #[.int .u64 0, .slice none 0 0] 25)
        have FA_x_209 := a_fact FA_x_208 (.cells #[.int .u64 0, .slice none 0 0] 25)
        have FA_y_209 := a_fact FA_y_208 (.cells #[.int .u64 0, .slice none 0 0] 25)
        have KB_f_209 := a_blk KB_f_208 (.cells #[.int .u64 0, .slice none 0 0] 25)
        have NE_f_P := n_ne KB_f_208
        have KB_x_209 := a_blk KB_x_208 (.cells #[.int .u64 0, .slice none 0 0] 25)
        have NE_x_P := n_ne KB_x_208
        have KB_y_209 := a_blk KB_y_208 (.cells #[.int .u64 0, .slice none 0 0] 25)
        have NE_y_P := n_ne KB_y_208
        have KB_P_209 := n_blk (u := v) 25 #[.int .u64 0, .slice none 0 0]
        clear BEL208 BOX208 FA_f_208 FA_x_208 FA_y_208 KB_f_208 KB_x_208 KB_y_208
        go_simp
        generalize (v.alloc (.cells #[.int .u64 0, .slice none 0 0] 25)) = v2 at BEL209 BOX209 FA_f_209 FA_x_209 FA_y_209 KB_f_209 KB_x_209 KB_y_209 KB_P_209 ⊢
        generalize v.heap.size = gP at BOX209 FA_f_209 FA_x_209 FA_y_209 KB_P_209 NE_f_P NE_x_P NE_y_P ⊢
        refine hK0.out _ _ (by exact ⟨KB_x_209.out, KB_y_209.out⟩) (fun hHeld => ?_)
        clear hK0 K0 hHeld
        refine hTU.out _ _ _ _ ?_
        refine ND_0_P.out _ gP _ _ ?_ ?_ BEL209 BOX209 FA_f_209 FA_x_209 FA_y_209 KB_f_209 KB_x_209 KB_y_209 KB_P_209 NE_f_x NE_f_y NE_x_y NE_f_P NE_x_P NE_y_P
        · first | rfl | kernel_rfl
        · rw [hact.out]; rfl
      refine AllReadyH.cons rfl (fun K0 hK0 => ?_) ?_
      · have BEL209 := a_bel BEL208 (.cells #[.int .u64 0, .slice none 0 0] 25)
        have BOX209 := a_box BOX208 BEL208 (.cells #[.int .u64 0, .slice none 0 0] 25)
        have FA_f_209 := a_fact FA_f_208 (.cells #[.int .u64 0, .slice none 0 0] 25)
        have FA_x_209 := a_fact FA_x_208 (.cells #[.int .u64 0, .slice none 0 0] 25)
        have FA_y_209 := a_fact FA_y_208 (.cells #[.int .u64 0, .slice none 0 0] 25)
        have KB_f_209 := a_blk KB_f_208 (.cells #[.int .u64 0, .slice none 0 0] 25)
        have NE_f_Q := n_ne KB_f_208
        have KB_x_209 := a_blk KB_x_208 (.cells #[.int .u64 0, .slice none 0 0] 25)
        have NE_x_Q := n_ne KB_x_208
        have KB_y_209 := a_blk KB_y_208 (.cells #[.int .u64 0, .slice none 0 0] 25)
        have NE_y_Q := n_ne KB_y_208
        have KB_Q_209 := n_blk (u := v) 25 #[.int .u64 0, .slice none 0 0]
        clear BEL208 BOX208 FA_f_208 FA_x_208 FA_y_208 KB_f_208 KB_x_208 KB_y_208
        go_simp
        generalize (v.alloc (.cells #[.int .u64 0, .slice none 0 0] 25)) = v2 at BEL209 BOX209 FA_f_209 FA_x_209 FA_y_209 KB_f_209 KB_x_209 KB_y_209 KB_Q_209 ⊢
        generalize v.heap.size = gQ at BOX209 FA_f_209 FA_x_209 FA_y_209 KB_Q_209 NE_f_Q NE_x_Q NE_y_Q ⊢
        refine hK0.out _ _ (by exact ⟨KB_x_209.out, KB_y_209.out⟩) (fun hHeld => ?_)
        clear hK0 K0 hHeld
        refine hTU.out _ _ _ _ ?_
        refine ND_0_Q.out _ gQ _ _ ?_ ?_ BEL209 BOX209 FA_f_209 FA_x_209 FA_y_209 KB_f_209 KB_x_209 KB_y_209 KB_Q_209 NE_f_x NE_f_y NE_x_y NE_f_Q NE_x_Q NE_y_Q
        · first | rfl | kernel_rfl
        · rw [hact.out]; rfl
      exact AllReadyH.nil
    refine ND_0_.out _  _ _ ?_ ?_ BEL108 BOX108 FA_f_108 FA_x_108 FA_y_108 KB_f_108 KB_x_108 KB_y_108 NE_f_x NE_f_y NE_x_y
    · first | rfl | kernel_rfl
    · rfl
  have ND_2_x : Hid (∀ (v : World) (Ax : Option Addr) (cx : Nat) (Ay : Option Addr) (cy : Nat) (gx : Nat) (ll : Array Bool) (aa : Act), ll = #[true, true, true, true, true, true, true, false, false, false] → aa = (((act0.put (some 45) (.agg #[.int .u64 a0, .slice Ax R cx])).put (some 48) (.agg #[.int .u64 a0, .slice Ay R cy])).put (some 13) (.pointer (some ⟨gx, 0, none⟩))) → Hid (Below w.heap.size w v) → Hid (Boxes w v [gx, gf]) → Hid (HeldX [gx, gf] (fun uq => MpAt uq (.agg #[.int .u64 a0, .slice Af R cf]) a0 R (fun _ => n) (fun _ _ => false)) v) → Hid (HeldX [gx, gf] (fun uq => MpAt uq (.agg #[.int .u64 a0, .slice Ax R cx]) a0 R (fun _ => n) (addsM a0 R n (fun _ _ => false) K m)) v) → Hid (HeldX [gx, gf] (fun uq => MpAt uq (.agg #[.int .u64 a0, .slice Ay R cy]) a0 R (fun _ => n) (addsM a0 R n (fun _ _ => false) J p)) v) → Hid (Blk v gf 25 #[.int .u64 a0, .slice Af R cf]) → Hid (Blk v gx 25 #[.int .u64 0, .slice none 0 0]) → Hid (gf ≠ gx) → TT 3 ll aa v) := by
    intro v Ax cx Ay cy gx ll aa hl hA BEL105 BOX105 FA_f_105 FA_x_105 FA_y_105 KB_f_105 KB_x_105 NE_f_x
    rw [hact.out] at hA
    try simp only [Act.put, List.setIfInBounds_toArray, List.set_cons_zero, List.set_cons_succ] at hA
    subst hl hA
    refine hUT.out _ _ _ _ ?_
    refine wpAnyH_ready (rs := [7]) (by kernel_rfl) (by simp) ?_
    refine AllReadyH.cons rfl (fun K0 hK0 => ?_) ?_
    · have BEL106 := a_bel BEL105 (.cells #[.int .u64 0, .slice none 0 0] 25)
      have BOX106 := a_box BOX105 BEL105 (.cells #[.int .u64 0, .slice none 0 0] 25)
      have FA_f_106 := a_fact FA_f_105 (.cells #[.int .u64 0, .slice none 0 0] 25)
      have FA_x_106 := a_fact FA_x_105 (.cells #[.int .u64 0, .slice none 0 0] 25)
      have FA_y_106 := a_fact FA_y_105 (.cells #[.int .u64 0, .slice none 0 0] 25)
      have KB_f_106 := a_blk KB_f_105 (.cells #[.int .u64 0, .slice none 0 0] 25)
      have NE_f_y := n_ne KB_f_105
      have KB_x_106 := a_blk KB_x_105 (.cells #[.int .u64 0, .slice none 0 0] 25)
      have NE_x_y := n_ne KB_x_105
      have KB_y_106 := n_blk (u := v) 25 #[.int .u64 0, .slice none 0 0]
      clear BEL105 BOX105 FA_f_105 FA_x_105 FA_y_105 KB_f_105 KB_x_105
      go_simp
      generalize (v.alloc (.cells #[.int .u64 0, .slice none 0 0] 25)) = v2 at BEL106 BOX106 FA_f_106 FA_x_106 FA_y_106 KB_f_106 KB_x_106 KB_y_106 ⊢
      generalize v.heap.size = gy at BOX106 FA_f_106 FA_x_106 FA_y_106 KB_y_106 NE_f_y NE_x_y ⊢
      refine hK0.out _ _ (by exact KB_f_106.out) (fun hHeld => ?_)
      clear hK0 K0 hHeld
      refine hTU.out _ _ _ _ ?_
      refine ND_2_xy.out _ Ax cx Ay cy gx gy _ _ ?_ ?_ BEL106 BOX106 FA_f_106 FA_x_106 FA_y_106 KB_f_106 KB_x_106 KB_y_106 NE_f_x NE_f_y NE_x_y
      · first | rfl | kernel_rfl
      · rw [hact.out]; rfl
    exact AllReadyH.nil
  have ND_2_y : Hid (∀ (v : World) (Ax : Option Addr) (cx : Nat) (Ay : Option Addr) (cy : Nat) (gy : Nat) (ll : Array Bool) (aa : Act), ll = #[true, true, true, true, true, true, false, true, false, false] → aa = (((act0.put (some 45) (.agg #[.int .u64 a0, .slice Ax R cx])).put (some 48) (.agg #[.int .u64 a0, .slice Ay R cy])).put (some 14) (.pointer (some ⟨gy, 0, none⟩))) → Hid (Below w.heap.size w v) → Hid (Boxes w v [gy, gf]) → Hid (HeldX [gy, gf] (fun uq => MpAt uq (.agg #[.int .u64 a0, .slice Af R cf]) a0 R (fun _ => n) (fun _ _ => false)) v) → Hid (HeldX [gy, gf] (fun uq => MpAt uq (.agg #[.int .u64 a0, .slice Ax R cx]) a0 R (fun _ => n) (addsM a0 R n (fun _ _ => false) K m)) v) → Hid (HeldX [gy, gf] (fun uq => MpAt uq (.agg #[.int .u64 a0, .slice Ay R cy]) a0 R (fun _ => n) (addsM a0 R n (fun _ _ => false) J p)) v) → Hid (Blk v gf 25 #[.int .u64 a0, .slice Af R cf]) → Hid (Blk v gy 25 #[.int .u64 0, .slice none 0 0]) → Hid (gf ≠ gy) → TT 3 ll aa v) := by
    intro v Ax cx Ay cy gy ll aa hl hA BEL105 BOX105 FA_f_105 FA_x_105 FA_y_105 KB_f_105 KB_y_105 NE_f_y
    rw [hact.out] at hA
    try simp only [Act.put, List.setIfInBounds_toArray, List.set_cons_zero, List.set_cons_succ] at hA
    subst hl hA
    refine hUT.out _ _ _ _ ?_
    refine wpAnyH_ready (rs := [6]) (by kernel_rfl) (by simp) ?_
    refine AllReadyH.cons rfl (fun K0 hK0 => ?_) ?_
    · have BEL106 := a_bel BEL105 (.cells #[.int .u64 0, .slice none 0 0] 25)
      have BOX106 := a_box BOX105 BEL105 (.cells #[.int .u64 0, .slice none 0 0] 25)
      have FA_f_106 := a_fact FA_f_105 (.cells #[.int .u64 0, .slice none 0 0] 25)
      have FA_x_106 := a_fact FA_x_105 (.cells #[.int .u64 0, .slice none 0 0] 25)
      have FA_y_106 := a_fact FA_y_105 (.cells #[.int .u64 0, .slice none 0 0] 25)
      have KB_f_106 := a_blk KB_f_105 (.cells #[.int .u64 0, .slice none 0 0] 25)
      have NE_f_x := n_ne KB_f_105
      have KB_y_106 := a_blk KB_y_105 (.cells #[.int .u64 0, .slice none 0 0] 25)
      have NE_y_x := n_ne KB_y_105
      have KB_x_106 := n_blk (u := v) 25 #[.int .u64 0, .slice none 0 0]
      clear BEL105 BOX105 FA_f_105 FA_x_105 FA_y_105 KB_f_105 KB_y_105
      go_simp
      generalize (v.alloc (.cells #[.int .u64 0, .slice none 0 0] 25)) = v2 at BEL106 BOX106 FA_f_106 FA_x_106 FA_y_106 KB_f_106 KB_y_106 KB_x_106 ⊢
      generalize v.heap.size = gx at BOX106 FA_f_106 FA_x_106 FA_y_106 KB_x_106 NE_f_x NE_y_x ⊢
      refine hK0.out _ _ (by exact KB_f_106.out) (fun hHeld => ?_)
      clear hK0 K0 hHeld
      refine hTU.out _ _ _ _ ?_
      refine ND_2_xy.out _ Ax cx Ay cy gx gy _ _ ?_ ?_ BEL106 (b_perm BOX106 (by intro p m; simp only [List.mem_cons, List.not_mem_nil, or_false] at m ⊢; omega)) (h_perm FA_f_106 (by intro p m; simp only [List.mem_cons, List.not_mem_nil, or_false] at m ⊢; omega)) (h_perm FA_x_106 (by intro p m; simp only [List.mem_cons, List.not_mem_nil, or_false] at m ⊢; omega)) (h_perm FA_y_106 (by intro p m; simp only [List.mem_cons, List.not_mem_nil, or_false] at m ⊢; omega)) KB_f_106 KB_x_106 KB_y_106 NE_f_x NE_f_y (n_sym NE_y_x)
      · first | rfl | kernel_rfl
      · rw [hact.out]; rfl
    exact AllReadyH.nil
  have ND_2_ : Hid (∀ (v : World) (Ax : Option Addr) (cx : Nat) (Ay : Option Addr) (cy : Nat) (ll : Array Bool) (aa : Act), ll = #[true, true, true, true, true, true, false, false, false, false] → aa = ((act0.put (some 45) (.agg #[.int .u64 a0, .slice Ax R cx])).put (some 48) (.agg #[.int .u64 a0, .slice Ay R cy])) → Hid (Below w.heap.size w v) → Hid (Boxes w v [gf]) → Hid (HeldX [gf] (fun uq => MpAt uq (.agg #[.int .u64 a0, .slice Af R cf]) a0 R (fun _ => n) (fun _ _ => false)) v) → Hid (HeldX [gf] (fun uq => MpAt uq (.agg #[.int .u64 a0, .slice Ax R cx]) a0 R (fun _ => n) (addsM a0 R n (fun _ _ => false) K m)) v) → Hid (HeldX [gf] (fun uq => MpAt uq (.agg #[.int .u64 a0, .slice Ay R cy]) a0 R (fun _ => n) (addsM a0 R n (fun _ _ => false) J p)) v) → Hid (Blk v gf 25 #[.int .u64 a0, .slice Af R cf]) → TT 4 ll aa v) := by
    intro v Ax cx Ay cy ll aa hl hA BEL105 BOX105 FA_f_105 FA_x_105 FA_y_105 KB_f_105
    rw [hact.out] at hA
    try simp only [Act.put, List.setIfInBounds_toArray, List.set_cons_zero, List.set_cons_succ] at hA
    subst hl hA
    refine hUT.out _ _ _ _ ?_
    refine wpAnyH_ready (rs := [6, 7]) (by kernel_rfl) (by simp) ?_
    refine AllReadyH.cons rfl (fun K0 hK0 => ?_) ?_
    · have BEL106 := a_bel BEL105 (.cells #[.int .u64 0, .slice none 0 0] 25)
      have BOX106 := a_box BOX105 BEL105 (.cells #[.int .u64 0, .slice none 0 0] 25)
      have FA_f_106 := a_fact FA_f_105 (.cells #[.int .u64 0, .slice none 0 0] 25)
      have FA_x_106 := a_fact FA_x_105 (.cells #[.int .u64 0, .slice none 0 0] 25)
      have FA_y_106 := a_fact FA_y_105 (.cells #[.int .u64 0, .slice none 0 0] 25)
      have KB_f_106 := a_blk KB_f_105 (.cells #[.int .u64 0, .slice none 0 0] 25)
      have NE_f_x := n_ne KB_f_105
      have KB_x_106 := n_blk (u := v) 25 #[.int .u64 0, .slice none 0 0]
      clear BEL105 BOX105 FA_f_105 FA_x_105 FA_y_105 KB_f_105
      go_simp
      generalize (v.alloc (.cells #[.int .u64 0, .slice none 0 0] 25)) = v2 at BEL106 BOX106 FA_f_106 FA_x_106 FA_y_106 KB_f_106 KB_x_106 ⊢
      generalize v.heap.size = gx at BOX106 FA_f_106 FA_x_106 FA_y_106 KB_x_106 NE_f_x ⊢
      refine hK0.out _ _ (by exact KB_f_106.out) (fun hHeld => ?_)
      clear hK0 K0 hHeld
      refine hTU.out _ _ _ _ ?_
      refine ND_2_x.out _ Ax cx Ay cy gx _ _ ?_ ?_ BEL106 BOX106 FA_f_106 FA_x_106 FA_y_106 KB_f_106 KB_x_106 NE_f_x
      · first | rfl | kernel_rfl
      · rw [hact.out]; rfl
    refine AllReadyH.cons rfl (fun K0 hK0 => ?_) ?_
    · have BEL106 := a_bel BEL105 (.cells #[.int .u64 0, .slice none 0 0] 25)
      have BOX106 := a_box BOX105 BEL105 (.cells #[.int .u64 0, .slice none 0 0] 25)
      have FA_f_106 := a_fact FA_f_105 (.cells #[.int .u64 0, .slice none 0 0] 25)
      have FA_x_106 := a_fact FA_x_105 (.cells #[.int .u64 0, .slice none 0 0] 25)
      have FA_y_106 := a_fact FA_y_105 (.cells #[.int .u64 0, .slice none 0 0] 25)
      have KB_f_106 := a_blk KB_f_105 (.cells #[.int .u64 0, .slice none 0 0] 25)
      have NE_f_y := n_ne KB_f_105
      have KB_y_106 := n_blk (u := v) 25 #[.int .u64 0, .slice none 0 0]
      clear BEL105 BOX105 FA_f_105 FA_x_105 FA_y_105 KB_f_105
      go_simp
      generalize (v.alloc (.cells #[.int .u64 0, .slice none 0 0] 25)) = v2 at BEL106 BOX106 FA_f_106 FA_x_106 FA_y_106 KB_f_106 KB_y_106 ⊢
      generalize v.heap.size = gy at BOX106 FA_f_106 FA_x_106 FA_y_106 KB_y_106 NE_f_y ⊢
      refine hK0.out _ _ (by exact KB_f_106.out) (fun hHeld => ?_)
      clear hK0 K0 hHeld
      refine hTU.out _ _ _ _ ?_
      refine ND_2_y.out _ Ax cx Ay cy gy _ _ ?_ ?_ BEL106 BOX106 FA_f_106 FA_x_106 FA_y_106 KB_f_106 KB_y_106 NE_f_y
      · first | rfl | kernel_rfl
      · rw [hact.out]; rfl
    exact AllReadyH.nil
  have ND_1_xy : Hid (∀ (v : World) (Ax : Option Addr) (cx : Nat) (gx : Nat) (gy : Nat) (ll : Array Bool) (aa : Act), ll = #[true, true, true, true, true, false, true, true, false, false] → aa = (((act0.put (some 45) (.agg #[.int .u64 a0, .slice Ax R cx])).put (some 13) (.pointer (some ⟨gx, 0, none⟩))).put (some 14) (.pointer (some ⟨gy, 0, none⟩))) → Hid (Below w.heap.size w v) → Hid (Boxes w v [gy, gx, gf]) → Hid (HeldX [gy, gx, gf] (fun uq => MpAt uq (.agg #[.int .u64 a0, .slice Af R cf]) a0 R (fun _ => n) (fun _ _ => false)) v) → Hid (HeldX [gy, gx, gf] (fun uq => MpAt uq (.agg #[.int .u64 a0, .slice Ax R cx]) a0 R (fun _ => n) (addsM a0 R n (fun _ _ => false) K m)) v) → Hid (Blk v gf 25 #[.int .u64 a0, .slice Af R cf]) → Hid (Blk v gx 25 #[.int .u64 0, .slice none 0 0]) → Hid (Blk v gy 25 #[.int .u64 0, .slice none 0 0]) → Hid (gf ≠ gx) → Hid (gf ≠ gy) → Hid (gx ≠ gy) → TT 3 ll aa v) := by
    intro v Ax cx gx gy ll aa hl hA BEL105 BOX105 FA_f_105 FA_x_105 KB_f_105 KB_x_105 KB_y_105 NE_f_x NE_f_y NE_x_y
    rw [hact.out] at hA
    try simp only [Act.put, List.setIfInBounds_toArray, List.set_cons_zero, List.set_cons_succ] at hA
    subst hl hA
    refine hUT.out _ _ _ _ ?_
    refine wpAnyH_ready (rs := [5]) (by kernel_rfl) (by simp) ?_
    refine AllReadyH.cons rfl (fun K0 hK0 => ?_) ?_
    · refine step_func 23 #[.agg #[.int .u64 a0, .slice Af R cf], .slice Ak p capk] (by rfl) rfl (by simp [Act.eval]) (fun _ _ => by kernel_rfl) ?_
      refine (madds_any _ _ _ [gy, gx, gf] a0 R n p _ J FA_f_105.out (fun g hg => (BOX105.out g hg).2) (LB.out.keep (keep_of_below BEL105.out)) OK.out uS (by omega) HJ.out (tabAt_keep HT.out (keep_of_below BEL105.out))).mono ?_
      rintro e wy ⟨Ay, cy, rfl, fy, bb⟩
      have BEL106 := h_bel BEL105 bb
      have BOX106 := h_box BOX105 bb
      have FA_f_106 := h_fact FA_f_105 bb
      have FA_x_106 := h_fact FA_x_105 bb
      have KB_f_106 := h_blk KB_f_105 bb
      have KB_x_106 := h_blk KB_x_105 bb
      have KB_y_106 := h_blk KB_y_105 bb
      clear BEL105 BOX105 FA_f_105 FA_x_105 KB_f_105 KB_x_105 KB_y_105
      have FA_y_106 : Hid (HeldX [gy, gx, gf] (fun uq => MpAt uq (.agg #[.int .u64 a0, .slice Ay R cy]) a0 R (fun _ => n) (addsM a0 R n (fun _ _ => false) J p)) wy) := fy
      clear bb fy
      refine ⟨_, rfl, ?_⟩
      refine hK0.out _ _ (by exact KB_f_106.out) (fun hHeld => ?_)
      clear hK0 K0 hHeld
      refine hTU.out _ _ _ _ ?_
      refine ND_2_xy.out _ Ax cx Ay cy gx gy _ _ ?_ ?_ BEL106 BOX106 FA_f_106 FA_x_106 FA_y_106 KB_f_106 KB_x_106 KB_y_106 NE_f_x NE_f_y NE_x_y
      · first | rfl | kernel_rfl
      · rw [hact.out]; rfl
    exact AllReadyH.nil
  have ND_1_x : Hid (∀ (v : World) (Ax : Option Addr) (cx : Nat) (gx : Nat) (ll : Array Bool) (aa : Act), ll = #[true, true, true, true, true, false, true, false, false, false] → aa = ((act0.put (some 45) (.agg #[.int .u64 a0, .slice Ax R cx])).put (some 13) (.pointer (some ⟨gx, 0, none⟩))) → Hid (Below w.heap.size w v) → Hid (Boxes w v [gx, gf]) → Hid (HeldX [gx, gf] (fun uq => MpAt uq (.agg #[.int .u64 a0, .slice Af R cf]) a0 R (fun _ => n) (fun _ _ => false)) v) → Hid (HeldX [gx, gf] (fun uq => MpAt uq (.agg #[.int .u64 a0, .slice Ax R cx]) a0 R (fun _ => n) (addsM a0 R n (fun _ _ => false) K m)) v) → Hid (Blk v gf 25 #[.int .u64 a0, .slice Af R cf]) → Hid (Blk v gx 25 #[.int .u64 0, .slice none 0 0]) → Hid (gf ≠ gx) → TT 4 ll aa v) := by
    intro v Ax cx gx ll aa hl hA BEL105 BOX105 FA_f_105 FA_x_105 KB_f_105 KB_x_105 NE_f_x
    rw [hact.out] at hA
    try simp only [Act.put, List.setIfInBounds_toArray, List.set_cons_zero, List.set_cons_succ] at hA
    subst hl hA
    refine hUT.out _ _ _ _ ?_
    refine wpAnyH_ready (rs := [5, 7]) (by kernel_rfl) (by simp) ?_
    refine AllReadyH.cons rfl (fun K0 hK0 => ?_) ?_
    · refine step_func 23 #[.agg #[.int .u64 a0, .slice Af R cf], .slice Ak p capk] (by rfl) rfl (by simp [Act.eval]) (fun _ _ => by kernel_rfl) ?_
      refine (madds_any _ _ _ [gx, gf] a0 R n p _ J FA_f_105.out (fun g hg => (BOX105.out g hg).2) (LB.out.keep (keep_of_below BEL105.out)) OK.out uS (by omega) HJ.out (tabAt_keep HT.out (keep_of_below BEL105.out))).mono ?_
      rintro e wy ⟨Ay, cy, rfl, fy, bb⟩
      have BEL106 := h_bel BEL105 bb
      have BOX106 := h_box BOX105 bb
      have FA_f_106 := h_fact FA_f_105 bb
      have FA_x_106 := h_fact FA_x_105 bb
      have KB_f_106 := h_blk KB_f_105 bb
      have KB_x_106 := h_blk KB_x_105 bb
      clear BEL105 BOX105 FA_f_105 FA_x_105 KB_f_105 KB_x_105
      have FA_y_106 : Hid (HeldX [gx, gf] (fun uq => MpAt uq (.agg #[.int .u64 a0, .slice Ay R cy]) a0 R (fun _ => n) (addsM a0 R n (fun _ _ => false) J p)) wy) := fy
      clear bb fy
      refine ⟨_, rfl, ?_⟩
      refine hK0.out _ _ (by exact KB_f_106.out) (fun hHeld => ?_)
      clear hK0 K0 hHeld
      refine hTU.out _ _ _ _ ?_
      refine ND_2_x.out _ Ax cx Ay cy gx _ _ ?_ ?_ BEL106 BOX106 FA_f_106 FA_x_106 FA_y_106 KB_f_106 KB_x_106 NE_f_x
      · first | rfl | kernel_rfl
      · rw [hact.out]; rfl
    refine AllReadyH.cons rfl (fun K0 hK0 => ?_) ?_
    · have BEL106 := a_bel BEL105 (.cells #[.int .u64 0, .slice none 0 0] 25)
      have BOX106 := a_box BOX105 BEL105 (.cells #[.int .u64 0, .slice none 0 0] 25)
      have FA_f_106 := a_fact FA_f_105 (.cells #[.int .u64 0, .slice none 0 0] 25)
      have FA_x_106 := a_fact FA_x_105 (.cells #[.int .u64 0, .slice none 0 0] 25)
      have KB_f_106 := a_blk KB_f_105 (.cells #[.int .u64 0, .slice none 0 0] 25)
      have NE_f_y := n_ne KB_f_105
      have KB_x_106 := a_blk KB_x_105 (.cells #[.int .u64 0, .slice none 0 0] 25)
      have NE_x_y := n_ne KB_x_105
      have KB_y_106 := n_blk (u := v) 25 #[.int .u64 0, .slice none 0 0]
      clear BEL105 BOX105 FA_f_105 FA_x_105 KB_f_105 KB_x_105
      go_simp
      generalize (v.alloc (.cells #[.int .u64 0, .slice none 0 0] 25)) = v2 at BEL106 BOX106 FA_f_106 FA_x_106 KB_f_106 KB_x_106 KB_y_106 ⊢
      generalize v.heap.size = gy at BOX106 FA_f_106 FA_x_106 KB_y_106 NE_f_y NE_x_y ⊢
      refine hK0.out _ _ (by exact KB_f_106.out) (fun hHeld => ?_)
      clear hK0 K0 hHeld
      refine hTU.out _ _ _ _ ?_
      refine ND_1_xy.out _ Ax cx gx gy _ _ ?_ ?_ BEL106 BOX106 FA_f_106 FA_x_106 KB_f_106 KB_x_106 KB_y_106 NE_f_x NE_f_y NE_x_y
      · first | rfl | kernel_rfl
      · rw [hact.out]; rfl
    exact AllReadyH.nil
  have ND_1_y : Hid (∀ (v : World) (Ax : Option Addr) (cx : Nat) (gy : Nat) (ll : Array Bool) (aa : Act), ll = #[true, true, true, true, true, false, false, true, false, false] → aa = ((act0.put (some 45) (.agg #[.int .u64 a0, .slice Ax R cx])).put (some 14) (.pointer (some ⟨gy, 0, none⟩))) → Hid (Below w.heap.size w v) → Hid (Boxes w v [gy, gf]) → Hid (HeldX [gy, gf] (fun uq => MpAt uq (.agg #[.int .u64 a0, .slice Af R cf]) a0 R (fun _ => n) (fun _ _ => false)) v) → Hid (HeldX [gy, gf] (fun uq => MpAt uq (.agg #[.int .u64 a0, .slice Ax R cx]) a0 R (fun _ => n) (addsM a0 R n (fun _ _ => false) K m)) v) → Hid (Blk v gf 25 #[.int .u64 a0, .slice Af R cf]) → Hid (Blk v gy 25 #[.int .u64 0, .slice none 0 0]) → Hid (gf ≠ gy) → TT 4 ll aa v) := by
    intro v Ax cx gy ll aa hl hA BEL105 BOX105 FA_f_105 FA_x_105 KB_f_105 KB_y_105 NE_f_y
    rw [hact.out] at hA
    try simp only [Act.put, List.setIfInBounds_toArray, List.set_cons_zero, List.set_cons_succ] at hA
    subst hl hA
    refine hUT.out _ _ _ _ ?_
    refine wpAnyH_ready (rs := [5, 6]) (by kernel_rfl) (by simp) ?_
    refine AllReadyH.cons rfl (fun K0 hK0 => ?_) ?_
    · refine step_func 23 #[.agg #[.int .u64 a0, .slice Af R cf], .slice Ak p capk] (by rfl) rfl (by simp [Act.eval]) (fun _ _ => by kernel_rfl) ?_
      refine (madds_any _ _ _ [gy, gf] a0 R n p _ J FA_f_105.out (fun g hg => (BOX105.out g hg).2) (LB.out.keep (keep_of_below BEL105.out)) OK.out uS (by omega) HJ.out (tabAt_keep HT.out (keep_of_below BEL105.out))).mono ?_
      rintro e wy ⟨Ay, cy, rfl, fy, bb⟩
      have BEL106 := h_bel BEL105 bb
      have BOX106 := h_box BOX105 bb
      have FA_f_106 := h_fact FA_f_105 bb
      have FA_x_106 := h_fact FA_x_105 bb
      have KB_f_106 := h_blk KB_f_105 bb
      have KB_y_106 := h_blk KB_y_105 bb
      clear BEL105 BOX105 FA_f_105 FA_x_105 KB_f_105 KB_y_105
      have FA_y_106 : Hid (HeldX [gy, gf] (fun uq => MpAt uq (.agg #[.int .u64 a0, .slice Ay R cy]) a0 R (fun _ => n) (addsM a0 R n (fun _ _ => false) J p)) wy) := fy
      clear bb fy
      refine ⟨_, rfl, ?_⟩
      refine hK0.out _ _ (by exact KB_f_106.out) (fun hHeld => ?_)
      clear hK0 K0 hHeld
      refine hTU.out _ _ _ _ ?_
      refine ND_2_y.out _ Ax cx Ay cy gy _ _ ?_ ?_ BEL106 BOX106 FA_f_106 FA_x_106 FA_y_106 KB_f_106 KB_y_106 NE_f_y
      · first | rfl | kernel_rfl
      · rw [hact.out]; rfl
    refine AllReadyH.cons rfl (fun K0 hK0 => ?_) ?_
    · have BEL106 := a_bel BEL105 (.cells #[.int .u64 0, .slice none 0 0] 25)
      have BOX106 := a_box BOX105 BEL105 (.cells #[.int .u64 0, .slice none 0 0] 25)
      have FA_f_106 := a_fact FA_f_105 (.cells #[.int .u64 0, .slice none 0 0] 25)
      have FA_x_106 := a_fact FA_x_105 (.cells #[.int .u64 0, .slice none 0 0] 25)
      have KB_f_106 := a_blk KB_f_105 (.cells #[.int .u64 0, .slice none 0 0] 25)
      have NE_f_x := n_ne KB_f_105
      have KB_y_106 := a_blk KB_y_105 (.cells #[.int .u64 0, .slice none 0 0] 25)
      have NE_y_x := n_ne KB_y_105
      have KB_x_106 := n_blk (u := v) 25 #[.int .u64 0, .slice none 0 0]
      clear BEL105 BOX105 FA_f_105 FA_x_105 KB_f_105 KB_y_105
      go_simp
      generalize (v.alloc (.cells #[.int .u64 0, .slice none 0 0] 25)) = v2 at BEL106 BOX106 FA_f_106 FA_x_106 KB_f_106 KB_y_106 KB_x_106 ⊢
      generalize v.heap.size = gx at BOX106 FA_f_106 FA_x_106 KB_x_106 NE_f_x NE_y_x ⊢
      refine hK0.out _ _ (by exact KB_f_106.out) (fun hHeld => ?_)
      clear hK0 K0 hHeld
      refine hTU.out _ _ _ _ ?_
      refine ND_1_xy.out _ Ax cx gx gy _ _ ?_ ?_ BEL106 (b_perm BOX106 (by intro p m; simp only [List.mem_cons, List.not_mem_nil, or_false] at m ⊢; omega)) (h_perm FA_f_106 (by intro p m; simp only [List.mem_cons, List.not_mem_nil, or_false] at m ⊢; omega)) (h_perm FA_x_106 (by intro p m; simp only [List.mem_cons, List.not_mem_nil, or_false] at m ⊢; omega)) KB_f_106 KB_x_106 KB_y_106 NE_f_x NE_f_y (n_sym NE_y_x)
      · first | rfl | kernel_rfl
      · rw [hact.out]; rfl
    exact AllReadyH.nil
  have ND_1_ : Hid (∀ (v : World) (Ax : Option Addr) (cx : Nat) (ll : Array Bool) (aa : Act), ll = #[true, true, true, true, true, false, false, false, false, false] → aa = (act0.put (some 45) (.agg #[.int .u64 a0, .slice Ax R cx])) → Hid (Below w.heap.size w v) → Hid (Boxes w v [gf]) → Hid (HeldX [gf] (fun uq => MpAt uq (.agg #[.int .u64 a0, .slice Af R cf]) a0 R (fun _ => n) (fun _ _ => false)) v) → Hid (HeldX [gf] (fun uq => MpAt uq (.agg #[.int .u64 a0, .slice Ax R cx]) a0 R (fun _ => n) (addsM a0 R n (fun _ _ => false) K m)) v) → Hid (Blk v gf 25 #[.int .u64 a0, .slice Af R cf]) → TT 5 ll aa v) := by
    intro v Ax cx ll aa hl hA BEL105 BOX105 FA_f_105 FA_x_105 KB_f_105
    rw [hact.out] at hA
    try simp only [Act.put, List.setIfInBounds_toArray, List.set_cons_zero, List.set_cons_succ] at hA
    subst hl hA
    refine hUT.out _ _ _ _ ?_
    refine wpAnyH_ready (rs := [5, 6, 7]) (by kernel_rfl) (by simp) ?_
    refine AllReadyH.cons rfl (fun K0 hK0 => ?_) ?_
    · refine step_func 23 #[.agg #[.int .u64 a0, .slice Af R cf], .slice Ak p capk] (by rfl) rfl (by simp [Act.eval]) (fun _ _ => by kernel_rfl) ?_
      refine (madds_any _ _ _ [gf] a0 R n p _ J FA_f_105.out (fun g hg => (BOX105.out g hg).2) (LB.out.keep (keep_of_below BEL105.out)) OK.out uS (by omega) HJ.out (tabAt_keep HT.out (keep_of_below BEL105.out))).mono ?_
      rintro e wy ⟨Ay, cy, rfl, fy, bb⟩
      have BEL106 := h_bel BEL105 bb
      have BOX106 := h_box BOX105 bb
      have FA_f_106 := h_fact FA_f_105 bb
      have FA_x_106 := h_fact FA_x_105 bb
      have KB_f_106 := h_blk KB_f_105 bb
      clear BEL105 BOX105 FA_f_105 FA_x_105 KB_f_105
      have FA_y_106 : Hid (HeldX [gf] (fun uq => MpAt uq (.agg #[.int .u64 a0, .slice Ay R cy]) a0 R (fun _ => n) (addsM a0 R n (fun _ _ => false) J p)) wy) := fy
      clear bb fy
      refine ⟨_, rfl, ?_⟩
      refine hK0.out _ _ (by exact KB_f_106.out) (fun hHeld => ?_)
      clear hK0 K0 hHeld
      refine hTU.out _ _ _ _ ?_
      refine ND_2_.out _ Ax cx Ay cy _ _ ?_ ?_ BEL106 BOX106 FA_f_106 FA_x_106 FA_y_106 KB_f_106
      · first | rfl | kernel_rfl
      · rw [hact.out]; rfl
    refine AllReadyH.cons rfl (fun K0 hK0 => ?_) ?_
    · have BEL106 := a_bel BEL105 (.cells #[.int .u64 0, .slice none 0 0] 25)
      have BOX106 := a_box BOX105 BEL105 (.cells #[.int .u64 0, .slice none 0 0] 25)
      have FA_f_106 := a_fact FA_f_105 (.cells #[.int .u64 0, .slice none 0 0] 25)
      have FA_x_106 := a_fact FA_x_105 (.cells #[.int .u64 0, .slice none 0 0] 25)
      have KB_f_106 := a_blk KB_f_105 (.cells #[.int .u64 0, .slice none 0 0] 25)
      have NE_f_x := n_ne KB_f_105
      have KB_x_106 := n_blk (u := v) 25 #[.int .u64 0, .slice none 0 0]
      clear BEL105 BOX105 FA_f_105 FA_x_105 KB_f_105
      go_simp
      generalize (v.alloc (.cells #[.int .u64 0, .slice none 0 0] 25)) = v2 at BEL106 BOX106 FA_f_106 FA_x_106 KB_f_106 KB_x_106 ⊢
      generalize v.heap.size = gx at BOX106 FA_f_106 FA_x_106 KB_x_106 NE_f_x ⊢
      refine hK0.out _ _ (by exact KB_f_106.out) (fun hHeld => ?_)
      clear hK0 K0 hHeld
      refine hTU.out _ _ _ _ ?_
      refine ND_1_x.out _ Ax cx gx _ _ ?_ ?_ BEL106 BOX106 FA_f_106 FA_x_106 KB_f_106 KB_x_106 NE_f_x
      · first | rfl | kernel_rfl
      · rw [hact.out]; rfl
    refine AllReadyH.cons rfl (fun K0 hK0 => ?_) ?_
    · have BEL106 := a_bel BEL105 (.cells #[.int .u64 0, .slice none 0 0] 25)
      have BOX106 := a_box BOX105 BEL105 (.cells #[.int .u64 0, .slice none 0 0] 25)
      have FA_f_106 := a_fact FA_f_105 (.cells #[.int .u64 0, .slice none 0 0] 25)
      have FA_x_106 := a_fact FA_x_105 (.cells #[.int .u64 0, .slice none 0 0] 25)
      have KB_f_106 := a_blk KB_f_105 (.cells #[.int .u64 0, .slice none 0 0] 25)
      have NE_f_y := n_ne KB_f_105
      have KB_y_106 := n_blk (u := v) 25 #[.int .u64 0, .slice none 0 0]
      clear BEL105 BOX105 FA_f_105 FA_x_105 KB_f_105
      go_simp
      generalize (v.alloc (.cells #[.int .u64 0, .slice none 0 0] 25)) = v2 at BEL106 BOX106 FA_f_106 FA_x_106 KB_f_106 KB_y_106 ⊢
      generalize v.heap.size = gy at BOX106 FA_f_106 FA_x_106 KB_y_106 NE_f_y ⊢
      refine hK0.out _ _ (by exact KB_f_106.out) (fun hHeld => ?_)
      clear hK0 K0 hHeld
      refine hTU.out _ _ _ _ ?_
      refine ND_1_y.out _ Ax cx gy _ _ ?_ ?_ BEL106 BOX106 FA_f_106 FA_x_106 KB_f_106 KB_y_106 NE_f_y
      · first | rfl | kernel_rfl
      · rw [hact.out]; rfl
    exact AllReadyH.nil
  have ND_0_xy : Hid (∀ (v : World) (gx : Nat) (gy : Nat) (ll : Array Bool) (aa : Act), ll = #[true, true, false, true, true, false, true, true, false, false] → aa = ((act0.put (some 13) (.pointer (some ⟨gx, 0, none⟩))).put (some 14) (.pointer (some ⟨gy, 0, none⟩))) → Hid (Below w.heap.size w v) → Hid (Boxes w v [gy, gx, gf]) → Hid (HeldX [gy, gx, gf] (fun uq => MpAt uq (.agg #[.int .u64 a0, .slice Af R cf]) a0 R (fun _ => n) (fun _ _ => false)) v) → Hid (Blk v gf 25 #[.int .u64 a0, .slice Af R cf]) → Hid (Blk v gx 25 #[.int .u64 0, .slice none 0 0]) → Hid (Blk v gy 25 #[.int .u64 0, .slice none 0 0]) → Hid (gf ≠ gx) → Hid (gf ≠ gy) → Hid (gx ≠ gy) → TT 4 ll aa v) := by
    intro v gx gy ll aa hl hA BEL105 BOX105 FA_f_105 KB_f_105 KB_x_105 KB_y_105 NE_f_x NE_f_y NE_x_y
    rw [hact.out] at hA
    try simp only [Act.put, List.setIfInBounds_toArray, List.set_cons_zero, List.set_cons_succ] at hA
    subst hl hA
    refine hUT.out _ _ _ _ ?_
    refine wpAnyH_ready (rs := [2]) (by kernel_rfl) (by simp) ?_
    refine AllReadyH.cons rfl (fun K0 hK0 => ?_) ?_
    · refine step_func 23 #[.agg #[.int .u64 a0, .slice Af R cf], .slice Al m capl] (by rfl) rfl (by simp [Act.eval]) (fun _ _ => by kernel_rfl) ?_
      refine (madds_any _ _ _ [gy, gx, gf] a0 R n m _ K FA_f_105.out (fun g hg => (BOX105.out g hg).2) (LA.out.keep (keep_of_below BEL105.out)) OK.out uS (by omega) HK.out (tabAt_keep HT.out (keep_of_below BEL105.out))).mono ?_
      rintro e wx ⟨Ax, cx, rfl, fx, bb⟩
      have BEL106 := h_bel BEL105 bb
      have BOX106 := h_box BOX105 bb
      have FA_f_106 := h_fact FA_f_105 bb
      have KB_f_106 := h_blk KB_f_105 bb
      have KB_x_106 := h_blk KB_x_105 bb
      have KB_y_106 := h_blk KB_y_105 bb
      clear BEL105 BOX105 FA_f_105 KB_f_105 KB_x_105 KB_y_105
      have FA_x_106 : Hid (HeldX [gy, gx, gf] (fun uq => MpAt uq (.agg #[.int .u64 a0, .slice Ax R cx]) a0 R (fun _ => n) (addsM a0 R n (fun _ _ => false) K m)) wx) := fx
      clear bb fx
      refine ⟨_, rfl, ?_⟩
      refine hK0.out _ _ (by exact KB_f_106.out) (fun hHeld => ?_)
      clear hK0 K0 hHeld
      refine hTU.out _ _ _ _ ?_
      refine ND_1_xy.out _ Ax cx gx gy _ _ ?_ ?_ BEL106 BOX106 FA_f_106 FA_x_106 KB_f_106 KB_x_106 KB_y_106 NE_f_x NE_f_y NE_x_y
      · first | rfl | kernel_rfl
      · rw [hact.out]; rfl
    exact AllReadyH.nil
  have ND_0_x : Hid (∀ (v : World) (gx : Nat) (ll : Array Bool) (aa : Act), ll = #[true, true, false, true, true, false, true, false, false, false] → aa = (act0.put (some 13) (.pointer (some ⟨gx, 0, none⟩))) → Hid (Below w.heap.size w v) → Hid (Boxes w v [gx, gf]) → Hid (HeldX [gx, gf] (fun uq => MpAt uq (.agg #[.int .u64 a0, .slice Af R cf]) a0 R (fun _ => n) (fun _ _ => false)) v) → Hid (Blk v gf 25 #[.int .u64 a0, .slice Af R cf]) → Hid (Blk v gx 25 #[.int .u64 0, .slice none 0 0]) → Hid (gf ≠ gx) → TT 5 ll aa v) := by
    intro v gx ll aa hl hA BEL105 BOX105 FA_f_105 KB_f_105 KB_x_105 NE_f_x
    rw [hact.out] at hA
    try simp only [Act.put, List.setIfInBounds_toArray, List.set_cons_zero, List.set_cons_succ] at hA
    subst hl hA
    refine hUT.out _ _ _ _ ?_
    refine wpAnyH_ready (rs := [2, 7]) (by kernel_rfl) (by simp) ?_
    refine AllReadyH.cons rfl (fun K0 hK0 => ?_) ?_
    · refine step_func 23 #[.agg #[.int .u64 a0, .slice Af R cf], .slice Al m capl] (by rfl) rfl (by simp [Act.eval]) (fun _ _ => by kernel_rfl) ?_
      refine (madds_any _ _ _ [gx, gf] a0 R n m _ K FA_f_105.out (fun g hg => (BOX105.out g hg).2) (LA.out.keep (keep_of_below BEL105.out)) OK.out uS (by omega) HK.out (tabAt_keep HT.out (keep_of_below BEL105.out))).mono ?_
      rintro e wx ⟨Ax, cx, rfl, fx, bb⟩
      have BEL106 := h_bel BEL105 bb
      have BOX106 := h_box BOX105 bb
      have FA_f_106 := h_fact FA_f_105 bb
      have KB_f_106 := h_blk KB_f_105 bb
      have KB_x_106 := h_blk KB_x_105 bb
      clear BEL105 BOX105 FA_f_105 KB_f_105 KB_x_105
      have FA_x_106 : Hid (HeldX [gx, gf] (fun uq => MpAt uq (.agg #[.int .u64 a0, .slice Ax R cx]) a0 R (fun _ => n) (addsM a0 R n (fun _ _ => false) K m)) wx) := fx
      clear bb fx
      refine ⟨_, rfl, ?_⟩
      refine hK0.out _ _ (by exact KB_f_106.out) (fun hHeld => ?_)
      clear hK0 K0 hHeld
      refine hTU.out _ _ _ _ ?_
      refine ND_1_x.out _ Ax cx gx _ _ ?_ ?_ BEL106 BOX106 FA_f_106 FA_x_106 KB_f_106 KB_x_106 NE_f_x
      · first | rfl | kernel_rfl
      · rw [hact.out]; rfl
    refine AllReadyH.cons rfl (fun K0 hK0 => ?_) ?_
    · have BEL106 := a_bel BEL105 (.cells #[.int .u64 0, .slice none 0 0] 25)
      have BOX106 := a_box BOX105 BEL105 (.cells #[.int .u64 0, .slice none 0 0] 25)
      have FA_f_106 := a_fact FA_f_105 (.cells #[.int .u64 0, .slice none 0 0] 25)
      have KB_f_106 := a_blk KB_f_105 (.cells #[.int .u64 0, .slice none 0 0] 25)
      have NE_f_y := n_ne KB_f_105
      have KB_x_106 := a_blk KB_x_105 (.cells #[.int .u64 0, .slice none 0 0] 25)
      have NE_x_y := n_ne KB_x_105
      have KB_y_106 := n_blk (u := v) 25 #[.int .u64 0, .slice none 0 0]
      clear BEL105 BOX105 FA_f_105 KB_f_105 KB_x_105
      go_simp
      generalize (v.alloc (.cells #[.int .u64 0, .slice none 0 0] 25)) = v2 at BEL106 BOX106 FA_f_106 KB_f_106 KB_x_106 KB_y_106 ⊢
      generalize v.heap.size = gy at BOX106 FA_f_106 KB_y_106 NE_f_y NE_x_y ⊢
      refine hK0.out _ _ (by exact KB_f_106.out) (fun hHeld => ?_)
      clear hK0 K0 hHeld
      refine hTU.out _ _ _ _ ?_
      refine ND_0_xy.out _ gx gy _ _ ?_ ?_ BEL106 BOX106 FA_f_106 KB_f_106 KB_x_106 KB_y_106 NE_f_x NE_f_y NE_x_y
      · first | rfl | kernel_rfl
      · rw [hact.out]; rfl
    exact AllReadyH.nil
  have ND_0_y : Hid (∀ (v : World) (gy : Nat) (ll : Array Bool) (aa : Act), ll = #[true, true, false, true, true, false, false, true, false, false] → aa = (act0.put (some 14) (.pointer (some ⟨gy, 0, none⟩))) → Hid (Below w.heap.size w v) → Hid (Boxes w v [gy, gf]) → Hid (HeldX [gy, gf] (fun uq => MpAt uq (.agg #[.int .u64 a0, .slice Af R cf]) a0 R (fun _ => n) (fun _ _ => false)) v) → Hid (Blk v gf 25 #[.int .u64 a0, .slice Af R cf]) → Hid (Blk v gy 25 #[.int .u64 0, .slice none 0 0]) → Hid (gf ≠ gy) → TT 5 ll aa v) := by
    intro v gy ll aa hl hA BEL105 BOX105 FA_f_105 KB_f_105 KB_y_105 NE_f_y
    rw [hact.out] at hA
    try simp only [Act.put, List.setIfInBounds_toArray, List.set_cons_zero, List.set_cons_succ] at hA
    subst hl hA
    refine hUT.out _ _ _ _ ?_
    refine wpAnyH_ready (rs := [2, 6]) (by kernel_rfl) (by simp) ?_
    refine AllReadyH.cons rfl (fun K0 hK0 => ?_) ?_
    · refine step_func 23 #[.agg #[.int .u64 a0, .slice Af R cf], .slice Al m capl] (by rfl) rfl (by simp [Act.eval]) (fun _ _ => by kernel_rfl) ?_
      refine (madds_any _ _ _ [gy, gf] a0 R n m _ K FA_f_105.out (fun g hg => (BOX105.out g hg).2) (LA.out.keep (keep_of_below BEL105.out)) OK.out uS (by omega) HK.out (tabAt_keep HT.out (keep_of_below BEL105.out))).mono ?_
      rintro e wx ⟨Ax, cx, rfl, fx, bb⟩
      have BEL106 := h_bel BEL105 bb
      have BOX106 := h_box BOX105 bb
      have FA_f_106 := h_fact FA_f_105 bb
      have KB_f_106 := h_blk KB_f_105 bb
      have KB_y_106 := h_blk KB_y_105 bb
      clear BEL105 BOX105 FA_f_105 KB_f_105 KB_y_105
      have FA_x_106 : Hid (HeldX [gy, gf] (fun uq => MpAt uq (.agg #[.int .u64 a0, .slice Ax R cx]) a0 R (fun _ => n) (addsM a0 R n (fun _ _ => false) K m)) wx) := fx
      clear bb fx
      refine ⟨_, rfl, ?_⟩
      refine hK0.out _ _ (by exact KB_f_106.out) (fun hHeld => ?_)
      clear hK0 K0 hHeld
      refine hTU.out _ _ _ _ ?_
      refine ND_1_y.out _ Ax cx gy _ _ ?_ ?_ BEL106 BOX106 FA_f_106 FA_x_106 KB_f_106 KB_y_106 NE_f_y
      · first | rfl | kernel_rfl
      · rw [hact.out]; rfl
    refine AllReadyH.cons rfl (fun K0 hK0 => ?_) ?_
    · have BEL106 := a_bel BEL105 (.cells #[.int .u64 0, .slice none 0 0] 25)
      have BOX106 := a_box BOX105 BEL105 (.cells #[.int .u64 0, .slice none 0 0] 25)
      have FA_f_106 := a_fact FA_f_105 (.cells #[.int .u64 0, .slice none 0 0] 25)
      have KB_f_106 := a_blk KB_f_105 (.cells #[.int .u64 0, .slice none 0 0] 25)
      have NE_f_x := n_ne KB_f_105
      have KB_y_106 := a_blk KB_y_105 (.cells #[.int .u64 0, .slice none 0 0] 25)
      have NE_y_x := n_ne KB_y_105
      have KB_x_106 := n_blk (u := v) 25 #[.int .u64 0, .slice none 0 0]
      clear BEL105 BOX105 FA_f_105 KB_f_105 KB_y_105
      go_simp
      generalize (v.alloc (.cells #[.int .u64 0, .slice none 0 0] 25)) = v2 at BEL106 BOX106 FA_f_106 KB_f_106 KB_y_106 KB_x_106 ⊢
      generalize v.heap.size = gx at BOX106 FA_f_106 KB_x_106 NE_f_x NE_y_x ⊢
      refine hK0.out _ _ (by exact KB_f_106.out) (fun hHeld => ?_)
      clear hK0 K0 hHeld
      refine hTU.out _ _ _ _ ?_
      refine ND_0_xy.out _ gx gy _ _ ?_ ?_ BEL106 (b_perm BOX106 (by intro p m; simp only [List.mem_cons, List.not_mem_nil, or_false] at m ⊢; omega)) (h_perm FA_f_106 (by intro p m; simp only [List.mem_cons, List.not_mem_nil, or_false] at m ⊢; omega)) KB_f_106 KB_x_106 KB_y_106 NE_f_x NE_f_y (n_sym NE_y_x)
      · first | rfl | kernel_rfl
      · rw [hact.out]; rfl
    exact AllReadyH.nil
  have ND_0_ : Hid (∀ (v : World)  (ll : Array Bool) (aa : Act), ll = #[true, true, false, true, true, false, false, false, false, false] → aa = act0 → Hid (Below w.heap.size w v) → Hid (Boxes w v [gf]) → Hid (HeldX [gf] (fun uq => MpAt uq (.agg #[.int .u64 a0, .slice Af R cf]) a0 R (fun _ => n) (fun _ _ => false)) v) → Hid (Blk v gf 25 #[.int .u64 a0, .slice Af R cf]) → TT 6 ll aa v) := by
    intro v  ll aa hl hA BEL105 BOX105 FA_f_105 KB_f_105
    rw [hact.out] at hA
    try simp only [Act.put, List.setIfInBounds_toArray, List.set_cons_zero, List.set_cons_succ] at hA
    subst hl hA
    refine hUT.out _ _ _ _ ?_
    refine wpAnyH_ready (rs := [2, 6, 7]) (by kernel_rfl) (by simp) ?_
    refine AllReadyH.cons rfl (fun K0 hK0 => ?_) ?_
    · refine step_func 23 #[.agg #[.int .u64 a0, .slice Af R cf], .slice Al m capl] (by rfl) rfl (by simp [Act.eval]) (fun _ _ => by kernel_rfl) ?_
      refine (madds_any _ _ _ [gf] a0 R n m _ K FA_f_105.out (fun g hg => (BOX105.out g hg).2) (LA.out.keep (keep_of_below BEL105.out)) OK.out uS (by omega) HK.out (tabAt_keep HT.out (keep_of_below BEL105.out))).mono ?_
      rintro e wx ⟨Ax, cx, rfl, fx, bb⟩
      have BEL106 := h_bel BEL105 bb
      have BOX106 := h_box BOX105 bb
      have FA_f_106 := h_fact FA_f_105 bb
      have KB_f_106 := h_blk KB_f_105 bb
      clear BEL105 BOX105 FA_f_105 KB_f_105
      have FA_x_106 : Hid (HeldX [gf] (fun uq => MpAt uq (.agg #[.int .u64 a0, .slice Ax R cx]) a0 R (fun _ => n) (addsM a0 R n (fun _ _ => false) K m)) wx) := fx
      clear bb fx
      refine ⟨_, rfl, ?_⟩
      refine hK0.out _ _ (by exact KB_f_106.out) (fun hHeld => ?_)
      clear hK0 K0 hHeld
      refine hTU.out _ _ _ _ ?_
      refine ND_1_.out _ Ax cx _ _ ?_ ?_ BEL106 BOX106 FA_f_106 FA_x_106 KB_f_106
      · first | rfl | kernel_rfl
      · rw [hact.out]; rfl
    refine AllReadyH.cons rfl (fun K0 hK0 => ?_) ?_
    · have BEL106 := a_bel BEL105 (.cells #[.int .u64 0, .slice none 0 0] 25)
      have BOX106 := a_box BOX105 BEL105 (.cells #[.int .u64 0, .slice none 0 0] 25)
      have FA_f_106 := a_fact FA_f_105 (.cells #[.int .u64 0, .slice none 0 0] 25)
      have KB_f_106 := a_blk KB_f_105 (.cells #[.int .u64 0, .slice none 0 0] 25)
      have NE_f_x := n_ne KB_f_105
      have KB_x_106 := n_blk (u := v) 25 #[.int .u64 0, .slice none 0 0]
      clear BEL105 BOX105 FA_f_105 KB_f_105
      go_simp
      generalize (v.alloc (.cells #[.int .u64 0, .slice none 0 0] 25)) = v2 at BEL106 BOX106 FA_f_106 KB_f_106 KB_x_106 ⊢
      generalize v.heap.size = gx at BOX106 FA_f_106 KB_x_106 NE_f_x ⊢
      refine hK0.out _ _ (by exact KB_f_106.out) (fun hHeld => ?_)
      clear hK0 K0 hHeld
      refine hTU.out _ _ _ _ ?_
      refine ND_0_x.out _ gx _ _ ?_ ?_ BEL106 BOX106 FA_f_106 KB_f_106 KB_x_106 NE_f_x
      · first | rfl | kernel_rfl
      · rw [hact.out]; rfl
    refine AllReadyH.cons rfl (fun K0 hK0 => ?_) ?_
    · have BEL106 := a_bel BEL105 (.cells #[.int .u64 0, .slice none 0 0] 25)
      have BOX106 := a_box BOX105 BEL105 (.cells #[.int .u64 0, .slice none 0 0] 25)
      have FA_f_106 := a_fact FA_f_105 (.cells #[.int .u64 0, .slice none 0 0] 25)
      have KB_f_106 := a_blk KB_f_105 (.cells #[.int .u64 0, .slice none 0 0] 25)
      have NE_f_y := n_ne KB_f_105
      have KB_y_106 := n_blk (u := v) 25 #[.int .u64 0, .slice none 0 0]
      clear BEL105 BOX105 FA_f_105 KB_f_105
      go_simp
      generalize (v.alloc (.cells #[.int .u64 0, .slice none 0 0] 25)) = v2 at BEL106 BOX106 FA_f_106 KB_f_106 KB_y_106 ⊢
      generalize v.heap.size = gy at BOX106 FA_f_106 KB_y_106 NE_f_y ⊢
      refine hK0.out _ _ (by exact KB_f_106.out) (fun hHeld => ?_)
      clear hK0 K0 hHeld
      refine hTU.out _ _ _ _ ?_
      refine ND_0_y.out _ gy _ _ ?_ ?_ BEL106 BOX106 FA_f_106 KB_f_106 KB_y_106 NE_f_y
      · first | rfl | kernel_rfl
      · rw [hact.out]; rfl
    exact AllReadyH.nil
  refine ND_0_.out _  _ _ ?_ ?_ BEL5 BOX5 FA_f_5 KB_f_5
  · first | rfl | kernel_rfl
  · rfl

/-! ### The row -/
theorem laidOut : laidOutB Tryd.prog = true := by kernel_rfl
theorem door_met (os : Os) (args : Array Value) : laidMetH Tryd.prog Rows.bitmapGrowsRow.laid ((World.doorLaid Tryd.prog 400 os).forCall (fun _ _ => 0) ⟨#[], args, []⟩).memory :=
  laidMetH_of_parts3 (fuel := 8) (laidMet_of_run' 8 (by kernel_rfl) (by kernel_rfl)) (by kernel_rfl) (by kernel_rfl)
set_option maxRecDepth 100000 in
theorem lifted (os : Os) (started : os.Started) (H : Type) (enc : TypeId × Value → H) :
    ReturnsInHanded {} Tryd.checked os 6 .any (fun w args => (Rows.bitmapGrowsSpec.pre enc Tryd.prog Tryd.f6 [] false w args ∧ laidMetH Tryd.prog Rows.bitmapGrowsRow.laid w) ∧ sizedMet enc Tryd.prog Tryd.f6 (OpenSpec.ofChange Rows.bitmapGrowsSpec) false w args) (Rows.bitmapGrowsSpec.post enc Tryd.prog Tryd.f6 false true false false) := by
  refine returnsInHanded_of_change_and (C := Tryd.checked) (X := fun w _ => laidMetH Tryd.prog Rows.bitmapGrowsRow.laid w) (fun _ _ _ hh h => h.of_heap hh) own started (by kernel_rfl) Tryd.func6
    (ChangeSpec.witness_shaped (enc := enc) (C := Tryd.checked) (os := os) (X := fun w _ => laidMetH Tryd.prog Rows.bitmapGrowsRow.laid w) false (World.doorLaid Tryd.prog 400 os) #[.int .u64 0, .int .i64 0, .int .i64 0, .slice none 0 0, .slice none 0 0] 8 rfl (World.shaped_of_RefB (by kernel_rfl) (by kernel_rfl)) (by kernel_rfl) (by kernel_rfl) (by kernel_rfl) (door_met os _)) ?_
  intro W base args ds gs before hval0 hW _ _ hL _
  have hval : ∀ (j : Nat) t v, Tryd.f6.params[j]? = some t → args[j]? = some v → Value.okWide Tryd.prog W .any base t v := hval0
  have hW' := hW
  obtain ⟨p, q, hA0, hV, rfl, hfz, hnd⟩ := hW
  have hA : DataW.TrodAll enc Tryd.prog W 0 (fun _ => true) true Tryd.f6.params.toList args.toList ds p := hA0
  rw [Tryd.params6] at hA hval
  obtain ⟨v0, vs0, d0, ds0, p0, q0, hargs, rfl, rfl, h0, r0⟩ := trodAll_cons hA
  obtain ⟨v1, vs1, d1, ds1, p1, q1, rfl, rfl, rfl, h1, r1⟩ := trodAll_cons r0
  obtain ⟨v2, vs2, d2, ds2, p2, q2, rfl, rfl, rfl, h2, r2⟩ := trodAll_cons r1
  obtain ⟨v3, vs3, d3, ds3, p3, q3, rfl, rfl, rfl, h3, r3⟩ := trodAll_cons r2
  obtain ⟨v4, vs4, d4, ds4, p4, q4, rfl, rfl, rfl, h4, r4⟩ := trodAll_cons r3
  obtain ⟨rfl, rfl, rfl⟩ := trodAll_nil r4
  obtain rfl : args = #[v0, v1, v2, v3, v4] := by cases args; simp_all
  obtain ⟨rfl, rfl⟩ := trodVars_none hV
  obtain ⟨a0, rfl, rfl, rfl, w0⟩ := open_int Tryd.underlying22 (hval 0 22 v0 rfl rfl) h0
  obtain ⟨a1, rfl, rfl, rfl, w1⟩ := open_int Tryd.underlying3 (hval 1 3 v1 rfl rfl) h1
  obtain ⟨a2, rfl, rfl, rfl, w2⟩ := open_int Tryd.underlying3 (hval 2 3 v2 rfl rfl) h2
  have k3 := h3
  have lt3 : ∀ x ∈ p3, x.block < W.heap.size := by obtain ⟨m, hm⟩ := k3; exact DataW.trod_lt m _ _ _ hm
  obtain ⟨F3, w3⟩ := open_keys (hval 3 47 v3 rfl rfl) h3
  have k4 := h4
  have lt4 : ∀ x ∈ p4, x.block < W.heap.size := by obtain ⟨m, hm⟩ := k4; exact DataW.trod_lt m _ _ _ hm
  obtain ⟨F4, w4⟩ := open_keys (hval 4 47 v4 rfl rfl) h4
  have hT := tab_of hL
  clear hA0 hval0
  refine (walk a0 a1 a2 v3 F3 v4 F4 W w0 w1 w2 w3 w4 hT).mono fun e W' ⟨he, bel⟩ => ?_
  subst he
  exact ⟨_, rfl, _, _, _, [], _, [], hW', trodAll_mk1 (shut_bool Tryd.underlying4 _), (trodAll_cons_mk (shut_int Tryd.underlying22 w0) (trodAll_cons_mk (shut_int Tryd.underlying3 w1) (trodAll_cons_mk (shut_int Tryd.underlying3 w2) (trodAll_cons_mk (Below.trod laidOut (by kernel_rfl) (of_decide_eq_true (by kernel_rfl)) k3 bel lt3) (trodAll_cons_mk (Below.trod laidOut (by kernel_rfl) (of_decide_eq_true (by kernel_rfl)) k4 bel lt4) trodAll_mk0))))), rfl, bel.frame _, fun h => by cases h⟩

theorem over : Rows.bitmapGrowsRow.holds Tryd.pinned (OpenSpec.ofChange Rows.bitmapGrowsSpec) :=
  OpenClaim.holds_of_wide 6 Tryd.f6 rfl rfl rfl rfl rfl rfl rfl ⟨rfl, rfl, rfl, rfl, rfl⟩ rfl rfl rfl rfl rfl (by kernel_rfl) Tryd.func6 (by kernel_rfl)
    (of_decide_eq_true (by kernel_rfl)) (by unfold Func.isWrapper; first | (rw [if_pos (by decide +kernel)]; kernel_rfl) | (rw [if_neg (by decide +kernel)]; exact ⟨rfl, rfl⟩))
    (fun os started H enc _ => lifted os started H enc)

/-- The card: the row, its listed variable tied to the text of the program. -/
theorem proved : Rows.BitmapGrowsCardSaid :=
  Claim7.holds_tied_plain_at .later [] [.data] true (true, "d7fea8b7464b8eb0538f847a3aaee3a43cd24ee3633f5fd47a89fd9ba8ea7cde") false
    over (fun _ h => by cases h) (by kernel_rfl) (fun _ h => by cases h) bitmapGrows_row_tie rfl ⟨rfl, rfl⟩ (by kernel_rfl) rfl
    (fun f fn hf hfn => by
      obtain rfl : f = 6 := Option.some.inj ((show Tryd.prog.funcNamed "rillmeter/rillmeterlaw13.BitmapGrows" = some 6 by kernel_rfl).symm.trans hf) |>.symm
      obtain rfl : fn = Tryd.f6 := (Option.some.inj (Tryd.func6.symm.trans hfn)).symm
      exact ⟨by kernel_rfl, fun j t ht => by
        rw [Tryd.params6] at ht
        have hm : t ∈ [22, 3, 3, 47, 47] := by simpa using Array.mem_of_getElem? ht
        have hall : ([22, 3, 3, 47, 47].all fun u => !Tryd.prog.wantsStandIn u) = true := by kernel_rfl
        exact (show Tryd.prog.wantsStandIn t = false by simpa using List.all_eq_true.1 hall t hm)⟩)
    (by kernel_rfl)
end Go.Proofs.YtkfhofgmjhnknaaDoor.bitmapGrows
namespace Go.Proofs.YtkfhofgmjhnknaaDoor
theorem bitmapGrows_holds : Rows.BitmapGrowsCardSaid := bitmapGrows.proved
#print axioms bitmapGrows_holds
end Go.Proofs.YtkfhofgmjhnknaaDoor
