
/-
  BitmapSets: a map has as many bits set as places came, each thing's place among them; its estimate is 0 just if nothing came. The table math/bits.deBruijn64tab is as the text of the library lays it (the card ties it).
-/
import Derived.Test.YtkfhofgmjhnknaaDoorRows
import Derived.Test.YtkfhofgmjhnknaaDoorCards
import Derived.Test.YtkfhofgmjhnknaaDoorTie
import Derived.Test.YtkfhofgmjhnknaaDoorTab
import Derived.Test.YtkfhofgmjhnknaaDoorBtmAwake
import Derived.Test.YtkfhofgmjhnknaaDoorBtmRef
import Derived.Test.YtkfhofgmjhnknaaDoorRegKit
import Derived.WalkKit
import Derived.ProofKit
import Derived.OpenShut
import Derived.ShutString
import Derived.ChangeOld
import Derived.ChangeMaps5
import Derived.Below
import Derived.Carry
import Derived.Laws.StructEq
import Derived.BigQuiet
import Derived.Deep.Cut
import Derived.Deep.CutRange
import Derived.Deep.RegionHeld
import Derived.LaidMore
import Derived.Stop.Joined
import Derived.SevenTiedAt
namespace Go.Proofs.YtkfhofgmjhnknaaDoor.bitmapSets
open Fm Bl Bm L2 Go.Deep
open Go.ChangeShapes Go.WideShapes Go.ChangeAt Go.RowKit Go.ChangeMaps
set_option linter.unusedVariables false

theorem own : ownKnob Tryd.prog.godebug = none := by kernel_rfl

set_option maxRecDepth 8000 in
set_option maxHeartbeats 20000000 in
theorem walk (a0 a1 a2 : Int) (v3 : Value) (F3 : Lst) (w : World) (w0 : (Lit.int .u64 a0).wf = true) (w1 : (Lit.int .i64 a1).wf = true) (w2 : (Lit.int .i64 a2).wf = true) (h3 : StrsIn w v3 F3) (hT0 : TabAt 0 Lib.deBruijn64tab w) :
    Calls Tryd.prog 7 #[.int .u64 a0, .int .i64 a1, .int .i64 a2, v3] w fun e w' => e = .returned (.bool true) ∧ Below w.heap.size w w' := by
  have HT : Hid (TabAt 0 Lib.deBruijn64tab w) := hT0
  clear hT0
  have uS : U a0 := bounds_u64 w0
  obtain ⟨m, K⟩ := F3
  obtain ⟨hL, hm, hk⟩ := h3
  simp only at hL hm hk
  obtain ⟨Al, capl, bl, ol, rfl, _, l3, l4⟩ := id hL
  have LA : Hid (StrsAt w (.slice Al m capl) m K) := hL
  have L3 : Hid (0 < m → Al = some ⟨bl, ol, none⟩) := l3
  have L4 : Hid (∀ i, i < m → w.cell? ⟨bl, ol + i, none⟩ = some (.string (K i))) := l4
  clear hL l3 l4
  by_cases hf : fitsM a1 a2 = true
  rotate_left
  · have BEL0 : Hid (Below w.heap.size w w) := Below.refl _ _
    have BOX0 : Hid (Boxes w w []) := boxes_none w w
    have hff : fitsM a1 a2 = false := by simpa using hf
    clear hf
    go_enter Tryd.func7, Tryd.ntmps7
    go_wp2_with fail
    refine (mnew_bad a0 a1 a2 _ hff).mono ?_
    rintro e ww1 ⟨rfl, b1⟩
    have BEL1 := h_bel BEL0 b1
    have BOX1 := h_box BOX0 b1
    clear BEL0 BOX0
    clear b1
    have BEL2 := a_bel BEL1 (.cells #[.int .u64 0, .slice none 0 0] 25)
    have BOX2 := a_box BOX1 BEL1 (.cells #[.int .u64 0, .slice none 0 0] 25)
    have KB_f_2 := n_blk (u := ww1) 25 #[.int .u64 0, .slice none 0 0]
    clear BEL1 BOX1
    go_wp2_with fail
    refine (mawake_any _ (tabAt_keep HT.out (keep_of_below BEL2.out))).mono ?_
    rintro e ww99 ⟨rfl, b9⟩
    have BEL3 := h_bel BEL2 b9
    have BOX3 := h_box BOX2 b9
    have KB_f_3 := h_blk KB_f_2 b9
    clear BEL2 BOX2 KB_f_2
    clear b9
    go_wp2_with fail
    go_ret
    exact ⟨rfl, BEL3.out⟩
  · have BEL0 : Hid (Below w.heap.size w w) := Below.refl _ _
    have BOX0 : Hid (Boxes w w []) := boxes_none w w
    have hR := (fitsM_iff _ _).1 hf
    obtain ⟨R, rfl⟩ : ∃ R : Nat, a1 = R := ⟨a1.toNat, by omega⟩
    obtain ⟨n, rfl⟩ : ∃ n : Nat, a2 = n := ⟨a2.toNat, by omega⟩
    have r1 : 1 ≤ R := by omega
    have r2 : R ≤ 16 := by omega
    have n1 : 1 ≤ n := by omega
    have n2 : n ≤ 256 := by omega
    have OK : Hid (OkM R n) := okM_fits hf
    clear hR
    go_enter Tryd.func7, Tryd.ntmps7
    go_wp2_with fail
    refine (mnew_ok a0 R n _ hf).mono ?_
    rintro e ww1 ⟨x1, rfl, f1, b1⟩
    obtain ⟨vf, rfl, hvf⟩ := f1.at
    obtain ⟨Af, cf, bbf, oof, rfl, hx1, hx2⟩ := hvf.read
    clear hx1 hx2 hvf
    have FA_f_1 : Hid (HeldX [] (fun uq => MpAt uq (.agg #[.int .u64 a0, .slice Af R cf]) a0 R (fun _ => n) (fun _ _ => false)) ww1) := Held.new f1 BOX0.out
    have BEL1 := h_bel BEL0 b1
    have BOX1 := h_box BOX0 b1
    clear BEL0 BOX0
    clear b1 f1
    clear hf
    have BEL2 := a_bel BEL1 (.cells #[.int .u64 a0, .slice Af R cf] 25)
    have BOX2 := a_box BOX1 BEL1 (.cells #[.int .u64 a0, .slice Af R cf] 25)
    have FA_f_2 := a_fact FA_f_1 (.cells #[.int .u64 a0, .slice Af R cf] 25)
    have KB_f_2 := n_blk (u := ww1) 25 #[.int .u64 a0, .slice Af R cf]
    clear BEL1 BOX1 FA_f_1
    go_wp2_with fail
    refine (mshort_any _ _ m K (LA.out.keep (keep_of_below BEL2.out)) hm hk).mono ?_
    rintro e ww2 ⟨B, rfl, hB, b2⟩
    have HB : Hid (B = true ↔ (m ≤ 40 ∧ ∀ i, i < m → (K i).size ≤ 100)) := hB
    clear hB
    have BEL3 := h_bel BEL2 b2
    have BOX3 := h_box BOX2 b2
    have FA_f_3 := h_fact FA_f_2 b2
    have KB_f_3 := h_blk KB_f_2 b2
    clear BEL2 BOX2 FA_f_2 KB_f_2
    clear b2
    cases B
    · go_wp2_with fail
      refine (mawake_any _ (tabAt_keep HT.out (keep_of_below BEL3.out))).mono ?_
      rintro e ww99 ⟨rfl, b9⟩
      have BEL4 := h_bel BEL3 b9
      have BOX4 := h_box BOX3 b9
      have FA_f_4 := h_fact FA_f_3 b9
      have KB_f_4 := h_blk KB_f_3 b9
      clear BEL3 BOX3 FA_f_3 KB_f_3
      clear b9
      go_wp2_with fail
      go_ret
      exact ⟨rfl, BEL4.out⟩
    obtain ⟨m40, hk2⟩ := HB.out.1 rfl
    have HK : Hid (∀ i, i < m → (K i).size ≤ 100) := hk2
    clear HB hk hk2
    have CE_f_0 : ww2.cell? ⟨ww1.heap.size, 0, none⟩ = some (.int .u64 a0) := KB_f_3.out.cell 0
    have CE_f_1 : ww2.cell? ⟨ww1.heap.size, 1, none⟩ = some (.slice Af R cf) := KB_f_3.out.cell 1
    have CE_f_lt : ww1.heap.size < ww2.heap.size := KB_f_3.out.lt
    go_wp2_with fail
    refine (madds_any _ _ _ [ww1.heap.size] a0 R n m _ K FA_f_3.out (fun g hg => (BOX3.out g hg).2) (LA.out.keep (keep_of_below BEL3.out)) OK.out uS (by omega) HK.out (tabAt_keep HT.out (keep_of_below BEL3.out))).mono ?_
    rintro e ww3 ⟨Ag, cg, rfl, fg, bb⟩
    clear CE_f_0 CE_f_1 CE_f_lt
    have BEL4 := h_bel BEL3 bb
    have BOX4 := h_box BOX3 bb
    have FA_f_4 := h_fact FA_f_3 bb
    have KB_f_4 := h_blk KB_f_3 bb
    clear BEL3 BOX3 FA_f_3 KB_f_3
    have FA_g_4 : Hid (HeldX [ww1.heap.size] (fun uq => MpAt uq (.agg #[.int .u64 a0, .slice Ag R cg]) a0 R (fun _ => n) (addsM a0 R n (fun _ _ => false) K m)) ww3) := fg
    clear bb fg
    clear FA_f_4
    have CE_f_0 : ww3.cell? ⟨ww1.heap.size, 0, none⟩ = some (.int .u64 a0) := KB_f_4.out.cell 0
    have CF_f_0 : ww3.frozen? ⟨ww1.heap.size, 0, none⟩ = false := KB_f_4.out.frozen 0
    have CE_f_1 : ww3.cell? ⟨ww1.heap.size, 1, none⟩ = some (.slice Af R cf) := KB_f_4.out.cell 1
    have CF_f_1 : ww3.frozen? ⟨ww1.heap.size, 1, none⟩ = false := KB_f_4.out.frozen 1
    have CE_f_lt : ww1.heap.size < ww3.heap.size := KB_f_4.out.lt
    go_upto_region 5 with fail
    clear CE_f_0 CF_f_0 CE_f_1 CF_f_1 CE_f_lt
    obtain ⟨u3, hv⟩ : ∃ q, q = ((ww3.setCell ⟨ww1.heap.size, 0, none⟩ (.int .u64 a0)).setCell ⟨ww1.heap.size, 1, none⟩ (.slice Ag R cg)) := ⟨_, rfl⟩
    rw [← hv]
    have pe : u3 = putCells ww3 ww1.heap.size 0 [.int .u64 a0, .slice Ag R cg] := hv
    clear hv
    have BEL5 := p_bel pe BEL4 BOX4 List.mem_cons_self
    have BOX5 := p_box pe BOX4
    have FA_g_5 := p_fact pe FA_g_4 List.mem_cons_self
    have KB_f_5 : Hid (Blk u3 ww1.heap.size 25 #[.int .u64 a0, .slice Ag R cg]) := p_blk pe KB_f_4 rfl
    clear pe BEL4 BOX4 FA_g_4 KB_f_4
    generalize ww1.heap.size = gf at *
    obtain ⟨vg, eg, hg⟩ := FA_g_5.out.at
    cases eg
    obtain ⟨Ag2, cg2, bq, oq, eg, hx1, hr⟩ := hg.read
    cases eg
    have RW : Hid (RowsCells u3 Ag R bq oq (fun _ => n) (addsM a0 R n (fun _ _ => false) K m)) := hr
    clear hx1 hr hg
    have CE_f_0 : u3.cell? ⟨gf, 0, none⟩ = some (.int .u64 a0) := KB_f_5.out.cell 0
    have CE_f_1 : u3.cell? ⟨gf, 1, none⟩ = some (.slice Ag R cg) := KB_f_5.out.cell 1
    have CE_f_lt : gf < u3.heap.size := KB_f_5.out.lt
    go_wp2_with fail
    clear CE_f_0 CE_f_1 CE_f_lt
    go_loopg [11, 41] R (fun gk x i wr => ∃ k c : Nat, (gk = R - k ∧ k ≤ R ∧ c = cntM n (addsM a0 R n (fun _ _ => false) K m) k ∧ wr = u3) ∧ x = .int .i64 (c : Int) ∧ i = .int .i64 (k : Int))
    case atStart => exact ⟨0, 0, ⟨rfl, by omega, rfl, rfl⟩, rfl, rfl⟩
    case round =>
      obtain ⟨k, c, ⟨hg, hk9, hC, hw⟩, rfl, rfl⟩ := hrel
      obtain rfl : u3 = wr := hw.symm
      have HQ : Hid (gk = R - k ∧ c = cntM n (addsM a0 R n (fun _ _ => false) K m) k) := ⟨hg, hC⟩
      by_cases hlt : k < R
      · obtain ⟨rfl, A', cap', b', o', ck, lk, fk, gk'⟩ := RW.out k hlt
        obtain rfl := fk (by show 0 < n; omega)
        have G2 : Hid (∀ j, j < n → u3.cell? ⟨b', o' + j, none⟩ = some (.bool ((addsM a0 R n (fun _ _ => false) K m) k j))) := gk'
        have bk : (k : Int) < (R : Int) := by omega
        have bk0 : (0 : Int) ≤ (k : Int) := by omega
        have c8 : c ≤ 16 * 256 := by
          have := cntM_le n (addsM a0 R n (fun _ _ => false) K m) k
          have h2 : k * n ≤ 16 * 256 := Nat.mul_le_mul (by omega) (by omega)
          omega
        obtain ⟨D, hD⟩ : ∃ D, D = (addsM a0 R n (fun _ _ => false) K m) k := ⟨_, rfl⟩
        rw [← hD] at G2
        have HD : Hid (D = (addsM a0 R n (fun _ _ => false) K m) k) := hD
        clear hg hC lk fk gk' hD
        go_wp2_with fail
        go_loopg [11, 47] n (fun gj x i wi => ∃ j d : Nat, (gj = n - j ∧ j ≤ n ∧ d = cntB D j ∧ wi = u3) ∧ x = .int .i64 ((c + d : Nat) : Int) ∧ i = .int .i64 (j : Int))
        case atStart => exact ⟨0, 0, ⟨rfl, by omega, rfl, rfl⟩, rfl, rfl⟩
        case round =>
          clear ck
          obtain ⟨j, d, ⟨hg, hj, hd, hw⟩, rfl, rfl⟩ := hrel
          obtain rfl : u3 = wr := hw.symm
          have HJ : Hid (gk = n - j ∧ d = cntB D j) := ⟨hg, hd⟩
          have dj : d ≤ j := by rw [hd]; exact cntB_le _ _
          clear hg hd
          by_cases hjn : j < n
          · have cc := G2.out j hjn
            obtain ⟨y, hy⟩ : ∃ y, y = D j := ⟨_, rfl⟩
            rw [← hy] at cc
            have HY : Hid (y = D j) := hy
            have bj : (j : Int) < (n : Int) := by omega
            clear hy
            cases y with
            | false =>
              generalize hT : c + d = T
              have HT2 : Hid (c + d = T) := hT
              clear hT
              go_wp2_with fail
              go_roundg (n - (j + 1))
              case measure => have := HJ.out.1; omega
              case rel => exact ⟨j + 1, d, ⟨rfl, by omega, by rw [cntB_off HY.out.symm]; exact HJ.out.2, rfl⟩, by rw [HT2.out], by go_num⟩
            | true =>
              generalize hT : c + d = T
              have T1 : T ≤ 5000 := by omega
              have HT2 : Hid (c + d = T) := hT
              clear hT
              go_wp2_with fail
              go_roundg (n - (j + 1))
              case measure => have := HJ.out.1; omega
              case rel => exact ⟨j + 1, d + 1, ⟨rfl, by omega, by rw [cntB_on HY.out.symm, ← HJ.out.2], rfl⟩, by rw [show c + (d + 1) = T + 1 by have := HT2.out; omega]; go_num, by go_num⟩
          · have HE : Hid (j = n) := (by omega : j = n)
            have bj : ¬ (j : Int) < (n : Int) := by omega
            generalize hT : c + d = T
            have HT2 : Hid (c + d = T) := hT
            clear hT
            go_wp2_with fail
            go_roundg (R - (k + 1))
            case measure => have := HQ.out.1; omega
            case rel => exact ⟨k + 1, T, ⟨rfl, by omega, by rw [← HT2.out, cntM, ← HQ.out.2, HJ.out.2, HE.out, HD.out], rfl⟩, rfl, by go_num⟩
      · have bk : ¬ (k : Int) < (R : Int) := by omega
        have kR : k = R := by omega
        rw [kR] at hC
        have CN : Hid (c = cntM n (addsM a0 R n (fun _ _ => false) K m) R) := hC
        have c9 : c ≤ 40 := by rw [hC]; have := cntM_adds a0 R n K m; omega
        clear hC hg kR HQ
        go_wp2_with fail
        clear bk
        go_loopg [58] m (fun gj i wi => ∃ t : Nat, (gj = m - t ∧ t ≤ m ∧ Below u3.heap.size u3 wi) ∧ i = .int .i64 (t : Int))
        case atStart => exact ⟨0, ⟨rfl, by omega, Below.refl _ _⟩, rfl⟩
        case round =>
          obtain ⟨t, ⟨hg, ht, hb⟩, rfl⟩ := hrel
          have HJ : Hid (gk = m - t ∧ Below u3.heap.size u3 wr) := ⟨hg, hb⟩
          have x0 : wr.cell? ⟨gf, 0, none⟩ = some (.int .u64 a0) := (KB_f_5.out.since hb).cell 0
          have x1 : wr.cell? ⟨gf, 1, none⟩ = some (.slice Ag R cg) := (KB_f_5.out.since hb).cell 1
          by_cases hlt : t < m
          · obtain rfl := L3.out (by omega)
            have c1 : wr.cell? ⟨bl, ol + t, none⟩ = some (.string (K t)) := keep_of_below (bel_trans BEL5.out hb) _ _ (L4.out t hlt)
            have bt : (t : Int) < (m : Int) := by omega
            obtain ⟨P, hP⟩ : ∃ P, P = lineN a0 (K t) R := ⟨_, rfl⟩
            obtain ⟨Q, hQ⟩ : ∃ Q, Q = bitN a0 (K t) n := ⟨_, rfl⟩
            have pl : P < R := by rw [hP]; exact lineN_lt a0 (K t) R r1
            have ql : Q < n := by rw [hQ]; exact bitN_lt a0 (K t) n n1
            have on : (addsM a0 R n (fun _ _ => false) K m) P Q = true := by rw [hP, hQ]; exact adds_has hlt
            have PC : Hid (Calls Tryd.prog 16 #[.agg #[.int .u64 a0, .slice Ag R cg], .string (K t)] wr fun e w' => e = .returned (.tuple #[.int .i64 (P : Int), .int .i64 (Q : Int)]) ∧ Below wr.heap.size wr w') := by
              rw [hP, hQ]
              exact mplace_ok wr _ a0 R n _ (K t) (FA_g_5.out.since hb).at OK.out uS (by have := HK.out t hlt; omega) (tabAt_keep HT.out (keep_of_below (bel_trans BEL5.out hb)))
            obtain ⟨rfl, A', cap', b', o', ck, lk, fk, gk'⟩ := RW.out P pl
            obtain rfl := fk (by show 0 < n; omega)
            have gk2 := gk' Q ql
            rw [on] at gk2
            have CK : Hid (u3.cell? ⟨bq, oq + P, none⟩ = some (.slice (some ⟨b', o', none⟩) n cap') ∧ u3.cell? ⟨b', o' + Q, none⟩ = some (.bool true)) := ⟨ck, gk2⟩
            have p0 : ¬ (P : Int) < 0 := by omega
            have p1 : ¬ (P : Int) ≥ (R : Int) := by omega
            have p2 : (0 : Int) ≤ (P : Int) := by omega
            have p3 : (P : Int) < (R : Int) := by omega
            have q0 : ¬ (Q : Int) < 0 := by omega
            have q1 : ¬ (Q : Int) ≥ (n : Int) := by omega
            have q2 : (0 : Int) ≤ (Q : Int) := by omega
            have q3 : (Q : Int) < (n : Int) := by omega
            generalize K t = st at c1 PC hP hQ
            clear hg hb hP hQ on ck lk fk gk' gk2
            go_wp2_with fail
            refine PC.out.mono ?_
            rintro e w6 ⟨rfl, b6⟩
            have B6 : Hid (Below u3.heap.size u3 w6) := bel_trans HJ.out.2 b6
            clear b6 x0 x1 PC c1
            have x1 : w6.cell? ⟨gf, 1, none⟩ = some (.slice (some ⟨bq, oq, none⟩) R cg) := (KB_f_5.out.since B6.out).cell 1
            have y1 := keep_of_below B6.out _ _ CK.out.1
            have y2 := keep_of_below B6.out _ _ CK.out.2
            go_wp2_with fail
            go_roundg (m - (t + 1))
            case measure => have := HJ.out.1; omega
            case rel => exact ⟨t + 1, ⟨rfl, by omega, B6.out⟩, by go_num⟩
          · have bt : ¬ (t : Int) < (m : Int) := by omega
            have BW : Below u3.heap.size u3 wr := hb
            clear hg hb x0 x1
            have BEL6 := h_bel BEL5 BW
            have BOX6 := h_box BOX5 BW
            have FA_g_6 := h_fact FA_g_5 BW
            have KB_f_6 := h_blk KB_f_5 BW
            clear BEL5 BOX5 FA_g_5 KB_f_5
            clear BW
            have CE_f_0 : wr.cell? ⟨gf, 0, none⟩ = some (.int .u64 a0) := KB_f_6.out.cell 0
            have CE_f_1 : wr.cell? ⟨gf, 1, none⟩ = some (.slice Ag R cg) := KB_f_6.out.cell 1
            have CE_f_lt : gf < wr.heap.size := KB_f_6.out.lt
            have EST := cntM_zero a0 (R := R) (n := n) K m OK.out
            have ESM := estM_zero a0 (R := R) (n := n) K m OK.out
            rw [← CN.out] at EST
            have e0 : (c : Int) ≤ (m : Int) := by have := cntM_adds a0 R n K m; rw [← CN.out] at this; omega
            obtain ⟨T, hT⟩ : ∃ T, T = estM n (addsM a0 R n (fun _ _ => false) K m) R := ⟨_, rfl⟩
            rw [← hT] at ESM
            have ES : Hid (∀ w1, Below wr.heap.size wr w1 → Calls Tryd.prog 17 #[.agg #[.int .u64 a0, .slice Ag R cg]] w1 fun e w' => e = .returned (.int .i64 (T : Int)) ∧ Below w1.heap.size w1 w') := fun w1 b1 => by rw [hT]; exact mestim_ok w1 _ a0 R n _ (FA_g_6.out.since b1).at OK.out
            by_cases m0 : m = 0
            · have c0 : c = 0 := EST.2 m0
              have t0 : T = 0 := ESM.2 m0
              have e1 : ((c : Int) == 0) = true := by simp; omega
              have e2 : ((m : Int) == 0) = true := by simp; omega
              have e3 : ((T : Int) == 0) = true := by simp; omega
              clear EST ESM c0 t0 m0 hT CN RW L3 L4
              go_wp2_with fail
              refine (ES.out _ (Below.refl _ _)).mono ?_
              rintro e ww7 ⟨rfl, b7⟩
              clear CE_f_0 CE_f_1 CE_f_lt
              have BEL7 := h_bel BEL6 b7
              have BOX7 := h_box BOX6 b7
              have FA_g_7 := h_fact FA_g_6 b7
              have KB_f_7 := h_blk KB_f_6 b7
              clear BEL6 BOX6 FA_g_6 KB_f_6
              clear b7
              go_wp2_with fail
              refine (mawake_any _ (tabAt_keep HT.out (keep_of_below BEL7.out))).mono ?_
              rintro e ww99 ⟨rfl, b9⟩
              have BEL8 := h_bel BEL7 b9
              have BOX8 := h_box BOX7 b9
              have FA_g_8 := h_fact FA_g_7 b9
              have KB_f_8 := h_blk KB_f_7 b9
              clear BEL7 BOX7 FA_g_7 KB_f_7
              clear b9
              go_wp2_with fail
              go_ret
              exact ⟨rfl, BEL8.out⟩
            have c0 : ¬ c = 0 := fun h => m0 (EST.1 h)
            have t0 : ¬ T = 0 := fun h => m0 (ESM.1 h)
            have e1 : ((c : Int) == 0) = false := by simp; omega
            have e2 : ((m : Int) == 0) = false := by simp; omega
            have e3 : ((T : Int) == 0) = false := by simp; omega
            clear EST ESM c0 t0 m0 hT CN RW L3 L4
            go_wp2_with fail
            refine (ES.out _ (Below.refl _ _)).mono ?_
            rintro e ww7 ⟨rfl, b7⟩
            clear CE_f_0 CE_f_1 CE_f_lt
            have BEL7 := h_bel BEL6 b7
            have BOX7 := h_box BOX6 b7
            have FA_g_7 := h_fact FA_g_6 b7
            have KB_f_7 := h_blk KB_f_6 b7
            clear BEL6 BOX6 FA_g_6 KB_f_6
            clear b7
            go_wp2_with fail
            refine (mawake_any _ (tabAt_keep HT.out (keep_of_below BEL7.out))).mono ?_
            rintro e ww99 ⟨rfl, b9⟩
            have BEL8 := h_bel BEL7 b9
            have BOX8 := h_box BOX7 b9
            have FA_g_8 := h_fact FA_g_7 b9
            have KB_f_8 := h_blk KB_f_7 b9
            clear BEL7 BOX7 FA_g_7 KB_f_7
            clear b9
            go_wp2_with fail
            go_ret
            exact ⟨rfl, BEL8.out⟩

/-! ### The row -/
theorem laidOut : laidOutB Tryd.prog = true := by kernel_rfl
theorem door_met (os : Os) (args : Array Value) : laidMetH Tryd.prog Rows.bitmapSetsRow.laid ((World.doorLaid Tryd.prog 400 os).forCall (fun _ _ => 0) ⟨#[], args, []⟩).memory :=
  laidMetH_of_parts3 (fuel := 8) (laidMet_of_run' 8 (by kernel_rfl) (by kernel_rfl)) (by kernel_rfl) (by kernel_rfl)
set_option maxRecDepth 100000 in
theorem lifted (os : Os) (started : os.Started) (H : Type) (enc : TypeId × Value → H) :
    ReturnsInHanded {} Tryd.checked os 7 .any (fun w args => (Rows.bitmapSetsSpec.pre enc Tryd.prog Tryd.f7 [] false w args ∧ laidMetH Tryd.prog Rows.bitmapSetsRow.laid w) ∧ sizedMet enc Tryd.prog Tryd.f7 (OpenSpec.ofChange Rows.bitmapSetsSpec) false w args) (Rows.bitmapSetsSpec.post enc Tryd.prog Tryd.f7 false true false false) := by
  refine returnsInHanded_of_change_and (C := Tryd.checked) (X := fun w _ => laidMetH Tryd.prog Rows.bitmapSetsRow.laid w) (fun _ _ _ hh h => h.of_heap hh) own started (by kernel_rfl) Tryd.func7
    (ChangeSpec.witness_shaped (enc := enc) (C := Tryd.checked) (os := os) (X := fun w _ => laidMetH Tryd.prog Rows.bitmapSetsRow.laid w) false (World.doorLaid Tryd.prog 400 os) #[.int .u64 0, .int .i64 0, .int .i64 0, .slice none 0 0] 8 rfl (World.shaped_of_RefB (by kernel_rfl) (by kernel_rfl)) (by kernel_rfl) (by kernel_rfl) (by kernel_rfl) (door_met os _)) ?_
  intro W base args ds gs before hval0 hW _ _ hL _
  have hval : ∀ (j : Nat) t v, Tryd.f7.params[j]? = some t → args[j]? = some v → Value.okWide Tryd.prog W .any base t v := hval0
  have hW' := hW
  obtain ⟨p, q, hA0, hV, rfl, hfz, hnd⟩ := hW
  have hA : DataW.TrodAll enc Tryd.prog W 0 (fun _ => true) true Tryd.f7.params.toList args.toList ds p := hA0
  rw [Tryd.params7] at hA hval
  obtain ⟨v0, vs0, d0, ds0, p0, q0, hargs, rfl, rfl, h0, r0⟩ := trodAll_cons hA
  obtain ⟨v1, vs1, d1, ds1, p1, q1, rfl, rfl, rfl, h1, r1⟩ := trodAll_cons r0
  obtain ⟨v2, vs2, d2, ds2, p2, q2, rfl, rfl, rfl, h2, r2⟩ := trodAll_cons r1
  obtain ⟨v3, vs3, d3, ds3, p3, q3, rfl, rfl, rfl, h3, r3⟩ := trodAll_cons r2
  obtain ⟨rfl, rfl, rfl⟩ := trodAll_nil r3
  obtain rfl : args = #[v0, v1, v2, v3] := by cases args; simp_all
  obtain ⟨rfl, rfl⟩ := trodVars_none hV
  obtain ⟨a0, rfl, rfl, rfl, w0⟩ := open_int Tryd.underlying22 (hval 0 22 v0 rfl rfl) h0
  obtain ⟨a1, rfl, rfl, rfl, w1⟩ := open_int Tryd.underlying3 (hval 1 3 v1 rfl rfl) h1
  obtain ⟨a2, rfl, rfl, rfl, w2⟩ := open_int Tryd.underlying3 (hval 2 3 v2 rfl rfl) h2
  have k3 := h3
  have lt3 : ∀ x ∈ p3, x.block < W.heap.size := by obtain ⟨m, hm⟩ := k3; exact DataW.trod_lt m _ _ _ hm
  obtain ⟨F3, w3⟩ := open_keys (hval 3 47 v3 rfl rfl) h3
  have hT := tab_of hL
  clear hA0 hval0
  refine (walk a0 a1 a2 v3 F3 W w0 w1 w2 w3 hT).mono fun e W' ⟨he, bel⟩ => ?_
  subst he
  exact ⟨_, rfl, _, _, _, [], _, [], hW', trodAll_mk1 (shut_bool Tryd.underlying4 _), (trodAll_cons_mk (shut_int Tryd.underlying22 w0) (trodAll_cons_mk (shut_int Tryd.underlying3 w1) (trodAll_cons_mk (shut_int Tryd.underlying3 w2) (trodAll_cons_mk (Below.trod laidOut (by kernel_rfl) (of_decide_eq_true (by kernel_rfl)) k3 bel lt3) trodAll_mk0)))), rfl, bel.frame _, fun h => by cases h⟩

theorem over : Rows.bitmapSetsRow.holds Tryd.pinned (OpenSpec.ofChange Rows.bitmapSetsSpec) :=
  OpenClaim.holds_of_wide 7 Tryd.f7 rfl rfl rfl rfl rfl rfl rfl ⟨rfl, rfl, rfl, rfl, rfl⟩ rfl rfl rfl rfl rfl (by kernel_rfl) Tryd.func7 (by kernel_rfl)
    (of_decide_eq_true (by kernel_rfl)) (by unfold Func.isWrapper; first | (rw [if_pos (by decide +kernel)]; kernel_rfl) | (rw [if_neg (by decide +kernel)]; exact ⟨rfl, rfl⟩))
    (fun os started H enc _ => lifted os started H enc)

/-- The card: the row, its listed variable tied to the text of the program. -/
theorem proved : Rows.BitmapSetsCardSaid :=
  Claim7.holds_tied_plain_at .later [] [.data] true (true, "d7fea8b7464b8eb0538f847a3aaee3a43cd24ee3633f5fd47a89fd9ba8ea7cde") false
    over (fun _ h => by cases h) (by kernel_rfl) (fun _ h => by cases h) bitmapSets_row_tie rfl ⟨rfl, rfl⟩ (by kernel_rfl) rfl
    (fun f fn hf hfn => by
      obtain rfl : f = 7 := Option.some.inj ((show Tryd.prog.funcNamed "rillmeter/rillmeterlaw13.BitmapSets" = some 7 by kernel_rfl).symm.trans hf) |>.symm
      obtain rfl : fn = Tryd.f7 := (Option.some.inj (Tryd.func7.symm.trans hfn)).symm
      exact ⟨by kernel_rfl, fun j t ht => by
        rw [Tryd.params7] at ht
        have hm : t ∈ [22, 3, 3, 47] := by simpa using Array.mem_of_getElem? ht
        have hall : ([22, 3, 3, 47].all fun u => !Tryd.prog.wantsStandIn u) = true := by kernel_rfl
        exact (show Tryd.prog.wantsStandIn t = false by simpa using List.all_eq_true.1 hall t hm)⟩)
    (by kernel_rfl)
end Go.Proofs.YtkfhofgmjhnknaaDoor.bitmapSets
namespace Go.Proofs.YtkfhofgmjhnknaaDoor
theorem bitmapSets_holds : Rows.BitmapSetsCardSaid := bitmapSets.proved
#print axioms bitmapSets_holds
end Go.Proofs.YtkfhofgmjhnknaaDoor
