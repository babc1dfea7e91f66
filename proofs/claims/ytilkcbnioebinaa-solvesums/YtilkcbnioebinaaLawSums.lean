/-
  For any rows and any two lists of numbers, at most 32 of each: the sums of products of two lists, added, are those of the lists added; or all three are refused. No condition.
-/
import Derived.Test.YtilkcbnioebinaaRows
import Derived.Test.YtilkcbnioebinaaRefOwn
import Derived.Test.YtilkcbnioebinaaSolveAwake
import Derived.Test.YtilkcbnioebinaaOpenRows
import Derived.WalkKit
import Derived.Deep.RegionLaw
import Derived.Deep.QuietTactic
import Derived.BigQuiet
import Derived.ProofKit
import Derived.OpenShut
import Derived.ShutString
import Derived.ChangeOld
import Derived.Below
import Derived.Carry
namespace Go.Proofs.Ytilkcbnioebinaa.solveSums
open Fm Go.Deep
attribute [local go_sem ↓] Go.wp_at_zero Go.wp_at_succ
open Go.ChangeShapes Go.WideShapes Go.ChangeAt Go.RowKit
set_option linter.unusedVariables false

theorem own : ownKnob Try.prog.godebug = none := by kernel_rfl

theorem sums_eq (z X Y : Nat → Int) (C : Nat) : oF (dotN z (fun i => addF (X i) (Y i)) C) = addF (oF (dotN z X C)) (oF (dotN z Y C)) := by
  rw [dot_congr (x' := fun i => X i + Y i) C (fun _ _ => rfl) (fun j _ => al_addF _ _), dot_add, addF_oF]
  rfl
theorem step_drew {w wr w1 : World} {v : Value} {k g cap : Nat} {z : Nat → Int} {x : Int} {o : Obj} (h : Grow w wr v k z) (hx : x = z k)
    (hown : w1.ownsRow w.heap.size 36 1 (.slice (some ⟨g, 0, none⟩) (k + 1) cap) (k + 1) (cellsF k z ++ [.int .u64 x])) (hg : (wr.alloc o).drew.grownBy w1 v.ownBlock) : Grow w w1 (.slice (some ⟨g, 0, none⟩) (k + 1) cap) (k + 1) z :=
  h.step (o := o) hx hown ⟨hg.os, hg.tape, hg.output, hg.size, hg.block⟩

set_option maxHeartbeats 1600000 in
theorem walk (v : Value) (R : Nat) (L : Nat → Nat) (Z : Nat → Nat → Int) (x : Value) (Lx : Nat) (X : Nat → Int) (y : Value) (Ly : Nat) (Y : Nat → Int) (w : World) (h : RowsAt w v R L Z) (hx : IntsAt w x Lx X) (hy : IntsAt w y Ly Y) :
    Calls Try.prog 8 #[v, x, y] w fun e w' => e = .returned (.bool true) ∧ Below w.heap.size w w' := by
  have HY : Hid (IntsAt w y Ly Y) := hy
  obtain ⟨Ay, capy, rfl⟩ := hy.form
  clear hy
  have H : Hid (RowsAt w v R L Z) := h
  have HX : Hid (IntsAt w x Lx X) := hx
  obtain ⟨A, cap, rfl⟩ := h.form
  obtain ⟨Ax, capx, rfl⟩ := hx.form
  clear h hx
  by_cases hs : SmallP R L 32
  rotate_left
  · go_enter Try.func8, Try.ntmps8
    go_wp2_with fail
    refine (small_any _ _ R 32 L Z H.out (by omega)).mono ?_
    rintro e w' ⟨B, rfl, hB, rfl⟩
    obtain rfl : B = false := by
      cases B with
      | false => rfl
      | true => exact absurd (hB.1 rfl) hs
    clear hB
    go_wp2_with fail
    refine (awake_any _).mono ?_
    rintro e wa ⟨rfl, ba⟩
    go_wp2_with fail
    go_ret
    exact ⟨rfl, (Below.refl w'.heap.size w').trans (ba.mono (Below.refl w'.heap.size w').size)⟩
  by_cases hl : 32 < Lx
  · have hl' : (32 : Int) < (Lx : Int) := by omega
    go_enter Try.func8, Try.ntmps8
    go_wp2_with fail
    refine (small_any _ _ R 32 L Z H.out (by omega)).mono ?_
    rintro e w' ⟨B, rfl, hB, rfl⟩
    obtain rfl : B = true := hB.2 hs
    clear hB
    go_wp2_with fail
    refine (awake_any _).mono ?_
    rintro e wa ⟨rfl, ba⟩
    go_wp2_with fail
    go_ret
    exact ⟨rfl, (Below.refl w'.heap.size w').trans (ba.mono (Below.refl w'.heap.size w').size)⟩
  have hl' : ¬ (32 : Int) < (Lx : Int) := by omega
  by_cases hxy : Lx = Ly
  rotate_left
  · have hq : ((Lx : Int) != (Ly : Int)) = true := by
      have : (Lx : Int) ≠ (Ly : Int) := by omega
      simpa using this
    go_enter Try.func8, Try.ntmps8
    go_wp2_with fail
    refine (small_any _ _ R 32 L Z H.out (by omega)).mono ?_
    rintro e w' ⟨B, rfl, hB, rfl⟩
    obtain rfl : B = true := hB.2 hs
    clear hB
    go_wp2_with fail
    refine (awake_any _).mono ?_
    rintro e wa ⟨rfl, ba⟩
    go_wp2_with fail
    go_ret
    exact ⟨rfl, (Below.refl w'.heap.size w').trans (ba.mono (Below.refl w'.heap.size w').size)⟩
  subst hxy
  have xcell : Hid (∀ c, c < Lx → ∃ b o b' o', Ax = some ⟨b, o, none⟩ ∧ Ay = some ⟨b', o', none⟩ ∧ w.cell? ⟨b, o + c, none⟩ = some (.int .u64 (X c)) ∧ w.cell? ⟨b', o' + c, none⟩ = some (.int .u64 (Y c)) ∧ U (X c) ∧ U (Y c)) := fun c hc => by
    obtain ⟨_, _, b, o, e, _, x3, x4⟩ := HX.out
    obtain ⟨_, _, b', o', e', _, y3, y4⟩ := HY.out
    cases e
    cases e'
    exact ⟨b, o, b', o', x3 (by omega), y3 (by omega), (x4 c hc).1, (y4 c hc).1, (x4 c hc).2, (y4 c hc).2⟩
  obtain ⟨i36, hi36, hz36, hs36, hb36⟩ := info36'
  have HI : Hid (Try.prog.info? 36 = some i36 ∧ i36.zero = some (.int .u64 0) ∧ i36.size = 1 ∧ i36.bytes = 8) := ⟨hi36, hz36, hs36, hb36⟩
  clear hi36 hz36 hs36 hb36
  go_enter Try.func8, Try.ntmps8
  go_wp2_with fail
  refine (small_any _ _ R 32 L Z H.out (by omega)).mono ?_
  rintro e w' ⟨B, rfl, hB, rfl⟩
  obtain rfl : B = true := hB.2 hs
  clear hB
  go_wp2_with fail
  go_loopg [7, 34] Lx (fun g l i wr => ∃ (k : Nat) (ao : Option Addr) (cv : Nat), (g = Lx - k ∧ k ≤ Lx ∧ Grow w' wr (.slice ao k cv) k (fun i => addF (X i) (Y i))) ∧ l = .slice ao k cv ∧ i = .int .i64 (k : Int))
  case atStart => exact ⟨0, none, 0, ⟨rfl, by omega, grow_start w' _⟩, rfl, rfl⟩
  case round =>
    obtain ⟨k, ao, cv, ⟨hg, hk, hG⟩, rfl, rfl⟩ := hrel
    have HK : Hid (gk = Lx - k ∧ Grow w' wr (.slice ao k cv) k (fun i => addF (X i) (Y i))) := ⟨hg, hG⟩
    clear hg
    by_cases hz : k < Lx
    · obtain ⟨b, o, b', o', rfl, rfl, c1, c2, u1, u2⟩ := xcell.out k hz
      have d1 := (hG.since.cell (World.block_lt_of_cell? _ _ c1)).trans c1
      have d2 := (hG.since.cell (World.block_lt_of_cell? _ _ c2)).trans c2
      have HO : Hid (wr.ownsRow w'.heap.size 36 1 (.slice ao k cv) k (cellsF k (fun i => addF (X i) (Y i)))) := hG.own
      have hsz : w'.heap.size ≤ wr.heap.size := hG.since.size
      have b1 : (k : Int) < (Lx : Int) := by omega
      clear hG c1 c2
      go_wp2_with fail
      go_region_law (first | (refine step_append_lies _ rfl (.tmp 37) (.tmp 47) 30 rfl w'.heap.size 36 i36 (.int .u64 0) 1 8 Try.underlying30 HI.out.1 HI.out.2.1 HI.out.2.2.1 HI.out.2.2.2 rfl (by omega) (.slice ao k cv) k (cellsF k (fun i => addF (X i) (Y i))) (by simp [Act.eval]) (HO.out.alloc _) ⟨wr.heap.size, 0, none⟩ 1 1 [.int .u64 (addF (X k) (Y k))] (by simp [Act.eval]) rfl (new_one wr _) (one_cell _) (by omega) (by unfold maxLen; omega) (by omega) (by simp; omega) (wr.heap.size + 1) (by simp) ?_; intro g cap1 w1 hown1 hgrow hat hlt1) | (go_simp; go_at_call 19; refine (radd_any _ _ _ u1 u2).mono ?_; rintro e w3 ⟨rfl, rfl⟩))
      all_goals go_wp2_with fail
      all_goals go_roundg (Lx - (k + 1))
      all_goals first | (have := HK.out.1; omega) | exact ⟨k + 1, _, _, ⟨rfl, by omega, step_drew HK.out.2 rfl hown1 hgrow⟩, rfl, by go_num⟩
    · have e : k = Lx := by omega
      have HE : Hid (IntsAt wr (.slice ao k cv) Lx (fun i => addF (X i) (Y i)) ∧ Below w'.heap.size w' wr) := ⟨by have := owns_ints hG.own fun j _ => addF_U _ _; rw [e] at this ⊢; exact this, hG.since⟩
      clear e hG HK
      obtain ⟨wb, hwb⟩ : ∃ wb, wb = wr := ⟨_, rfl⟩
      rw [← hwb] at HE ⊢
      clear hwb
      by_cases hv0 : SysP R L ∧ (0 < R → Lx = colsF R L)
      · obtain ⟨hsy, hX⟩ := hv0
        obtain ⟨C, hC⟩ : ∃ C, colsF R L = C := ⟨_, rfl⟩
        rw [hC] at hX
        have HXC : Hid (0 < R → Lx = C) := hX
        have hR3 : R ≤ 32 := hsy.1
        clear hX
        go_wp2_with fail
        refine (times_yes wb _ _ R C Lx L Z X (H.out.keep (keep_of_below HE.out.2)) (HX.out.keep (keep_of_below HE.out.2)) hsy hC HXC.out).mono ?_
        rintro e w1 ⟨g1, rfl, r1, b1, _⟩
        have A1 : Hid (RowOwn w1 g1 R (fun i => oF (dotN (Z i) X C)) ∧ Below wb.heap.size wb w1 ∧ Below w'.heap.size w' w1) := ⟨r1, b1, HE.out.2.trans (b1.mono HE.out.2.size)⟩
        clear r1 b1
        go_wp2_with fail
        refine (times_yes w1 _ _ R C Lx L Z Y (H.out.keep (keep_of_below A1.out.2.2)) (HY.out.keep (keep_of_below A1.out.2.2)) hsy hC HXC.out).mono ?_
        rintro e w2 ⟨g2, rfl, r2, b2, _⟩
        have A2 : Hid (RowOwn w2 g2 R (fun i => oF (dotN (Z i) Y C)) ∧ Below w1.heap.size w1 w2 ∧ Below wb.heap.size wb w2 ∧ Below w'.heap.size w' w2) := ⟨r2, b2, A1.out.2.1.trans (b2.mono A1.out.2.1.size), A1.out.2.2.trans (b2.mono A1.out.2.2.size)⟩
        clear r2 b2
        go_wp2_with fail
        refine (times_yes w2 _ _ R C Lx L Z (fun i => addF (X i) (Y i)) (H.out.keep (keep_of_below A2.out.2.2.2)) (HE.out.1.keep (keep_of_below A2.out.2.2.1)) hsy hC HXC.out).mono ?_
        rintro e w3 ⟨g3, rfl, r3, b3, _⟩
        have A3 : Hid ((∀ i, i < R → w3.cell? ⟨g1, i, none⟩ = some (.int .u64 (oF (dotN (Z i) X C))) ∧ w3.cell? ⟨g2, i, none⟩ = some (.int .u64 (oF (dotN (Z i) Y C))) ∧ w3.cell? ⟨g3, i, none⟩ = some (.int .u64 (oF (dotN (Z i) (fun i => addF (X i) (Y i)) C)))) ∧ Below w'.heap.size w' w3) :=
          ⟨fun i hi => ⟨keep_of_below b3 _ _ (keep_of_below A2.out.2.1 _ _ (World.rowIs.cell A1.out.1 hi)), keep_of_below b3 _ _ (World.rowIs.cell A2.out.1 hi), World.rowIs.cell r3 hi⟩, A2.out.2.2.2.trans (b3.mono A2.out.2.2.2.size)⟩
        clear r3 b3 A1 A2 hsy
        go_wp2_with fail
        go_loopg [102] R (fun g i wq => ∃ q : Nat, (g = R - q ∧ q ≤ R ∧ Below w3.heap.size w3 wq) ∧ i = .int .i64 (q : Int))
        case atStart => exact ⟨0, ⟨rfl, by omega, Below.refl _ _⟩, rfl⟩
        case round =>
          obtain ⟨q, ⟨hg, hq, hB⟩, rfl⟩ := hrel
          have HQ : Hid (gk = R - q ∧ Below w3.heap.size w3 wr) := ⟨hg, hB⟩
          clear hg
          by_cases hlt : q < R
          · obtain ⟨c1, c2, c3⟩ := A3.out.1 q hlt
            have d1 := keep_of_below hB _ _ c1
            have d2 := keep_of_below hB _ _ c2
            have d3 := keep_of_below hB _ _ c3
            rw [sums_eq] at d3
            have u1 : U (oF (dotN (Z q) X C)) := oF_U _
            have u2 : U (oF (dotN (Z q) Y C)) := oF_U _
            have bq : (q : Int) < (R : Int) := by omega
            obtain ⟨S1, hS1⟩ : ∃ S, S = oF (dotN (Z q) X C) := ⟨_, rfl⟩
            obtain ⟨S2, hS2⟩ : ∃ S, S = oF (dotN (Z q) Y C) := ⟨_, rfl⟩
            rw [← hS1] at d1 d3 u1
            rw [← hS2] at d2 d3 u2
            clear hS1 hS2 c1 c2 c3 hB
            go_wp2_with fail
            go_quiet ((go_at_call 19; exact Calls.quiet_of_same (radd_any S1 S2 _ u1 u2)))
            go_wp2_with fail
            go_roundg (R - (q + 1))
            case measure => have := HQ.out.1; omega
            case rel => exact ⟨q + 1, ⟨rfl, by omega, below_drewN HQ.out.2 _⟩, by go_num⟩
          · have B4 : Hid (Below w'.heap.size w' wr) := A3.out.2.trans (hB.mono A3.out.2.size)
            clear hB
            go_wp2_with fail
            refine (awake_any _).mono ?_
            rintro e wa ⟨rfl, ba⟩
            go_wp2_with fail
            go_ret
            exact ⟨rfl, (B4.out).trans (ba.mono (B4.out).size)⟩
      · have hv : Hid (¬ (SysP R L ∧ (0 < R → Lx = colsF R L))) := hv0
        clear hv0
        go_wp2_with fail
        refine (times_no wb _ _ R Lx L Z X (H.out.keep (keep_of_below HE.out.2)) (HX.out.keep (keep_of_below HE.out.2)) hv.out).mono ?_
        rintro e w1 ⟨rfl, hw1⟩
        have hx1 := hw1.symm
        subst hx1
        clear hw1
        go_wp2_with fail
        refine (times_no wb _ _ R Lx L Z Y (H.out.keep (keep_of_below HE.out.2)) (HY.out.keep (keep_of_below HE.out.2)) hv.out).mono ?_
        rintro e w1 ⟨rfl, hw1⟩
        have hx1 := hw1.symm
        subst hx1
        clear hw1
        go_wp2_with fail
        refine (times_no wb _ _ R Lx L Z _ (H.out.keep (keep_of_below HE.out.2)) HE.out.1 hv.out).mono ?_
        rintro e w1 ⟨rfl, hw1⟩
        have hx1 := hw1.symm
        subst hx1
        clear hw1
        go_wp2_with fail
        refine (awake_any _).mono ?_
        rintro e wa ⟨rfl, ba⟩
        go_wp2_with fail
        go_ret
        exact ⟨rfl, (HE.out.2).trans (ba.mono (HE.out.2).size)⟩

/-! ### The row -/
theorem laidOut : laidOutB Try.prog = true := by kernel_rfl
set_option maxRecDepth 100000 in
theorem lifted (os : Os) (started : os.Started) (H : Type) (enc : TypeId × Value → H) :
    ReturnsInHanded {} Try.checked os 8 .any (Rows.solveSumsSpec.pre6 enc Try.prog Try.f8 Rows.solveSumsRow.domain false) (Rows.solveSumsSpec.post enc Try.prog Try.f8 false true false false) := by
  refine returnsInHanded_of_change (C := Try.checked) own started (by kernel_rfl) Try.func8
    (ChangeSpec.witness6 (enc := enc) (C := Try.checked) false ⟨#[], #[.slice none 0 0, .slice none 0 0, .slice none 0 0], []⟩ 8 (by kernel_rfl) (by kernel_rfl) (by kernel_rfl) (by kernel_rfl)) ?_
  intro W base args ds gs before hval0 hW hcnd _
  have hval : ∀ (j : Nat) t v, Try.f8.params[j]? = some t → args[j]? = some v → Value.okWide Try.prog W .any base t v := hval0
  have hW' := hW
  obtain ⟨p, q, hA0, hV, rfl, hfz, hnd⟩ := hW
  have hA : DataW.TrodAll enc Try.prog W 0 (fun _ => true) true Try.f8.params.toList args.toList ds p := hA0
  rw [Try.params8] at hA hval
  obtain ⟨v0, vs0, d0, ds0, p0, q0, hargs, rfl, rfl, h0, r0⟩ := trodAll_cons hA
  obtain ⟨v1, vs1, d1, ds1, p1, q1, rfl, rfl, rfl, h1, r1⟩ := trodAll_cons r0
  obtain ⟨v2, vs2, d2, ds2, p2, q2, rfl, rfl, rfl, h2, r2⟩ := trodAll_cons r1
  obtain ⟨rfl, rfl, rfl⟩ := trodAll_nil r2
  obtain rfl : args = #[v0, v1, v2] := by cases args; simp_all
  obtain ⟨rfl, rfl⟩ := trodVars_none hV
  obtain ⟨b0, len0, cap0, rfl⟩ := okWide_slice Try.underlying22 (hval 0 22 v0 rfl rfl)
  have k0 := h0
  have lt0 : ∀ x ∈ p0, x.block < W.heap.size := by obtain ⟨m, hm⟩ := k0; exact DataW.trod_lt m _ _ _ hm
  obtain ⟨L0, Z0, w0⟩ := open_u64ss Try.underlying22 Try.underlying30 Try.underlying36 (by kernel_rfl) (by kernel_rfl) h0
  obtain ⟨b1, len1, cap1, rfl⟩ := okWide_slice Try.underlying30 (hval 1 30 v1 rfl rfl)
  have k1 := h1
  have lt1 : ∀ x ∈ p1, x.block < W.heap.size := by obtain ⟨m, hm⟩ := k1; exact DataW.trod_lt m _ _ _ hm
  obtain ⟨z1, w1⟩ := open_u64s Try.underlying30 Try.underlying36 (by kernel_rfl) h1
  obtain ⟨b2, len2, cap2, rfl⟩ := okWide_slice Try.underlying30 (hval 2 30 v2 rfl rfl)
  have k2 := h2
  have lt2 : ∀ x ∈ p2, x.block < W.heap.size := by obtain ⟨m, hm⟩ := k2; exact DataW.trod_lt m _ _ _ hm
  obtain ⟨z2, w2⟩ := open_u64s Try.underlying30 Try.underlying36 (by kernel_rfl) h2
  clear hA0 hval0
  refine (walk _ len0 L0 Z0 _ len1 z1 _ len2 z2 W w0 w1 w2).mono fun e W' ⟨he, bel⟩ => ?_
  subst he
  exact ⟨_, rfl, _, _, _, [], _, [], hW', trodAll_mk1 (shut_bool Try.underlying4 _), (trodAll_cons_mk (Below.trod laidOut (by kernel_rfl) (of_decide_eq_true (by kernel_rfl)) k0 bel lt0) (trodAll_cons_mk (Below.trod laidOut (by kernel_rfl) (of_decide_eq_true (by kernel_rfl)) k1 bel lt1) (trodAll_cons_mk (Below.trod laidOut (by kernel_rfl) (of_decide_eq_true (by kernel_rfl)) k2 bel lt2) trodAll_mk0))), rfl, bel.frame _, fun h => by cases h⟩

theorem over : Rows.solveSumsRow.holds Try.pinned (OpenSpec.ofChange Rows.solveSumsSpec) :=
  OpenClaim.holds_of_wide 8 Try.f8 rfl rfl rfl rfl rfl rfl rfl ⟨rfl, rfl, rfl, rfl, rfl⟩ rfl rfl rfl rfl rfl (by kernel_rfl) Try.func8 (by kernel_rfl)
    (of_decide_eq_true (by kernel_rfl)) (by unfold Func.isWrapper; first | (rw [if_pos (by decide +kernel)]; kernel_rfl) | (rw [if_neg (by decide +kernel)]; exact ⟨rfl, rfl⟩))
    (fun os started H enc _ => lifted os started H enc)

theorem proved : Rows.SolveSumsSaid := over
end Go.Proofs.Ytilkcbnioebinaa.solveSums
namespace Go.Proofs.Ytilkcbnioebinaa
theorem solveSums_holds : Rows.SolveSumsSaid := solveSums.proved
#print axioms solveSums_holds
end Go.Proofs.Ytilkcbnioebinaa
