/-
  For any rows, at most 31 rows and columns, and any row more, of at most 32 numbers: the rank does not hang on the order of rows, is at most how many rows and columns there are, and with the row more it is the same or one more. No condition.
-/
import Derived.Test.YtilkcbnioebinaaRows
import Derived.Test.YtilkcbnioebinaaRefTurns
import Derived.Test.YtilkcbnioebinaaSolveAwake
import Derived.Test.YtilkcbnioebinaaOpenRows
import Derived.WalkKit
import Derived.OwnWalk
import Derived.ProofKit
import Derived.OpenShut
import Derived.ShutString
import Derived.ChangeOld
import Derived.Below
import Derived.Carry
namespace Go.Proofs.Ytilkcbnioebinaa.solveTurns
open Fm
open Go.ChangeShapes Go.WideShapes Go.ChangeAt Go.RowKit
set_option linter.unusedVariables false

theorem own : ownKnob Try.prog.godebug = none := by kernel_rfl

set_option maxHeartbeats 1600000 in
theorem walk (v : Value) (R : Nat) (L : Nat → Nat) (Z : Nat → Nat → Int) (x : Value) (Lx : Nat) (X : Nat → Int) (w : World) (h : RowsAt w v R L Z) (hx : IntsAt w x Lx X) :
    Calls Try.prog 7 #[v, x] w fun e w' => e = .returned (.bool true) ∧ Below w.heap.size w w' := by
  have H : Hid (RowsAt w v R L Z) := h
  have HX : Hid (IntsAt w x Lx X) := hx
  obtain ⟨A, cap, rfl⟩ := h.form
  obtain ⟨Ax, capx, rfl⟩ := hx.form
  clear h hx
  by_cases hs : SmallP R L 31
  rotate_left
  · go_enter Try.func7, Try.ntmps7
    go_wp2_with fail
    refine (small_any _ _ R 31 L Z H.out (by omega)).mono ?_
    rintro e w' ⟨B, rfl, hB, rfl⟩
    obtain rfl : B = false := by
      cases B with
      | false => rfl
      | true => exact absurd (hB.1 rfl) hs
    clear hB
    go_wp2_with fail
    refine (awake_any _).mono ?_
    rintro e wa ⟨rfl, ba⟩
    go_wp2_with fail
    go_ret
    exact ⟨rfl, (Below.refl w'.heap.size w').trans (ba.mono (Below.refl w'.heap.size w').size)⟩
  by_cases hl : 32 < Lx
  · have hl' : (32 : Int) < (Lx : Int) := by omega
    go_enter Try.func7, Try.ntmps7
    go_wp2_with fail
    refine (small_any _ _ R 31 L Z H.out (by omega)).mono ?_
    rintro e w' ⟨B, rfl, hB, rfl⟩
    obtain rfl : B = true := hB.2 hs
    clear hB
    go_wp2_with fail
    refine (awake_any _).mono ?_
    rintro e wa ⟨rfl, ba⟩
    go_wp2_with fail
    go_ret
    exact ⟨rfl, (Below.refl w'.heap.size w').trans (ba.mono (Below.refl w'.heap.size w').size)⟩
  have hl' : ¬ (32 : Int) < (Lx : Int) := by omega
  by_cases hsy : SysP R L
  rotate_left
  · go_enter Try.func7, Try.ntmps7
    go_wp2_with fail
    refine (small_any _ _ R 31 L Z H.out (by omega)).mono ?_
    rintro e w' ⟨B, rfl, hB, rfl⟩
    obtain rfl : B = true := hB.2 hs
    clear hB
    go_wp2_with fail
    refine (rank_no _ _ R L Z H.out hsy).mono ?_
    rintro e w1 ⟨rfl, hw1⟩
    have hw2 := hw1.symm
    subst hw2
    clear hw1
    go_wp2_with fail
    refine (awake_any _).mono ?_
    rintro e wa ⟨rfl, ba⟩
    go_wp2_with fail
    go_ret
    exact ⟨rfl, (Below.refl w'.heap.size w').trans (ba.mono (Below.refl w'.heap.size w').size)⟩
  have hR3 : R ≤ 31 := hs.1
  obtain ⟨C, hC⟩ : ∃ C, colsF R L = C := ⟨_, rfl⟩
  have hC3 : C ≤ 32 := by have := hsy.2.1; omega
  obtain ⟨Vr, HV⟩ : ∃ Vr : Nat → Value, Hid (∀ r, r < R → IntsAt w (Vr r) C (Z r) ∧ ∃ b o A' cap', A = some ⟨b, o, none⟩ ∧ Vr r = .slice A' C cap' ∧ w.cell? ⟨b, o + r, none⟩ = some (.slice A' C cap') ∧ (r = 0 → w.cell? ⟨b, o, none⟩ = some (.slice A' C cap'))) := by
    obtain ⟨_, _, b, o, V, e, _, h3, h4⟩ := H.out
    cases e
    refine ⟨V, fun r hr => ?_⟩
    obtain ⟨ha, A', cap', e1, c⟩ := RowsAt.cell h3 h4 hr
    obtain ⟨_, i⟩ := h4 r hr
    rw [hsy.2.2 r hr, hC] at e1 c i
    exact ⟨i, b, o, A', cap', ha, e1, c, fun e => by rw [e, Nat.add_zero] at c; exact c⟩
  have uZ : Hid (∀ r, r < R → ∀ j, j < C → 0 ≤ Z r j) := fun r hr j hj => by
    obtain ⟨_, _, _, _, _, _, _, i⟩ := (HV.out r hr).1
    exact (i j hj).2.1
  have uX : Hid (∀ j, j < Lx → 0 ≤ X j) := fun j hj => by
    obtain ⟨_, _, _, _, _, _, _, i⟩ := HX.out
    exact (i j hj).2.1
  have HS : Hid (SysP R L) := hsy
  obtain ⟨i30, hi30, hz30, hs30, hb30⟩ := info30'
  have HI : Hid (Try.prog.info? 30 = some i30 ∧ i30.zero = some (.slice none 0 0) ∧ i30.size = 1 ∧ i30.bytes = 24) := ⟨hi30, hz30, hs30, hb30⟩
  clear hi30 hz30 hs30 hb30
  obtain ⟨VB, hVB⟩ : ∃ VB : Nat → Value, VB = fun i => if i = 0 then .slice Ax Lx capx else Vr (R - i) := ⟨_, rfl⟩
  have V0 : Hid (VB 0 = .slice Ax Lx capx) := by rw [hVB]; rfl
  have VS : Hid (∀ i, i ≠ 0 → VB i = Vr (R - i)) := fun i hi => by rw [hVB]; exact if_neg hi
  have VI : Hid (∀ i, i < R + 1 → IntsAt w (VB i) (backL R Lx (fun _ => C) i) (backZ R X Z i)) := fun i hi => by
    by_cases e : i = 0
    · subst e; rw [V0.out]; exact HX.out
    · rw [VS.out i e]
      simp only [backL, backZ, if_neg e]
      exact (HV.out (R - i) (by omega)).1
  clear hVB
  go_enter Try.func7, Try.ntmps7
  go_wp2_with fail
  refine (small_any _ _ R 31 L Z H.out (by omega)).mono ?_
  rintro e w' ⟨B, rfl, hB, rfl⟩
  obtain rfl : B = true := hB.2 hs
  clear hB
  go_wp2_with fail
  refine (rank_yes _ _ R C L Z H.out hsy hC).mono ?_
  rintro e w1 ⟨n, rfl, hn, b1⟩
  have HN : Hid (Rk R C Z n) := hn
  have B1 : Hid (Below w'.heap.size w' w1) := b1
  clear hn b1 hsy
  go_wp2_with fail
  have S0 : Hid (Back w1 (w1.alloc (.cells #[.slice Ax Lx capx] 30)) (.slice (some ⟨w1.heap.size, 0, none⟩) 1 1) 1 VB) := by rw [← V0.out]; exact back_start w1 VB
  go_loopg [7, 34] R (fun gg l i wr => ∃ (k g cv : Nat), (gg = R - k ∧ k ≤ R ∧ (k = 0 → cv = 1) ∧ Back w1 wr (.slice (some ⟨g, 0, none⟩) (k + 1) cv) (k + 1) VB) ∧ l = .slice (some ⟨g, 0, none⟩) (k + 1) cv ∧ i = .int .i64 (k : Int))
  case atStart => exact ⟨0, _, _, ⟨rfl, by omega, fun _ => rfl, S0.out⟩, rfl, rfl⟩
  case round =>
    obtain ⟨k, g, cv, ⟨hg, hk, hcv, hB⟩, rfl, rfl⟩ := hrel
    have HK : Hid (gk = R - k ∧ (k = 0 → cv = 1) ∧ Back w1 wr (.slice (some ⟨g, 0, none⟩) (k + 1) cv) (k + 1) VB) := ⟨hg, hcv, hB⟩
    have hcap : k + 1 ≤ cv := hB.cap
    clear hg hcv hB S0
    by_cases hz : k < R
    · obtain ⟨_, b, o, A', cap', ha, e1, c1, _⟩ := HV.out (R - 1 - k) (by omega)
      obtain ⟨p, hp⟩ : ∃ p, p = R - 1 - k := ⟨_, rfl⟩
      rw [← hp] at c1 e1
      have d1 := keep_of_below HK.out.2.2.since _ _ (keep_of_below B1.out _ _ c1)
      have hpi : (R : Int) - 1 - (k : Int) = (p : Int) := by omega
      have hpR : (p : Int) < (R : Int) := by omega
      have EV : Hid (VB (k + 1) = .slice A' C cap') := by rw [VS.out (k + 1) (by omega), ← e1, hp]; congr 1; omega
      have hsz : w1.heap.size ≤ wr.heap.size := HK.out.2.2.since.size
      subst ha
      clear e1 c1 hp
      go_wp2_with (at_builtin; refine wpList_append_lies _ rfl _ _ _ rfl w1.heap.size 30 i30 (.slice none 0 0) 1 24 Try.underlying22 HI.out.1 HI.out.2.1 HI.out.2.2.1 HI.out.2.2.2 rfl (by omega) (.slice (some ⟨g, 0, none⟩) (k + 1) cv) (k + 1) ((List.range (k + 1)).map VB) (by rfl) (HK.out.2.2.own.alloc _) ⟨wr.heap.size, 0, none⟩ 1 1 [.slice A' C cap'] (by rfl) rfl (new_row30 wr _) (fun u hu => by rw [List.mem_singleton.1 hu]; rfl) (by omega) (by unfold maxLen; omega) (by omega) (by simp; omega) (wr.heap.size + 1) (by simp) ?_; intro g1 cap1 w3 hown1 hgrow hat hlt1)
      go_roundg (R - (k + 1))
      case measure => have := HK.out.1; omega
      case rel => exact ⟨k + 1, _, _, ⟨rfl, by omega, fun h => by omega, HK.out.2.2.step EV.out.symm hown1 hgrow⟩, rfl, by go_num⟩
    · have e : k = R := by omega
      subst e
      have BK := HK.out.2.2
      have BB : Hid (Below w'.heap.size w' wr) := B1.out.trans (BK.since.mono B1.out.size)
      have VI1 : ∀ i, i < k + 1 → IntsAt w1 (VB i) (backL k Lx (fun _ => C) i) (backZ k X Z i) := fun i hi => (VI.out i hi).keep (keep_of_below B1.out)
      have LL : ∀ i, i < k + 1 → backL k Lx (fun _ => C) i = backL k Lx L i := fun i hi => by
        unfold backL
        split
        · rfl
        · rw [HS.out.2.2 _ (by omega), hC]
      have VI2 : ∀ i, i < k + 1 → IntsAt w1 (VB i) (backL k Lx L i) (backZ k X Z i) := fun i hi => by rw [← LL i hi]; exact VI1 i hi
      have HB : Hid (RowsAt wr (.slice (some ⟨g, 0, none⟩) (k + 1) cv) (k + 1) (backL k Lx L) (backZ k X Z)) := by
        have := BK.rows VI2 0 cv (by omega) (by omega)
        show RowsAt _ _ _ _ _
        simpa using this
      by_cases hR0 : k = 0
      · have HR0 : Hid (k = 0) := hR0
        have hcv1 := HK.out.2.1 hR0
        subst hcv1
        have HT : Hid (RowsAt wr (.slice (some ⟨g, 0, none⟩) 0 0) 0 (fun _ => 0) (fun _ _ => 0)) := ⟨_, 0, g, 0, fun _ => .slice none 0 0, rfl, by omega, fun h => by omega, fun r hr => by omega⟩
        clear BK VI1 VI2 LL HK hR0
        have hk0 : ¬ (0 : Int) < (k : Int) := by have := HR0.out; omega
        have hcv0 : k ≤ 0 := by omega
        go_wp2_with fail
        refine (rank_yes wr _ 0 0 (fun _ => 0) (fun _ _ => 0) HT.out ⟨by omega, by decide, fun r hr => by omega⟩ rfl).mono ?_
        rintro e w2 ⟨m, rfl, hm, b2⟩
        obtain rfl : m = 0 := by have := hm.cols; omega
        obtain rfl : n = 0 := by have := HN.out.rows uZ.out; have := HR0.out; omega
        have B2 : Hid (Below wr.heap.size wr w2 ∧ Below w'.heap.size w' w2) := ⟨b2, BB.out.trans (b2.mono BB.out.size)⟩
        clear hm b2
        go_wp2_with fail
        refine (rank_yes w2 _ (k + 1) Lx (backL k Lx L) (backZ k X Z) (HB.out.keep (keep_of_below B2.out.1)) (back_sys HS.out hR3 (by omega) hC (fun h => by have := HR0.out; omega)).1 (back_sys HS.out hR3 (by omega) hC (fun h => by have := HR0.out; omega)).2).mono ?_
        rintro e w3 ⟨q, rfl, hq, b3⟩
        have HQ : 0 ≤ q ∧ q ≤ 0 + 1 := by have r1 := hq.rows (fun r hr j hj => by obtain rfl : r = 0 := (by have := HR0.out; omega); exact uX.out j hj); have r3 := HR0.out; omega
        have q1 : ((0 : Nat) : Int) ≤ (q : Int) := by omega
        have q2 : (q : Int) ≤ ((0 : Nat) : Int) + 1 := by omega
        have B3 : Hid (Below w'.heap.size w' w3) := B2.out.2.trans (b3.mono B2.out.2.size)
        clear hq b3 HQ
        go_wp2_with fail
        refine (awake_any _).mono ?_
        rintro e wa ⟨rfl, ba⟩
        go_wp2_with fail
        go_ret
        exact ⟨rfl, (B3.out).trans (ba.mono (B3.out).size)⟩
      · have hk0 : (0 : Int) < (k : Int) := by omega
        have hk0' : 0 < k := by omega
        have hcv2 : ¬ cv = 1 := by omega
        have HT : Hid (RowsAt wr (.slice (some ⟨g, 1, none⟩) k (cv - 1)) k (fun i => L (k - 1 - i)) (fun i => Z (k - 1 - i))) := by
          have h1 := BK.rows VI2 1 (cv - 1) (by omega) (by omega)
          rw [Nat.add_sub_cancel] at h1
          obtain ⟨A1, c1, b1, o1, V1, p1, p2, p3, p4⟩ := h1
          refine ⟨A1, c1, b1, o1, V1, p1, p2, p3, fun r hr => ⟨(p4 r hr).1, ?_⟩⟩
          have i := (p4 r hr).2
          have e1 : backL k Lx L (1 + r) = L (k - 1 - r) := by unfold backL; rw [if_neg (by omega)]; congr 1; omega
          have e2 : backZ k X Z (1 + r) = Z (k - 1 - r) := by unfold backZ; rw [if_neg (by omega)]; congr 1; omega
          show IntsAt wr (V1 r) (L (k - 1 - r)) (Z (k - 1 - r))
          rw [← e1, ← e2]
          exact i
        clear BK VI1 VI2 LL HK hR0
        by_cases hLC : Lx = C
        · have HEQ : Hid (Lx = C) := hLC
          clear hLC
          go_wp2_with fail
          refine (rank_yes wr _ k C (fun i => L (k - 1 - i)) (fun i => Z (k - 1 - i)) HT.out (rev_sys HS.out).1 ((rev_sys HS.out).2.trans hC)).mono ?_
          rintro e w2 ⟨m, rfl, hm, b2⟩
          obtain rfl : n = m := HN.out.unique ((rev_mut k C Z).symm.rk hm)
          have B2 : Hid (Below wr.heap.size wr w2 ∧ Below w'.heap.size w' w2) := ⟨b2, BB.out.trans (b2.mono BB.out.size)⟩
          clear hm b2
          go_wp2_with fail
          refine (rank_yes w2 _ (k + 1) Lx (backL k Lx L) (backZ k X Z) (HB.out.keep (keep_of_below B2.out.1)) (back_sys HS.out hR3 (by omega) hC (fun _ => HEQ.out)).1 (back_sys HS.out hR3 (by omega) hC (fun _ => HEQ.out)).2).mono ?_
          rintro e w3 ⟨q, rfl, hq, b3⟩
          have HQ : n ≤ q ∧ q ≤ n + 1 := by rw [HEQ.out] at hq; exact back_rk HN.out hq uZ.out (fun j hj => uX.out j (by rw [HEQ.out]; exact hj))
          have q1 : (n : Int) ≤ (q : Int) := by omega
          have q2 : (q : Int) ≤ (n : Int) + 1 := by omega
          have B3 : Hid (Below w'.heap.size w' w3) := B2.out.2.trans (b3.mono B2.out.2.size)
          clear hq b3 HQ
          obtain ⟨_, bA, oA, A0, cap0, rfl, _, _, c00⟩ := HV.out 0 (by omega)
          have c0 := keep_of_below B3.out _ _ (c00 rfl)
          have n1 : ¬ (k : Int) < (n : Int) := by have := HN.out.rows uZ.out; omega
          have n2 : ¬ (C : Int) < (n : Int) := by have := HN.out.cols; omega
          clear c00
          go_wp2_with fail
          refine (awake_any _).mono ?_
          rintro e wa ⟨rfl, ba⟩
          go_wp2_with fail
          go_ret
          exact ⟨rfl, (B3.out).trans (ba.mono (B3.out).size)⟩
        · have HNE : Hid (Lx ≠ C) := hLC
          clear hLC
          go_wp2_with fail
          refine (rank_yes wr _ k C (fun i => L (k - 1 - i)) (fun i => Z (k - 1 - i)) HT.out (rev_sys HS.out).1 ((rev_sys HS.out).2.trans hC)).mono ?_
          rintro e w2 ⟨m, rfl, hm, b2⟩
          obtain rfl : n = m := HN.out.unique ((rev_mut k C Z).symm.rk hm)
          have B2 : Hid (Below wr.heap.size wr w2 ∧ Below w'.heap.size w' w2) := ⟨b2, BB.out.trans (b2.mono BB.out.size)⟩
          clear hm b2
          go_wp2_with fail
          refine (rank_no w2 _ (k + 1) (backL k Lx L) (backZ k X Z) (HB.out.keep (keep_of_below B2.out.1)) (back_not HS.out hC (by omega) HNE.out)).mono ?_
          rintro e w3 ⟨rfl, hw3⟩
          have hw4 := hw3.symm
          subst hw4
          have B3 : Hid (Below w'.heap.size w' w2) := B2.out.2
          clear hw3
          obtain ⟨_, bA, oA, A0, cap0, rfl, _, _, c00⟩ := HV.out 0 (by omega)
          have c0 := keep_of_below B3.out _ _ (c00 rfl)
          have n1 : ¬ (k : Int) < (n : Int) := by have := HN.out.rows uZ.out; omega
          have n2 : ¬ (C : Int) < (n : Int) := by have := HN.out.cols; omega
          clear c00
          go_wp2_with fail
          refine (awake_any _).mono ?_
          rintro e wa ⟨rfl, ba⟩
          go_wp2_with fail
          go_ret
          exact ⟨rfl, (B3.out).trans (ba.mono (B3.out).size)⟩

/-! ### The row -/
theorem laidOut : laidOutB Try.prog = true := by kernel_rfl
set_option maxRecDepth 100000 in
theorem lifted (os : Os) (started : os.Started) (H : Type) (enc : TypeId × Value → H) :
    ReturnsInHanded {} Try.checked os 7 .any (Rows.solveTurnsSpec.pre6 enc Try.prog Try.f7 Rows.solveTurnsRow.domain false) (Rows.solveTurnsSpec.post enc Try.prog Try.f7 false true false false) := by
  refine returnsInHanded_of_change (C := Try.checked) own started (by kernel_rfl) Try.func7
    (ChangeSpec.witness6 (enc := enc) (C := Try.checked) false ⟨#[], #[.slice none 0 0, .slice none 0 0], []⟩ 8 (by kernel_rfl) (by kernel_rfl) (by kernel_rfl) (by kernel_rfl)) ?_
  intro W base args ds gs before hval0 hW hcnd _
  have hval : ∀ (j : Nat) t v, Try.f7.params[j]? = some t → args[j]? = some v → Value.okWide Try.prog W .any base t v := hval0
  have hW' := hW
  obtain ⟨p, q, hA0, hV, rfl, hfz, hnd⟩ := hW
  have hA : DataW.TrodAll enc Try.prog W 0 (fun _ => true) true Try.f7.params.toList args.toList ds p := hA0
  rw [Try.params7] at hA hval
  obtain ⟨v0, vs0, d0, ds0, p0, q0, hargs, rfl, rfl, h0, r0⟩ := trodAll_cons hA
  obtain ⟨v1, vs1, d1, ds1, p1, q1, rfl, rfl, rfl, h1, r1⟩ := trodAll_cons r0
  obtain ⟨rfl, rfl, rfl⟩ := trodAll_nil r1
  obtain rfl : args = #[v0, v1] := by cases args; simp_all
  obtain ⟨rfl, rfl⟩ := trodVars_none hV
  obtain ⟨b0, len0, cap0, rfl⟩ := okWide_slice Try.underlying22 (hval 0 22 v0 rfl rfl)
  have k0 := h0
  have lt0 : ∀ x ∈ p0, x.block < W.heap.size := by obtain ⟨m, hm⟩ := k0; exact DataW.trod_lt m _ _ _ hm
  obtain ⟨L0, Z0, w0⟩ := open_u64ss Try.underlying22 Try.underlying30 Try.underlying36 (by kernel_rfl) (by kernel_rfl) h0
  obtain ⟨b1, len1, cap1, rfl⟩ := okWide_slice Try.underlying30 (hval 1 30 v1 rfl rfl)
  have k1 := h1
  have lt1 : ∀ x ∈ p1, x.block < W.heap.size := by obtain ⟨m, hm⟩ := k1; exact DataW.trod_lt m _ _ _ hm
  obtain ⟨z1, w1⟩ := open_u64s Try.underlying30 Try.underlying36 (by kernel_rfl) h1
  clear hA0 hval0
  refine (walk _ len0 L0 Z0 _ len1 z1 W w0 w1).mono fun e W' ⟨he, bel⟩ => ?_
  subst he
  exact ⟨_, rfl, _, _, _, [], _, [], hW', trodAll_mk1 (shut_bool Try.underlying4 _), (trodAll_cons_mk (Below.trod laidOut (by kernel_rfl) (of_decide_eq_true (by kernel_rfl)) k0 bel lt0) (trodAll_cons_mk (Below.trod laidOut (by kernel_rfl) (of_decide_eq_true (by kernel_rfl)) k1 bel lt1) trodAll_mk0)), rfl, bel.frame _, fun h => by cases h⟩

theorem over : Rows.solveTurnsRow.holds Try.pinned (OpenSpec.ofChange Rows.solveTurnsSpec) :=
  OpenClaim.holds_of_wide 7 Try.f7 rfl rfl rfl rfl rfl rfl rfl ⟨rfl, rfl, rfl, rfl, rfl⟩ rfl rfl rfl rfl rfl (by kernel_rfl) Try.func7 (by kernel_rfl)
    (of_decide_eq_true (by kernel_rfl)) (by unfold Func.isWrapper; first | (rw [if_pos (by decide +kernel)]; kernel_rfl) | (rw [if_neg (by decide +kernel)]; exact ⟨rfl, rfl⟩))
    (fun os started H enc _ => lifted os started H enc)

theorem proved : Rows.SolveTurnsSaid := over
end Go.Proofs.Ytilkcbnioebinaa.solveTurns
namespace Go.Proofs.Ytilkcbnioebinaa
theorem solveTurns_holds : Rows.SolveTurnsSaid := solveTurns.proved
#print axioms solveTurns_holds
end Go.Proofs.Ytilkcbnioebinaa
