
/-
  BitmapNews: a map of any numbers is told as the document says, or refused. The table math/bits.deBruijn64tab is as the text of the library lays it (the card ties it).
-/
import Derived.Test.YtkfhofgmjhnknaaDoorRows
import Derived.Test.YtkfhofgmjhnknaaDoorCards
import Derived.Test.YtkfhofgmjhnknaaDoorTie
import Derived.Test.YtkfhofgmjhnknaaDoorTab
import Derived.Test.YtkfhofgmjhnknaaDoorBtmAwake
import Derived.Test.YtkfhofgmjhnknaaDoorBtmRef
import Derived.Test.YtkfhofgmjhnknaaDoorRegKit
import Derived.WalkKit
import Derived.ProofKit
import Derived.OpenShut
import Derived.ShutString
import Derived.ChangeOld
import Derived.ChangeMaps5
import Derived.Below
import Derived.Carry
import Derived.Laws.StructEq
import Derived.LaidMore
import Derived.Stop.Joined
import Derived.SevenTiedAt
namespace Go.Proofs.YtkfhofgmjhnknaaDoor.bitmapNews
open Fm Bl Bm L2 Go.Deep
open Go.ChangeShapes Go.WideShapes Go.ChangeAt Go.RowKit Go.ChangeMaps
set_option linter.unusedVariables false

theorem own : ownKnob Tryd.prog.godebug = none := by kernel_rfl

set_option maxRecDepth 8000 in
set_option maxHeartbeats 3200000 in
theorem walk (a0 a1 a2 : Int) (w : World) (w0 : (Lit.int .u64 a0).wf = true) (w1 : (Lit.int .i64 a1).wf = true) (w2 : (Lit.int .i64 a2).wf = true) (hT0 : TabAt 0 Lib.deBruijn64tab w) :
    Calls Tryd.prog 3 #[.int .u64 a0, .int .i64 a1, .int .i64 a2] w fun e w' => e = .returned (.bool true) ∧ Below w.heap.size w w' := by
  have HT : Hid (TabAt 0 Lib.deBruijn64tab w) := hT0
  clear hT0
  have uS : U a0 := bounds_u64 w0
  by_cases hf : fitsM a1 a2 = true
  rotate_left
  · have BEL0 : Hid (Below w.heap.size w w) := Below.refl _ _
    have BOX0 : Hid (Boxes w w []) := boxes_none w w
    have hff : fitsM a1 a2 = false := by simpa using hf
    have hN := hf
    rw [fitsM_iff] at hN
    have HN : Hid (¬ (1 ≤ a1 ∧ a1 ≤ 16 ∧ 1 ≤ a2 ∧ a2 ≤ 256)) := hN
    clear hN hf
    go_enter Tryd.func3, Tryd.ntmps3
    go_wp2_with fail
    refine (mnew_bad a0 a1 a2 _ hff).mono ?_
    rintro e ww1 ⟨rfl, b1⟩
    have BEL1 := h_bel BEL0 b1
    have BOX1 := h_box BOX0 b1
    clear BEL0 BOX0
    clear b1
    clear hff
    have BEL2 := a_bel BEL1 (.cells #[.int .u64 0, .slice none 0 0] 25)
    have BOX2 := a_box BOX1 BEL1 (.cells #[.int .u64 0, .slice none 0 0] 25)
    have KB_f_2 := n_blk (u := ww1) 25 #[.int .u64 0, .slice none 0 0]
    clear BEL1 BOX1
    by_cases d0 : a1 < 1
    · go_wp2_with fail
      refine (mref_any _ _ 0 0 _ _ (mpAt_none _ (fun _ => 0) (fun _ _ => false))).mono ?_
      rintro e ww2 ⟨rfl, b2⟩
      have BEL3 := h_bel BEL2 b2
      have BOX3 := h_box BOX2 b2
      have KB_f_3 := h_blk KB_f_2 b2
      clear BEL2 BOX2 KB_f_2
      clear b2
      go_wp2_with fail
      refine (requal_any _ _ _ 0 0 0 0 _ _ _ _ (mpAt_none _ (fun _ => 0) (fun _ _ => false)) (mpAt_none _ (fun _ => 0) (fun _ _ => false)) (by omega) (fun i h => by omega)).mono ?_
      intro e ww3 h3
      obtain ⟨rfl, b3⟩ := told h3 true ⟨fun _ => ⟨rfl, rfl, fun i hi => by omega⟩, fun _ => rfl⟩
      clear h3
      have BEL4 := h_bel BEL3 b3
      have BOX4 := h_box BOX3 b3
      have KB_f_4 := h_blk KB_f_3 b3
      clear BEL3 BOX3 KB_f_3
      clear b3
      go_wp2_with fail
      refine (mawake_any _ (tabAt_keep HT.out (keep_of_below BEL4.out))).mono ?_
      rintro e ww99 ⟨rfl, b9⟩
      have BEL5 := h_bel BEL4 b9
      have BOX5 := h_box BOX4 b9
      have KB_f_5 := h_blk KB_f_4 b9
      clear BEL4 BOX4 KB_f_4
      clear b9
      go_wp2_with fail
      go_ret
      exact ⟨rfl, BEL5.out⟩
    by_cases d1 : a1 > 16
    · go_wp2_with fail
      refine (mref_any _ _ 0 0 _ _ (mpAt_none _ (fun _ => 0) (fun _ _ => false))).mono ?_
      rintro e ww2 ⟨rfl, b2⟩
      have BEL3 := h_bel BEL2 b2
      have BOX3 := h_box BOX2 b2
      have KB_f_3 := h_blk KB_f_2 b2
      clear BEL2 BOX2 KB_f_2
      clear b2
      go_wp2_with fail
      refine (requal_any _ _ _ 0 0 0 0 _ _ _ _ (mpAt_none _ (fun _ => 0) (fun _ _ => false)) (mpAt_none _ (fun _ => 0) (fun _ _ => false)) (by omega) (fun i h => by omega)).mono ?_
      intro e ww3 h3
      obtain ⟨rfl, b3⟩ := told h3 true ⟨fun _ => ⟨rfl, rfl, fun i hi => by omega⟩, fun _ => rfl⟩
      clear h3
      have BEL4 := h_bel BEL3 b3
      have BOX4 := h_box BOX3 b3
      have KB_f_4 := h_blk KB_f_3 b3
      clear BEL3 BOX3 KB_f_3
      clear b3
      go_wp2_with fail
      refine (mawake_any _ (tabAt_keep HT.out (keep_of_below BEL4.out))).mono ?_
      rintro e ww99 ⟨rfl, b9⟩
      have BEL5 := h_bel BEL4 b9
      have BOX5 := h_box BOX4 b9
      have KB_f_5 := h_blk KB_f_4 b9
      clear BEL4 BOX4 KB_f_4
      clear b9
      go_wp2_with fail
      go_ret
      exact ⟨rfl, BEL5.out⟩
    by_cases d2 : a2 < 1
    · go_wp2_with fail
      refine (mref_any _ _ 0 0 _ _ (mpAt_none _ (fun _ => 0) (fun _ _ => false))).mono ?_
      rintro e ww2 ⟨rfl, b2⟩
      have BEL3 := h_bel BEL2 b2
      have BOX3 := h_box BOX2 b2
      have KB_f_3 := h_blk KB_f_2 b2
      clear BEL2 BOX2 KB_f_2
      clear b2
      go_wp2_with fail
      refine (requal_any _ _ _ 0 0 0 0 _ _ _ _ (mpAt_none _ (fun _ => 0) (fun _ _ => false)) (mpAt_none _ (fun _ => 0) (fun _ _ => false)) (by omega) (fun i h => by omega)).mono ?_
      intro e ww3 h3
      obtain ⟨rfl, b3⟩ := told h3 true ⟨fun _ => ⟨rfl, rfl, fun i hi => by omega⟩, fun _ => rfl⟩
      clear h3
      have BEL4 := h_bel BEL3 b3
      have BOX4 := h_box BOX3 b3
      have KB_f_4 := h_blk KB_f_3 b3
      clear BEL3 BOX3 KB_f_3
      clear b3
      go_wp2_with fail
      refine (mawake_any _ (tabAt_keep HT.out (keep_of_below BEL4.out))).mono ?_
      rintro e ww99 ⟨rfl, b9⟩
      have BEL5 := h_bel BEL4 b9
      have BOX5 := h_box BOX4 b9
      have KB_f_5 := h_blk KB_f_4 b9
      clear BEL4 BOX4 KB_f_4
      clear b9
      go_wp2_with fail
      go_ret
      exact ⟨rfl, BEL5.out⟩
    have d3 : a2 > 256 := by have := HN.out; omega
    go_wp2_with fail
    refine (mref_any _ _ 0 0 _ _ (mpAt_none _ (fun _ => 0) (fun _ _ => false))).mono ?_
    rintro e ww2 ⟨rfl, b2⟩
    have BEL3 := h_bel BEL2 b2
    have BOX3 := h_box BOX2 b2
    have KB_f_3 := h_blk KB_f_2 b2
    clear BEL2 BOX2 KB_f_2
    clear b2
    go_wp2_with fail
    refine (requal_any _ _ _ 0 0 0 0 _ _ _ _ (mpAt_none _ (fun _ => 0) (fun _ _ => false)) (mpAt_none _ (fun _ => 0) (fun _ _ => false)) (by omega) (fun i h => by omega)).mono ?_
    intro e ww3 h3
    obtain ⟨rfl, b3⟩ := told h3 true ⟨fun _ => ⟨rfl, rfl, fun i hi => by omega⟩, fun _ => rfl⟩
    clear h3
    have BEL4 := h_bel BEL3 b3
    have BOX4 := h_box BOX3 b3
    have KB_f_4 := h_blk KB_f_3 b3
    clear BEL3 BOX3 KB_f_3
    clear b3
    go_wp2_with fail
    refine (mawake_any _ (tabAt_keep HT.out (keep_of_below BEL4.out))).mono ?_
    rintro e ww99 ⟨rfl, b9⟩
    have BEL5 := h_bel BEL4 b9
    have BOX5 := h_box BOX4 b9
    have KB_f_5 := h_blk KB_f_4 b9
    clear BEL4 BOX4 KB_f_4
    clear b9
    go_wp2_with fail
    go_ret
    exact ⟨rfl, BEL5.out⟩
  · have BEL0 : Hid (Below w.heap.size w w) := Below.refl _ _
    have BOX0 : Hid (Boxes w w []) := boxes_none w w
    have hR := (fitsM_iff _ _).1 hf
    obtain ⟨R, rfl⟩ : ∃ R : Nat, a1 = R := ⟨a1.toNat, by omega⟩
    obtain ⟨n, rfl⟩ : ∃ n : Nat, a2 = n := ⟨a2.toNat, by omega⟩
    have r1 : 1 ≤ R := by omega
    have r2 : R ≤ 16 := by omega
    have n1 : 1 ≤ n := by omega
    have n2 : n ≤ 256 := by omega
    have OK : Hid (OkM R n) := okM_fits hf
    clear hR
    have d0 : ¬ (R : Int) < 1 := by omega
    have d1 : ¬ (R : Int) > 16 := by omega
    have d3 : ¬ (n : Int) < 1 := by omega
    have d4 : ¬ (n : Int) > 256 := by omega
    have d6 : (0 : Int) < (R : Int) := by omega
    have e1 : ((R : Int) != (R : Int)) = false := by simp
    have e2 : ((n : Int) != (n : Int)) = false := by simp
    have e3 : (a0 != a0) = false := by simp
    go_enter Tryd.func3, Tryd.ntmps3
    go_wp2_with fail
    refine (mnew_ok a0 R n _ hf).mono ?_
    rintro e ww1 ⟨x1, rfl, f1, b1⟩
    obtain ⟨vf, rfl, hvf⟩ := f1.at
    obtain ⟨Af, cf, bbf, oof, rfl, hx1, hx2⟩ := hvf.read
    clear hx1 hx2 hvf
    have FA_f_1 : Hid (HeldX [] (fun uq => MpAt uq (.agg #[.int .u64 a0, .slice Af R cf]) a0 R (fun _ => n) (fun _ _ => false)) ww1) := Held.new f1 BOX0.out
    have BEL1 := h_bel BEL0 b1
    have BOX1 := h_box BOX0 b1
    clear BEL0 BOX0
    clear b1 f1
    clear hf
    go_upto_region 2 with fail
    have BEL2 := a_bel BEL1 (.cells #[.int .u64 a0, .slice Af R cf] 25)
    have BOX2 := a_box BOX1 BEL1 (.cells #[.int .u64 a0, .slice Af R cf] 25)
    have FA_f_2 := a_fact FA_f_1 (.cells #[.int .u64 a0, .slice Af R cf] 25)
    have KB_f_2 := n_blk (u := ww1) 25 #[.int .u64 a0, .slice Af R cf]
    clear BEL1 BOX1 FA_f_1
    generalize (ww1.alloc (.cells #[.int .u64 a0, .slice Af R cf] 25)) = u1 at BEL2 BOX2 FA_f_2 KB_f_2 ⊢
    generalize ww1.heap.size = gf at BOX2 FA_f_2 KB_f_2 ⊢
    obtain ⟨vg, eg, hg⟩ := FA_f_2.out.at
    cases eg
    obtain ⟨Ag, cg, bq, oq, eg, hx1, hr⟩ := hg.read
    cases eg
    obtain ⟨rfl, A0, cap0, b0, o0, c0, _⟩ := hr 0 r1
    have RW : Hid (RowsCells u1 (some ⟨bq, oq, none⟩) R bq oq (fun _ => n) (fun _ _ => false)) := hr
    rw [Nat.add_zero] at c0
    clear hx1 hr hg
    have CE_f_0 : u1.cell? ⟨gf, 0, none⟩ = some (.int .u64 a0) := KB_f_2.out.cell 0
    have CE_f_1 : u1.cell? ⟨gf, 1, none⟩ = some (.slice (some ⟨bq, oq, none⟩) R cf) := KB_f_2.out.cell 1
    have CE_f_lt : gf < u1.heap.size := KB_f_2.out.lt
    go_wp2_with fail
    clear CE_f_0 CE_f_1 CE_f_lt
    clear c0 e1 e2 e3 d0 d1 d3 d4
    go_loopg [67] R (fun gk i wr => ∃ k : Nat, (gk = R - k ∧ k ≤ R ∧ Below u1.heap.size u1 wr) ∧ i = .int .i64 (k : Int))
    case atStart => exact ⟨0, ⟨rfl, by omega, Below.refl _ _⟩, rfl⟩
    case round =>
      obtain ⟨k, ⟨hg, hk, hb⟩, rfl⟩ := hrel
      have HK : Hid (gk = R - k ∧ Below u1.heap.size u1 wr) := ⟨hg, hb⟩
      have x2 : wr.cell? ⟨gf, 1, none⟩ = some (.slice (some ⟨bq, oq, none⟩) R cf) := (KB_f_2.out.since hb).cell 1
      by_cases hlt : k < R
      · obtain ⟨_, A', cap', b', o', ck, lk, fk, gk'⟩ := RW.out k hlt
        obtain rfl := fk (by show 0 < n; omega)
        have G2 : Hid (∀ j, j < n → u1.cell? ⟨b', o' + j, none⟩ = some (.bool false)) := gk'
        have ck := keep_of_below hb _ _ ck
        have bk : (k : Int) < (R : Int) := by omega
        have bk0 : (0 : Int) ≤ (k : Int) := by omega
        clear hg hb lk fk gk'
        go_wp2_with fail
        go_loopg [76] n (fun gj i wi => ∃ c : Nat, (gj = n - c ∧ c ≤ n ∧ Below u1.heap.size u1 wi) ∧ i = .int .i64 (c : Int))
        case atStart => exact ⟨0, ⟨rfl, by omega, HK.out.2⟩, rfl⟩
        case round =>
          clear x2 ck
          obtain ⟨c, ⟨hg, hc, hb⟩, rfl⟩ := hrel
          have HJ : Hid (gk = n - c ∧ Below u1.heap.size u1 wr) := ⟨hg, hb⟩
          by_cases hcl : c < n
          · have cc := keep_of_below hb _ _ (G2.out c hcl)
            have bc : (c : Int) < (n : Int) := by omega
            clear hg hb
            go_wp2_with fail
            go_roundg (n - (c + 1))
            case measure => have := HJ.out.1; omega
            case rel => exact ⟨c + 1, ⟨rfl, by omega, HJ.out.2⟩, by go_num⟩
          · have bc : ¬ (c : Int) < (n : Int) := by omega
            clear hg hb
            go_wp2_with fail
            go_roundg (R - (k + 1))
            case measure => have := HK.out.1; omega
            case rel => exact ⟨k + 1, ⟨rfl, by omega, HJ.out.2⟩, by go_num⟩
      · have bk : ¬ (k : Int) < (R : Int) := by omega
        have BW : Below u1.heap.size u1 wr := hb
        clear hg hb x2
        have BEL3 := h_bel BEL2 BW
        have BOX3 := h_box BOX2 BW
        have FA_f_3 := h_fact FA_f_2 BW
        have KB_f_3 := h_blk KB_f_2 BW
        clear BEL2 BOX2 FA_f_2 KB_f_2
        clear BW
        have CE_f_0 : wr.cell? ⟨gf, 0, none⟩ = some (.int .u64 a0) := KB_f_3.out.cell 0
        have CE_f_1 : wr.cell? ⟨gf, 1, none⟩ = some (.slice (some ⟨bq, oq, none⟩) R cf) := KB_f_3.out.cell 1
        have CE_f_lt : gf < wr.heap.size := KB_f_3.out.lt
        go_wp2_with fail
        refine (mref_any _ _ a0 R _ _ FA_f_3.out.at).mono ?_
        rintro e ww2 ⟨rfl, b2⟩
        clear CE_f_0 CE_f_1 CE_f_lt
        have BEL4 := h_bel BEL3 b2
        have BOX4 := h_box BOX3 b2
        have FA_f_4 := h_fact FA_f_3 b2
        have KB_f_4 := h_blk KB_f_3 b2
        clear BEL3 BOX3 FA_f_3 KB_f_3
        clear b2
        go_wp2_with fail
        refine (rright_any _ _ a0 R _ _ FA_f_4.out.at (by omega) (fun i h => by show n ≤ 1000; omega)).mono ?_
        intro e ww3 h3
        obtain ⟨rfl, b3⟩ := told h3 true ⟨fun _ => OK.out.right, fun _ => rfl⟩
        clear h3
        have BEL5 := h_bel BEL4 b3
        have BOX5 := h_box BOX4 b3
        have FA_f_5 := h_fact FA_f_4 b3
        have KB_f_5 := h_blk KB_f_4 b3
        clear BEL4 BOX4 FA_f_4 KB_f_4
        clear b3
        have CE_f_0 : ww3.cell? ⟨gf, 0, none⟩ = some (.int .u64 a0) := KB_f_5.out.cell 0
        have CE_f_1 : ww3.cell? ⟨gf, 1, none⟩ = some (.slice (some ⟨bq, oq, none⟩) R cf) := KB_f_5.out.cell 1
        have CE_f_lt : gf < ww3.heap.size := KB_f_5.out.lt
        go_wp2_with fail
        refine (mright_yes FA_f_5.out.at OK.out.right).mono ?_
        rintro e ww4 ⟨rfl, b4⟩
        clear CE_f_0 CE_f_1 CE_f_lt
        have BEL6 := h_bel BEL5 b4
        have BOX6 := h_box BOX5 b4
        have FA_f_6 := h_fact FA_f_5 b4
        have KB_f_6 := h_blk KB_f_5 b4
        clear BEL5 BOX5 FA_f_5 KB_f_5
        clear b4
        go_wp2_with fail
        refine (mawake_any _ (tabAt_keep HT.out (keep_of_below BEL6.out))).mono ?_
        rintro e ww99 ⟨rfl, b9⟩
        have BEL7 := h_bel BEL6 b9
        have BOX7 := h_box BOX6 b9
        have FA_f_7 := h_fact FA_f_6 b9
        have KB_f_7 := h_blk KB_f_6 b9
        clear BEL6 BOX6 FA_f_6 KB_f_6
        clear b9
        go_wp2_with fail
        go_ret
        exact ⟨rfl, BEL7.out⟩

/-! ### The row -/
theorem laidOut : laidOutB Tryd.prog = true := by kernel_rfl
theorem door_met (os : Os) (args : Array Value) : laidMetH Tryd.prog Rows.bitmapNewsRow.laid ((World.doorLaid Tryd.prog 400 os).forCall (fun _ _ => 0) ⟨#[], args, []⟩).memory :=
  laidMetH_of_parts3 (fuel := 8) (laidMet_of_run' 8 (by kernel_rfl) (by kernel_rfl)) (by kernel_rfl) (by kernel_rfl)
set_option maxRecDepth 100000 in
theorem lifted (os : Os) (started : os.Started) (H : Type) (enc : TypeId × Value → H) :
    ReturnsInHanded {} Tryd.checked os 3 .any (fun w args => (Rows.bitmapNewsSpec.pre enc Tryd.prog Tryd.f3 [] false w args ∧ laidMetH Tryd.prog Rows.bitmapNewsRow.laid w) ∧ sizedMet enc Tryd.prog Tryd.f3 (OpenSpec.ofChange Rows.bitmapNewsSpec) false w args) (Rows.bitmapNewsSpec.post enc Tryd.prog Tryd.f3 false true false false) := by
  refine returnsInHanded_of_change_and (C := Tryd.checked) (X := fun w _ => laidMetH Tryd.prog Rows.bitmapNewsRow.laid w) (fun _ _ _ hh h => h.of_heap hh) own started (by kernel_rfl) Tryd.func3
    (ChangeSpec.witness_shaped (enc := enc) (C := Tryd.checked) (os := os) (X := fun w _ => laidMetH Tryd.prog Rows.bitmapNewsRow.laid w) false (World.doorLaid Tryd.prog 400 os) #[.int .u64 0, .int .i64 0, .int .i64 0] 8 rfl (World.shaped_of_RefB (by kernel_rfl) (by kernel_rfl)) (by kernel_rfl) (by kernel_rfl) (by kernel_rfl) (door_met os _)) ?_
  intro W base args ds gs before hval0 hW _ _ hL _
  have hval : ∀ (j : Nat) t v, Tryd.f3.params[j]? = some t → args[j]? = some v → Value.okWide Tryd.prog W .any base t v := hval0
  have hW' := hW
  obtain ⟨p, q, hA0, hV, rfl, hfz, hnd⟩ := hW
  have hA : DataW.TrodAll enc Tryd.prog W 0 (fun _ => true) true Tryd.f3.params.toList args.toList ds p := hA0
  rw [Tryd.params3] at hA hval
  obtain ⟨v0, vs0, d0, ds0, p0, q0, hargs, rfl, rfl, h0, r0⟩ := trodAll_cons hA
  obtain ⟨v1, vs1, d1, ds1, p1, q1, rfl, rfl, rfl, h1, r1⟩ := trodAll_cons r0
  obtain ⟨v2, vs2, d2, ds2, p2, q2, rfl, rfl, rfl, h2, r2⟩ := trodAll_cons r1
  obtain ⟨rfl, rfl, rfl⟩ := trodAll_nil r2
  obtain rfl : args = #[v0, v1, v2] := by cases args; simp_all
  obtain ⟨rfl, rfl⟩ := trodVars_none hV
  obtain ⟨a0, rfl, rfl, rfl, w0⟩ := open_int Tryd.underlying22 (hval 0 22 v0 rfl rfl) h0
  obtain ⟨a1, rfl, rfl, rfl, w1⟩ := open_int Tryd.underlying3 (hval 1 3 v1 rfl rfl) h1
  obtain ⟨a2, rfl, rfl, rfl, w2⟩ := open_int Tryd.underlying3 (hval 2 3 v2 rfl rfl) h2
  have hT := tab_of hL
  clear hA0 hval0
  refine (walk a0 a1 a2 W w0 w1 w2 hT).mono fun e W' ⟨he, bel⟩ => ?_
  subst he
  exact ⟨_, rfl, _, _, _, [], _, [], hW', trodAll_mk1 (shut_bool Tryd.underlying4 _), (trodAll_cons_mk (shut_int Tryd.underlying22 w0) (trodAll_cons_mk (shut_int Tryd.underlying3 w1) (trodAll_cons_mk (shut_int Tryd.underlying3 w2) trodAll_mk0))), rfl, bel.frame _, fun h => by cases h⟩

theorem over : Rows.bitmapNewsRow.holds Tryd.pinned (OpenSpec.ofChange Rows.bitmapNewsSpec) :=
  OpenClaim.holds_of_wide 3 Tryd.f3 rfl rfl rfl rfl rfl rfl rfl ⟨rfl, rfl, rfl, rfl, rfl⟩ rfl rfl rfl rfl rfl (by kernel_rfl) Tryd.func3 (by kernel_rfl)
    (of_decide_eq_true (by kernel_rfl)) (by unfold Func.isWrapper; first | (rw [if_pos (by decide +kernel)]; kernel_rfl) | (rw [if_neg (by decide +kernel)]; exact ⟨rfl, rfl⟩))
    (fun os started H enc _ => lifted os started H enc)

/-- The card: the row, its listed variable tied to the text of the program. -/
theorem proved : Rows.BitmapNewsCardSaid :=
  Claim7.holds_tied_plain_at .later [] [.data] true (true, "d7fea8b7464b8eb0538f847a3aaee3a43cd24ee3633f5fd47a89fd9ba8ea7cde") false
    over (fun _ h => by cases h) (by kernel_rfl) (fun _ h => by cases h) bitmapNews_row_tie rfl ⟨rfl, rfl⟩ (by kernel_rfl) rfl
    (fun f fn hf hfn => by
      obtain rfl : f = 3 := Option.some.inj ((show Tryd.prog.funcNamed "rillmeter/rillmeterlaw13.BitmapNews" = some 3 by kernel_rfl).symm.trans hf) |>.symm
      obtain rfl : fn = Tryd.f3 := (Option.some.inj (Tryd.func3.symm.trans hfn)).symm
      exact ⟨by kernel_rfl, fun j t ht => by
        rw [Tryd.params3] at ht
        have hm : t ∈ [22, 3, 3] := by simpa using Array.mem_of_getElem? ht
        have hall : ([22, 3, 3].all fun u => !Tryd.prog.wantsStandIn u) = true := by kernel_rfl
        exact (show Tryd.prog.wantsStandIn t = false by simpa using List.all_eq_true.1 hall t hm)⟩)
    (by kernel_rfl)
end Go.Proofs.YtkfhofgmjhnknaaDoor.bitmapNews
namespace Go.Proofs.YtkfhofgmjhnknaaDoor
theorem bitmapNews_holds : Rows.BitmapNewsCardSaid := bitmapNews.proved
#print axioms bitmapNews_holds
end Go.Proofs.YtkfhofgmjhnknaaDoor
