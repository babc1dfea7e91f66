
/-
  SignedNews: a sketch of any numbers is told as the document says, or refused. No condition.
-/
import Derived.Test.YtpjpgcjlbfgkdaaRows
import Derived.Test.YtpjpgcjlbfgkdaaSgnAwake
import Derived.Test.YtpjpgcjlbfgkdaaSgnRef
import Derived.Test.YtpjpgcjlbfgkdaaRegKit
import Derived.WalkKit
import Derived.ProofKit
import Derived.OpenShut
import Derived.ShutString
import Derived.ChangeOld
import Derived.ChangeMaps5
import Derived.Below
import Derived.Carry
import Derived.Laws.StructEq
namespace Go.Proofs.Ytpjpgcjlbfgkdaa.signedNews
open Fm Bl Sg L2 Go.Deep
open Go.ChangeShapes Go.WideShapes Go.ChangeAt Go.RowKit Go.ChangeMaps
set_option linter.unusedVariables false

theorem own : ownKnob Try.prog.godebug = none := by kernel_rfl

set_option maxRecDepth 8000 in
set_option maxHeartbeats 3200000 in
theorem walk (a0 a1 a2 : Int) (w : World) (w0 : (Lit.int .u64 a0).wf = true) (w1 : (Lit.int .i64 a1).wf = true) (w2 : (Lit.int .i64 a2).wf = true) :
    Calls Try.prog 3 #[.int .u64 a0, .int .i64 a1, .int .i64 a2] w fun e w' => e = .returned (.bool true) ∧ Below w.heap.size w w' := by
  have uS : U a0 := bounds_u64 w0
  by_cases hf : fitsS a1 a2 = true
  rotate_left
  · have BEL0 : Hid (Below w.heap.size w w) := Below.refl _ _
    have BOX0 : Hid (Boxes w w []) := boxes_none w w
    have hff : fitsS a1 a2 = false := by simpa using hf
    have hN := hf
    rw [fitsS_iff] at hN
    have HN : Hid (¬ (1 ≤ a1 ∧ a1 ≤ 7 ∧ a1 % 2 = 1 ∧ 1 ≤ a2 ∧ a2 ≤ 256)) := hN
    clear hN hf
    go_enter Try.func3, Try.ntmps3
    go_wp2_with fail
    refine (gnew_bad a0 a1 a2 _ hff).mono ?_
    rintro e ww1 ⟨rfl, b1⟩
    have BEL1 := h_bel BEL0 b1
    have BOX1 := h_box BOX0 b1
    clear BEL0 BOX0
    clear b1
    clear hff
    have BEL2 := a_bel BEL1 (.cells #[.int .u64 0, .slice none 0 0] 25)
    have BOX2 := a_box BOX1 BEL1 (.cells #[.int .u64 0, .slice none 0 0] 25)
    have KB_f_2 := n_blk (u := ww1) 25 #[.int .u64 0, .slice none 0 0]
    clear BEL1 BOX1
    by_cases d0 : a1 < 1
    · go_wp2_with fail
      refine (gref_any _ _ 0 0 _ _ (sgAt_none _ (fun _ => 0) (fun _ _ => 0))).mono ?_
      rintro e ww2 ⟨rfl, b2⟩
      have BEL3 := h_bel BEL2 b2
      have BOX3 := h_box BOX2 b2
      have KB_f_3 := h_blk KB_f_2 b2
      clear BEL2 BOX2 KB_f_2
      clear b2
      go_wp2_with fail
      refine (hequal_any _ _ _ 0 0 0 0 _ _ _ _ (sgAt_none _ (fun _ => 0) (fun _ _ => 0)) (sgAt_none _ (fun _ => 0) (fun _ _ => 0)) (by omega) (fun i h => by omega)).mono ?_
      intro e ww3 h3
      obtain ⟨rfl, b3⟩ := told h3 true ⟨fun _ => ⟨rfl, rfl, fun i hi => by omega⟩, fun _ => rfl⟩
      clear h3
      have BEL4 := h_bel BEL3 b3
      have BOX4 := h_box BOX3 b3
      have KB_f_4 := h_blk KB_f_3 b3
      clear BEL3 BOX3 KB_f_3
      clear b3
      go_wp2_with fail
      refine (gawake_any _).mono ?_
      rintro e ww99 ⟨rfl, b9⟩
      have BEL5 := h_bel BEL4 b9
      have BOX5 := h_box BOX4 b9
      have KB_f_5 := h_blk KB_f_4 b9
      clear BEL4 BOX4 KB_f_4
      clear b9
      go_wp2_with fail
      go_ret
      exact ⟨rfl, BEL5.out⟩
    by_cases d1 : a1 > 7
    · go_wp2_with fail
      refine (gref_any _ _ 0 0 _ _ (sgAt_none _ (fun _ => 0) (fun _ _ => 0))).mono ?_
      rintro e ww2 ⟨rfl, b2⟩
      have BEL3 := h_bel BEL2 b2
      have BOX3 := h_box BOX2 b2
      have KB_f_3 := h_blk KB_f_2 b2
      clear BEL2 BOX2 KB_f_2
      clear b2
      go_wp2_with fail
      refine (hequal_any _ _ _ 0 0 0 0 _ _ _ _ (sgAt_none _ (fun _ => 0) (fun _ _ => 0)) (sgAt_none _ (fun _ => 0) (fun _ _ => 0)) (by omega) (fun i h => by omega)).mono ?_
      intro e ww3 h3
      obtain ⟨rfl, b3⟩ := told h3 true ⟨fun _ => ⟨rfl, rfl, fun i hi => by omega⟩, fun _ => rfl⟩
      clear h3
      have BEL4 := h_bel BEL3 b3
      have BOX4 := h_box BOX3 b3
      have KB_f_4 := h_blk KB_f_3 b3
      clear BEL3 BOX3 KB_f_3
      clear b3
      go_wp2_with fail
      refine (gawake_any _).mono ?_
      rintro e ww99 ⟨rfl, b9⟩
      have BEL5 := h_bel BEL4 b9
      have BOX5 := h_box BOX4 b9
      have KB_f_5 := h_blk KB_f_4 b9
      clear BEL4 BOX4 KB_f_4
      clear b9
      go_wp2_with fail
      go_ret
      exact ⟨rfl, BEL5.out⟩
    by_cases d2 : (a1 % 2 == 0) = true
    · go_wp2_with fail
      refine (gref_any _ _ 0 0 _ _ (sgAt_none _ (fun _ => 0) (fun _ _ => 0))).mono ?_
      rintro e ww2 ⟨rfl, b2⟩
      have BEL3 := h_bel BEL2 b2
      have BOX3 := h_box BOX2 b2
      have KB_f_3 := h_blk KB_f_2 b2
      clear BEL2 BOX2 KB_f_2
      clear b2
      go_wp2_with fail
      refine (hequal_any _ _ _ 0 0 0 0 _ _ _ _ (sgAt_none _ (fun _ => 0) (fun _ _ => 0)) (sgAt_none _ (fun _ => 0) (fun _ _ => 0)) (by omega) (fun i h => by omega)).mono ?_
      intro e ww3 h3
      obtain ⟨rfl, b3⟩ := told h3 true ⟨fun _ => ⟨rfl, rfl, fun i hi => by omega⟩, fun _ => rfl⟩
      clear h3
      have BEL4 := h_bel BEL3 b3
      have BOX4 := h_box BOX3 b3
      have KB_f_4 := h_blk KB_f_3 b3
      clear BEL3 BOX3 KB_f_3
      clear b3
      go_wp2_with fail
      refine (gawake_any _).mono ?_
      rintro e ww99 ⟨rfl, b9⟩
      have BEL5 := h_bel BEL4 b9
      have BOX5 := h_box BOX4 b9
      have KB_f_5 := h_blk KB_f_4 b9
      clear BEL4 BOX4 KB_f_4
      clear b9
      go_wp2_with fail
      go_ret
      exact ⟨rfl, BEL5.out⟩
    have d2f : (a1 % 2 == 0) = false := by simpa using d2
    have D2 : Hid (a1 % 2 ≠ 0) := (by simpa using d2 : a1 % 2 ≠ 0)
    clear d2
    by_cases d3 : a2 < 1
    · go_wp2_with fail
      refine (gref_any _ _ 0 0 _ _ (sgAt_none _ (fun _ => 0) (fun _ _ => 0))).mono ?_
      rintro e ww2 ⟨rfl, b2⟩
      have BEL3 := h_bel BEL2 b2
      have BOX3 := h_box BOX2 b2
      have KB_f_3 := h_blk KB_f_2 b2
      clear BEL2 BOX2 KB_f_2
      clear b2
      go_wp2_with fail
      refine (hequal_any _ _ _ 0 0 0 0 _ _ _ _ (sgAt_none _ (fun _ => 0) (fun _ _ => 0)) (sgAt_none _ (fun _ => 0) (fun _ _ => 0)) (by omega) (fun i h => by omega)).mono ?_
      intro e ww3 h3
      obtain ⟨rfl, b3⟩ := told h3 true ⟨fun _ => ⟨rfl, rfl, fun i hi => by omega⟩, fun _ => rfl⟩
      clear h3
      have BEL4 := h_bel BEL3 b3
      have BOX4 := h_box BOX3 b3
      have KB_f_4 := h_blk KB_f_3 b3
      clear BEL3 BOX3 KB_f_3
      clear b3
      go_wp2_with fail
      refine (gawake_any _).mono ?_
      rintro e ww99 ⟨rfl, b9⟩
      have BEL5 := h_bel BEL4 b9
      have BOX5 := h_box BOX4 b9
      have KB_f_5 := h_blk KB_f_4 b9
      clear BEL4 BOX4 KB_f_4
      clear b9
      go_wp2_with fail
      go_ret
      exact ⟨rfl, BEL5.out⟩
    have d4 : a2 > 256 := by have := HN.out; have := D2.out; omega
    go_wp2_with fail
    refine (gref_any _ _ 0 0 _ _ (sgAt_none _ (fun _ => 0) (fun _ _ => 0))).mono ?_
    rintro e ww2 ⟨rfl, b2⟩
    have BEL3 := h_bel BEL2 b2
    have BOX3 := h_box BOX2 b2
    have KB_f_3 := h_blk KB_f_2 b2
    clear BEL2 BOX2 KB_f_2
    clear b2
    go_wp2_with fail
    refine (hequal_any _ _ _ 0 0 0 0 _ _ _ _ (sgAt_none _ (fun _ => 0) (fun _ _ => 0)) (sgAt_none _ (fun _ => 0) (fun _ _ => 0)) (by omega) (fun i h => by omega)).mono ?_
    intro e ww3 h3
    obtain ⟨rfl, b3⟩ := told h3 true ⟨fun _ => ⟨rfl, rfl, fun i hi => by omega⟩, fun _ => rfl⟩
    clear h3
    have BEL4 := h_bel BEL3 b3
    have BOX4 := h_box BOX3 b3
    have KB_f_4 := h_blk KB_f_3 b3
    clear BEL3 BOX3 KB_f_3
    clear b3
    go_wp2_with fail
    refine (gawake_any _).mono ?_
    rintro e ww99 ⟨rfl, b9⟩
    have BEL5 := h_bel BEL4 b9
    have BOX5 := h_box BOX4 b9
    have KB_f_5 := h_blk KB_f_4 b9
    clear BEL4 BOX4 KB_f_4
    clear b9
    go_wp2_with fail
    go_ret
    exact ⟨rfl, BEL5.out⟩
  have BEL0 : Hid (Below w.heap.size w w) := Below.refl _ _
  have BOX0 : Hid (Boxes w w []) := boxes_none w w
  have hR := (fitsS_iff _ _).1 hf
  obtain ⟨R, rfl⟩ : ∃ R : Nat, a1 = R := ⟨a1.toNat, by omega⟩
  obtain ⟨n, rfl⟩ : ∃ n : Nat, a2 = n := ⟨a2.toNat, by omega⟩
  have r1 : 1 ≤ R := by omega
  have r2 : R ≤ 7 := by omega
  have n1 : 1 ≤ n := by omega
  have n2 : n ≤ 256 := by omega
  have d0 : ¬ (R : Int) < 1 := by omega
  have d1 : ¬ (R : Int) > 7 := by omega
  have d2 : ((R : Int) % 2 == 0) = false := by simp; omega
  have d3 : ¬ (n : Int) < 1 := by omega
  have d4 : ¬ (n : Int) > 256 := by omega
  have d6 : (0 : Int) < (R : Int) := by omega
  have OK : Hid (OkG R n (fun _ _ => 0)) := okG_none hf
  clear hR
  go_enter Try.func3, Try.ntmps3
  go_wp2_with fail
  refine (gnew_ok a0 R n _ hf).mono ?_
  rintro e ww1 ⟨x1, rfl, f1, b1⟩
  obtain ⟨vf, rfl, hvf⟩ := f1.at
  obtain ⟨Af, cf, bbf, oof, rfl, hx1, hx2⟩ := hvf.read
  clear hx1 hx2 hvf
  have FA_f_1 : Hid (HeldX [] (fun uq => SgAt uq (.agg #[.int .u64 a0, .slice Af R cf]) a0 R (fun _ => n) (fun _ _ => 0)) ww1) := Held.new f1 BOX0.out
  have BEL1 := h_bel BEL0 b1
  have BOX1 := h_box BOX0 b1
  clear BEL0 BOX0
  clear b1 f1
  clear hf
  have BEL2 := a_bel BEL1 (.cells #[.int .u64 a0, .slice Af R cf] 25)
  have BOX2 := a_box BOX1 BEL1 (.cells #[.int .u64 a0, .slice Af R cf] 25)
  have FA_f_2 := a_fact FA_f_1 (.cells #[.int .u64 a0, .slice Af R cf] 25)
  have KB_f_2 := n_blk (u := ww1) 25 #[.int .u64 a0, .slice Af R cf]
  clear BEL1 BOX1 FA_f_1
  obtain ⟨vg, eg, hg⟩ := FA_f_2.out.at
  cases eg
  obtain ⟨Ag, cg, bq, oq, eg, hx1, hr⟩ := hg.read
  cases eg
  obtain ⟨rfl, A0, cap0, b0, o0, c0, _⟩ := hr 0 r1
  rw [Nat.add_zero] at c0
  clear hx1 hr hg
  go_wp2_with fail
  refine (gref_any _ _ a0 R _ _ FA_f_2.out.at).mono ?_
  rintro e ww2 ⟨rfl, b2⟩
  have BEL3 := h_bel BEL2 b2
  have BOX3 := h_box BOX2 b2
  have FA_f_3 := h_fact FA_f_2 b2
  have KB_f_3 := h_blk KB_f_2 b2
  clear BEL2 BOX2 FA_f_2 KB_f_2
  clear b2
  clear c0
  go_wp2_with fail
  refine (hright_any _ _ a0 R _ _ FA_f_3.out.at (fun i h => by omega)).mono ?_
  intro e ww3 h3
  obtain ⟨rfl, b3⟩ := told h3 true ⟨fun _ => OK.out.right, fun _ => rfl⟩
  clear h3
  have BEL4 := h_bel BEL3 b3
  have BOX4 := h_box BOX3 b3
  have FA_f_4 := h_fact FA_f_3 b3
  have KB_f_4 := h_blk KB_f_3 b3
  clear BEL3 BOX3 FA_f_3 KB_f_3
  clear b3
  have RW : Hid (RowsCells ww3 (some ⟨bq, oq, none⟩) R bq oq (fun _ => n) (fun _ _ => 0)) := by
    obtain ⟨vg, eg, hg⟩ := FA_f_4.out.at
    cases eg
    obtain ⟨Ag, cg, bx, ox, eg, hx1, hr⟩ := hg.read
    cases eg
    have e0 := (hr 0 r1).1
    cases e0
    exact hr
  have CE_f_0 : ww3.cell? ⟨ww1.heap.size, 0, none⟩ = some (.int .u64 a0) := KB_f_4.out.cell 0
  have CE_f_1 : ww3.cell? ⟨ww1.heap.size, 1, none⟩ = some (.slice (some ⟨bq, oq, none⟩) R cf) := KB_f_4.out.cell 1
  have CE_f_lt : ww1.heap.size < ww3.heap.size := KB_f_4.out.lt
  go_wp2_with fail
  clear CE_f_0 CE_f_1 CE_f_lt
  go_loopg [78] R (fun gk i wr => ∃ k : Nat, (gk = R - k ∧ k ≤ R ∧ Below ww3.heap.size ww3 wr) ∧ i = .int .i64 (k : Int))
  case atStart => exact ⟨0, ⟨rfl, by omega, Below.refl _ _⟩, rfl⟩
  case round =>
    obtain ⟨k, ⟨hg, hk, hb⟩, rfl⟩ := hrel
    have HK : Hid (gk = R - k ∧ Below ww3.heap.size ww3 wr) := ⟨hg, hb⟩
    have x2 : wr.cell? ⟨ww1.heap.size, 1, none⟩ = some (.slice (some ⟨bq, oq, none⟩) R cf) := (KB_f_4.out.since hb).cell 1
    by_cases hlt : k < R
    · obtain ⟨_, A', cap', b', o', ck, lk, fk, gk'⟩ := RW.out k hlt
      obtain rfl := fk (by show 0 < n; omega)
      have G2 : Hid (∀ j, j < n → ww3.cell? ⟨b', o' + j, none⟩ = some (.int .i64 0)) := gk'
      have ck := keep_of_below hb _ _ ck
      have bk : (k : Int) < (R : Int) := by omega
      have bk0 : (0 : Int) ≤ (k : Int) := by omega
      clear hg hb lk fk gk'
      go_wp2_with fail
      go_loopg [87] n (fun gj i wi => ∃ c : Nat, (gj = n - c ∧ c ≤ n ∧ Below ww3.heap.size ww3 wi) ∧ i = .int .i64 (c : Int))
      case atStart => exact ⟨0, ⟨rfl, by omega, HK.out.2⟩, rfl⟩
      case round =>
        clear x2 ck
        obtain ⟨c, ⟨hg, hc, hb⟩, rfl⟩ := hrel
        have HJ : Hid (gk = n - c ∧ Below ww3.heap.size ww3 wr) := ⟨hg, hb⟩
        by_cases hcl : c < n
        · have cc := keep_of_below hb _ _ (G2.out c hcl)
          have bc : (c : Int) < (n : Int) := by omega
          clear hg hb
          go_wp2_with fail
          go_roundg (n - (c + 1))
          case measure => have := HJ.out.1; omega
          case rel => exact ⟨c + 1, ⟨rfl, by omega, HJ.out.2⟩, by go_num⟩
        · have bc : ¬ (c : Int) < (n : Int) := by omega
          clear hg hb
          go_wp2_with fail
          go_roundg (R - (k + 1))
          case measure => have := HK.out.1; omega
          case rel => exact ⟨k + 1, ⟨rfl, by omega, HJ.out.2⟩, by go_num⟩
    · have bk : ¬ (k : Int) < (R : Int) := by omega
      clear hg hb x2
      go_wp2_with fail
      refine (gawake_any _).mono ?_
      rintro e ww9 ⟨rfl, b9⟩
      go_wp2_with fail
      go_ret
      exact ⟨rfl, bel_trans (bel_trans BEL4.out HK.out.2) b9⟩

/-! ### The row -/
theorem laidOut : laidOutB Try.prog = true := by kernel_rfl
set_option maxRecDepth 100000 in
theorem lifted (os : Os) (started : os.Started) (H : Type) (enc : TypeId × Value → H) :
    ReturnsInHanded {} Try.checked os 3 .any (Rows.signedNewsSpec.pre6 enc Try.prog Try.f3 Rows.signedNewsRow.domain false) (Rows.signedNewsSpec.post enc Try.prog Try.f3 false true false false) := by
  refine returnsInHanded_of_change (C := Try.checked) own started (by kernel_rfl) Try.func3
    (ChangeSpec.witness6 (enc := enc) (C := Try.checked) false ⟨#[], #[.int .u64 0, .int .i64 0, .int .i64 0], []⟩ 8 (by kernel_rfl) (by kernel_rfl) (by kernel_rfl) (by kernel_rfl)) ?_
  intro W base args ds gs before hval0 hW hcnd _
  have hval : ∀ (j : Nat) t v, Try.f3.params[j]? = some t → args[j]? = some v → Value.okWide Try.prog W .any base t v := hval0
  have hW' := hW
  obtain ⟨p, q, hA0, hV, rfl, hfz, hnd⟩ := hW
  have hA : DataW.TrodAll enc Try.prog W 0 (fun _ => true) true Try.f3.params.toList args.toList ds p := hA0
  rw [Try.params3] at hA hval
  obtain ⟨v0, vs0, d0, ds0, p0, q0, hargs, rfl, rfl, h0, r0⟩ := trodAll_cons hA
  obtain ⟨v1, vs1, d1, ds1, p1, q1, rfl, rfl, rfl, h1, r1⟩ := trodAll_cons r0
  obtain ⟨v2, vs2, d2, ds2, p2, q2, rfl, rfl, rfl, h2, r2⟩ := trodAll_cons r1
  obtain ⟨rfl, rfl, rfl⟩ := trodAll_nil r2
  obtain rfl : args = #[v0, v1, v2] := by cases args; simp_all
  obtain ⟨rfl, rfl⟩ := trodVars_none hV
  obtain ⟨a0, rfl, rfl, rfl, w0⟩ := open_int Try.underlying22 (hval 0 22 v0 rfl rfl) h0
  obtain ⟨a1, rfl, rfl, rfl, w1⟩ := open_int Try.underlying3 (hval 1 3 v1 rfl rfl) h1
  obtain ⟨a2, rfl, rfl, rfl, w2⟩ := open_int Try.underlying3 (hval 2 3 v2 rfl rfl) h2
  clear hA0 hval0
  refine (walk a0 a1 a2 W w0 w1 w2).mono fun e W' ⟨he, bel⟩ => ?_
  subst he
  exact ⟨_, rfl, _, _, _, [], _, [], hW', trodAll_mk1 (shut_bool Try.underlying4 _), (trodAll_cons_mk (shut_int Try.underlying22 w0) (trodAll_cons_mk (shut_int Try.underlying3 w1) (trodAll_cons_mk (shut_int Try.underlying3 w2) trodAll_mk0))), rfl, bel.frame _, fun h => by cases h⟩

theorem over : Rows.signedNewsRow.holds Try.pinned (OpenSpec.ofChange Rows.signedNewsSpec) :=
  OpenClaim.holds_of_wide 3 Try.f3 rfl rfl rfl rfl rfl rfl rfl ⟨rfl, rfl, rfl, rfl, rfl⟩ rfl rfl rfl rfl rfl (by kernel_rfl) Try.func3 (by kernel_rfl)
    (of_decide_eq_true (by kernel_rfl)) (by unfold Func.isWrapper; first | (rw [if_pos (by decide +kernel)]; kernel_rfl) | (rw [if_neg (by decide +kernel)]; exact ⟨rfl, rfl⟩))
    (fun os started H enc _ => lifted os started H enc)

theorem proved : Rows.SignedNewsSaid := over
end Go.Proofs.Ytpjpgcjlbfgkdaa.signedNews
namespace Go.Proofs.Ytpjpgcjlbfgkdaa
theorem signedNews_holds : Rows.SignedNewsSaid := signedNews.proved
#print axioms signedNews_holds
end Go.Proofs.Ytpjpgcjlbfgkdaa
