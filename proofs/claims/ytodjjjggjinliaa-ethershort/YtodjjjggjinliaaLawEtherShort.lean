/-
  For any bytes, at most 4096, and any number: of the frame at their beginning, cut within its head, nothing is told but that it is short. No condition.
-/
import Derived.Test.YtodjjjggjinliaaRows
import Derived.Test.YtodjjjggjinliaaEthAwake
import Derived.WalkKit
import Derived.ProofKit
import Derived.OpenShut
import Derived.ShutString
import Derived.ChangeOld
import Derived.ChangeMaps5
import Derived.Below
import Derived.Carry
namespace Go.Proofs.Ytodjjjggjinliaa.etherShort
open Oc Et Go.Deep
open Go.ChangeShapes Go.WideShapes Go.ChangeAt Go.RowKit Go.ChangeMaps
set_option linter.unusedVariables false

theorem own : ownKnob Try.prog.godebug = none := by kernel_rfl

set_option maxHeartbeats 3200000 in
theorem walk (s : ByteArray) (cut : Int) (w : World) (ws : s.size ≤ maxLen) (wc : (Lit.int .i64 cut).wf = true) :
    Calls Try.prog 7 #[.string s, .int .i64 cut] w fun e w' => e = .returned (.bool true) ∧ Below w.heap.size w w' := by
  obtain ⟨c0, c1⟩ := bounds_i64 wc
  clear wc
  obtain ⟨l, rfl⟩ : ∃ l, s = bsL l := ⟨_, bsL_of s⟩
  rw [bsL_size] at ws
  by_cases h : 4096 < l.length
  · go_enter Try.func7, Try.ntmps7
    go_wp2_with fail
    refine (awake_any _).mono ?_
    rintro e u1 ⟨rfl, b1⟩
    go_wp2_with fail
    go_ret
    exact ⟨rfl, b1⟩
  by_cases he : takeE l = 0
  rotate_left
  · have q0 : ((takeE l : Int) != 0) = true := by simp; omega
    clear he
    go_enter Try.func7, Try.ntmps7
    go_wp2_with fail
    refine (etake_any _ l (by omega)).mono ?_
    rintro e u1 ⟨x1, rfl, fx1, b1⟩
    have HX1 : Hid (∀ w' : World, Keep u1 w' → FrameAt w' x1 (frOf (l))) := fun w' k => fx1.keep k
    obtain ⟨v1, rfl, tv1⟩ := fx1
    obtain ⟨A1, cp1, rfl⟩ := tv1.form
    clear tv1
    go_wp2_with fail
    refine (awake_any _).mono ?_
    rintro e u2 ⟨rfl, b2⟩
    go_wp2_with fail
    go_ret
    exact ⟨rfl, bel_trans (bel_trans b1 ((Below.refl _ _).alloc (Nat.le_refl _) _)) b2⟩
  have q0 : ((takeE l : Int) != 0) = false := by simp; omega
  have HZ : Hid (takeE l = 0) := he
  clear he
  by_cases hc : cut < 0
  · go_enter Try.func7, Try.ntmps7
    go_wp2_with fail
    refine (etake_any _ l (by omega)).mono ?_
    rintro e u1 ⟨x1, rfl, fx1, b1⟩
    have HX1 : Hid (∀ w' : World, Keep u1 w' → FrameAt w' x1 (frOf (l))) := fun w' k => fx1.keep k
    obtain ⟨v1, rfl, tv1⟩ := fx1
    obtain ⟨A1, cp1, rfl⟩ := tv1.form
    clear tv1
    go_wp2_with fail
    refine (awake_any _).mono ?_
    rintro e u2 ⟨rfl, b2⟩
    go_wp2_with fail
    go_ret
    exact ⟨rfl, bel_trans (bel_trans b1 ((Below.refl _ _).alloc (Nat.le_refl _) _)) b2⟩
  obtain ⟨c, rfl⟩ : ∃ c : Nat, cut = c := ⟨cut.toNat, by omega⟩
  have rl : (restOf l).length ≤ l.length := by
    have e := congrArg List.length (right_of HZ.out).2
    rw [List.length_append] at e
    omega
  by_cases hd : (l.length : Int) - (restOf l).length ≤ c
  · go_enter Try.func7, Try.ntmps7
    go_wp2_with fail
    refine (etake_any _ l (by omega)).mono ?_
    rintro e u1 ⟨x1, rfl, fx1, b1⟩
    have HX1 : Hid (∀ w' : World, Keep u1 w' → FrameAt w' x1 (frOf (l))) := fun w' k => fx1.keep k
    obtain ⟨v1, rfl, tv1⟩ := fx1
    obtain ⟨A1, cp1, rfl⟩ := tv1.form
    clear tv1
    go_wp2_with fail
    refine (awake_any _).mono ?_
    rintro e u2 ⟨rfl, b2⟩
    go_wp2_with fail
    go_ret
    exact ⟨rfl, bel_trans (bel_trans b1 ((Below.refl _ _).alloc (Nat.le_refl _) _)) b2⟩
  have E2 : takeE (l.take c) = 2 := Et.cut_short HZ.out c (by omega)
  have HE : Hid (frOf (l.take c) = zeroFr ∧ restOf (l.take c) = [] ∧ takeE (l.take c) = 2) := ⟨(fr_err (by rw [E2]; decide)).1, (fr_err (by rw [E2]; decide)).2, E2⟩
  clear E2
  have cl : (c : Int) ≤ l.length := by omega
  have lt : (l.take c).length ≤ 1152921504606846976 := by simp; omega
  go_enter Try.func7, Try.ntmps7
  go_wp2_with fail
  refine (etake_any _ l (by omega)).mono ?_
  rintro e u1 ⟨x1, rfl, fx1, b1⟩
  have HX1 : Hid (∀ w' : World, Keep u1 w' → FrameAt w' x1 (frOf (l))) := fun w' k => fx1.keep k
  obtain ⟨v1, rfl, tv1⟩ := fx1
  obtain ⟨A1, cp1, rfl⟩ := tv1.form
  clear tv1
  have B1 : Hid (Below u1.heap.size u1 (u1.alloc (.cells #[.string (bsL (frOf (l)).d), .string (bsL (frOf (l)).s), .slice A1 (frOf (l)).n cp1, .int .i64 (frOf (l)).T] 25))) := (Below.refl _ _).alloc (Nat.le_refl _) _
  go_wp2_with fail
  refine (etake_any _ (l.take c) (by exact lt)).mono ?_
  rintro e u2 ⟨x2, rfl, fx2, b2⟩
  rw [HE.out.1] at fx2
  rw [HE.out.2.1, HE.out.2.2]
  have HX2 : Hid (∀ w' : World, Keep u2 w' → FrameAt w' x2 zeroFr) := fun w' k => fx2.keep k
  obtain ⟨v2, rfl, tv2⟩ := fx2
  obtain ⟨A2, cp2, rfl⟩ := tv2.form
  clear tv2
  have B2 : Hid (Below u2.heap.size u2 (u2.alloc (.cells #[.string ⟨#[]⟩, .string ⟨#[]⟩, .slice A2 0 cp2, .int .i64 0] 25))) := (Below.refl _ _).alloc (Nat.le_refl _) _
  change Hid (∀ w' : World, Keep u2 w' → FrameAt w' (.agg #[.string ⟨#[]⟩, .string ⟨#[]⟩, .slice A2 0 cp2, .int .i64 0]) zeroFr) at HX2
  rw [show bsL [] = ⟨#[]⟩ from rfl]
  go_wp2_with fail
  refine (ref_any _ _ zeroFr (HX2.out _ (keep_of_below B2.out)) (by decide)).mono ?_
  rintro e q1 ⟨y1, rfl, fy, c1⟩
  have HY : Hid (FrameAt q1 y1 zeroFr) := fy
  clear fy
  go_wp2_with fail
  refine (equal_any _ _ _ zeroFr HY.out (zero_at _) (by decide)).mono ?_
  rintro e q2 ⟨rfl, c2⟩
  go_wp2_with fail
  refine (awake_any _).mono ?_
  rintro e q3 ⟨rfl, c3⟩
  go_wp2_with fail
  go_ret
  exact ⟨rfl, bel_trans (bel_trans (bel_trans (bel_trans (bel_trans (bel_trans b1 B1.out) b2) B2.out) c1) c2) c3⟩

/-! ### The row -/
theorem laidOut : laidOutB Try.prog = true := by kernel_rfl
set_option maxRecDepth 100000 in
theorem lifted (os : Os) (started : os.Started) (H : Type) (enc : TypeId × Value → H) :
    ReturnsInHanded {} Try.checked os 7 .any (Rows.etherShortSpec.pre6 enc Try.prog Try.f7 Rows.etherShortRow.domain false) (Rows.etherShortSpec.post enc Try.prog Try.f7 false true false false) := by
  refine returnsInHanded_of_change (C := Try.checked) own started (by kernel_rfl) Try.func7
    (ChangeSpec.witness6 (enc := enc) (C := Try.checked) false ⟨#[], #[.string ⟨#[]⟩, .int .i64 0], []⟩ 8 (by kernel_rfl) (by kernel_rfl) (by kernel_rfl) (by kernel_rfl)) ?_
  intro W base args ds gs before hval0 hW hcnd _
  have hval : ∀ (j : Nat) t v, Try.f7.params[j]? = some t → args[j]? = some v → Value.okWide Try.prog W .any base t v := hval0
  have hW' := hW
  obtain ⟨p, q, hA0, hV, rfl, hfz, hnd⟩ := hW
  have hA : DataW.TrodAll enc Try.prog W 0 (fun _ => true) true Try.f7.params.toList args.toList ds p := hA0
  rw [Try.params7] at hA hval
  obtain ⟨v0, vs0, d0, ds0, p0, q0, hargs, rfl, rfl, h0, r0⟩ := trodAll_cons hA
  obtain ⟨v1, vs1, d1, ds1, p1, q1, rfl, rfl, rfl, h1, r1⟩ := trodAll_cons r0
  obtain ⟨rfl, rfl, rfl⟩ := trodAll_nil r1
  obtain rfl : args = #[v0, v1] := by cases args; simp_all
  obtain ⟨rfl, rfl⟩ := trodVars_none hV
  obtain ⟨a0, rfl, rfl, rfl, w0⟩ := open_string Try.underlying9 (hval 0 9 v0 rfl rfl) h0
  obtain ⟨a1, rfl, rfl, rfl, w1⟩ := open_int Try.underlying3 (hval 1 3 v1 rfl rfl) h1
  clear hA0 hval0
  refine (walk a0 a1 W w0 w1).mono fun e W' ⟨he, bel⟩ => ?_
  subst he
  exact ⟨_, rfl, _, _, _, [], _, [], hW', trodAll_mk1 (shut_bool Try.underlying4 _), (trodAll_cons_mk (shut_string Try.underlying9 w0) (trodAll_cons_mk (shut_int Try.underlying3 w1) trodAll_mk0)), rfl, bel.frame _, fun h => by cases h⟩

theorem over : Rows.etherShortRow.holds Try.pinned (OpenSpec.ofChange Rows.etherShortSpec) :=
  OpenClaim.holds_of_wide 7 Try.f7 rfl rfl rfl rfl rfl rfl rfl ⟨rfl, rfl, rfl, rfl, rfl⟩ rfl rfl rfl rfl rfl (by kernel_rfl) Try.func7 (by kernel_rfl)
    (of_decide_eq_true (by kernel_rfl)) (by unfold Func.isWrapper; first | (rw [if_pos (by decide +kernel)]; kernel_rfl) | (rw [if_neg (by decide +kernel)]; exact ⟨rfl, rfl⟩))
    (fun os started H enc _ => lifted os started H enc)

theorem proved : Rows.EtherShortSaid := over
end Go.Proofs.Ytodjjjggjinliaa.etherShort
namespace Go.Proofs.Ytodjjjggjinliaa
theorem etherShort_holds : Rows.EtherShortSaid := etherShort.proved
#print axioms etherShort_holds
end Go.Proofs.Ytodjjjggjinliaa
