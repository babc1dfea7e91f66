/-
  For any bytes, at most 4096, the frame that is taken at their beginning is written as it stood there; or nothing is told of it. No condition.
-/
import Derived.Test.YtodjjjggjinliaaRows
import Derived.Test.YtodjjjggjinliaaEthAwake
import Derived.WalkKit
import Derived.ProofKit
import Derived.OpenShut
import Derived.ShutString
import Derived.ChangeOld
import Derived.ChangeMaps5
import Derived.Below
import Derived.Carry
namespace Go.Proofs.Ytodjjjggjinliaa.etherBack
open Oc Et Go.Deep
open Go.ChangeShapes Go.WideShapes Go.ChangeAt Go.RowKit Go.ChangeMaps
set_option linter.unusedVariables false

theorem own : ownKnob Try.prog.godebug = none := by kernel_rfl

set_option maxHeartbeats 3200000 in
theorem walk (s : ByteArray) (w : World) (ws : s.size ≤ maxLen) :
    Calls Try.prog 5 #[.string s] w fun e w' => e = .returned (.bool true) ∧ Below w.heap.size w w' := by
  obtain ⟨l, rfl⟩ : ∃ l, s = bsL l := ⟨_, bsL_of s⟩
  rw [bsL_size] at ws
  by_cases h : 4096 < l.length
  · go_enter Try.func5, Try.ntmps5
    go_wp2_with fail
    refine (awake_any _).mono ?_
    rintro e u1 ⟨rfl, b1⟩
    go_wp2_with fail
    go_ret
    exact ⟨rfl, b1⟩
  by_cases he : takeE l = 0
  rotate_left
  · obtain ⟨E, hE⟩ : ∃ E, E = takeE l := ⟨_, rfl⟩
    have HE : Hid (frOf l = zeroFr ∧ restOf l = [] ∧ takeE l = E) := ⟨(fr_err he).1, (fr_err he).2, hE.symm⟩
    have q0 : ((E : Int) != 0) = true := by simp; omega
    clear he hE
    go_enter Try.func5, Try.ntmps5
    go_wp2_with fail
    refine (etake_any _ (l) (by omega)).mono ?_
    rintro e u1 ⟨x1, rfl, fx1, b1⟩
    rw [HE.out.1] at fx1
    rw [HE.out.2.1, HE.out.2.2]
    have HX1 : Hid (∀ w' : World, Keep u1 w' → FrameAt w' x1 zeroFr) := fun w' k => fx1.keep k
    obtain ⟨v1, rfl, tv1⟩ := fx1
    obtain ⟨A1, cp1, rfl⟩ := tv1.form
    clear tv1
    have B1 : Hid (Below u1.heap.size u1 (u1.alloc (.cells #[.string ⟨#[]⟩, .string ⟨#[]⟩, .slice A1 0 cp1, .int .i64 0] 25))) := (Below.refl _ _).alloc (Nat.le_refl _) _
    change Hid (∀ w' : World, Keep u1 w' → FrameAt w' (.agg #[.string ⟨#[]⟩, .string ⟨#[]⟩, .slice A1 0 cp1, .int .i64 0]) zeroFr) at HX1
    rw [show bsL [] = ⟨#[]⟩ from rfl]
    go_wp2_with fail
    refine (ref_any _ _ zeroFr (HX1.out _ (keep_of_below B1.out)) (by decide)).mono ?_
    rintro e q1 ⟨y1, rfl, fy, c1⟩
    have HY : Hid (FrameAt q1 y1 zeroFr) := fy
    clear fy
    go_wp2_with fail
    refine (equal_any _ _ _ zeroFr HY.out (zero_at _) (by decide)).mono ?_
    rintro e q2 ⟨rfl, c2⟩
    go_wp2_with fail
    refine (awake_any _).mono ?_
    rintro e q3 ⟨rfl, c3⟩
    go_wp2_with fail
    go_ret
    exact ⟨rfl, bel_trans (bel_trans (bel_trans (bel_trans b1 B1.out) c1) c2) c3⟩
  obtain ⟨r1, r2⟩ := right_of he
  have HR : Hid (RightP (frOf l) ∧ headL (frOf l) ++ restOf l = l ∧ takeE l = 0) := ⟨r1, r2, he⟩
  have rl : (restOf l).length ≤ 1000000 := by
    have e := congrArg List.length r2
    rw [List.length_append] at e
    omega
  have hn : (frOf l).n ≤ 1000000 := by have := fr_two l; omega
  clear r1 r2 he
  go_enter Try.func5, Try.ntmps5
  go_wp2_with fail
  refine (etake_any _ l (by omega)).mono ?_
  rintro e u1 ⟨x1, rfl, fx1, b1⟩
  have HX1 : Hid (∀ w' : World, Keep u1 w' → FrameAt w' x1 (frOf (l))) := fun w' k => fx1.keep k
  obtain ⟨v1, rfl, tv1⟩ := fx1
  obtain ⟨A1, cp1, rfl⟩ := tv1.form
  clear tv1
  rw [HR.out.2.2]
  have B1 : Hid (Below u1.heap.size u1 (u1.alloc (.cells #[.string (bsL (frOf (l)).d), .string (bsL (frOf (l)).s), .slice A1 (frOf (l)).n cp1, .int .i64 (frOf (l)).T] 25))) := (Below.refl _ _).alloc (Nat.le_refl _) _
  have S1 : Hid (Blk (u1.alloc (.cells #[.string (bsL (frOf (l)).d), .string (bsL (frOf (l)).s), .slice A1 (frOf (l)).n cp1, .int .i64 (frOf (l)).T] 25)) u1.heap.size 25 #[.string (bsL (frOf (l)).d), .string (bsL (frOf (l)).s), .slice A1 (frOf (l)).n cp1, .int .i64 (frOf (l)).T]) := Blk.new _ _ _
  go_wp2_with fail
  refine (eput_ok _ _ (frOf l) (restOf l) (HX1.out _ (keep_of_below B1.out)) HR.out.1 rl).mono ?_
  rintro e u2 ⟨rfl, b2⟩
  rw [HR.out.2.1]
  have S2 : Hid (Blk u2 u1.heap.size 25 #[.string (bsL (frOf (l)).d), .string (bsL (frOf (l)).s), .slice A1 (frOf (l)).n cp1, .int .i64 (frOf (l)).T]) := S1.out.below b2 S1.out.lt
  have KP : Hid (Keep u1 u2) := (keep_of_below B1.out).trans (keep_of_below b2)
  have p0 : u2.cell? ⟨u1.heap.size, 0, none⟩ = some (.string (bsL (frOf (l)).d)) := S2.out.cell 0
  have p1 : u2.cell? ⟨u1.heap.size, 1, none⟩ = some (.string (bsL (frOf (l)).s)) := S2.out.cell 1
  have p2 : u2.cell? ⟨u1.heap.size, 2, none⟩ = some (.slice A1 (frOf (l)).n cp1) := S2.out.cell 2
  have p3 : u2.cell? ⟨u1.heap.size, 3, none⟩ = some (.int .i64 (frOf (l)).T) := S2.out.cell 3
  go_wp2_with fail
  refine (right_any _ _ (frOf l) (HX1.out _ KP.out) hn).mono ?_
  rintro e u3 ⟨B, rfl, hB, b3⟩
  have eB : B = true := hB.2 HR.out.1
  subst eB
  clear hB
  go_wp2_with fail
  refine (awake_any _).mono ?_
  rintro e u4 ⟨rfl, b4⟩
  go_wp2_with fail
  go_ret
  exact ⟨rfl, bel_trans (bel_trans (bel_trans (bel_trans b1 B1.out) b2) b3) b4⟩

/-! ### The row -/
theorem laidOut : laidOutB Try.prog = true := by kernel_rfl
set_option maxRecDepth 100000 in
theorem lifted (os : Os) (started : os.Started) (H : Type) (enc : TypeId × Value → H) :
    ReturnsInHanded {} Try.checked os 5 .any (Rows.etherBackSpec.pre6 enc Try.prog Try.f5 Rows.etherBackRow.domain false) (Rows.etherBackSpec.post enc Try.prog Try.f5 false true false false) := by
  refine returnsInHanded_of_change (C := Try.checked) own started (by kernel_rfl) Try.func5
    (ChangeSpec.witness6 (enc := enc) (C := Try.checked) false ⟨#[], #[.string ⟨#[]⟩], []⟩ 8 (by kernel_rfl) (by kernel_rfl) (by kernel_rfl) (by kernel_rfl)) ?_
  intro W base args ds gs before hval0 hW hcnd _
  have hval : ∀ (j : Nat) t v, Try.f5.params[j]? = some t → args[j]? = some v → Value.okWide Try.prog W .any base t v := hval0
  have hW' := hW
  obtain ⟨p, q, hA0, hV, rfl, hfz, hnd⟩ := hW
  have hA : DataW.TrodAll enc Try.prog W 0 (fun _ => true) true Try.f5.params.toList args.toList ds p := hA0
  rw [Try.params5] at hA hval
  obtain ⟨v0, vs0, d0, ds0, p0, q0, hargs, rfl, rfl, h0, r0⟩ := trodAll_cons hA
  obtain ⟨rfl, rfl, rfl⟩ := trodAll_nil r0
  obtain rfl : args = #[v0] := by cases args; simp_all
  obtain ⟨rfl, rfl⟩ := trodVars_none hV
  obtain ⟨a0, rfl, rfl, rfl, w0⟩ := open_string Try.underlying9 (hval 0 9 v0 rfl rfl) h0
  clear hA0 hval0
  refine (walk a0 W w0).mono fun e W' ⟨he, bel⟩ => ?_
  subst he
  exact ⟨_, rfl, _, _, _, [], _, [], hW', trodAll_mk1 (shut_bool Try.underlying4 _), (trodAll_cons_mk (shut_string Try.underlying9 w0) trodAll_mk0), rfl, bel.frame _, fun h => by cases h⟩

theorem over : Rows.etherBackRow.holds Try.pinned (OpenSpec.ofChange Rows.etherBackSpec) :=
  OpenClaim.holds_of_wide 5 Try.f5 rfl rfl rfl rfl rfl rfl rfl ⟨rfl, rfl, rfl, rfl, rfl⟩ rfl rfl rfl rfl rfl (by kernel_rfl) Try.func5 (by kernel_rfl)
    (of_decide_eq_true (by kernel_rfl)) (by unfold Func.isWrapper; first | (rw [if_pos (by decide +kernel)]; kernel_rfl) | (rw [if_neg (by decide +kernel)]; exact ⟨rfl, rfl⟩))
    (fun os started H enc _ => lifted os started H enc)

theorem proved : Rows.EtherBackSaid := over
end Go.Proofs.Ytodjjjggjinliaa.etherBack
namespace Go.Proofs.Ytodjjjggjinliaa
theorem etherBack_holds : Rows.EtherBackSaid := etherBack.proved
#print axioms etherBack_holds
end Go.Proofs.Ytodjjjggjinliaa
