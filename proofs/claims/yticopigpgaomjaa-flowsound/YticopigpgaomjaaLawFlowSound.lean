/-
  What is extracted of any bytes, at most 4096, is a right flow, or no flow. No condition.
-/
import Derived.Test.YticopigpgaomjaaRows
import Derived.Test.YticopigpgaomjaaFlowTake
import Derived.WalkKit
import Derived.ProofKit
import Derived.OpenShut
import Derived.ShutString
import Derived.ChangeOld
import Derived.ChangeMaps5
import Derived.Below
import Derived.Carry
import Derived.Laws.StructEq
namespace Go.Proofs.Yticopigpgaomjaa.flowSound
open Oc Pt Fl Go.Deep
open Go.ChangeShapes Go.WideShapes Go.ChangeAt Go.RowKit Go.ChangeMaps
set_option linter.unusedVariables false

theorem own : ownKnob Try.prog.godebug = none := by kernel_rfl

set_option maxHeartbeats 3200000 in
theorem walk (s : ByteArray) (w : World) (ws : s.size ≤ maxLen) :
    Calls Try.prog 6 #[.string s] w fun e w' => e = .returned (.bool true) ∧ Below w.heap.size w w' := by
  obtain ⟨l, rfl⟩ : ∃ l, s = bsL l := ⟨_, bsL_of s⟩
  rw [bsL_size] at ws
  by_cases h : 4096 < l.length
  · go_enter Try.func6, Try.ntmps6
    go_wp2_with fail
    refine (fl_awake _).mono ?_
    rintro e u9 ⟨rfl, b9⟩
    go_wp2_with fail
    go_ret
    exact ⟨rfl, b9⟩
  go_enter Try.func6, Try.ntmps6
  go_wp2_with fail
  refine (fl_extract _ l (by omega)).mono ?_
  rintro e u1 ⟨s1, d1, p1, a1, c1, E1, rfl, hE, bb⟩
  have HE1 : Hid (ansOf l = ⟨⟨s1, d1, p1, a1, c1⟩, E1⟩) := hE
  have BU1 : Hid (Below w.heap.size w u1) := bb
  clear hE bb
  by_cases h0 : E1 = 0
  rotate_left
  · have z : zeroFw = ⟨s1, d1, p1, a1, c1⟩ := by
      have e := ans_zero (l := l) (by rw [HE1.out]; exact h0)
      rw [HE1.out] at e
      exact e.symm
    obtain ⟨rfl, rfl, rfl, rfl, rfl⟩ := Fw.mk.inj z
    clear z
    have q0 : ((E1 : Int) != 0) = true := by simp; omega
    have BB : Hid (Below w.heap.size w (u1.alloc (.cells #[.string ⟨#[]⟩, .string ⟨#[]⟩, .int .i64 0, .int .i64 0, .int .i64 0] 24))) := bel_trans BU1.out (bel_alloc _ _)
    rw [show bsL [] = ⟨#[]⟩ from rfl]
    clear h0
    go_wp2_with fail
    refine (fl_awake _).mono ?_
    rintro e u9 ⟨rfl, b9⟩
    go_wp2_with fail
    go_ret
    exact ⟨rfl, bel_trans BB.out b9⟩
  subst h0
  have R : Hid (l.length ≤ 2048 ∧ RightF ⟨s1, d1, p1, a1, c1⟩) := by
    obtain ⟨r0, r1, r2, r3, r4, r5⟩ := ans_right (l := l) (by rw [HE1.out])
    rw [HE1.out] at r1 r2 r3 r4 r5
    refine ⟨r0, r1, r2, r3, ?_, ?_⟩
    · show (0 : Int) ≤ (a1 : Int) ∧ (a1 : Int) ≤ 65535
      simp only at r4
      omega
    · show (0 : Int) ≤ (c1 : Int) ∧ (c1 : Int) ≤ 65535
      simp only at r5
      omega
  have r0 := R.out.1
  have BB : Hid (Below w.heap.size w (u1.alloc (.cells #[.string (bsL s1), .string (bsL d1), .int .i64 p1, .int .i64 (a1 : Int), .int .i64 (c1 : Int)] 24))) := bel_trans BU1.out (bel_alloc _ _)
  go_wp2_with fail
  refine (fl_right _ s1 d1 p1 a1 c1).mono ?_
  rintro e u2 ⟨B, rfl, hB, b2⟩
  have eB : B = true := hB.2 R.out.2
  subst eB
  clear hB
  have B2 : Hid (Below w.heap.size w u2) := bel_trans BB.out b2
  clear b2
  go_wp2_with fail
  refine (fl_awake _).mono ?_
  rintro e u9 ⟨rfl, b9⟩
  go_wp2_with fail
  go_ret
  exact ⟨rfl, bel_trans B2.out b9⟩

/-! ### The row -/
theorem laidOut : laidOutB Try.prog = true := by kernel_rfl
set_option maxRecDepth 100000 in
theorem lifted (os : Os) (started : os.Started) (H : Type) (enc : TypeId × Value → H) :
    ReturnsInHanded {} Try.checked os 6 .any (Rows.flowSoundSpec.pre6 enc Try.prog Try.f6 Rows.flowSoundRow.domain false) (Rows.flowSoundSpec.post enc Try.prog Try.f6 false true false false) := by
  refine returnsInHanded_of_change (C := Try.checked) own started (by kernel_rfl) Try.func6
    (ChangeSpec.witness6 (enc := enc) (C := Try.checked) false ⟨#[], #[.string ⟨#[]⟩], []⟩ 8 (by kernel_rfl) (by kernel_rfl) (by kernel_rfl) (by kernel_rfl)) ?_
  intro W base args ds gs before hval0 hW hcnd _
  have hval : ∀ (j : Nat) t v, Try.f6.params[j]? = some t → args[j]? = some v → Value.okWide Try.prog W .any base t v := hval0
  have hW' := hW
  obtain ⟨p, q, hA0, hV, rfl, hfz, hnd⟩ := hW
  have hA : DataW.TrodAll enc Try.prog W 0 (fun _ => true) true Try.f6.params.toList args.toList ds p := hA0
  rw [Try.params6] at hA hval
  obtain ⟨v0, vs0, d0, ds0, p0, q0, hargs, rfl, rfl, h0, r0⟩ := trodAll_cons hA
  obtain ⟨rfl, rfl, rfl⟩ := trodAll_nil r0
  obtain rfl : args = #[v0] := by cases args; simp_all
  obtain ⟨rfl, rfl⟩ := trodVars_none hV
  obtain ⟨a0, rfl, rfl, rfl, w0⟩ := open_string Try.underlying9 (hval 0 9 v0 rfl rfl) h0
  clear hA0 hval0
  refine (walk a0 W w0).mono fun e W' ⟨he, bel⟩ => ?_
  subst he
  exact ⟨_, rfl, _, _, _, [], _, [], hW', trodAll_mk1 (shut_bool Try.underlying4 _), (trodAll_cons_mk (shut_string Try.underlying9 w0) trodAll_mk0), rfl, bel.frame _, fun h => by cases h⟩

theorem over : Rows.flowSoundRow.holds Try.pinned (OpenSpec.ofChange Rows.flowSoundSpec) :=
  OpenClaim.holds_of_wide 6 Try.f6 rfl rfl rfl rfl rfl rfl rfl ⟨rfl, rfl, rfl, rfl, rfl⟩ rfl rfl rfl rfl rfl (by kernel_rfl) Try.func6 (by kernel_rfl)
    (of_decide_eq_true (by kernel_rfl)) (by unfold Func.isWrapper; first | (rw [if_pos (by decide +kernel)]; kernel_rfl) | (rw [if_neg (by decide +kernel)]; exact ⟨rfl, rfl⟩))
    (fun os started H enc _ => lifted os started H enc)

theorem proved : Rows.FlowSoundSaid := over
end Go.Proofs.Yticopigpgaomjaa.flowSound
namespace Go.Proofs.Yticopigpgaomjaa
theorem flowSound_holds : Rows.FlowSoundSaid := flowSound.proved
#print axioms flowSound_holds
end Go.Proofs.Yticopigpgaomjaa
