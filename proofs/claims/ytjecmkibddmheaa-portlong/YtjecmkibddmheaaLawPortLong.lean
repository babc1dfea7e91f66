/-
  For any number of one byte: a datagram is refused just if it has more than 65535 bytes. No condition.
-/
import Derived.Test.YtjecmkibddmheaaRows
import Derived.Test.YtjecmkibddmheaaPortPut
import Derived.Test.YtjecmkibddmheaaBytesKit
import Derived.WalkKit
import Derived.ProofKit
import Derived.OpenShut
import Derived.ShutString
import Derived.ChangeOld
import Derived.ChangeMaps5
import Derived.Below
import Derived.Carry
namespace Go.Proofs.Ytjecmkibddmheaa.portLong
open Oc Pt Go.Deep
open Go.ChangeShapes Go.WideShapes Go.ChangeAt Go.RowKit Go.ChangeMaps
set_option linter.unusedVariables false

theorem own : ownKnob Try.prog.godebug = none := by kernel_rfl

set_option maxHeartbeats 3200000 in
theorem walk (m : Int) (w : World) (wm : (Lit.int .i8 m).wf = true) :
    Calls Try.prog 6 #[.int .i8 m] w fun e w' => e = .returned (.bool true) ∧ Below w.heap.size w w' := by
  obtain ⟨m0, m1⟩ := bounds_i8 wm
  clear wm
  obtain ⟨N, hN⟩ : ∃ N : Nat, (65527 : Int) + m = N := ⟨(65527 + m).toNat, by omega⟩
  have N0 : N ≤ 70000 := by omega
  have hmk := run_make_full (P := Try.prog) 37 5 (.int .u8 0) 1 Try.underlying37 info5 rfl .i64 .i64 N (by omega) (by omega) w
  have hbk := made_back w N
  have B1 : Hid (Below w.heap.size w (w.alloc (.cells (madeCells #[.int .u8 0] N) 5))) := bel_alloc _ _
  have rl : (List.replicate N (0 : UInt8)).length = N := List.length_replicate
  generalize List.replicate N (0 : UInt8) = b at hbk rl
  by_cases hg : (65527 : Int) < N
  · have LG : Hid (¬ (PortN 1 ∧ PortN 2 ∧ b.length ≤ 65527)) := fun x => by have := x.2.2; omega
    have bl : b.length ≤ 1152921504606846976 := by omega
    clear rl
    go_enter Try.func6, Try.ntmps6
    go_wp2_with fail
    clear hmk hbk
    refine (udp_bad 1 2 b _ bl LG.out).mono ?_
    rintro e u1 ⟨rfl, b1⟩
    go_wp2_with fail
    refine (awake_any _).mono ?_
    rintro e u2 ⟨rfl, b2⟩
    go_wp2_with fail
    go_ret
    exact ⟨rfl, bel_trans (bel_trans (B1.out) b1) b2⟩
  have LG : Hid (b.length ≤ 65527) := by show _ ≤ _; omega
  obtain ⟨q, hq⟩ : ∃ q, q = udpL 1 2 b := ⟨_, rfl⟩
  have lq : q.length = N + 8 := by rw [hq, udpL_len, rl]; omega
  have HQ : Hid (udpL 1 2 b = q) := hq.symm
  clear rl hq
  go_enter Try.func6, Try.ntmps6
  go_wp2_with fail
  clear hmk hbk
  refine (udp_ok 1 2 b _ (by omega) (by omega) LG.out).mono ?_
  rintro e u1 ⟨rfl, b1⟩
  rw [HQ.out]
  go_wp2_with fail
  refine (awake_any _).mono ?_
  rintro e u2 ⟨rfl, b2⟩
  go_wp2_with fail
  go_ret
  exact ⟨rfl, bel_trans (bel_trans (B1.out) b1) b2⟩

/-! ### The row -/
theorem laidOut : laidOutB Try.prog = true := by kernel_rfl
set_option maxRecDepth 100000 in
theorem lifted (os : Os) (started : os.Started) (H : Type) (enc : TypeId × Value → H) :
    ReturnsInHanded {} Try.checked os 6 .any (Rows.portLongSpec.pre6 enc Try.prog Try.f6 Rows.portLongRow.domain false) (Rows.portLongSpec.post enc Try.prog Try.f6 false true false false) := by
  refine returnsInHanded_of_change (C := Try.checked) own started (by kernel_rfl) Try.func6
    (ChangeSpec.witness6 (enc := enc) (C := Try.checked) false ⟨#[], #[.int .i8 0], []⟩ 8 (by kernel_rfl) (by kernel_rfl) (by kernel_rfl) (by kernel_rfl)) ?_
  intro W base args ds gs before hval0 hW hcnd _
  have hval : ∀ (j : Nat) t v, Try.f6.params[j]? = some t → args[j]? = some v → Value.okWide Try.prog W .any base t v := hval0
  have hW' := hW
  obtain ⟨p, q, hA0, hV, rfl, hfz, hnd⟩ := hW
  have hA : DataW.TrodAll enc Try.prog W 0 (fun _ => true) true Try.f6.params.toList args.toList ds p := hA0
  rw [Try.params6] at hA hval
  obtain ⟨v0, vs0, d0, ds0, p0, q0, hargs, rfl, rfl, h0, r0⟩ := trodAll_cons hA
  obtain ⟨rfl, rfl, rfl⟩ := trodAll_nil r0
  obtain rfl : args = #[v0] := by cases args; simp_all
  obtain ⟨rfl, rfl⟩ := trodVars_none hV
  obtain ⟨a0, rfl, rfl, rfl, w0⟩ := open_int Try.underlying36 (hval 0 36 v0 rfl rfl) h0
  clear hA0 hval0
  refine (walk a0 W w0).mono fun e W' ⟨he, bel⟩ => ?_
  subst he
  exact ⟨_, rfl, _, _, _, [], _, [], hW', trodAll_mk1 (shut_bool Try.underlying4 _), (trodAll_cons_mk (shut_int Try.underlying36 w0) trodAll_mk0), rfl, bel.frame _, fun h => by cases h⟩

theorem over : Rows.portLongRow.holds Try.pinned (OpenSpec.ofChange Rows.portLongSpec) :=
  OpenClaim.holds_of_wide 6 Try.f6 rfl rfl rfl rfl rfl rfl rfl ⟨rfl, rfl, rfl, rfl, rfl⟩ rfl rfl rfl rfl rfl (by kernel_rfl) Try.func6 (by kernel_rfl)
    (of_decide_eq_true (by kernel_rfl)) (by unfold Func.isWrapper; first | (rw [if_pos (by decide +kernel)]; kernel_rfl) | (rw [if_neg (by decide +kernel)]; exact ⟨rfl, rfl⟩))
    (fun os started H enc _ => lifted os started H enc)

theorem proved : Rows.PortLongSaid := over
end Go.Proofs.Ytjecmkibddmheaa.portLong
namespace Go.Proofs.Ytjecmkibddmheaa
theorem portLong_holds : Rows.PortLongSaid := portLong.proved
#print axioms portLong_holds
end Go.Proofs.Ytjecmkibddmheaa
