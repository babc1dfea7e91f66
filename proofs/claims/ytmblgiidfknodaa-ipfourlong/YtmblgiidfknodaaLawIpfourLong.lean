/-
  For any number of one byte: header and body are refused just if they have more than 65535 bytes. No condition.
-/
import Derived.Test.YtmblgiidfknodaaRows
import Derived.Test.YtmblgiidfknodaaIp4Awake
import Derived.Test.YtmblgiidfknodaaBytesKit
import Derived.WalkKit
import Derived.ProofKit
import Derived.OpenShut
import Derived.ShutString
import Derived.ChangeOld
import Derived.ChangeMaps5
import Derived.Below
import Derived.Carry
namespace Go.Proofs.Ytmblgiidfknodaa.ipfourLong
open Oc Ip4 Go.Deep
open Go.ChangeShapes Go.WideShapes Go.ChangeAt Go.RowKit Go.ChangeMaps
set_option linter.unusedVariables false

theorem own : ownKnob Try.prog.godebug = none := by kernel_rfl

theorem long_right : RightP ⟨(0 : Nat), (0 : Nat), (0 : Nat), (0 : Nat), (0 : Nat), (0 : Nat), [97, 97, 97, 97], [98, 98, 98, 98], []⟩ := by unfold RightP; simp
set_option maxHeartbeats 3200000 in
theorem walk (m : Int) (w : World) (wm : (Lit.int .i8 m).wf = true) :
    Calls Try.prog 5 #[.int .i8 m] w fun e w' => e = .returned (.bool true) ∧ Below w.heap.size w w' := by
  obtain ⟨m0, m1⟩ := bounds_i8 wm
  clear wm
  obtain ⟨N, hN⟩ : ∃ N : Nat, (65515 : Int) + m = N := ⟨(65515 + m).toNat, by omega⟩
  have N0 : N ≤ 70000 := by omega
  have hmk := run_make_full (P := Try.prog) 39 5 (.int .u8 0) 1 Try.underlying39 info5 rfl .i64 .i64 N (by omega) (by omega) w
  have hbk := made_back w N
  have B1 : Hid (Below w.heap.size w (w.alloc (.cells (madeCells #[.int .u8 0] N) 5))) := bel_alloc _ _
  have rl : (List.replicate N (0 : UInt8)).length = N := List.length_replicate
  generalize List.replicate N (0 : UInt8) = b at hbk rl
  by_cases hg : (65515 : Int) < N
  · have RL : Hid (b.length = N) := rl
    have LG : Hid (65535 < 20 + ([] : List UInt8).length + b.length) := by show _ < _; simp; omega
    clear rl
    go_enter Try.func5, Try.ntmps5
    go_wp2_with fail
    clear hmk hbk
    refine (pput_long _ (0 : Nat) (0 : Nat) (0 : Nat) (0 : Nat) (0 : Nat) (0 : Nat) [97, 97, 97, 97] [98, 98, 98, 98] [] b long_right LG.out).mono ?_
    rintro e u1 ⟨rfl, b1⟩
    rw [show bsL [] = ⟨#[]⟩ from rfl]
    go_wp2_with fail
    refine (awake_any _).mono ?_
    rintro e u9 ⟨rfl, b9⟩
    go_wp2_with fail
    go_ret
    exact ⟨rfl, bel_trans (bel_trans B1.out b1) b9⟩
  have LG : Hid (20 + ([] : List UInt8).length + b.length ≤ 65535) := by show _ ≤ _; simp; omega
  have HL : Hid ((headL 0 0 0 0 0 0 [97, 97, 97, 97] [98, 98, 98, 98] [] b.length ++ b).length = N + 20) := by
    show List.length _ = _
    unfold headL
    rw [List.length_append, headS_len, rl]
    simp
    omega
  clear rl
  go_enter Try.func5, Try.ntmps5
  go_wp2_with fail
  clear hmk hbk
  refine (pput_ok _ 0 0 0 0 0 0 [97, 97, 97, 97] [98, 98, 98, 98] [] b long_right LG.out).mono ?_
  rintro e u1 ⟨rfl, b1⟩
  have hl := HL.out
  generalize headL 0 0 0 0 0 0 [97, 97, 97, 97] [98, 98, 98, 98] [] b.length ++ b = z at hl ⊢
  have q1 : ((z.length : Int) == (N : Int) + 20) = true := by simp; omega
  have HL2 : Hid (z.length = N + 20) := hl
  clear hl
  go_wp2_with fail
  refine (awake_any _).mono ?_
  rintro e u9 ⟨rfl, b9⟩
  go_wp2_with fail
  go_ret
  exact ⟨rfl, bel_trans (bel_trans B1.out b1) b9⟩

/-! ### The row -/
theorem laidOut : laidOutB Try.prog = true := by kernel_rfl
set_option maxRecDepth 100000 in
theorem lifted (os : Os) (started : os.Started) (H : Type) (enc : TypeId × Value → H) :
    ReturnsInHanded {} Try.checked os 5 .any (Rows.ipfourLongSpec.pre6 enc Try.prog Try.f5 Rows.ipfourLongRow.domain false) (Rows.ipfourLongSpec.post enc Try.prog Try.f5 false true false false) := by
  refine returnsInHanded_of_change (C := Try.checked) own started (by kernel_rfl) Try.func5
    (ChangeSpec.witness6 (enc := enc) (C := Try.checked) false ⟨#[], #[.int .i8 0], []⟩ 8 (by kernel_rfl) (by kernel_rfl) (by kernel_rfl) (by kernel_rfl)) ?_
  intro W base args ds gs before hval0 hW hcnd _
  have hval : ∀ (j : Nat) t v, Try.f5.params[j]? = some t → args[j]? = some v → Value.okWide Try.prog W .any base t v := hval0
  have hW' := hW
  obtain ⟨p, q, hA0, hV, rfl, hfz, hnd⟩ := hW
  have hA : DataW.TrodAll enc Try.prog W 0 (fun _ => true) true Try.f5.params.toList args.toList ds p := hA0
  rw [Try.params5] at hA hval
  obtain ⟨v0, vs0, d0, ds0, p0, q0, hargs, rfl, rfl, h0, r0⟩ := trodAll_cons hA
  obtain ⟨rfl, rfl, rfl⟩ := trodAll_nil r0
  obtain rfl : args = #[v0] := by cases args; simp_all
  obtain ⟨rfl, rfl⟩ := trodVars_none hV
  obtain ⟨a0, rfl, rfl, rfl, w0⟩ := open_int Try.underlying38 (hval 0 38 v0 rfl rfl) h0
  clear hA0 hval0
  refine (walk a0 W w0).mono fun e W' ⟨he, bel⟩ => ?_
  subst he
  exact ⟨_, rfl, _, _, _, [], _, [], hW', trodAll_mk1 (shut_bool Try.underlying4 _), (trodAll_cons_mk (shut_int Try.underlying38 w0) trodAll_mk0), rfl, bel.frame _, fun h => by cases h⟩

theorem over : Rows.ipfourLongRow.holds Try.pinned (OpenSpec.ofChange Rows.ipfourLongSpec) :=
  OpenClaim.holds_of_wide 5 Try.f5 rfl rfl rfl rfl rfl rfl rfl ⟨rfl, rfl, rfl, rfl, rfl⟩ rfl rfl rfl rfl rfl (by kernel_rfl) Try.func5 (by kernel_rfl)
    (of_decide_eq_true (by kernel_rfl)) (by unfold Func.isWrapper; first | (rw [if_pos (by decide +kernel)]; kernel_rfl) | (rw [if_neg (by decide +kernel)]; exact ⟨rfl, rfl⟩))
    (fun os started H enc _ => lifted os started H enc)

theorem proved : Rows.IpfourLongSaid := over
end Go.Proofs.Ytmblgiidfknodaa.ipfourLong
namespace Go.Proofs.Ytmblgiidfknodaa
theorem ipfourLong_holds : Rows.IpfourLongSaid := ipfourLong.proved
#print axioms ipfourLong_holds
end Go.Proofs.Ytmblgiidfknodaa
