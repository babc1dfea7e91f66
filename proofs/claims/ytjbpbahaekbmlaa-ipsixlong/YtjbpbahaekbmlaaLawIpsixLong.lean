/-
  For any number of one byte: what stands behind the 40 bytes is refused just if it has more than 65535. No condition.
-/
import Derived.Test.YtjbpbahaekbmlaaRows
import Derived.Test.YtjbpbahaekbmlaaIp6Awake
import Derived.Test.YtjbpbahaekbmlaaBytesKit
import Derived.WalkKit
import Derived.ProofKit
import Derived.OpenShut
import Derived.ShutString
import Derived.ChangeOld
import Derived.ChangeMaps5
import Derived.Below
import Derived.Carry
namespace Go.Proofs.Ytjbpbahaekbmlaa.ipsixLong
open Oc Ip6 Go.Deep
open Go.ChangeShapes Go.WideShapes Go.ChangeAt Go.RowKit Go.ChangeMaps
set_option linter.unusedVariables false

theorem own : ownKnob Try.prog.godebug = none := by kernel_rfl

def longF : Hd := ⟨(0 : Nat), (0 : Nat), (0 : Nat), (59 : Nat), [115, 115, 115, 115, 115, 115, 115, 115, 115, 115, 115, 115, 115, 115, 115, 115], [100, 100, 100, 100, 100, 100, 100, 100, 100, 100, 100, 100, 100, 100, 100, 100], []⟩
theorem long_right : RightP longF := by
  refine ⟨by decide, by decide, by decide, by decide, by decide, by decide, by decide, by decide, fun i x hx => ?_⟩
  simp [longF] at hx
set_option maxHeartbeats 3200000 in
theorem walk (m : Int) (w : World) (wm : (Lit.int .i8 m).wf = true) :
    Calls Try.prog 5 #[.int .i8 m] w fun e w' => e = .returned (.bool true) ∧ Below w.heap.size w w' := by
  obtain ⟨m0, m1⟩ := bounds_i8 wm
  clear wm
  obtain ⟨N, hN⟩ : ∃ N : Nat, (65535 : Int) + m = N := ⟨(65535 + m).toNat, by omega⟩
  have N0 : N ≤ 70000 := by omega
  have hmk := run_make_full (P := Try.prog) 45 5 (.int .u8 0) 1 Try.underlying45 info5 rfl .i64 .i64 N (by omega) (by omega) w
  have hbk := made_back w N
  have B1 : Hid (Below w.heap.size w (w.alloc (.cells (madeCells #[.int .u8 0] N) 5))) := bel_alloc _ _
  have rl : (List.replicate N (0 : UInt8)).length = N := List.length_replicate
  generalize List.replicate N (0 : UInt8) = b at hbk rl
  have PT : Hid (∀ u : World, Calls Try.prog 16 #[.agg #[.int .i64 0, .int .i64 0, .int .i64 0, .int .i64 59, .string ⟨#[115, 115, 115, 115, 115, 115, 115, 115, 115, 115, 115, 115, 115, 115, 115, 115]⟩, .string ⟨#[100, 100, 100, 100, 100, 100, 100, 100, 100, 100, 100, 100, 100, 100, 100, 100]⟩, .slice none 0 0], .string (bsL b)] u (fun e w' => (b.length ≤ 65535 → Wrote u (putL longF b) 0 e w') ∧ (65535 < b.length → Wrote u [] 1 e w'))) := fun u => by
    have t := pput_two u 0 0 0 59 [115, 115, 115, 115, 115, 115, 115, 115, 115, 115, 115, 115, 115, 115, 115, 115] [100, 100, 100, 100, 100, 100, 100, 100, 100, 100, 100, 100, 100, 100, 100, 100] b [] none 0 0 ⟨_, rfl, ChAt.none u⟩ long_right (by omega)
    simp only [chainL, List.length_nil, Nat.zero_add] at t
    exact t
  have ZL : Hid ((putL longF b).length = 40 + b.length) := by
    show List.length _ = _
    rw [put_len long_right]
    simp only [longF, chainL, List.length_nil, Nat.zero_add]
  generalize putL longF b = z at PT ZL
  by_cases hg : (65535 : Int) < N
  · have LG : Hid (65535 < b.length) := by show _ < _; omega
    clear rl
    go_enter Try.func5, Try.ntmps5
    go_wp2_with fail
    clear hmk hbk
    refine (PT.out _).mono ?_
    rintro e u1 ⟨_, hw⟩
    obtain ⟨rfl, b1⟩ := hw LG.out
    rw [show bsL [] = ⟨#[]⟩ from rfl]
    go_wp2_with fail
    refine (awake_any _).mono ?_
    rintro e u9 ⟨rfl, b9⟩
    go_wp2_with fail
    go_ret
    exact ⟨rfl, bel_trans (bel_trans B1.out b1) b9⟩
  have LG : Hid (b.length ≤ 65535) := by show _ ≤ _; omega
  have q1 : ((z.length : Int) == (N : Int) + 40) = true := by have := ZL.out; simp; omega
  have zl : z.length ≤ 100000 := by have := ZL.out; omega
  clear rl
  go_enter Try.func5, Try.ntmps5
  go_wp2_with fail
  clear hmk hbk
  refine (PT.out _).mono ?_
  rintro e u1 ⟨hw, _⟩
  obtain ⟨rfl, b1⟩ := hw LG.out
  go_wp2_with fail
  refine (awake_any _).mono ?_
  rintro e u9 ⟨rfl, b9⟩
  go_wp2_with fail
  go_ret
  exact ⟨rfl, bel_trans (bel_trans B1.out b1) b9⟩

/-! ### The row -/
theorem laidOut : laidOutB Try.prog = true := by kernel_rfl
set_option maxRecDepth 100000 in
theorem lifted (os : Os) (started : os.Started) (H : Type) (enc : TypeId × Value → H) :
    ReturnsInHanded {} Try.checked os 5 .any (Rows.ipsixLongSpec.pre6 enc Try.prog Try.f5 Rows.ipsixLongRow.domain false) (Rows.ipsixLongSpec.post enc Try.prog Try.f5 false true false false) := by
  refine returnsInHanded_of_change (C := Try.checked) own started (by kernel_rfl) Try.func5
    (ChangeSpec.witness6 (enc := enc) (C := Try.checked) false ⟨#[], #[.int .i8 0], []⟩ 8 (by kernel_rfl) (by kernel_rfl) (by kernel_rfl) (by kernel_rfl)) ?_
  intro W base args ds gs before hval0 hW hcnd _
  have hval : ∀ (j : Nat) t v, Try.f5.params[j]? = some t → args[j]? = some v → Value.okWide Try.prog W .any base t v := hval0
  have hW' := hW
  obtain ⟨p, q, hA0, hV, rfl, hfz, hnd⟩ := hW
  have hA : DataW.TrodAll enc Try.prog W 0 (fun _ => true) true Try.f5.params.toList args.toList ds p := hA0
  rw [Try.params5] at hA hval
  obtain ⟨v0, vs0, d0, ds0, p0, q0, hargs, rfl, rfl, h0, r0⟩ := trodAll_cons hA
  obtain ⟨rfl, rfl, rfl⟩ := trodAll_nil r0
  obtain rfl : args = #[v0] := by cases args; simp_all
  obtain ⟨rfl, rfl⟩ := trodVars_none hV
  obtain ⟨a0, rfl, rfl, rfl, w0⟩ := open_int Try.underlying44 (hval 0 44 v0 rfl rfl) h0
  clear hA0 hval0
  refine (walk a0 W w0).mono fun e W' ⟨he, bel⟩ => ?_
  subst he
  exact ⟨_, rfl, _, _, _, [], _, [], hW', trodAll_mk1 (shut_bool Try.underlying4 _), (trodAll_cons_mk (shut_int Try.underlying44 w0) trodAll_mk0), rfl, bel.frame _, fun h => by cases h⟩

theorem over : Rows.ipsixLongRow.holds Try.pinned (OpenSpec.ofChange Rows.ipsixLongSpec) :=
  OpenClaim.holds_of_wide 5 Try.f5 rfl rfl rfl rfl rfl rfl rfl ⟨rfl, rfl, rfl, rfl, rfl⟩ rfl rfl rfl rfl rfl (by kernel_rfl) Try.func5 (by kernel_rfl)
    (of_decide_eq_true (by kernel_rfl)) (by unfold Func.isWrapper; first | (rw [if_pos (by decide +kernel)]; kernel_rfl) | (rw [if_neg (by decide +kernel)]; exact ⟨rfl, rfl⟩))
    (fun os started H enc _ => lifted os started H enc)

theorem proved : Rows.IpsixLongSaid := over
end Go.Proofs.Ytjbpbahaekbmlaa.ipsixLong
namespace Go.Proofs.Ytjbpbahaekbmlaa
theorem ipsixLong_holds : Rows.IpsixLongSaid := ipsixLong.proved
#print axioms ipsixLong_holds
end Go.Proofs.Ytjbpbahaekbmlaa
