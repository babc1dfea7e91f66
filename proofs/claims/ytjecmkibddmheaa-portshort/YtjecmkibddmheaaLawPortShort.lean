/-
  For any protocol, any bytes, at most 4096, and any number: of what is refused nothing is told; of what is taken the first bytes, at most 7, are refused. No condition.
-/
import Derived.Test.YtjecmkibddmheaaRows
import Derived.Test.YtjecmkibddmheaaPortPut
import Derived.WalkKit
import Derived.ProofKit
import Derived.OpenShut
import Derived.ShutString
import Derived.ChangeOld
import Derived.ChangeMaps5
import Derived.Below
import Derived.Carry
namespace Go.Proofs.Ytjecmkibddmheaa.portShort
open Oc Pt Go.Deep
open Go.ChangeShapes Go.WideShapes Go.ChangeAt Go.RowKit Go.ChangeMaps
set_option linter.unusedVariables false

theorem own : ownKnob Try.prog.godebug = none := by kernel_rfl

set_option maxHeartbeats 3200000 in
theorem walk (p : Int) (s : ByteArray) (c : Int) (w : World) (wp : (Lit.int .i64 p).wf = true) (ws : s.size ≤ maxLen) (wc : (Lit.int .i64 c).wf = true) :
    Calls Try.prog 7 #[.int .i64 p, .string s, .int .i64 c] w fun e w' => e = .returned (.bool true) ∧ Below w.heap.size w w' := by
  obtain ⟨l, rfl⟩ : ∃ l, s = bsL l := ⟨_, bsL_of s⟩
  rw [bsL_size] at ws
  clear wp wc
  by_cases h : 4096 < l.length
  · go_enter Try.func7, Try.ntmps7
    go_wp2_with fail
    refine (awake_any _).mono ?_
    rintro e u1 ⟨rfl, b1⟩
    go_wp2_with fail
    go_ret
    exact ⟨rfl, b1⟩
  by_cases h0 : c < 0
  · go_enter Try.func7, Try.ntmps7
    go_wp2_with fail
    refine (awake_any _).mono ?_
    rintro e u1 ⟨rfl, b1⟩
    go_wp2_with fail
    go_ret
    exact ⟨rfl, b1⟩
  by_cases h1 : (l.length : Int) < c
  · go_enter Try.func7, Try.ntmps7
    go_wp2_with fail
    refine (awake_any _).mono ?_
    rintro e u1 ⟨rfl, b1⟩
    go_wp2_with fail
    go_ret
    exact ⟨rfl, b1⟩
  obtain ⟨k, rfl⟩ : ∃ k : Nat, c = k := ⟨c.toNat, by omega⟩
  by_cases e0 : errP p l = 0
  rotate_left
  · have i0 : ((errP p l : Int) != 0) = true := by simp; omega
    have HB : Hid (bodyP p l = []) := by
      show _ = _
      refine (no_P (Bool.eq_false_iff.2 fun x => e0 (err_ok.2 x))).2.2
    clear e0
    go_enter Try.func7, Try.ntmps7
    go_wp2_with fail
    refine (port_take p l _ (by omega)).mono ?_
    rintro e u1 ⟨rfl, b1⟩
    rw [HB.out, show bsL [] = ⟨#[]⟩ from rfl]
    go_wp2_with fail
    refine (awake_any _).mono ?_
    rintro e u2 ⟨rfl, b2⟩
    go_wp2_with fail
    go_ret
    exact ⟨rfl, bel_trans (b1) b2⟩
  have HE : Hid (errP p l = 0) := e0
  have HO : Hid (okB p l = true) := err_ok.1 e0
  clear e0
  by_cases h7 : 7 < k
  · go_enter Try.func7, Try.ntmps7
    go_wp2_with fail
    refine (port_take p l _ (by omega)).mono ?_
    rintro e u1 ⟨rfl, b1⟩
    rw [HE.out]
    go_wp2_with fail
    refine (awake_any _).mono ?_
    rintro e u2 ⟨rfl, b2⟩
    go_wp2_with fail
    go_ret
    exact ⟨rfl, bel_trans (b1) b2⟩
  have lk : (l.take k).length ≤ 7 := by rw [List.length_take]; omega
  have HS : Hid (srcP p (l.take k) = 0 ∧ dstP p (l.take k) = 0 ∧ bodyP p (l.take k) = [] ∧ errP p (l.take k) = 16) := short_no HO.out lk
  go_enter Try.func7, Try.ntmps7
  go_wp2_with fail
  refine (port_take p l _ (by omega)).mono ?_
  rintro e u1 ⟨rfl, b1⟩
  rw [HE.out]
  go_wp2_with fail
  refine (port_take p (l.take k) _ (by omega)).mono ?_
  rintro e u2 ⟨rfl, b2⟩
  rw [HS.out.1, HS.out.2.1, HS.out.2.2.1, HS.out.2.2.2, show bsL [] = ⟨#[]⟩ from rfl]
  go_wp2_with fail
  refine (awake_any _).mono ?_
  rintro e u3 ⟨rfl, b3⟩
  go_wp2_with fail
  go_ret
  exact ⟨rfl, bel_trans (bel_trans (b1) b2) b3⟩

/-! ### The row -/
theorem laidOut : laidOutB Try.prog = true := by kernel_rfl
set_option maxRecDepth 100000 in
theorem lifted (os : Os) (started : os.Started) (H : Type) (enc : TypeId × Value → H) :
    ReturnsInHanded {} Try.checked os 7 .any (Rows.portShortSpec.pre6 enc Try.prog Try.f7 Rows.portShortRow.domain false) (Rows.portShortSpec.post enc Try.prog Try.f7 false true false false) := by
  refine returnsInHanded_of_change (C := Try.checked) own started (by kernel_rfl) Try.func7
    (ChangeSpec.witness6 (enc := enc) (C := Try.checked) false ⟨#[], #[.int .i64 0, .string ⟨#[]⟩, .int .i64 0], []⟩ 8 (by kernel_rfl) (by kernel_rfl) (by kernel_rfl) (by kernel_rfl)) ?_
  intro W base args ds gs before hval0 hW hcnd _
  have hval : ∀ (j : Nat) t v, Try.f7.params[j]? = some t → args[j]? = some v → Value.okWide Try.prog W .any base t v := hval0
  have hW' := hW
  obtain ⟨p, q, hA0, hV, rfl, hfz, hnd⟩ := hW
  have hA : DataW.TrodAll enc Try.prog W 0 (fun _ => true) true Try.f7.params.toList args.toList ds p := hA0
  rw [Try.params7] at hA hval
  obtain ⟨v0, vs0, d0, ds0, p0, q0, hargs, rfl, rfl, h0, r0⟩ := trodAll_cons hA
  obtain ⟨v1, vs1, d1, ds1, p1, q1, rfl, rfl, rfl, h1, r1⟩ := trodAll_cons r0
  obtain ⟨v2, vs2, d2, ds2, p2, q2, rfl, rfl, rfl, h2, r2⟩ := trodAll_cons r1
  obtain ⟨rfl, rfl, rfl⟩ := trodAll_nil r2
  obtain rfl : args = #[v0, v1, v2] := by cases args; simp_all
  obtain ⟨rfl, rfl⟩ := trodVars_none hV
  obtain ⟨a0, rfl, rfl, rfl, w0⟩ := open_int Try.underlying3 (hval 0 3 v0 rfl rfl) h0
  obtain ⟨a1, rfl, rfl, rfl, w1⟩ := open_string Try.underlying9 (hval 1 9 v1 rfl rfl) h1
  obtain ⟨a2, rfl, rfl, rfl, w2⟩ := open_int Try.underlying3 (hval 2 3 v2 rfl rfl) h2
  clear hA0 hval0
  refine (walk a0 a1 a2 W w0 w1 w2).mono fun e W' ⟨he, bel⟩ => ?_
  subst he
  exact ⟨_, rfl, _, _, _, [], _, [], hW', trodAll_mk1 (shut_bool Try.underlying4 _), (trodAll_cons_mk (shut_int Try.underlying3 w0) (trodAll_cons_mk (shut_string Try.underlying9 w1) (trodAll_cons_mk (shut_int Try.underlying3 w2) trodAll_mk0))), rfl, bel.frame _, fun h => by cases h⟩

theorem over : Rows.portShortRow.holds Try.pinned (OpenSpec.ofChange Rows.portShortSpec) :=
  OpenClaim.holds_of_wide 7 Try.f7 rfl rfl rfl rfl rfl rfl rfl ⟨rfl, rfl, rfl, rfl, rfl⟩ rfl rfl rfl rfl rfl (by kernel_rfl) Try.func7 (by kernel_rfl)
    (of_decide_eq_true (by kernel_rfl)) (by unfold Func.isWrapper; first | (rw [if_pos (by decide +kernel)]; kernel_rfl) | (rw [if_neg (by decide +kernel)]; exact ⟨rfl, rfl⟩))
    (fun os started H enc _ => lifted os started H enc)

theorem proved : Rows.PortShortSaid := over
end Go.Proofs.Ytjecmkibddmheaa.portShort
namespace Go.Proofs.Ytjecmkibddmheaa
theorem portShort_holds : Rows.PortShortSaid := portShort.proved
#print axioms portShort_holds
end Go.Proofs.Ytjecmkibddmheaa
