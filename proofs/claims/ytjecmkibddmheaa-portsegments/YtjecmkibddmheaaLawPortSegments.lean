/-
  For any two numbers, any options and any body, at most 4096 bytes each, a segment is written as the document says, or refused, and taken back. No condition.
-/
import Derived.Test.YtjecmkibddmheaaRows
import Derived.Test.YtjecmkibddmheaaPortRPut
import Derived.WalkKit
import Derived.ProofKit
import Derived.OpenShut
import Derived.ShutString
import Derived.ChangeOld
import Derived.ChangeMaps5
import Derived.Below
import Derived.Carry
namespace Go.Proofs.Ytjecmkibddmheaa.portSegments
open Oc Pt Go.Deep
open Go.ChangeShapes Go.WideShapes Go.ChangeAt Go.RowKit Go.ChangeMaps
set_option linter.unusedVariables false

theorem own : ownKnob Try.prog.godebug = none := by kernel_rfl

set_option maxHeartbeats 3200000 in
theorem walk (n m : Int) (o b : ByteArray) (w : World) (wn : (Lit.int .i64 n).wf = true) (wm : (Lit.int .i64 m).wf = true) (wo : o.size ≤ maxLen) (wb : b.size ≤ maxLen) :
    Calls Try.prog 4 #[.int .i64 n, .int .i64 m, .string o, .string b] w fun e w' => e = .returned (.bool true) ∧ Below w.heap.size w w' := by
  obtain ⟨x, rfl⟩ : ∃ x, o = bsL x := ⟨_, bsL_of o⟩
  obtain ⟨y, rfl⟩ : ∃ y, b = bsL y := ⟨_, bsL_of b⟩
  rw [bsL_size] at wo wb
  clear wn wm
  by_cases h : 4096 < x.length
  · go_enter Try.func4, Try.ntmps4
    go_wp2_with fail
    refine (awake_any _).mono ?_
    rintro e u1 ⟨rfl, b1⟩
    go_wp2_with fail
    go_ret
    exact ⟨rfl, b1⟩
  by_cases h0 : 4096 < y.length
  · go_enter Try.func4, Try.ntmps4
    go_wp2_with fail
    refine (awake_any _).mono ?_
    rintro e u1 ⟨rfl, b1⟩
    go_wp2_with fail
    go_ret
    exact ⟨rfl, b1⟩
  by_cases hg : PortN n ∧ PortN m ∧ x.length ≤ 40 ∧ x.length % 4 = 0
  rotate_left
  · have HG : Hid (¬ (PortN n ∧ PortN m ∧ x.length ≤ 40 ∧ x.length % 4 = 0)) := hg
    clear hg
    go_enter Try.func4, Try.ntmps4
    go_wp2_with fail
    refine (tcp_bad n m x y _ (by omega) HG.out).mono ?_
    rintro e u1 ⟨rfl, b1⟩
    go_wp2_with fail
    refine (rtcp_bad n m x y _ (by omega) HG.out).mono ?_
    rintro e u2 ⟨rfl, b2⟩
    go_wp2_with fail
    refine (awake_any _).mono ?_
    rintro e u3 ⟨rfl, b3⟩
    go_wp2_with fail
    go_ret
    exact ⟨rfl, bel_trans (bel_trans (b1) b2) b3⟩
  obtain ⟨g1, g2, g3, g4⟩ := hg
  obtain ⟨A, rfl⟩ : ∃ A : Nat, n = A := ⟨n.toNat, by have := g1.1; omega⟩
  obtain ⟨B, rfl⟩ : ∃ B : Nat, m = B := ⟨m.toNat, by have := g2.1; omega⟩
  have hA : A < 65536 := by have := g1.2; omega
  have hB : B < 65536 := by have := g2.2; omega
  have G4 : Hid (x.length % 4 = 0) := g4
  obtain ⟨q, hq⟩ : ∃ q, q = tcpL A B x y := ⟨_, rfl⟩
  have lq : q.length ≤ 8192 := by rw [hq, tcpL_len]; omega
  have HQ : Hid (tcpL A B x y = q) := hq.symm
  have HB : Hid (srcP 6 q = A ∧ dstP 6 q = B ∧ bodyP 6 q = y ∧ errP 6 q = 0) := by show _ ∧ _; rw [hq]; exact tcp_back x y hA hB g3 g4
  clear g1 g2 g4 hq
  go_enter Try.func4, Try.ntmps4
  go_wp2_with fail
  refine (tcp_ok A B x y _ hA hB g3 G4.out (by omega)).mono ?_
  rintro e u1 ⟨rfl, b1⟩
  rw [HQ.out]
  go_wp2_with fail
  refine (rtcp_ok A B x y _ hA hB g3 G4.out (by omega)).mono ?_
  rintro e u2 ⟨rfl, b2⟩
  rw [HQ.out]
  go_wp2_with fail
  refine (port_take 6 q _ (by omega)).mono ?_
  rintro e u3 ⟨rfl, b3⟩
  rw [HB.out.1, HB.out.2.1, HB.out.2.2.1, HB.out.2.2.2]
  go_wp2_with fail
  refine (awake_any _).mono ?_
  rintro e u4 ⟨rfl, b4⟩
  go_wp2_with fail
  go_ret
  exact ⟨rfl, bel_trans (bel_trans (bel_trans (b1) b2) b3) b4⟩

/-! ### The row -/
theorem laidOut : laidOutB Try.prog = true := by kernel_rfl
set_option maxRecDepth 100000 in
theorem lifted (os : Os) (started : os.Started) (H : Type) (enc : TypeId × Value → H) :
    ReturnsInHanded {} Try.checked os 4 .any (Rows.portSegmentsSpec.pre6 enc Try.prog Try.f4 Rows.portSegmentsRow.domain false) (Rows.portSegmentsSpec.post enc Try.prog Try.f4 false true false false) := by
  refine returnsInHanded_of_change (C := Try.checked) own started (by kernel_rfl) Try.func4
    (ChangeSpec.witness6 (enc := enc) (C := Try.checked) false ⟨#[], #[.int .i64 0, .int .i64 0, .string ⟨#[]⟩, .string ⟨#[]⟩], []⟩ 8 (by kernel_rfl) (by kernel_rfl) (by kernel_rfl) (by kernel_rfl)) ?_
  intro W base args ds gs before hval0 hW hcnd _
  have hval : ∀ (j : Nat) t v, Try.f4.params[j]? = some t → args[j]? = some v → Value.okWide Try.prog W .any base t v := hval0
  have hW' := hW
  obtain ⟨p, q, hA0, hV, rfl, hfz, hnd⟩ := hW
  have hA : DataW.TrodAll enc Try.prog W 0 (fun _ => true) true Try.f4.params.toList args.toList ds p := hA0
  rw [Try.params4] at hA hval
  obtain ⟨v0, vs0, d0, ds0, p0, q0, hargs, rfl, rfl, h0, r0⟩ := trodAll_cons hA
  obtain ⟨v1, vs1, d1, ds1, p1, q1, rfl, rfl, rfl, h1, r1⟩ := trodAll_cons r0
  obtain ⟨v2, vs2, d2, ds2, p2, q2, rfl, rfl, rfl, h2, r2⟩ := trodAll_cons r1
  obtain ⟨v3, vs3, d3, ds3, p3, q3, rfl, rfl, rfl, h3, r3⟩ := trodAll_cons r2
  obtain ⟨rfl, rfl, rfl⟩ := trodAll_nil r3
  obtain rfl : args = #[v0, v1, v2, v3] := by cases args; simp_all
  obtain ⟨rfl, rfl⟩ := trodVars_none hV
  obtain ⟨a0, rfl, rfl, rfl, w0⟩ := open_int Try.underlying3 (hval 0 3 v0 rfl rfl) h0
  obtain ⟨a1, rfl, rfl, rfl, w1⟩ := open_int Try.underlying3 (hval 1 3 v1 rfl rfl) h1
  obtain ⟨a2, rfl, rfl, rfl, w2⟩ := open_string Try.underlying9 (hval 2 9 v2 rfl rfl) h2
  obtain ⟨a3, rfl, rfl, rfl, w3⟩ := open_string Try.underlying9 (hval 3 9 v3 rfl rfl) h3
  clear hA0 hval0
  refine (walk a0 a1 a2 a3 W w0 w1 w2 w3).mono fun e W' ⟨he, bel⟩ => ?_
  subst he
  exact ⟨_, rfl, _, _, _, [], _, [], hW', trodAll_mk1 (shut_bool Try.underlying4 _), (trodAll_cons_mk (shut_int Try.underlying3 w0) (trodAll_cons_mk (shut_int Try.underlying3 w1) (trodAll_cons_mk (shut_string Try.underlying9 w2) (trodAll_cons_mk (shut_string Try.underlying9 w3) trodAll_mk0)))), rfl, bel.frame _, fun h => by cases h⟩

theorem over : Rows.portSegmentsRow.holds Try.pinned (OpenSpec.ofChange Rows.portSegmentsSpec) :=
  OpenClaim.holds_of_wide 4 Try.f4 rfl rfl rfl rfl rfl rfl rfl ⟨rfl, rfl, rfl, rfl, rfl⟩ rfl rfl rfl rfl rfl (by kernel_rfl) Try.func4 (by kernel_rfl)
    (of_decide_eq_true (by kernel_rfl)) (by unfold Func.isWrapper; first | (rw [if_pos (by decide +kernel)]; kernel_rfl) | (rw [if_neg (by decide +kernel)]; exact ⟨rfl, rfl⟩))
    (fun os started H enc _ => lifted os started H enc)

theorem proved : Rows.PortSegmentsSaid := over
end Go.Proofs.Ytjecmkibddmheaa.portSegments
namespace Go.Proofs.Ytjecmkibddmheaa
theorem portSegments_holds : Rows.PortSegmentsSaid := portSegments.proved
#print axioms portSegments_holds
end Go.Proofs.Ytjecmkibddmheaa
