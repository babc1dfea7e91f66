/-
  For any seed and any key whose length is no multiple of 4 the key and the same key with a byte 0 behind have unlike sums, unless the seed and 2 is 0 modulo 2^61 - 1; no condition.
-/
import Derived.Test.YtngejbmhoigceaaRows
import Derived.Test.YtngejbmhoigceaaHashCalls
import Derived.WalkKit
import Derived.ProofKit
import Derived.OpenShut
import Derived.ChangeMaps5
namespace Go.Proofs.Ytngejbmhoigceaa.hashApart
open Fm
open Go.ChangeShapes Go.WideShapes Go.ChangeAt Go.RowKit Go.ChangeMaps
set_option linter.unusedVariables false

theorem own : ownKnob Try.prog.godebug = none := by kernel_rfl

set_option maxHeartbeats 1000000 in
theorem walk (a0 : Int) (s : ByteArray) (w0 : (Lit.int .u64 a0).wf = true) (z : s.size ≤ maxLen) (w : World) :
    Calls Try.prog 3 #[.int .u64 a0, .string s] w fun e w' => e = .returned (.bool true) ∧ Grown w w' := by
  have u0 : U a0 := bounds_u64 w0
  clear w0
  clear z
  by_cases h : 1024 < s.size
  · go_enter Try.func3, Try.ntmps3
    go_wp2_with fail
    refine (awake_any _).mono ?_
    rintro e w' ⟨rfl, rfl⟩
    go_wp2_with fail
    go_ret
    exact ⟨rfl, Grown.refl _⟩
  · by_cases h4 : s.size % 4 = 0
    · have q4 : ((s.size : Int) % 4 == 0) = true := by have : (s.size : Int) % 4 = 0 := by omega
                                                       rw [this]; rfl
      go_enter Try.func3, Try.ntmps3
      go_wp2_with fail
      refine (awake_any _).mono ?_
      rintro e w' ⟨rfl, rfl⟩
      go_wp2_with fail
      go_ret
      exact ⟨rfl, Grown.refl _⟩
    · have q4 : ((s.size : Int) % 4 == 0) = false := by
        have : (s.size : Int) % 4 ≠ 0 := by omega
        simpa using this
      have A := apart a0 s h4
      have hs1 : s.size ≤ 1152921504606846976 := by omega
      have hs2 : (snoc0 s).size ≤ 1152921504606846976 := by rw [snoc0_size]; omega
      by_cases hf : addF a0 2 = 0
      · have q1 : (addF a0 2 == 0) = true := by rw [hf]; rfl
        have q2 : (sumF a0 s == sumF a0 (snoc0 s)) = true := by rw [A.2 hf]; exact beq_self_eq_true _
        clear A hf
        go_enter Try.func3, Try.ntmps3
        go_wp2_with fail
        refine (sum_any _ _ _ u0 hs1).mono ?_
        rintro e w' ⟨rfl, rfl⟩
        go_wp2_with fail
        refine (sum_any _ (snoc0 s) _ u0 hs2).mono ?_
        rintro e w' ⟨rfl, rfl⟩
        go_wp2_with fail
        refine (radd_any _ _ _ u0 ⟨by omega, by omega⟩).mono ?_
        rintro e w' ⟨rfl, rfl⟩
        go_wp2_with fail
        refine (awake_any _).mono ?_
        rintro e w' ⟨rfl, rfl⟩
        go_wp2_with fail
        go_ret
        exact ⟨rfl, Grown.refl _⟩
      · have q1 : (addF a0 2 == 0) = false := by simpa using hf
        have q2 : (sumF a0 s == sumF a0 (snoc0 s)) = false := by
          have : sumF a0 s ≠ sumF a0 (snoc0 s) := fun e => hf (A.1 e)
          simpa using this
        clear A hf
        go_enter Try.func3, Try.ntmps3
        go_wp2_with fail
        refine (sum_any _ _ _ u0 hs1).mono ?_
        rintro e w' ⟨rfl, rfl⟩
        go_wp2_with fail
        refine (sum_any _ (snoc0 s) _ u0 hs2).mono ?_
        rintro e w' ⟨rfl, rfl⟩
        go_wp2_with fail
        refine (radd_any _ _ _ u0 ⟨by omega, by omega⟩).mono ?_
        rintro e w' ⟨rfl, rfl⟩
        go_wp2_with fail
        refine (awake_any _).mono ?_
        rintro e w' ⟨rfl, rfl⟩
        go_wp2_with fail
        go_ret
        exact ⟨rfl, Grown.refl _⟩

/-! ### The row -/
set_option maxRecDepth 100000 in
theorem lifted (os : Os) (started : os.Started) (H : Type) (enc : TypeId × Value → H) :
    ReturnsInHanded {} Try.checked os 3 .any (Rows.hashApartSpec.pre6 enc Try.prog Try.f3 Rows.hashApartRow.domain false) (Rows.hashApartSpec.post enc Try.prog Try.f3 false true false false) := by
  refine returnsInHanded_of_change (C := Try.checked) own started (by kernel_rfl) Try.func3
    (ChangeSpec.witness6 (enc := enc) (C := Try.checked) false ⟨#[], #[.int .u64 0, .string ⟨#[]⟩], []⟩ 8 (by kernel_rfl) (by kernel_rfl) (by kernel_rfl) (by kernel_rfl)) ?_
  intro W base args ds gs before hval0 hW hcnd _
  have hval : ∀ (j : Nat) t v, Try.f3.params[j]? = some t → args[j]? = some v → Value.okWide Try.prog W .any base t v := hval0
  have hW' := hW
  obtain ⟨p, q, hA0, hV, rfl, hfz, hnd⟩ := hW
  have hA : DataW.TrodAll enc Try.prog W 0 (fun _ => true) true Try.f3.params.toList args.toList ds p := hA0
  rw [Try.params3] at hA hval
  obtain ⟨v0, vs0, d0, ds0, p0, q0, hargs, rfl, rfl, h0, r0⟩ := trodAll_cons hA
  obtain ⟨v1, vs1, d1, ds1, p1, q1, rfl, rfl, rfl, h1, r1⟩ := trodAll_cons r0
  obtain ⟨rfl, rfl, rfl⟩ := trodAll_nil r1
  obtain rfl : args = #[v0, v1] := by cases args; simp_all
  obtain ⟨rfl, rfl⟩ := trodVars_none hV
  obtain ⟨a0, rfl, rfl, rfl, w0⟩ := open_int Try.underlying22 (hval 0 22 v0 rfl rfl) h0
  obtain ⟨s1, rfl, rfl, rfl, z1⟩ := open_string Try.underlying9 (hval 1 9 v1 rfl rfl) h1
  clear hA0 hval0
  simp only [List.append_nil] at hW'
  refine (walk a0 s1 w0 z1 W).mono fun e W' ⟨he, hg⟩ => ?_
  subst he
  exact ⟨_, rfl, post_of_same (pa := []) (pv := []) hW' (fun _ _ _ => (trodAll_cons_mk (shut_bool Try.underlying4 _) trodAll_mk0)) (fun sp _ => (trodAll_cons_mk (shut_int Try.underlying22 w0) (trodAll_cons_mk (shut_string Try.underlying9 z1) trodAll_mk0))) (fun _ _ => rfl) rfl
    (hg.frame _) hg.2.1 (ok_one (by kernel_rfl) rfl (okWide_bool_mk Try.underlying4 _))⟩

theorem over : Rows.hashApartRow.holds Try.pinned (OpenSpec.ofChange Rows.hashApartSpec) :=
  OpenClaim.holds_of_wide 3 Try.f3 rfl rfl rfl rfl rfl rfl rfl ⟨rfl, rfl, rfl, rfl, rfl⟩ rfl rfl rfl rfl rfl (by kernel_rfl) Try.func3 (by kernel_rfl)
    (of_decide_eq_true (by kernel_rfl)) (by unfold Func.isWrapper; first | (rw [if_pos (by decide +kernel)]; kernel_rfl) | (rw [if_neg (by decide +kernel)]; exact ⟨rfl, rfl⟩))
    (fun os started H enc _ => lifted os started H enc)

theorem proved : Rows.HashApartSaid := over
end Go.Proofs.Ytngejbmhoigceaa.hashApart
namespace Go.Proofs.Ytngejbmhoigceaa
theorem hashApart_holds : Rows.HashApartSaid := hashApart.proved
#print axioms hashApart_holds
end Go.Proofs.Ytngejbmhoigceaa
